
import PyProof.Rows.All
import Wide.All
import OpenK.AllK
import Wide.FinOn
import HandS.ForMost
import HandS.Wide
import HandS.IsInst
import HandS.Exc
import HandS.ExcOwn
import HandS.ExcValue
import HandS.ExcIs
import HandS.TryOnly
import HandS.WordsExc
import HandS.Flow
import HandS.Style
import HandS.Codes
import HandS.Lambda
import HandS.Star
import HandS.Nested
import HandS.EndTab
import HandS.SortKw
import HandS.FStr
import HandS.NoneIn
import HandS.More
import HandS.Zip
import HandS.Conv
import HandS.TupAny
import HandS.RaiseMore
import HandS.Walk
import HandS.Iter
import HandS.Dict
import PyProof.StrLawsRepr
import KE.SortKeyHeap
import KE.SortData
import KE.DataFind
import KE.DataMinMax
import KE.KEqNest
import PyProof.Draws
import PyProof.EnumMake
import KE.KeyNested
import KE.KDictKeyed
import HandS.Steps
import HandS.SetFor
import HandS.DictEq
import HandS.DictTup
import HandS.DictComp
import KE.KMathGC
import HandS.Gcd
import HandS.Replace
import HandS.SortInts
import KE.GoesMore
import KE.GoesZip
import PySem.Challenge.RW_heaptrees_k31_whole_states_otherwise_num
set_option Elab.async false
set_option linter.all false
set_option maxRecDepth 100000
set_option maxHeartbeats 4000000
namespace My
open PySem PySem.Spec PyProof.Rows L2
def topS (i : Nat) : Stmt := PySem.Challenge.pw_heaptrees_k31_whole_states_otherwise_num.main.body.getD i (.Pass ⟨0, 0, 0, 0⟩)
abbrev s_is_whole : Stmt := topS 4
theorem sc_is_whole : FnScope ["thing"] ["thing"] (defScope s_is_whole) := ⟨rfl, rfl, rfl, by decide +kernel, rfl, by decide +kernel, by decide +kernel⟩
abbrev s_is_whole_within : Stmt := topS 5
theorem sc_is_whole_within : FnScope ["thing", "low", "high"] ["thing", "low", "high"] (defScope s_is_whole_within) := ⟨rfl, rfl, rfl, by decide +kernel, rfl, by decide +kernel, by decide +kernel⟩
abbrev s_is_letter : Stmt := topS 6
theorem sc_is_letter : FnScope ["thing"] ["thing"] (defScope s_is_letter) := ⟨rfl, rfl, rfl, by decide +kernel, rfl, by decide +kernel, by decide +kernel⟩
abbrev s_is_tree : Stmt := topS 8
theorem sc_is_tree : FnScope ["thing", "waiting", "part"] ["thing"] (defScope s_is_tree) := ⟨rfl, rfl, rfl, by decide +kernel, rfl, by decide +kernel, by decide +kernel⟩
abbrev s__is_part : Stmt := topS 9
theorem sc__is_part : FnScope ["thing"] ["thing"] (defScope s__is_part) := ⟨rfl, rfl, rfl, by decide +kernel, rfl, by decide +kernel, by decide +kernel⟩
abbrev s_check_tree : Stmt := topS 10
theorem sc_check_tree : FnScope ["thing"] ["thing"] (defScope s_check_tree) := ⟨rfl, rfl, rfl, by decide +kernel, rfl, by decide +kernel, by decide +kernel⟩
abbrev s_parts_upward : Stmt := topS 11
theorem sc_parts_upward : FnScope ["tree", "parts", "waiting", "part"] ["tree"] (defScope s_parts_upward) := ⟨rfl, rfl, rfl, by decide +kernel, rfl, by decide +kernel, by decide +kernel⟩
abbrev s_size_of : Stmt := topS 12
theorem sc_size_of : FnScope ["tree"] ["tree"] (defScope s_size_of) := ⟨rfl, rfl, rfl, by decide +kernel, rfl, by decide +kernel, by decide +kernel⟩
abbrev s_built_upward : Stmt := topS 13
theorem sc_built_upward : FnScope ["tree", "made", "waiting", "letter", "children", "first", "below"] ["tree", "made"] (defScope s_built_upward) := ⟨rfl, rfl, rfl, by decide +kernel, rfl, by decide +kernel, by decide +kernel⟩
abbrev s__written_and_told : Stmt := topS 14
theorem sc__written_and_told : FnScope ["tree"] ["tree"] (defScope s__written_and_told) := ⟨rfl, rfl, rfl, by decide +kernel, rfl, by decide +kernel, by decide +kernel⟩
abbrev s__joined : Stmt := topS 15
theorem sc__joined : FnScope ["letter", "below", "rows", "row"] ["letter", "below"] (defScope s__joined) := ⟨rfl, rfl, rfl, by decide +kernel, rfl, by decide +kernel, by decide +kernel⟩
abbrev s_written_part : Stmt := topS 16
theorem sc_written_part : FnScope ["letter", "texts", "written"] ["letter", "texts"] (defScope s_written_part) := ⟨rfl, rfl, rfl, by decide +kernel, rfl, by decide +kernel, by decide +kernel⟩
abbrev s_told_form : Stmt := topS 17
theorem sc_told_form : FnScope ["tree"] ["tree"] (defScope s_told_form) := ⟨rfl, rfl, rfl, by decide +kernel, rfl, by decide +kernel, by decide +kernel⟩
abbrev s_from_heap : Stmt := topS 18
theorem sc_from_heap : FnScope ["letter", "heap", "row", "child", "many", "_"] ["letter", "heap"] (defScope s_from_heap) := ⟨rfl, rfl, rfl, by decide +kernel, rfl, by decide +kernel, by decide +kernel⟩
abbrev s__is_heap_row : Stmt := topS 19
theorem sc__is_heap_row : FnScope ["thing"] ["thing"] (defScope s__is_heap_row) := ⟨rfl, rfl, rfl, by decide +kernel, rfl, by decide +kernel, by decide +kernel⟩
abbrev s_are_rising_states : Stmt := topS 21
theorem sc_are_rising_states : FnScope ["thing", "states", "state"] ["thing", "states"] (defScope s_are_rising_states) := ⟨rfl, rfl, rfl, by decide +kernel, rfl, by decide +kernel, by decide +kernel⟩
abbrev s__rises : Stmt := topS 22
theorem sc__rises : FnScope ["row", "low", "high"] ["row"] (defScope s__rises) := ⟨rfl, rfl, rfl, by decide +kernel, rfl, by decide +kernel, by decide +kernel⟩
abbrev s_states_that_come : Stmt := topS 24
theorem sc_states_that_come : FnScope ["judge", "row"] ["judge"] (defScope s_states_that_come) := ⟨rfl, rfl, rfl, by decide +kernel, rfl, by decide +kernel, by decide +kernel⟩
abbrev s_least_trees : Stmt := topS 25
theorem sc_least_trees : FnScope ["judge", "trees", "_", "letter", "classes", "state", "heap", "below", "many"] ["judge"] (defScope s_least_trees) := ⟨rfl, rfl, rfl, by decide +kernel, rfl, by decide +kernel, by decide +kernel⟩
abbrev s__least_rows : Stmt := topS 26
theorem sc__least_rows : FnScope ["judge", "sizes", "rows", "row"] ["judge"] (defScope s__least_rows) := ⟨rfl, rfl, rfl, by decide +kernel, rfl, by decide +kernel, by decide +kernel⟩
abbrev s__next_least_row : Stmt := topS 27
theorem sc__next_least_row : FnScope ["judge", "sizes", "rows", "letter", "classes", "state"] ["judge", "sizes"] (defScope s__next_least_row) := ⟨rfl, rfl, rfl, by decide +kernel, rfl, by decide +kernel, by decide +kernel⟩
abbrev s__least_size : Stmt := topS 28
theorem sc__least_size : FnScope ["classes", "sizes", "state", "many"] ["classes", "sizes"] (defScope s__least_size) := ⟨rfl, rfl, rfl, by decide +kernel, rfl, by decide +kernel, by decide +kernel⟩
abbrev s_are_only_of : Stmt := topS 29
theorem sc_are_only_of : FnScope ["classes", "states", "state", "many"] ["classes", "states"] (defScope s_are_only_of) := ⟨rfl, rfl, rfl, by decide +kernel, rfl, by decide +kernel, by decide +kernel⟩
abbrev s_none_paper : Stmt := topS 30
theorem sc_none_paper : FnScope ["judge", "paper"] ["judge"] (defScope s_none_paper) := ⟨rfl, rfl, rfl, by decide +kernel, rfl, by decide +kernel, by decide +kernel⟩
abbrev s__has_good : Stmt := topS 31
theorem sc__has_good : FnScope ["judge", "states", "state"] ["judge", "states"] (defScope s__has_good) := ⟨rfl, rfl, rfl, by decide +kernel, rfl, by decide +kernel, by decide +kernel⟩
abbrev s_none_shows : Stmt := topS 32
theorem sc_none_shows : FnScope ["judge", "paper", "_", "classes", "state"] ["judge", "paper"] (defScope s_none_shows) := ⟨rfl, rfl, rfl, by decide +kernel, rfl, by decide +kernel, by decide +kernel⟩
abbrev s__law_cell_at : Stmt := topS 34
theorem sc__law_cell_at : FnScope ["script", "k"] ["script", "k"] (defScope s__law_cell_at) := ⟨rfl, rfl, rfl, by decide +kernel, rfl, by decide +kernel, by decide +kernel⟩
abbrev s__law_stir : Stmt := topS 35
theorem sc__law_stir : FnScope ["cell", "k", "one"] ["cell", "k"] (defScope s__law_stir) := ⟨rfl, rfl, rfl, by decide +kernel, rfl, by decide +kernel, by decide +kernel⟩
abbrev s__law_deck : Stmt := topS 36
theorem sc__law_deck : FnScope ["cell", "many", "found", "digits", "k", "number"] ["cell", "many"] (defScope s__law_deck) := ⟨rfl, rfl, rfl, by decide +kernel, rfl, by decide +kernel, by decide +kernel⟩
abbrev s__law_next : Stmt := topS 37
theorem sc__law_next : FnScope ["deck"] ["deck"] (defScope s__law_next) := ⟨rfl, rfl, rfl, by decide +kernel, rfl, by decide +kernel, by decide +kernel⟩
abbrev s__law_classes : Stmt := topS 38
theorem sc__law_classes : FnScope ["states", "many", "found", "state", "longer", "classes", "c"] ["states", "many"] (defScope s__law_classes) := ⟨rfl, rfl, rfl, by decide +kernel, rfl, by decide +kernel, by decide +kernel⟩
abbrev s__law_room : Stmt := topS 39
theorem sc__law_room : FnScope ["letters", "states", "many", "found", "state"] ["letters", "states", "many"] (defScope s__law_room) := ⟨rfl, rfl, rfl, by decide +kernel, rfl, by decide +kernel, by decide +kernel⟩
abbrev s__law_judge : Stmt := topS 40
theorem sc__law_judge : FnScope ["deck", "letters", "most", "room", "states", "few", "turn", "way", "seed", "weights", "table", "classes", "total", "k", "letter", "number", "key", "keys", "at", "state", "weight", "c"] ["deck", "letters", "most", "room"] (defScope s__law_judge) := ⟨rfl, rfl, rfl, by decide +kernel, rfl, by decide +kernel, by decide +kernel⟩
abbrev s__law_letters : Stmt := topS 41
theorem sc__law_letters : FnScope ["deck"] ["deck"] (defScope s__law_letters) := ⟨rfl, rfl, rfl, by decide +kernel, rfl, by decide +kernel, by decide +kernel⟩
abbrev s__law_renumbered : Stmt := topS 42
theorem sc__law_renumbered : FnScope ["judge", "numbers", "letters", "old", "states", "few", "turn", "table", "good", "found", "letter", "classes", "moved", "state"] ["judge", "numbers", "letters"] (defScope s__law_renumbered) := ⟨rfl, rfl, rfl, by decide +kernel, rfl, by decide +kernel, by decide +kernel⟩
abbrev s__law_widened : Stmt := topS 43
theorem sc__law_widened : FnScope ["judge", "letters", "states", "few", "turn", "table", "good", "found", "letter", "classes", "c"] ["judge"] (defScope s__law_widened) := ⟨rfl, rfl, rfl, by decide +kernel, rfl, by decide +kernel, by decide +kernel⟩
abbrev s__law_sizes : Stmt := topS 44
theorem sc__law_sizes : FnScope ["judge", "least", "state"] ["judge"] (defScope s__law_sizes) := ⟨rfl, rfl, rfl, by decide +kernel, rfl, by decide +kernel, by decide +kernel⟩
abbrev s__law_right : Stmt := topS 45
theorem sc__law_right : FnScope ["judge", "numbers", "other", "sizes", "paper", "wide", "state"] ["judge", "numbers"] (defScope s__law_right) := ⟨rfl, rfl, rfl, by decide +kernel, rfl, by decide +kernel, by decide +kernel⟩
abbrev s_law : Stmt := topS 46
theorem sc_law : FnScope ["script", "k", "deck", "judge", "left", "numbers", "state"] ["script"] (defScope s_law) := ⟨rfl, rfl, rfl, by decide +kernel, rfl, by decide +kernel, by decide +kernel⟩
structure Txt (K : PySem.W.Frag) (mg : Str → Option Value) where
  f_is_whole : Addr
  d_is_whole : FuncData
  F_is_whole : Fun K "is_whole" "is_whole" s_is_whole f_is_whole d_is_whole
  b_is_whole : Binds K d_is_whole ["thing"] []
  m_is_whole : mg "is_whole" = some (.ref f_is_whole)
  f_is_whole_within : Addr
  d_is_whole_within : FuncData
  F_is_whole_within : Fun K "is_whole_within" "is_whole_within" s_is_whole_within f_is_whole_within d_is_whole_within
  b_is_whole_within : Binds K d_is_whole_within ["thing", "low", "high"] []
  m_is_whole_within : mg "is_whole_within" = some (.ref f_is_whole_within)
  f_is_letter : Addr
  d_is_letter : FuncData
  F_is_letter : Fun K "is_letter" "is_letter" s_is_letter f_is_letter d_is_letter
  b_is_letter : Binds K d_is_letter ["thing"] []
  m_is_letter : mg "is_letter" = some (.ref f_is_letter)
  f_is_tree : Addr
  d_is_tree : FuncData
  F_is_tree : Fun K "is_tree" "is_tree" s_is_tree f_is_tree d_is_tree
  b_is_tree : Binds K d_is_tree ["thing"] []
  m_is_tree : mg "is_tree" = some (.ref f_is_tree)
  f__is_part : Addr
  d__is_part : FuncData
  F__is_part : Fun K "_is_part" "_is_part" s__is_part f__is_part d__is_part
  b__is_part : Binds K d__is_part ["thing"] []
  m__is_part : mg "_is_part" = some (.ref f__is_part)
  f_check_tree : Addr
  d_check_tree : FuncData
  F_check_tree : Fun K "check_tree" "check_tree" s_check_tree f_check_tree d_check_tree
  b_check_tree : Binds K d_check_tree ["thing"] []
  m_check_tree : mg "check_tree" = some (.ref f_check_tree)
  f_parts_upward : Addr
  d_parts_upward : FuncData
  F_parts_upward : Fun K "parts_upward" "parts_upward" s_parts_upward f_parts_upward d_parts_upward
  b_parts_upward : Binds K d_parts_upward ["tree"] []
  m_parts_upward : mg "parts_upward" = some (.ref f_parts_upward)
  f_size_of : Addr
  d_size_of : FuncData
  F_size_of : Fun K "size_of" "size_of" s_size_of f_size_of d_size_of
  b_size_of : Binds K d_size_of ["tree"] []
  m_size_of : mg "size_of" = some (.ref f_size_of)
  f_built_upward : Addr
  d_built_upward : FuncData
  F_built_upward : Fun K "built_upward" "built_upward" s_built_upward f_built_upward d_built_upward
  b_built_upward : Binds K d_built_upward ["tree", "made"] []
  m_built_upward : mg "built_upward" = some (.ref f_built_upward)
  f__written_and_told : Addr
  d__written_and_told : FuncData
  F__written_and_told : Fun K "_written_and_told" "_written_and_told" s__written_and_told f__written_and_told d__written_and_told
  b__written_and_told : Binds K d__written_and_told ["tree"] []
  m__written_and_told : mg "_written_and_told" = some (.ref f__written_and_told)
  f__joined : Addr
  d__joined : FuncData
  F__joined : Fun K "_joined" "_joined" s__joined f__joined d__joined
  b__joined : Binds K d__joined ["letter", "below"] []
  m__joined : mg "_joined" = some (.ref f__joined)
  f_written_part : Addr
  d_written_part : FuncData
  F_written_part : Fun K "written_part" "written_part" s_written_part f_written_part d_written_part
  b_written_part : Binds K d_written_part ["letter", "texts"] []
  m_written_part : mg "written_part" = some (.ref f_written_part)
  f_told_form : Addr
  d_told_form : FuncData
  F_told_form : Fun K "told_form" "told_form" s_told_form f_told_form d_told_form
  b_told_form : Binds K d_told_form ["tree"] []
  m_told_form : mg "told_form" = some (.ref f_told_form)
  f_from_heap : Addr
  d_from_heap : FuncData
  F_from_heap : Fun K "from_heap" "from_heap" s_from_heap f_from_heap d_from_heap
  b_from_heap : Binds K d_from_heap ["letter", "heap"] []
  m_from_heap : mg "from_heap" = some (.ref f_from_heap)
  f__is_heap_row : Addr
  d__is_heap_row : FuncData
  F__is_heap_row : Fun K "_is_heap_row" "_is_heap_row" s__is_heap_row f__is_heap_row d__is_heap_row
  b__is_heap_row : Binds K d__is_heap_row ["thing"] []
  m__is_heap_row : mg "_is_heap_row" = some (.ref f__is_heap_row)
  f_are_rising_states : Addr
  d_are_rising_states : FuncData
  F_are_rising_states : Fun K "are_rising_states" "are_rising_states" s_are_rising_states f_are_rising_states d_are_rising_states
  b_are_rising_states : Binds K d_are_rising_states ["thing", "states"] []
  m_are_rising_states : mg "are_rising_states" = some (.ref f_are_rising_states)
  f__rises : Addr
  d__rises : FuncData
  F__rises : Fun K "_rises" "_rises" s__rises f__rises d__rises
  b__rises : Binds K d__rises ["row"] []
  m__rises : mg "_rises" = some (.ref f__rises)
  f_states_that_come : Addr
  d_states_that_come : FuncData
  F_states_that_come : Fun K "states_that_come" "states_that_come" s_states_that_come f_states_that_come d_states_that_come
  b_states_that_come : Binds K d_states_that_come ["judge"] []
  m_states_that_come : mg "states_that_come" = some (.ref f_states_that_come)
  f_least_trees : Addr
  d_least_trees : FuncData
  F_least_trees : Fun K "least_trees" "least_trees" s_least_trees f_least_trees d_least_trees
  b_least_trees : Binds K d_least_trees ["judge"] []
  m_least_trees : mg "least_trees" = some (.ref f_least_trees)
  f__least_rows : Addr
  d__least_rows : FuncData
  F__least_rows : Fun K "_least_rows" "_least_rows" s__least_rows f__least_rows d__least_rows
  b__least_rows : Binds K d__least_rows ["judge"] []
  m__least_rows : mg "_least_rows" = some (.ref f__least_rows)
  f__next_least_row : Addr
  d__next_least_row : FuncData
  F__next_least_row : Fun K "_next_least_row" "_next_least_row" s__next_least_row f__next_least_row d__next_least_row
  b__next_least_row : Binds K d__next_least_row ["judge", "sizes"] []
  m__next_least_row : mg "_next_least_row" = some (.ref f__next_least_row)
  f__least_size : Addr
  d__least_size : FuncData
  F__least_size : Fun K "_least_size" "_least_size" s__least_size f__least_size d__least_size
  b__least_size : Binds K d__least_size ["classes", "sizes"] []
  m__least_size : mg "_least_size" = some (.ref f__least_size)
  f_are_only_of : Addr
  d_are_only_of : FuncData
  F_are_only_of : Fun K "are_only_of" "are_only_of" s_are_only_of f_are_only_of d_are_only_of
  b_are_only_of : Binds K d_are_only_of ["classes", "states"] []
  m_are_only_of : mg "are_only_of" = some (.ref f_are_only_of)
  f_none_paper : Addr
  d_none_paper : FuncData
  F_none_paper : Fun K "none_paper" "none_paper" s_none_paper f_none_paper d_none_paper
  b_none_paper : Binds K d_none_paper ["judge"] []
  m_none_paper : mg "none_paper" = some (.ref f_none_paper)
  f__has_good : Addr
  d__has_good : FuncData
  F__has_good : Fun K "_has_good" "_has_good" s__has_good f__has_good d__has_good
  b__has_good : Binds K d__has_good ["judge", "states"] []
  m__has_good : mg "_has_good" = some (.ref f__has_good)
  f_none_shows : Addr
  d_none_shows : FuncData
  F_none_shows : Fun K "none_shows" "none_shows" s_none_shows f_none_shows d_none_shows
  b_none_shows : Binds K d_none_shows ["judge", "paper"] []
  m_none_shows : mg "none_shows" = some (.ref f_none_shows)
  f__law_cell_at : Addr
  d__law_cell_at : FuncData
  F__law_cell_at : Fun K "_law_cell_at" "_law_cell_at" s__law_cell_at f__law_cell_at d__law_cell_at
  b__law_cell_at : Binds K d__law_cell_at ["script", "k"] []
  m__law_cell_at : mg "_law_cell_at" = some (.ref f__law_cell_at)
  f__law_stir : Addr
  d__law_stir : FuncData
  F__law_stir : Fun K "_law_stir" "_law_stir" s__law_stir f__law_stir d__law_stir
  b__law_stir : Binds K d__law_stir ["cell", "k"] []
  m__law_stir : mg "_law_stir" = some (.ref f__law_stir)
  f__law_deck : Addr
  d__law_deck : FuncData
  F__law_deck : Fun K "_law_deck" "_law_deck" s__law_deck f__law_deck d__law_deck
  b__law_deck : Binds K d__law_deck ["cell", "many"] []
  m__law_deck : mg "_law_deck" = some (.ref f__law_deck)
  f__law_next : Addr
  d__law_next : FuncData
  F__law_next : Fun K "_law_next" "_law_next" s__law_next f__law_next d__law_next
  b__law_next : Binds K d__law_next ["deck"] []
  m__law_next : mg "_law_next" = some (.ref f__law_next)
  f__law_classes : Addr
  d__law_classes : FuncData
  F__law_classes : Fun K "_law_classes" "_law_classes" s__law_classes f__law_classes d__law_classes
  b__law_classes : Binds K d__law_classes ["states", "many"] []
  m__law_classes : mg "_law_classes" = some (.ref f__law_classes)
  f__law_room : Addr
  d__law_room : FuncData
  F__law_room : Fun K "_law_room" "_law_room" s__law_room f__law_room d__law_room
  b__law_room : Binds K d__law_room ["letters", "states", "many"] []
  m__law_room : mg "_law_room" = some (.ref f__law_room)
  f__law_judge : Addr
  d__law_judge : FuncData
  F__law_judge : Fun K "_law_judge" "_law_judge" s__law_judge f__law_judge d__law_judge
  b__law_judge : Binds K d__law_judge ["deck", "letters", "most", "room"] []
  m__law_judge : mg "_law_judge" = some (.ref f__law_judge)
  f__law_letters : Addr
  d__law_letters : FuncData
  F__law_letters : Fun K "_law_letters" "_law_letters" s__law_letters f__law_letters d__law_letters
  b__law_letters : Binds K d__law_letters ["deck"] []
  m__law_letters : mg "_law_letters" = some (.ref f__law_letters)
  f__law_renumbered : Addr
  d__law_renumbered : FuncData
  F__law_renumbered : Fun K "_law_renumbered" "_law_renumbered" s__law_renumbered f__law_renumbered d__law_renumbered
  b__law_renumbered : Binds K d__law_renumbered ["judge", "numbers", "letters"] []
  m__law_renumbered : mg "_law_renumbered" = some (.ref f__law_renumbered)
  f__law_widened : Addr
  d__law_widened : FuncData
  F__law_widened : Fun K "_law_widened" "_law_widened" s__law_widened f__law_widened d__law_widened
  b__law_widened : Binds K d__law_widened ["judge"] []
  m__law_widened : mg "_law_widened" = some (.ref f__law_widened)
  f__law_sizes : Addr
  d__law_sizes : FuncData
  F__law_sizes : Fun K "_law_sizes" "_law_sizes" s__law_sizes f__law_sizes d__law_sizes
  b__law_sizes : Binds K d__law_sizes ["judge"] []
  m__law_sizes : mg "_law_sizes" = some (.ref f__law_sizes)
  f__law_right : Addr
  d__law_right : FuncData
  F__law_right : Fun K "_law_right" "_law_right" s__law_right f__law_right d__law_right
  b__law_right : Binds K d__law_right ["judge", "numbers"] []
  m__law_right : mg "_law_right" = some (.ref f__law_right)
  f_law : Addr
  d_law : FuncData
  F_law : Fun K "law" "law" s_law f_law d_law
  b_law : Binds K d_law ["script"] []
  m_law : mg "law" = some (.ref f_law)
  c__joined : Addr
  P__joined : Addr
  h__joined : d__joined.code = .ref c__joined
  z_all : mg "all" = none
  z_any : mg "any" = none
  z_bool : mg "bool" = none
  z_dict : mg "dict" = none
  z_enumerate : mg "enumerate" = none
  z_int : mg "int" = none
  z_isinstance : mg "isinstance" = none
  z_len : mg "len" = none
  z_list : mg "list" = none
  z_max : mg "max" = none
  z_min : mg "min" = none
  z_range : mg "range" = none
  z_sorted : mg "sorted" = none
  z_str : mg "str" = none
  z_sum : mg "sum" = none
  z_tuple : mg "tuple" = none
  z_zip : mg "zip" = none
structure Tbs {K : PySem.W.Frag} {mg : Str → Option Value} (T : Txt K mg) (base : Heap) : Prop where
  tb__joined : LamX.TabB base mg T.c__joined T.P__joined
abbrev q__joined : Str := "_joined" ++ ".<locals>." ++ "<lambda>"
local macro_rules | `(tactic| walk_at "my rd") => `(tactic| repeat (first | refine ⟨_, rfl, ?_⟩ | refine ⟨_, _, rfl, rfl, ?_⟩ | refine ⟨rfl, ?_⟩))
local macro_rules | `(tactic| walk_at "my one") => `(tactic| first | refine ⟨_, rfl, ?_⟩ | refine ⟨_, _, rfl, rfl, ?_⟩ | refine ⟨rfl, ?_⟩)
def Chg (p : Addr) (H H' : Hp) : Prop := ∀ b, b ≠ p → H' b = H b
theorem Chg.refl (p : Addr) (H : Hp) : Chg p H H := fun _ _ => rfl
theorem Chg.trans {p : Addr} {H H1 H2 : Hp} (a : Chg p H H1) (b : Chg p H1 H2) : Chg p H H2 := fun c hc => (b c hc).trans (a c hc)
theorem Chg.upd {p : Addr} {H : Hp} {o : HO} : Chg p H (upd H p o) := fun _ h => upd_ne h
theorem Chg.at {p b : Addr} {H H' : Hp} {o : HO} (c : Chg p H H') (h : H b = some o) (n : b ≠ p) : H' b = some o := (c b n).trans h
theorem Chg.seq {K : PySem.W.Frag} {p a : Addr} {H H' : Hp} {xs : List V} (c : Chg p H H') (hp : H p = none) (h : SqL K H a xs) : SqL K H' a xs := by
  rcases h with (h | ⟨o, h⟩) | h
  · exact .inl (.inl (c.at h (ne_of_none h hp)))
  · exact .inl (.inr ⟨o, c.at h (ne_of_none h hp)⟩)
  · exact .inr h
theorem same_new {H : Hp} {p : Addr} {o : HO} (h : H p = none) : Same H (upd H p o) := fun b u q => by rw [upd_ne (ne_of_none q h)]; exact q
theorem nn_mul {a b A B : Int} (h0 : 0 ≤ a) (h1 : a ≤ A) (g0 : 0 ≤ b) (g1 : b ≤ B) : 0 ≤ a * b ∧ a * b ≤ A * B :=
  ⟨Int.mul_nonneg h0 g0, Int.mul_le_mul h1 g1 g0 (Int.le_trans h0 h1)⟩
theorem divW {i j : Int} (h : 0 < j) (h2 : j < 2 ^ 60) : CDivW i j := wide_div (b := 60) h (by omega) (by decide) (by decide)

theorem lay_ints : ∀ xs : List Int, PyData.canLayAll0 (xs.map PyData.int) = true
  | [] => by simp only [List.map_nil, PyData.canLayAll0]
  | x :: r => by simp only [List.map_cons, PyData.canLayAll0, PyData.canLay0, lay_ints r, Bool.and_self]
theorem dep_ints : ∀ xs : List Int, PyData.depthAll (xs.map PyData.int) ≤ 1
  | [] => by simp only [List.map_nil, PyData.depthAll]; omega
  | x :: r => by
    have := dep_ints r
    simp only [List.map_cons, PyData.depthAll, PyData.depth]
    omega
theorem shaped_ints (xs : List Int) : SeqAt.shaped (.list (xs.map PyData.int)) = true := by
  have a := lay_ints xs
  have b := dep_ints xs
  unfold SeqAt.shaped
  rw [Bool.and_eq_true]
  refine ⟨by simp only [PyData.canLay0]; exact a, decide_eq_true ?_⟩
  simp only [PyData.depth]
  omega
theorem dp_ints {K : PySem.W.Frag} {H : Hp} : ∀ xs : List Int, DpAll K H (xs.map V.int) (xs.map PyData.int)
  | [] => .nil
  | x :: r => .cons (.int x) (dp_ints r)
theorem dp_intsL {K : PySem.W.Frag} {H : Hp} {a : Addr} {xs : List Int} (h : SqL K H a (xs.map V.int)) : Dp K H (.ref a) (.list (xs.map PyData.int)) := .lst h (dp_ints xs)
theorem eqv_self {d : PyData} (h : SeqAt.shaped d = true) : PyData.eqv d d = true := SeqAt.eqv_refl d (SeqAt.canLay_of_shaped h)

inductive Tr where
  | node (c : Nat) (ks : List Tr)
def ch (c : Nat) : Str := ⟨#[c]⟩
mutual
def Tr.size : Tr → Nat
  | .node _ ks => 1 + sizes ks
def sizes : List Tr → Nat
  | [] => 0
  | t :: r => t.size + sizes r
end
mutual
def Tr.depth : Tr → Nat
  | .node _ ks => 1 + depths ks
def depths : List Tr → Nat
  | [] => 0
  | t :: r => max t.depth (depths r)
end
mutual
def Tr.post : Tr → List Tr
  | .node c ks => posts ks ++ [.node c ks]
def posts : List Tr → List Tr
  | [] => []
  | t :: r => t.post ++ posts r
end

mutual
def Tr.lets (p : Nat → Prop) : Tr → Prop
  | .node c ks => p c ∧ letss p ks
def letss (p : Nat → Prop) : List Tr → Prop
  | [] => True
  | t :: r => t.lets p ∧ letss p r
end
def Tr.kids : Tr → List Tr
  | .node _ ks => ks
def Tr.top : Tr → Nat
  | .node c _ => c
theorem sizes_append : ∀ a b : List Tr, sizes (a ++ b) = sizes a + sizes b
  | [], b => by simp only [List.nil_append, sizes]; omega
  | t :: r, b => by simp only [List.cons_append, sizes, sizes_append r b]; omega
theorem depths_append : ∀ a b : List Tr, depths (a ++ b) = max (depths a) (depths b)
  | [], b => by simp only [List.nil_append, depths]; omega
  | t :: r, b => by simp only [List.cons_append, depths, depths_append r b]; omega
theorem posts_append : ∀ a b : List Tr, posts (a ++ b) = posts a ++ posts b
  | [], b => by simp only [List.nil_append, posts]
  | t :: r, b => by simp only [List.cons_append, posts, posts_append r b, List.append_assoc]
theorem letss_append (p : Nat → Prop) : ∀ a b : List Tr, letss p (a ++ b) ↔ letss p a ∧ letss p b
  | [], b => by simp only [List.nil_append, letss, true_and]
  | t :: r, b => by simp only [List.cons_append, letss, letss_append p r b, and_assoc]
theorem size_pos : ∀ t : Tr, 1 ≤ t.size
  | .node c ks => by simp only [Tr.size]; omega
theorem len_sizes : ∀ ts : List Tr, ts.length ≤ sizes ts
  | [] => Nat.le_refl _
  | t :: r => by
    have a := size_pos t
    have b := len_sizes r
    simp only [List.length_cons, sizes]
    omega
mutual
theorem post_len : ∀ t : Tr, t.post.length = t.size
  | .node c ks => by simp only [Tr.post, List.length_append, posts_len ks, List.length_singleton, Tr.size]; omega
theorem posts_len : ∀ ts : List Tr, (posts ts).length = sizes ts
  | [] => rfl
  | t :: r => by simp only [posts, List.length_append, post_len t, posts_len r, sizes]
end
theorem sizes_mem : ∀ {ts : List Tr} {t : Tr}, t ∈ ts → t.size ≤ sizes ts
  | u :: r, t, h => by
    rcases List.mem_cons.mp h with e | h
    · subst e; simp only [sizes]; omega
    · have := sizes_mem h
      simp only [sizes]; omega
theorem depths_mem : ∀ {ts : List Tr} {t : Tr}, t ∈ ts → t.depth ≤ depths ts
  | u :: r, t, h => by
    rcases List.mem_cons.mp h with e | h
    · subst e; simp only [depths]; omega
    · have := depths_mem h
      simp only [depths]; omega
theorem letss_mem {p : Nat → Prop} : ∀ {ts : List Tr} {t : Tr}, letss p ts → t ∈ ts → t.lets p
  | u :: r, t, hl, h => by
    simp only [letss] at hl
    rcases List.mem_cons.mp h with e | h
    · subst e; exact hl.1
    · exact letss_mem hl.2 h
mutual
theorem lets_mono {p q : Nat → Prop} (h : ∀ c, p c → q c) : ∀ t : Tr, t.lets p → t.lets q
  | .node c ks, a => by
    simp only [Tr.lets] at a ⊢
    exact ⟨h _ a.1, letss_mono h ks a.2⟩
theorem letss_mono {p q : Nat → Prop} (h : ∀ c, p c → q c) : ∀ ts : List Tr, letss p ts → letss q ts
  | [], _ => trivial
  | t :: r, a => by
    simp only [letss] at a ⊢
    exact ⟨lets_mono h t a.1, letss_mono h r a.2⟩
end
mutual
inductive TrAt (ok : Addr → Prop) (H : Hp) : V → Tr → Prop
  | node {a l : Addr} {vs : List V} {c : Nat} {ks : List Tr} : H a = some (.tup [.str (ch c), .ref l]) → H l = some (.lst vs) → ok a → ok l → 97 ≤ c → c ≤ 122 → TrsAt ok H vs ks → TrAt ok H (.ref a) (.node c ks)
inductive TrsAt (ok : Addr → Prop) (H : Hp) : List V → List Tr → Prop
  | nil : TrsAt ok H [] []
  | cons {v : V} {vs : List V} {t : Tr} {ts : List Tr} : TrAt ok H v t → TrsAt ok H vs ts → TrsAt ok H (v :: vs) (t :: ts)
end
section
variable {ok ok' : Addr → Prop} {H H' : Hp}
mutual
theorem TrAt.imp (hk : ∀ b, ok b → ok' b) (h : ∀ b o, ok b → H b = some o → H' b = some o) : ∀ (t : Tr) (v : V), TrAt ok H v t → TrAt ok' H' v t
  | .node c ks, v, x => by
    cases x with
    | node h1 h2 k1 k2 c1 c2 r => exact .node (h _ _ k1 h1) (h _ _ k2 h2) (hk _ k1) (hk _ k2) c1 c2 (TrsAt.imp hk h ks _ r)
theorem TrsAt.imp (hk : ∀ b, ok b → ok' b) (h : ∀ b o, ok b → H b = some o → H' b = some o) : ∀ (ts : List Tr) (vs : List V), TrsAt ok H vs ts → TrsAt ok' H' vs ts
  | [], _, x => by cases x; exact .nil
  | t :: r, _, x => by
    cases x with
    | cons a b => exact .cons (TrAt.imp hk h t _ a) (TrsAt.imp hk h r _ b)
end
theorem TrAt.keep {v : V} {t : Tr} (x : TrAt ok H v t) (h : ∀ b o, ok b → H b = some o → H' b = some o) : TrAt ok H' v t := TrAt.imp (fun _ k => k) h t v x
theorem TrsAt.keep {vs : List V} {ts : List Tr} (x : TrsAt ok H vs ts) (h : ∀ b o, ok b → H b = some o → H' b = some o) : TrsAt ok H' vs ts := TrsAt.imp (fun _ k => k) h ts vs x
theorem TrAt.weak {v : V} {t : Tr} (x : TrAt ok H v t) (h : ∀ b, ok b → ok' b) : TrAt ok' H v t := TrAt.imp h (fun _ _ _ e => e) t v x
theorem TrsAt.weak {vs : List V} {ts : List Tr} (x : TrsAt ok H vs ts) (h : ∀ b, ok b → ok' b) : TrsAt ok' H vs ts := TrsAt.imp h (fun _ _ _ e => e) ts vs x
mutual
theorem TrAt.there : ∀ (t : Tr) (v : V), TrAt ok H v t → TrAt (fun b => ok b ∧ ∃ o, H b = some o) H v t
  | .node c ks, v, x => by
    cases x with
    | node h1 h2 k1 k2 c1 c2 r => exact .node h1 h2 ⟨k1, _, h1⟩ ⟨k2, _, h2⟩ c1 c2 (TrsAt.there ks _ r)
theorem TrsAt.there : ∀ (ts : List Tr) (vs : List V), TrsAt ok H vs ts → TrsAt (fun b => ok b ∧ ∃ o, H b = some o) H vs ts
  | [], _, x => by cases x; exact .nil
  | t :: r, _, x => by
    cases x with
    | cons a b => exact .cons (TrAt.there t _ a) (TrsAt.there r _ b)
end
theorem TrsAt.len : ∀ {vs : List V} {ts : List Tr}, TrsAt ok H vs ts → vs.length = ts.length
  | [], [], _ => rfl
  | v :: vs, t :: ts, h => by
    cases h with
    | cons a b => simp only [List.length_cons, TrsAt.len b]
  | [], _ :: _, h => by cases h
  | _ :: _, [], h => by cases h
theorem TrsAt.get : ∀ {vs : List V} {ts : List Tr} {i : Nat} {t : Tr}, TrsAt ok H vs ts → ts[i]? = some t → ∃ v, vs[i]? = some v ∧ TrAt ok H v t
  | _, _, i, t, .nil, e => by simp at e
  | _, _, 0, t, .cons a _, e => by simp at e; subst e; exact ⟨_, rfl, a⟩
  | _, _, i + 1, t, .cons _ b, e => by
    obtain ⟨v, h1, h2⟩ := TrsAt.get (i := i) (t := t) b (by simpa using e)
    exact ⟨v, by simpa using h1, h2⟩
theorem TrsAt.getV : ∀ {vs : List V} {ts : List Tr} {i : Nat} {v : V}, TrsAt ok H vs ts → vs[i]? = some v → ∃ t, ts[i]? = some t ∧ TrAt ok H v t
  | _, _, i, t, .nil, e => by simp at e
  | _, _, 0, t, .cons a _, e => by simp at e; subst e; exact ⟨_, rfl, a⟩
  | _, _, i + 1, t, .cons _ b, e => by
    obtain ⟨v, h1, h2⟩ := TrsAt.getV (i := i) (v := t) b (by simpa using e)
    exact ⟨v, by simpa using h1, h2⟩
theorem TrsAt.append : ∀ {vs ws : List V} {ts us : List Tr}, TrsAt ok H vs ts → TrsAt ok H ws us → TrsAt ok H (vs ++ ws) (ts ++ us)
  | [], _, [], _, _, h => h
  | v :: vs, _, t :: ts, _, h, g => by
    cases h with
    | cons a b => exact .cons a (TrsAt.append b g)
  | [], _, _ :: _, _, h, _ => by cases h
  | _ :: _, _, [], _, h, _ => by cases h
theorem TrsAt.split : ∀ {vs ws : List V} {ts : List Tr}, TrsAt ok H (vs ++ ws) ts → ∃ a b, ts = a ++ b ∧ TrsAt ok H vs a ∧ TrsAt ok H ws b
  | [], ws, ts, h => ⟨[], ts, rfl, .nil, h⟩
  | v :: vs, ws, _, h => by
    cases h with
    | cons x y =>
      obtain ⟨a, b, e, h1, h2⟩ := TrsAt.split y
      exact ⟨_ :: a, b, by rw [e]; rfl, .cons x h1, h2⟩
theorem TrsAt.perm {vs ws : List V} (p : vs.Perm ws) : ∀ {ts : List Tr}, TrsAt ok H vs ts → ∃ us, ts.Perm us ∧ TrsAt ok H ws us := by
  induction p with
  | nil => intro ts h; exact ⟨ts, .refl _, h⟩
  | cons x _ ih =>
    intro ts h
    cases h with
    | cons a b =>
      obtain ⟨us, p1, h1⟩ := ih b
      exact ⟨_ :: us, p1.cons _, .cons a h1⟩
  | swap x y l =>
    intro ts h
    cases h with
    | cons a b =>
      cases b with
      | cons c d => exact ⟨_, .swap _ _ _, .cons c (.cons a d)⟩
  | trans _ _ ih1 ih2 =>
    intro ts h
    obtain ⟨us, p1, h1⟩ := ih1 h
    obtain ⟨ws, p2, h2⟩ := ih2 h1
    exact ⟨ws, p1.trans p2, h2⟩
theorem TrsAt.rev {vs : List V} {ts : List Tr} (h : TrsAt ok H vs ts) : TrsAt ok H vs.reverse ts.reverse := by
  induction vs generalizing ts with
  | nil => cases h; exact .nil
  | cons v vs ih =>
    cases h with
    | cons a b =>
      rw [List.reverse_cons, List.reverse_cons]
      exact (ih b).append (.cons a .nil)
end
theorem sizes_perm {a b : List Tr} (p : a.Perm b) : sizes a = sizes b := by
  induction p with
  | nil => rfl
  | cons x _ ih => simp only [sizes, ih]
  | swap x y l => simp only [sizes]; omega
  | trans _ _ ih1 ih2 => exact ih1.trans ih2
theorem depths_perm {a b : List Tr} (p : a.Perm b) : depths a = depths b := by
  induction p with
  | nil => rfl
  | cons x _ ih => simp only [depths, ih]
  | swap x y l => simp only [depths]; omega
  | trans _ _ ih1 ih2 => exact ih1.trans ih2
theorem letss_perm {p : Nat → Prop} {a b : List Tr} (h : a.Perm b) : letss p a → letss p b := by
  induction h with
  | nil => exact id
  | cons x _ ih =>
    intro q
    simp only [letss] at q ⊢
    exact ⟨q.1, ih q.2⟩
  | swap x y l =>
    intro q
    simp only [letss] at q ⊢
    exact ⟨q.2.1, q.1, q.2.2⟩
  | trans _ _ ih1 ih2 => exact fun q => ih2 (ih1 q)
mutual
inductive Sh : Tr → Tr → Prop
  | node {c : Nat} {ks us ls : List Tr} : ks.Perm us → Shs us ls → Sh (.node c ks) (.node c ls)
inductive Shs : List Tr → List Tr → Prop
  | nil : Shs [] []
  | cons {t u : Tr} {ts us : List Tr} : Sh t u → Shs ts us → Shs (t :: ts) (u :: us)
end
mutual
theorem Sh.refl : ∀ t : Tr, Sh t t
  | .node c ks => .node (.refl _) (Shs.refl ks)
theorem Shs.refl : ∀ ts : List Tr, Shs ts ts
  | [] => .nil
  | t :: r => .cons (Sh.refl t) (Shs.refl r)
end
mutual
theorem Sh.size : ∀ {t u : Tr}, Sh t u → t.size = u.size
  | _, _, .node p h => by simp only [Tr.size, sizes_perm p, Shs.sizes h]
theorem Shs.sizes : ∀ {ts us : List Tr}, Shs ts us → My.sizes ts = My.sizes us
  | _, _, .nil => rfl
  | _, _, .cons a b => by simp only [My.sizes, Sh.size a, Shs.sizes b]
end
mutual
theorem Sh.depth : ∀ {t u : Tr}, Sh t u → t.depth = u.depth
  | _, _, .node p h => by simp only [Tr.depth, depths_perm p, Shs.depths h]
theorem Shs.depths : ∀ {ts us : List Tr}, Shs ts us → My.depths ts = My.depths us
  | _, _, .nil => rfl
  | _, _, .cons a b => by simp only [My.depths, Sh.depth a, Shs.depths b]
end
mutual
theorem Sh.lets {p : Nat → Prop} : ∀ {t u : Tr}, Sh t u → t.lets p → u.lets p
  | _, _, .node q h, a => by
    simp only [Tr.lets] at a ⊢
    exact ⟨a.1, Shs.letss h (letss_perm q a.2)⟩
theorem Shs.letss {p : Nat → Prop} : ∀ {ts us : List Tr}, Shs ts us → My.letss p ts → My.letss p us
  | _, _, .nil, a => a
  | _, _, .cons x y, a => by
    simp only [My.letss] at a ⊢
    exact ⟨Sh.lets x a.1, Shs.letss y a.2⟩
end
theorem Shs.len : ∀ {ts us : List Tr}, Shs ts us → ts.length = us.length
  | _, _, .nil => rfl
  | _, _, .cons a b => by simp only [List.length_cons, Shs.len b]
theorem Shs.append : ∀ {ts us ts' us' : List Tr}, Shs ts us → Shs ts' us' → Shs (ts ++ ts') (us ++ us')
  | _, _, _, _, .nil, h => h
  | _, _, _, _, .cons a b, h => .cons a (Shs.append b h)

def Fr (p : Addr) (H H' : Hp) : Prop := ∀ b o, b ≠ p → H b = some o → H' b = some o
theorem Fr.refl (p : Addr) (H : Hp) : Fr p H H := fun _ _ _ h => h
theorem Fr.trans {p : Addr} {H H1 H2 : Hp} (a : Fr p H H1) (b : Fr p H1 H2) : Fr p H H2 := fun c o n h => b c o n (a c o n h)
theorem Fr.same {p : Addr} {H H' : Hp} (s : Same H H') : Fr p H H' := fun b o _ h => s b o h
theorem Fr.chg {p : Addr} {H H' : Hp} (c : Chg p H H') : Fr p H H' := fun _ _ n h => c.at h n
theorem Fr.new {p q : Addr} {H H' : Hp} {o : HO} (f : Fr p H H') (h : H q = none) : Fr p H (upd H' q o) := fun b u n e => by
  rw [upd_ne (ne_of_none e h)]
  exact f b u n e
theorem same_add {q : Addr} {H H' : Hp} {o : HO} (f : Same H H') (h : H q = none) : Same H (upd H' q o) := fun b u e => by
  rw [upd_ne (ne_of_none e h)]
  exact f b u e
theorem Fr.free {p q : Addr} {H H' : Hp} (f : Fr p H H') (hp : H' p ≠ none) (h : H' q = none) : H q = none := by
  cases e : H q with
  | none => rfl
  | some o =>
    by_cases hq : q = p
    · subst hq; exact absurd h hp
    · rw [f q o hq e] at h; cases h
theorem Fr.seq {K : PySem.W.Frag} {p a : Addr} {H H' : Hp} {xs : List V} (c : Fr p H H') (hp : H p = none) (h : SqL K H a xs) : SqL K H' a xs := by
  rcases h with (h | ⟨o, h⟩) | h
  · exact .inl (.inl (c _ _ (ne_of_none h hp) h))
  · exact .inl (.inr ⟨o, c _ _ (ne_of_none h hp) h⟩)
  · exact .inr h
theorem TrAt.same {ok : Addr → Prop} {H H' : Hp} {v : V} {t : Tr} (x : TrAt ok H v t) (s : Same H H') : TrAt ok H' v t := x.keep fun b o _ h => s b o h
theorem TrsAt.same {ok : Addr → Prop} {H H' : Hp} {vs : List V} {ts : List Tr} (x : TrsAt ok H vs ts) (s : Same H H') : TrsAt ok H' vs ts := x.keep fun b o _ h => s b o h
theorem TrAt.off {ok : Addr → Prop} {H : Hp} {v : V} {t : Tr} {w : Addr} (x : TrAt ok H v t) (h : H w = none) : TrAt (fun b => ok b ∧ b ≠ w) H v t :=
  (TrAt.there t v x).weak fun b ⟨k, o, e⟩ => ⟨k, ne_of_none e h⟩
theorem TrsAt.off {ok : Addr → Prop} {H : Hp} {vs : List V} {ts : List Tr} {w : Addr} (x : TrsAt ok H vs ts) (h : H w = none) : TrsAt (fun b => ok b ∧ b ≠ w) H vs ts :=
  (TrsAt.there ts vs x).weak fun b ⟨k, o, e⟩ => ⟨k, ne_of_none e h⟩
theorem upd_keep {H : Hp} {w : Addr} {o : HO} {ok : Addr → Prop} (h : ∀ b, ok b → b ≠ w) : ∀ b u, ok b → H b = some u → (upd H w o) b = some u := fun b u k e => by
  rw [upd_ne (h b k)]
  exact e
theorem lc_outer {K : PySem.W.Frag} {a : Addr} {xs : List V} {Bd : V → Hp → (Hp → Prop) → Prop} {Qd : Hp → Prop} {H0 : Hp} (Pv : Nat → Hp → Prop) (h0 : Pv 0 H0) (hl : ∀ i H, i ≤ xs.length → Pv i H → SqL K H a xs)
    (hs : ∀ i x H, xs[i]? = some x → Pv i H → Bd x H (Pv (i + 1))) (hd : ∀ H, Pv xs.length H → Qd H) :
    ∃ W : Nat → Nat → Hp → Prop, (∃ m, W 0 m H0) ∧ ∀ i m H, W i m H → ((Itl K a).stop i H ∧ Qd H) ∨ ((Itl K a).go i H ∧ ∃ Nx : Hp → Prop, (∀ H', Nx H' → ∃ m', m' < m ∧ W (i + 1) m' H') ∧ ∀ x H', (Itl K a).yld i H x H' → Bd x H' Nx) := by
  refine ⟨fun i m H => m = xs.length - i ∧ i ≤ xs.length ∧ Pv i H, ⟨xs.length, by simp, Nat.zero_le _, h0⟩, ?_⟩
  rintro i m H ⟨rfl, hi, p⟩
  have q := hl i H hi p
  by_cases hlt : i < xs.length
  · refine .inr ⟨⟨xs, xs[i], q, by simp [hlt]⟩, Pv (i + 1), fun H' p' => ⟨xs.length - (i + 1), by omega, rfl, hlt, p'⟩, fun x H' y => ?_⟩
    obtain ⟨e, y⟩ := y
    subst e
    exact hs i x _ (y xs q) p
  · have e : i = xs.length := by omega
    subst e
    exact .inl ⟨⟨xs, q, Nat.le_refl _⟩, hd H p⟩
theorem take_succ_of {α : Type} {l : List α} {i : Nat} {x : α} (h : l[i]? = some x) : l.take (i + 1) = l.take i ++ [x] := by
  rw [List.take_add_one, h]
  rfl

def RowL (params : Arguments) (scope : PySem.Scope) (body : PySem.Expr) : Prop :=
  (∃ (x : Str) (p1 p2 p3 : Pos) (k0 : Nat), body = .Subscript (.Name x p1) (.Constant (.int 0) k0 p2) p3 ∧ (x == Str.ofString "__debug__") = false ∧ scope.names = [(x, .local)] ∧
    ∀ (fd : FuncData) (u : Value), fd.params = params → fd.defaults = .none → fd.kwdefaults = .none → bindArgs fd ⟨[u], []⟩ = pure [(x, u)]) ∧
  scope.kind = .function ∧ scope.isGenerator = false ∧ scope.isCoroutine = false
theorem row_call {P : Program} {w : World} {A : Around} {s : Shared} {f p c' : Addr} {nm q : Str} {params : Arguments} {scope : PySem.Scope} {body : PySem.Expr} {clos : List (Str × Addr)} {pm ctv : Value} {its : Array Value} {x : Str} {tx : Tok}
    (R : RowL params scope body) (hd : A.depth < recursionLimit) (hf : s.heap.get? f = some (PySem.W.kla_obj nm q params body scope clos pm c' ctv))
    (hc : s.heap.CodeRec (.ref c') q) (hn : s.heap.NoLimit) (ht : IsTup s.heap p its) (h0 : its[0]? = some (.str x tx)) :
    wpAny (model P w) A (call (.ref f) [.ref p]) (PySem.W.KeyPure (.str x) s) (fun _ _ => False) s := by
  obtain ⟨⟨z, p1, p2, p3, k0, rfl, hz, hnm, hb⟩, hk, hg, ho⟩ := R
  refine wpAny_call ?_
  refine PySem.W.kla_callFunE hd hf rfl ho hg rfl hc ?_
  refine BindsTo.of_eq (hb _ _ rfl rfl rfl) _ _ _ _ ?_
  refine wpAny_newFunctionEnv (by intro y hy; rw [show (PySem.W.kla_fn nm q params _ scope clos pm (.ref c') ctv).scope.names = _ from hnm] at hy; simp only [List.mem_singleton] at hy; subst hy; simp) (by intro y hy; simp only [List.mem_singleton] at hy; subst hy; rw [show (PySem.W.kla_fn nm q params _ scope clos pm (.ref c') ctv).scope.names = _ from hnm]; simp) (fun h' hns hsame => ?_) hk
  have hkeep : ∀ b o, s.heap.get? b = some o → h'.get? b = some o := by
    intro b o hb
    have hne : b ≠ s.heap.objs.size := fun e => by
      rw [e] at hb
      simp [Heap.get?] at hb
    rw [hsame.2 b hne]
    exact Heap.get?_push_of_some _ hb
  refine ⟨hn.keeps hkeep, PySem.W.kla_codeExpr ?_⟩
  refine Subscript_Constant (wpAny_Name (wpAny_loadName_local (m := fun y => List.lookup y [(z, Value.ref p)].reverse) (v := .ref p) hk ?_ hns ?_ ?_) hz)
  · simp [Env.kindOf, newEnv, hnm]
  · simp
  refine wpAny_Constant_int ?_
  obtain ⟨o, g1, g2, n, g3⟩ := ht
  have ht' : IsTup h' p its := ⟨o, hkeep _ _ g1, g2, n, g3⟩
  refine ⟨"tuple", _, rfl, ⟨o, hkeep _ _ g1, g2⟩, ?_⟩
  have hz0 : its.size ≠ 0 := fun e => by
    rw [Array.getElem?_eq_none (by omega)] at h0
    cases h0
  refine getItem_tuple (j := 0) ht' (by decide) (by decide) ?_ h0 ?_
  · simp [seqIndex?]
    intro e
    rw [e] at hz0
    exact hz0 rfl
  exact ⟨h', _, rfl, hkeep, .str _ _⟩

def leS (a b : V × Str) : Bool := decide (a.2.cps.toList ≤ b.2.cps.toList)
def RowO (f c : Addr) (q : Str) : HO := .ext fun h => ∃ nm params body scope clos pm ctv, h.get? f = some (PySem.W.kla_obj nm q params body scope clos pm c ctv) ∧ RowL params scope body
def rSortRow : List V → List V → Hp → VK → Prop := fun xs zs H Q => ∃ (a f c : Addr) (q : Str) (bs : List (V × Str)), xs = [.ref a] ∧ zs = [.ref f] ∧ H f = some (RowO f c q) ∧ H c = some (LamX.CodeO c q) ∧ H a = some (.lst (bs.map Prod.fst)) ∧
  (∀ b ∈ bs, ∃ p rest, b.1 = .ref p ∧ H p = some (.tup (.str b.2 :: rest))) ∧ bs.length ≤ sizeLine ∧ ∀ r, H r = none → Q (.ref r) (upd H r (.lst ((bs.mergeSort leS).map Prod.fst)))
def RowR (H : Hp) (v : Value) (b : V × Str) : Prop := RelV b.1 v ∧ ∃ p rest, b.1 = .ref p ∧ H p = some (.tup (.str b.2 :: rest))
theorem eachRow {H : Hp} : ∀ {bs : List (V × Str)} {its : List Value}, Vals (bs.map Prod.fst) its → (∀ b ∈ bs, ∃ p rest, b.1 = .ref p ∧ H p = some (.tup (.str b.2 :: rest))) → PySem.W.EachIs (RowR H) its bs
  | [], _, v, _ => by cases v; exact .nil
  | b :: r, _, v, h => by
    cases v with
    | cons g1 g2 => exact .cons ⟨g1, h b (by simp)⟩ (eachRow g2 fun x hx => h x (by simp [hx]))
theorem rowEach {H : Hp} : ∀ {bs : List (V × Str)} {its : List Value}, PySem.W.EachIs (RowR H) its bs → Vals (bs.map Prod.fst) its
  | [], _, v => by cases v; exact .nil
  | b :: r, _, v => by
    cases v with
    | cons g1 g2 => exact .cons g1.1 (rowEach g2)
theorem cr_sortRow {X : Cx} {k : Nat} (hr : Room k X.A) : CallRK X (.builtin "sorted") ["key"] rSortRow := by
  intro pins s σ H xs zs us ws Q I hv hw h
  obtain ⟨a, f, c, q, bs, rfl, rfl, hf, hc, ha, hp, hz, q2⟩ := h
  cases hv with
  | cons g1 g2 =>
  cases g2
  cases hw with
  | cons g3 g4 =>
  cases g4
  cases g1
  cases g3
  have oa := I.hok _ _ ha
  have of := I.hok _ _ hf
  have oc := I.hok _ _ hc
  obtain ⟨nm, params, body, scope, clos, pm, ctv, hfo, hR⟩ := of.1
  obtain ⟨oz, its, n, hits, hao⟩ := oa
  refine PySem.W.sorted_key_data (vs := its) (bs := bs) (R := RowR H) (f := .ref f) (b := false) (fun b => .str b.2) ⟨_, hao, rfl, n, rfl⟩ (eachRow hits hp) ?_ ?_ hz ?_ (ksk_s1 _ _) (fun x => ksk_l1 _ _) (fun x => ?_) (fun v x hv hx h tk hk => ?_) (fun out c' h' tk hk hn ho hl he => ?_)
  · intro d hd d' hd'
    simp only [List.mem_map] at hd hd'
    obtain ⟨_, _, rfl⟩ := hd
    obtain ⟨_, _, rfl⟩ := hd'
    rfl
  · refine .inr fun d hd => ?_
    simp only [List.mem_map] at hd
    obtain ⟨_, _, rfl⟩ := hd
    exact ⟨by simp, by simp⟩
  · intro x _
    have := hr.un
    have e : (PyData.str x.2).depth = 0 := rfl
    omega
  · rfl
  · obtain ⟨hv1, p, rest, e1, e2⟩ := hv
    obtain ⟨v1, w1⟩ := x
    dsimp only at e1 hv1 e2 hx ⊢
    subst e1
    cases hv1
    have op := I.hok _ _ e2
    obtain ⟨_, its2, g1, g2, g3, n2, g4⟩ := op
    cases g1 with
    | cons k1 k2 =>
    obtain ⟨tx, rfl⟩ := k1
    obtain ⟨oc', vs', t', c1, c2, c3⟩ := oc.1
    refine row_call (its := _) (x := w1) (tx := tx) hR ?_ (hk _ _ hfo) ⟨_, _, _, _, rfl, hk _ _ c1, c2, c3⟩ (I.nolimit.keeps hk) ⟨g2, hk _ _ g3, n2, g4⟩ (by simp)
    have := hr.dp
    show X.A.depth < recursionLimit
    omega
  · refine ⟨.ref (s.heap.objs.size + 1), _, I.laid (a := s.heap.objs.size + 1) (o := .lst ((bs.mergeSort leS).map Prod.fst)) hk (by omega) ?_, rfl, q2 _ ?_⟩
    · have e : PySem.W.dataLe false (fun b : V × Str => PyData.str b.2) = leS := PySem.W.dataLe_str _
      rw [e] at he
      exact ⟨by simpa using hz, out, c', rowEach he, ho⟩
    · exact I.hok.fresh (by omega)
theorem rowO_ok {P : Program} {w : World} {H : Hp} {h : Heap} {c : Addr} {nm q : Str} {params : Arguments} {scope : PySem.Scope} {body : PySem.Expr} {clos : List (Str × Addr)} {pm ctv : Value} (hR : RowL params scope body) :
    ObjOk P w H (h.push (PySem.W.kla_obj nm q params body scope clos pm c ctv)) h.objs.size (RowO h.objs.size c q) := by
  have e : (h.push (PySem.W.kla_obj nm q params body scope clos pm c ctv)).get? h.objs.size = some (PySem.W.kla_obj nm q params body scope clos pm c ctv) := Heap.get?_push_size _ rfl
  refine ⟨⟨_, _, _, _, _, _, _, e, hR⟩, ⟨_, e⟩, fun h1 h2 ⟨a1, a2, a3, a4, a5, a6, a7, e1, e2⟩ k => ⟨a1, a2, a3, a4, a5, a6, a7, k _ e1, e2⟩⟩
theorem pe_lamRow {X : Cx} {c P : Addr} {params : Arguments} {body : PySem.Expr} {scope : PySem.Scope} {pos : Pos} (tb : LamX.TabB X.base X.mg c P) (hc : X.env.code = .ref c) (hd : defaultsOf params X.env = ([], []))
    (hR : RowL params scope body) : PE X (.Lambda params body scope pos) (fun σ H Q => LamX.TabS H P (X.env.qual ++ "<lambda>") ∧ ∀ (f c : Addr) (H1 : Hp), Fr P H H1 → LamX.TabS H1 P (X.env.qual ++ "<lambda>") → H1 f = some (RowO f c (X.env.qual ++ "<lambda>")) → H1 c = some (LamX.CodeO c (X.env.qual ++ "<lambda>")) → Q (.ref f) H1) := by
  refine ⟨fun pins s σ H Q I h => ?_⟩
  obtain ⟨ht, q⟩ := h
  have hclo : closureFor scope X.env = pure (cloFrom X.env.cells scope.names []) := by
    refine closure_ok ?_
    intro y hy he
    obtain ⟨⟨z, p1, p2, p3, k0, rfl, hz, hnm, hb⟩, hk, hg, ho⟩ := hR
    rw [hnm] at hy
    simp only [List.mem_singleton] at hy
    subst hy
    cases he
  have ht' := ht
  obtain ⟨ps, hP, hT, hA⟩ := ht'
  have oP : s.heap.get? P = some (PySem.W.tabObj ps) := I.hok _ _ hP
  refine PySem.W.kla_eval hd ?_
  cases hcd : codeAmong pos ps.toList with
  | some cv =>
    obtain ⟨c', rfl, hc'⟩ := hA _ _ hcd
    refine PySem.W.kla_makeFunctionHit hclo I.ok.glob (I.mod.glob.keeps I.bk) hc (tb.code.keeps I.bk) oP hT hcd (tb.bm.keeps I.bk) (fun ctv h' tk hk hs => ?_)
    have I1 := I.kept (t' := tk) hk
    have hz : s.heap.objs.size ≤ h'.objs.size := hs
    have hn : H h'.objs.size = none := I.hok.fresh hz
    refine ⟨.ref h'.objs.size, upd H h'.objs.size (RowO h'.objs.size c' (X.env.qual ++ "<lambda>")), ?_, rfl, q _ c' _ (fun b o _ hb => ?_) (ht.ext fun b o hb => ?_) upd_same ?_⟩
    · exact I1.laid (h' := h'.push _) (t' := tk) (fun b u hb => Heap.get?_push_of_some _ hb) (Nat.le_refl _) (rowO_ok hR)
    · rw [upd_ne (ne_of_none hb hn)]; exact hb
    · rw [upd_ne (ne_of_none hb hn)]; exact hb
    · rw [upd_ne (ne_of_none hc' hn)]; exact hc'
  | none =>
    refine PySem.W.kla_makeFunction hclo I.ok.glob (I.mod.glob.keeps I.bk) hc (tb.code.keeps I.bk) oP hT hcd tb.gP (tb.bm.keeps I.bk) (fun c' ctv h' tk he hl hu hrec hP' => ?_)
    obtain ⟨c2, o2, vs2, t2, ec, e1, e2, e3⟩ := hrec
    cases ec
    have I2 := LamX.inv_table (t' := tk) (c := c') (q := X.env.qual ++ "<lambda>") I hP he (more := #[rawInt ↑pos.line, rawInt ↑pos.col, .ref c']) hP' hl ⟨_, _, _, e1, e2, e3⟩
    have hn : (upd (upd H P (.tbl (ps ++ #[rawInt ↑pos.line, rawInt ↑pos.col, .ref c']))) c' (LamX.CodeO c' (X.env.qual ++ "<lambda>"))) h'.objs.size = none := I2.hok.fresh (Nat.le_refl _)
    have hcn : H c' = none := I.hok.fresh hl
    have hPc : P ≠ c' := fun e => by rw [e] at hP; rw [hcn] at hP; cases hP
    refine ⟨.ref h'.objs.size, _, I2.laid (h' := h'.push _) (o := RowO h'.objs.size c' (X.env.qual ++ "<lambda>")) (t' := tk) (fun b u hb => Heap.get?_push_of_some _ hb) (Nat.le_refl _) (rowO_ok hR), rfl, q _ c' _ ?_ ?_ upd_same ?_⟩
    · intro b o hbP hb
      have h1 : (upd (upd H P (.tbl (ps ++ #[rawInt ↑pos.line, rawInt ↑pos.col, .ref c']))) c' (LamX.CodeO c' (X.env.qual ++ "<lambda>"))) b = some o := by
        rw [upd_ne (ne_of_none hb hcn), upd_ne hbP]; exact hb
      rw [upd_ne (ne_of_none h1 hn)]; exact h1
    · refine LamX.TabS.ext (H := upd (upd H P (.tbl (ps ++ #[rawInt ↑pos.line, rawInt ↑pos.col, .ref c']))) c' (LamX.CodeO c' (X.env.qual ++ "<lambda>"))) ?_ (fun b o hb => by rw [upd_ne (ne_of_none hb hn)]; exact hb)
      refine ⟨_, by rw [upd_ne hPc]; exact upd_same, ?_, ?_⟩
      · simpa using TriplesOk_snoc _ _ _ _ hT
      · intro pos2 cv hcv
        rw [Array.toList_append] at hcv
        rcases LamX.among_app _ hT hcv with h | h
        · obtain ⟨c3, e3, h3⟩ := hA _ _ h
          refine ⟨c3, e3, ?_⟩
          rw [upd_ne (ne_of_none h3 hcn), upd_ne (fun e => by rw [e, hP] at h3; cases h3)]
          exact h3
        · exact ⟨c', h, upd_same⟩
    · have h1 : (upd (upd H P (.tbl (ps ++ #[rawInt ↑pos.line, rawInt ↑pos.col, .ref c']))) c' (LamX.CodeO c' (X.env.qual ++ "<lambda>"))) c' = some (LamX.CodeO c' (X.env.qual ++ "<lambda>")) := upd_same
      rw [upd_ne (ne_of_none h1 hn)]; exact h1

theorem okC {P : Program} {w : World} {K : PySem.W.Frag} {mg : Str → Option Value} {base : Heap} {x qual : Str} {st : Stmt} {f c : Addr} {fd : FuncData} {N ps : List Str} {k : Nat} {sp : Sp} (F : Fun K x qual st f fd) (hc : fd.code = .ref c) (S : FnScope N ps (defScope st))
    (len : ∀ vs H Q E, sp vs H Q E → vs.length = ps.length)
    (hb : ∀ (A : Around) (outer : List Env) (s : Shared) (H : Hp) (vs : List V) (Q : VK) (E : XK), Room k (A.deeper (envOfC qual (defScope st) s.heap.objs.size f (.ref c))) → sp vs H Q E →
      ∃ t, PSs (cxOf CX0 P w K mg base N qual (defScope st) f (.ref c) A outer s H E).nox (defBody st) t ∧ t { nx := fun _ H' => Q .non H', rt := Q } (L2.start N vs) H) : FnOk P w K mg base CX0 (k + 1) f fd ps sp := by
  obtain ⟨oc, od, kV, doc, pm, an, cdv, ct, osl, rfl, lk, hcd⟩ := F.ex
  cases hc
  exact fn_of lk hcd S len fun A outer s H vs Q E hr hsp => by
    obtain ⟨t, h, q⟩ := hb A outer s H vs Q E hr hsp
    exact ⟨t, h.nox, q⟩
theorem rowL_mk {x : Str} {p0 p1 p2 p3 : Pos} {k0 : Nat} {scope : PySem.Scope} (hz : (x == Str.ofString "__debug__") = false) (hn : scope.names = [(x, .local)]) (hk : scope.kind = .function) (hg : scope.isGenerator = false) (hc : scope.isCoroutine = false)
    (hb : ∀ (nm q : Str) (b : FuncBody) (sc : PySem.Scope) (g : Addr) (cl : List (Str × Addr)) (pm an : Value) (cd : Option Addr) (ct bl : Value) (bu : Addr) (u : Value), bindArgs ⟨nm, q, { posonlyargs := [], args := [{ arg := x, annotation := none, pos := p0 }], vararg := none, kwonlyargs := [], kw_defaults := [], kwarg := none, defaults := [] }, b, sc, g, cl, .none, .none, pm, an, cd, ct, bl, bu⟩ ⟨[u], []⟩ = pure [(x, u)]) :
    RowL { posonlyargs := [], args := [{ arg := x, annotation := none, pos := p0 }], vararg := none, kwonlyargs := [], kw_defaults := [], kwarg := none, defaults := [] } scope (.Subscript (.Name x p1) (.Constant (.int 0) k0 p2) p3) := by
  refine ⟨⟨x, p1, p2, p3, k0, rfl, hz, hn, fun fd u e1 e2 e3 => ?_⟩, hk, hg, hc⟩
  obtain ⟨nm, q, pr, b, sc, g, cl, d, kd, pm, an, cd, ct, bl, bu⟩ := fd
  subst e1 e2 e3
  exact hb _ _ _ _ _ _ _ _ _ _ _ _ _
def spLawT (K : PySem.W.Frag) (Ps : List Addr) : Sp := fun vs H Q _ => ∃ (a : Addr) (ns : List Int), vs = [.ref a] ∧ SqL K H a (ns.map V.int) ∧ ns.length ≤ 63 ∧ (∀ P ∈ Ps, H P = some (.tbl #[])) ∧ ∀ H', Q (.bl true) H'
def LawT (l : PySem.W.OpenLaw) (w : World) (K : PySem.W.Frag) (k : Nat) (x : Str) (mg : Str → Option Value) (fa : Addr) (cs : List (Str × Addr × Addr)) : Prop :=
  (∀ z ∈ cs, PySem.W.tabIn K z.1 = some (z.2.1, z.2.2) ∧ K.lookup z.2.2 = none) ∧ ∃ fd : FuncData, (∀ (s : Shared) (v : Value), BindsTo s fd ⟨[v], []⟩ [(x, v)]) ∧
    ∀ base : Heap, K.In base → base.Ns mainGlobals mg → (∀ z ∈ cs, LamX.TabB base mg z.2.1 z.2.2) → FnOk l.prog w K mg base CX0 k fa fd [x] (spLawT K (cs.map fun z => z.2.2))
theorem walk_ofT {l : PySem.W.OpenLaw} {n k : Nat} {q : Program} {loose : List Str} {XP : (Str → Option Value) → Heap → Prop} {YP : World → Heap → Prop} {d : DefRec} {K : Params → PySem.W.Frag} {x : Str}
    (hn : l.most = some n) (hz : n ≤ sizeLine) (h63 : n ≤ 63) (hd : d.params.defaults = []) (hr : Room k callerA) (hY : ∀ w h, YP w h → (K w.params).In h) (names : List Str)
    (hR : (names.all fun z => (recsOf q).any fun e => e.name == z) = true)
    (hF : ∀ (w : World) (mg : Str → Option Value) (fa : Addr) (h : Heap), (K w.params).In h → h.Ns mainGlobals mg → mg d.name = some (.ref fa) → ∃ cs : List (Str × Addr × Addr), cs.map Prod.fst = names ∧ LawT l w (K w.params) k x mg fa cs) :
    PySem.W.WalkO q loose XP YP l.row.toRowW d [] fun f vs => call f vs := by
  refine Att.attach_callB hn hd fun w s0 s1 mg mb fa o pm cd doc a vs ns G Y ho hod hcr hmg ha hi hl hb hg => ?_
  obtain ⟨cs, hcs, hT, fd, hB, hOk⟩ := hF w mg fa s1.heap (hY w _ Y) G.T.g hmg
  have key : ∀ z ∈ cs, PySem.W.CodeHd s1.heap z.2.1 z.2.2 ∧ s1.heap.get? z.2.2 = some (PySem.W.tabObj #[]) := by
    intro z hz
    have h1 : z.1 ∈ names := by rw [← hcs]; exact List.mem_map_of_mem hz
    have h2 := List.all_eq_true.mp hR _ h1
    cases hf : (recsOf q).find? fun e => e.name == z.1 with
    | none =>
      rw [List.find?_eq_none] at hf
      rw [List.any_eq_true] at h2
      obtain ⟨e, he, h3⟩ := h2
      exact absurd h3 (hf e he)
    | some dd => exact PySem.W.tab_of G.T (hY w _ Y) hf (hT z hz).1
  refine LamX.law_callTs (K := K w.params) (cs := cs.map fun z => z.2) (hY w _ Y) G.T.g G.T.b G.T.builtins G.T.nolimit hg ?_ ?_ ?_ G.T.bmain ha hi (Nat.le_trans hl hz) hr (fun base h1 h2 h3 => hOk base h1 h2 fun z hz => h3 _ (List.mem_map_of_mem hz)) (fun s u => hB s u) (fun H hH hS => ⟨a, ns, rfl, hS, ?_, ?_, fun _ => rfl⟩) (fun _ _ _ h => h)
  · intro p hp
    obtain ⟨z, hz, rfl⟩ := List.mem_map.mp hp
    exact (key z hz).2
  · intro p hp
    obtain ⟨z, hz, rfl⟩ := List.mem_map.mp hp
    exact (hT z hz).2
  · intro p hp
    obtain ⟨z, hz, rfl⟩ := List.mem_map.mp hp
    exact (key z hz).1
  · exact Nat.le_trans hl h63
  · intro P hP
    obtain ⟨z, hz, rfl⟩ := List.mem_map.mp hP
    exact hH _ (List.mem_map_of_mem hz)

theorem take_zip {α : Type} (sel : Nat → Bool) (j : Nat) : ∀ (xs : List α) (i : Nat), (∀ k, k < i + xs.length → sel k = decide (j ≤ k)) → (xs.zipIdx i).filterMap (fun x => if sel x.2 = true then none else some x.1) = xs.take (j - i)
  | [], i, _ => by simp
  | x :: r, i, hs => by
    rw [List.zipIdx_cons, List.filterMap_cons]
    have ih := take_zip sel j r (i + 1) fun k hk => hs k (by rw [List.length_cons]; omega)
    have h0 := hs i (by rw [List.length_cons]; omega)
    by_cases h : j ≤ i
    · have e : j - i = 0 := by omega
      have e2 : j - (i + 1) = 0 := by omega
      rw [e2] at ih
      simp only [h0, h, decide_true, if_true, e, List.take_zero]
      simpa using ih
    · have e : j - i = (j - (i + 1)) + 1 := by omega
      rw [e, List.take_succ_cons, ← ih]
      simp [h0, h]
theorem run_delFrom {P : Program} {w : World} {A : Around} {E : Value → Shared → Prop} {s : Shared} {l sl : Addr} {items : Array Value} {n j : Nat} {t : Tok} {Q : Unit → Shared → Prop}
    (hl : s.heap.get? l = some { cls := Value.type "list", data := Data.seq items n }) (hs : s.heap.get? sl = some { cls := .type "slice", data := .fields #[.int j t, .none, .none] }) (hj : j ≤ items.size) (hz : items.size ≤ sizeLine)
    (q : ∀ f : Array Value → Array Value, f items = (items.toList.take j).toArray → Q () { s with heap := s.heap.update l (Obj.mapSeq f) }) :
    wpAny (model P w) A (delItem (.ref l) (.ref sl)) Q E s := by
  refine wpAny_delItem_slot (T := "list") ⟨_, hl, rfl⟩ (by decide) PySem.F.slot_list_delitem ?_
  refine wpAny_call_entry PySem.F.slot_list_delitem ⟨_, hl, rfl⟩ PySem.F.entry_list_delitem ?_ (PySem.F.args_list_delitem_2 _ _)
  show wpAny _ _ (do
      let __x ← slotArgs "__delitem__" 1 { pos := [.ref l, .ref sl] }
      _) _ _ _
  refine wpAny_bind (wpAny_pure ?_)
  refine wpAny_bind ?_
  refine wpAny_bind (wpAny_specialOf (T := "slice") (r := none) ⟨_, hs, rfl⟩ rfl ?_)
  refine wpAny_pure ?_
  refine wpAny_bind (wpAny_typeOf (T := "slice") ⟨_, hs, rfl⟩ ?_)
  dsimp only
  rw [if_neg (by decide)]
  refine wpAny_bind ?_
  rw [listSliceParts_eq]
  refine wpAny_bind (wpAny_field hs rfl (i := 2) rfl (wpAny_bind (wpAny_listPart .none ?_)))
  dsimp only [rawPart]
  rw [if_neg (by decide)]
  refine wpAny_bind (wpAny_field hs rfl (i := 0) rfl (wpAny_bind (wpAny_listPart (.int _ _) ?_)))
  refine wpAny_bind (wpAny_field hs rfl (i := 1) rfl (wpAny_bind (wpAny_listPart .none (wpAny_pure ?_))))
  dsimp only
  refine wpAny_bind (wpAny_listItems hl rfl ?_)
  have eb : sliceBounds (some (j : Int)) none none items.size = ((j : Int), (items.size : Int), 1) := by
    simp [sliceBounds]
    omega
  rw [show sliceIndices (rawPart (some (j : Int))) (rawPart none) .none items.size = pure (sliceBounds (some (j : Int)) none none items.size) from sliceIndices_raw (some (j : Int)) none none items.size (by simp), eb]
  refine wpAny_bind (wpAny_pure ?_)
  dsimp only
  refine wpAny_bind (wpAny_rule ?_)
  refine wpAny_bind (wpAny_updateSeq hl rfl (wpAny_bind (wpAny_letGo (wpAny_pure ⟨_, rfl, q _ ?_⟩))) hz ?_)
  · refine congrArg List.toArray ((take_zip (fun k => _) j items.toList 0 ?_).trans (by rw [Nat.sub_zero]))
    intro k hk
    show (if (1 : Int) > 0 then decide ((j : Int) ≤ (k : Int)) && decide ((k : Int) < (items.size : Int)) && ((k : Int) - j) % 1 == 0 else _) = _
    rw [Nat.zero_add, Array.length_toList] at hk
    rw [if_pos (by decide), Int.emod_one, decide_eq_true (show (k : Int) < (items.size : Int) by omega)]
    by_cases h : j ≤ k
    · simp [h]
    · simp [h]
  · refine Nat.le_trans ?_ (Nat.le_succ_of_le hz)
    rw [List.size_toArray]
    refine Nat.le_trans (List.length_filterMap_le _ _) ?_
    simp
theorem ps_delFrom {X : Cx} {pos p2 : Pos} {o e : PySem.Expr} {to te : TE} {tpos : Pos} (ho : PE X o to) (he : PE X e te) :
    PS X (.Delete [.Subscript o (.Slice (some e) none none p2) tpos] pos) (fun D σ H => to σ H fun x H1 => te σ H1 fun y H2 => ∃ (l : Addr) (xs : List V) (j : Nat), x = .ref l ∧ y = .int j ∧ H2 l = some (.lst xs) ∧ j ≤ xs.length ∧ D.nx σ (upd H2 l (.lst (xs.take j)))) := by
  refine ⟨fun pins s σ H D I h => ?_⟩
  refine wpAny_Delete (wpAny_deleteEach_cons (wpAny_delete_Subscript ?_))
  refine thn (ho.run pins s σ H _ I h) fun u s1 hx => ?_
  obtain ⟨x, H1, I1, r1, h1⟩ := hx
  refine wpAny_Slice ?_
  rw [evalPart_some]
  refine thn (he.run pins s1 σ H1 _ I1 h1) fun u2 s2 hx => ?_
  obtain ⟨y, H2, I2, r2, l, xs, j, rfl, rfl, hl, hj, q⟩ := hx
  cases r1
  obtain ⟨t, rfl⟩ := r2
  rw [evalPart_none]
  refine wpAny_pure ?_
  refine wpAny_pure ?_
  have hsl : (s2.heap.push { cls := .type "slice", data := .fields #[.int j t, .none, .none] }).get? s2.heap.objs.size = some { cls := .type "slice", data := .fields #[.int j t, .none, .none] } := Heap.get?_push_size _ rfl
  have I3 := I2.kept (h' := s2.heap.push { cls := .type "slice", data := .fields #[.int j t, .none, .none] }) (t' := s2.toks) (fun b u hb => Heap.get?_push_of_some _ hb)
  obtain ⟨oz, its, n, hits, hao⟩ := I3.hok _ _ hl
  have ll : xs.length = its.length := L2.Vals.length hits
  refine run_delFrom (items := its.toArray) hao hsl (by simp; omega) (by simp; omega) (fun f hf => ?_)
  refine wpAny_deleteEach_nil ?_
  refine ⟨σ, _, I3.lset (its := its) (its' := its.take j) (ys := xs.take j) hl hao (by simpa using hf) ?_ ?_, q⟩
  · exact L2.Vals.take j hits
  · rw [List.length_take]; omega

mutual
def Tr.dat : Tr → PyData
  | .node c ks => .tuple [.str (ch c), .list (dats ks)]
def dats : List Tr → List PyData
  | [] => []
  | t :: r => t.dat :: dats r
end
mutual
theorem dat_depth : ∀ t : Tr, t.dat.depth ≤ 2 * t.depth
  | .node c ks => by
    have := dats_depth ks
    simp only [Tr.dat, PyData.depth, PyData.depthAll, Tr.depth]
    omega
theorem dats_depth : ∀ ts : List Tr, PyData.depthAll (dats ts) ≤ 2 * depths ts
  | [] => by simp only [dats, PyData.depthAll, depths]; omega
  | t :: r => by
    have a := dat_depth t
    have b := dats_depth r
    simp only [dats, PyData.depthAll, depths]
    omega
end
section
variable {ok : Addr → Prop} {H : Hp} {K : PySem.W.Frag}
theorem strOk_ch {c : Nat} (h : c ≤ 122) : PyData.strOk (ch c) = true := by
  unfold PyData.strOk ch
  simp
  omega
mutual
theorem TrAt.lay : ∀ (t : Tr) (v : V), TrAt ok H v t → t.dat.canLay0 = true
  | .node c ks, v, x => by
    cases x with
    | node h1 h2 k1 k2 c1 c2 r => simp only [Tr.dat, PyData.canLay0, PyData.canLayAll0, strOk_ch c2, TrsAt.lay ks _ r, Bool.and_self]
theorem TrsAt.lay : ∀ (ts : List Tr) (vs : List V), TrsAt ok H vs ts → PyData.canLayAll0 (dats ts) = true
  | [], _, _ => by simp only [dats, PyData.canLayAll0]
  | t :: r, _, x => by
    cases x with
    | cons a b => simp only [dats, PyData.canLayAll0, TrAt.lay t _ a, TrsAt.lay r _ b, Bool.and_self]
end
mutual
theorem TrAt.dp : ∀ (t : Tr) (v : V), TrAt ok H v t → Dp K H v t.dat
  | .node c ks, v, x => by
    cases x with
    | node h1 h2 k1 k2 c1 c2 r =>
      simp only [Tr.dat]
      exact .tup (SqT.of h1) (.cons (.str _) (.cons (.lst (SqL.of h2) (TrsAt.dp ks _ r)) .nil))
theorem TrsAt.dp : ∀ (ts : List Tr) (vs : List V), TrsAt ok H vs ts → DpAll K H vs (dats ts)
  | [], _, x => by cases x; exact .nil
  | t :: r, _, x => by
    cases x with
    | cons a b => exact .cons (TrAt.dp t _ a) (TrsAt.dp r _ b)
end
theorem shaped_tr {v : V} {t : Tr} (x : TrAt ok H v t) (h : t.depth ≤ 32) : SeqAt.shaped t.dat = true := by
  unfold SeqAt.shaped
  rw [Bool.and_eq_true]
  exact ⟨TrAt.lay t v x, decide_eq_true (by have := dat_depth t; omega)⟩
theorem shaped_trs {vs : List V} {ts : List Tr} (x : TrsAt ok H vs ts) (h : depths ts ≤ 31) : SeqAt.shaped (.list (dats ts)) = true := by
  unfold SeqAt.shaped
  rw [Bool.and_eq_true]
  refine ⟨by simp only [PyData.canLay0]; exact TrsAt.lay ts vs x, decide_eq_true ?_⟩
  have := dats_depth ts
  simp only [PyData.depth]
  omega
end
def DatOk (K : PySem.W.Frag) (H : Hp) (v : V) : Prop := ∃ d, Dp K H v d ∧ d.canLay0 = true ∧ d.depth ≤ 63
theorem DatOk.all {K : PySem.W.Frag} {H : Hp} : ∀ {vs : List V}, (∀ v ∈ vs, DatOk K H v) → ∃ ds, DpAll K H vs ds ∧ SeqAt.shaped (.list ds) = true ∧ ds.length = vs.length
  | [], _ => ⟨[], .nil, by decide +kernel, rfl⟩
  | v :: r, h => by
    obtain ⟨d, h1, h2, h3⟩ := h v List.mem_cons_self
    obtain ⟨ds, g1, g2, g3⟩ := DatOk.all (vs := r) fun u hu => h u (List.mem_cons_of_mem _ hu)
    unfold SeqAt.shaped at g2
    rw [Bool.and_eq_true] at g2
    have g4 := of_decide_eq_true g2.2
    have g5 := g2.1
    simp only [PyData.canLay0] at g5
    simp only [PyData.depth] at g4
    refine ⟨d :: ds, .cons h1 g1, ?_, by simp only [List.length_cons, g3]⟩
    unfold SeqAt.shaped
    rw [Bool.and_eq_true]
    refine ⟨by simp only [PyData.canLay0, PyData.canLayAll0, h2, g5, Bool.and_self], decide_eq_true ?_⟩
    simp only [PyData.depth, PyData.depthAll]
    omega
theorem datOk_int {K : PySem.W.Frag} {H : Hp} (i : Int) : DatOk K H (.int i) := ⟨.int i, .int i, by simp only [PyData.canLay0], by simp only [PyData.depth]; omega⟩
theorem datOk_tr {K : PySem.W.Frag} {H : Hp} {ok : Addr → Prop} {v : V} {t : Tr} (x : TrAt ok H v t) (h : t.depth ≤ 31) : DatOk K H v := ⟨t.dat, TrAt.dp t v x, TrAt.lay t v x, by have := dat_depth t; omega⟩
theorem eqv_nil (ds : List PyData) : PyData.eqv (.list ds) (.list []) = decide (ds.length = 0) := by
  cases ds with
  | nil => simp [PyData.eqv, PyData.eqvAll]
  | cons d r => simp [PyData.eqv, PyData.eqvAll]
theorem shaped_nil : SeqAt.shaped (.list []) = true := by decide +kernel
theorem dp_nil {K : PySem.W.Frag} {H : Hp} {a : Addr} (h : H a = some (.lst [])) : Dp K H (.ref a) (.list []) := .lst (SqL.of h) .nil


def sp_is_letter : Sp := fun vs H Q _ => ∃ c : Nat, vs = [.str (ch c)] ∧ 97 ≤ c ∧ c ≤ 122 ∧ Q (.bl true) H
def sp__is_part : Sp := fun vs H Q _ => ∃ (v : V) (t : Tr), vs = [v] ∧ TrAt (fun _ => True) H v t ∧ Q (.bl true) H
def sp_is_tree : Sp := fun vs H Q _ => ∃ (v : V) (t : Tr), vs = [v] ∧ TrAt (fun _ => True) H v t ∧ t.size ≤ 1000000 ∧ ∀ H', Same H H' → Q (.bl true) H'
def sp_check_tree : Sp := fun vs H Q _ => ∃ (v : V) (t : Tr), vs = [v] ∧ TrAt (fun _ => True) H v t ∧ t.size ≤ 1000000 ∧ ∀ H', Same H H' → Q .non H'
def sp_parts_upward : Sp := fun vs H Q _ => ∃ (v : V) (t : Tr) (ok : Addr → Prop), vs = [v] ∧ TrAt ok H v t ∧ t.size ≤ 1000000 ∧
  ∀ r ws H', Same H H' → H r = none → H' r = some (.lst ws) → TrsAt (fun b => ok b ∧ H b ≠ none) H' ws t.post → Q (.ref r) H'
theorem le_a {c : Nat} (h : 97 ≤ c) : (!decide ((ch c).cps.toList < (Str.ofString "a").cps.toList)) = true := by
  have e : (Str.ofString "a").cps.toList = [97] := by decide +kernel
  rw [e]
  show (!decide (([c] : List Nat) < [97])) = true
  have : ¬ (([c] : List Nat) < [97]) := by
    intro q
    have := List.cons_lt_cons_iff.mp q
    rcases this with z | ⟨z, y⟩
    · omega
    · exact absurd y (by decide)
  simp [this]
theorem le_z {c : Nat} (h : c ≤ 122) : (!decide ((Str.ofString "z").cps.toList < (ch c).cps.toList)) = true := by
  have e : (Str.ofString "z").cps.toList = [122] := by decide +kernel
  rw [e]
  show (!decide (([122] : List Nat) < [c])) = true
  have : ¬ (([122] : List Nat) < [c]) := by
    intro q
    have := List.cons_lt_cons_iff.mp q
    rcases this with z | ⟨z, y⟩
    · omega
    · exact absurd y (by decide)
  simp [this]
theorem concat_of {α : Type} {l : List α} (h : l ≠ []) : ∃ a b, l = a ++ [b] := ⟨l.dropLast, l.getLast h, (List.dropLast_concat_getLast h).symm⟩
section
variable {P : Program} {w : World} {K : PySem.W.Frag} {mg : Str → Option Value} {base : Heap}
theorem ok_is_letter (T : Txt K mg) : FnOk P w K mg base CX0 1 T.f_is_letter T.d_is_letter ["thing"] sp_is_letter := by
  refine T.F_is_letter.ok sc_is_letter (fun vs H Q E h => ?_) (fun cdv A outer s H vs Q E hr h => ?_)
  · obtain ⟨c, rfl, _⟩ := h
    rfl
  obtain ⟨c, rfl, h0, h1, q⟩ := h
  refine ⟨_, (pss_one (ps_ret (pe_and (pe_callB call_isi (by rfl) T.z_isinstance (by decide +kernel) (pa_cons (pv 0) (pa_cons (pe_bltn (v := .ty "str") (by rfl) T.z_str (by decide +kernel) rfl) pa_nil))) (pe_and (pe_cmpR op_eq (pe_callB call_len_str (by rfl) T.z_len PySem.boot_len (pa_cons (pv 0) pa_nil)) pe_int (nomark _)) (pe_one (pe_chain op_le_str op_le_str pe_str (pv 0) pe_str)))))), ?_⟩
  refine ⟨_, rfl, _, _, _, _, true, rfl, .ty "str", .base (.str _), kit_ty (by decide +kernel), _, rfl, iteT ?_⟩
  refine ⟨_, rfl, _, rfl, (by show 1 ≤ sizeLine; decide), rfl, _, rfl, iteT ?_⟩
  refine ⟨_, rfl, _, _, rfl, rfl, _, rfl, ?_⟩
  rw [if_pos (le_a h0)]
  refine ⟨_, _, rfl, rfl, ?_⟩
  rw [le_z h1]
  exact q
theorem ok__is_part (T : Txt K mg) : FnOk P w K mg base CX0 2 T.f__is_part T.d__is_part ["thing"] sp__is_part := by
  have G_is_letter : FnOk P w K mg base CX0 1 T.f_is_letter T.d_is_letter ["thing"] sp_is_letter := ok_is_letter T
  refine T.F__is_part.ok sc__is_part (fun vs H Q E h => ?_) (fun cdv A outer s H vs Q E hr h => ?_)
  · obtain ⟨v, t, rfl, _⟩ := h
    rfl
  obtain ⟨v, t, rfl, ht, q⟩ := h
  refine ⟨_, (pss_cons (ps_if (PW.pt (pw_or (pt_not (pt_val (pe_callB call_isi (by rfl) T.z_isinstance (by decide +kernel) (pa_cons (pv 0) (pa_cons (pe_bltn (v := .ty "tuple") (by rfl) T.z_tuple (by decide +kernel) rfl) pa_nil))))) (pw_or1 (pt_cmpR op_ne (pe_callB call_len_seq (by rfl) T.z_len PySem.boot_len (pa_cons (pv 0) pa_nil)) pe_int (nomark _))))) (pss_one (ps_ret pe_bl)) pss_nil) (pss_one (ps_ret (pe_and (pe_call G_is_letter (hr.mono (by omega)) (by rfl) T.m_is_letter T.F_is_letter.kp T.b_is_letter .nil pass0 (pa_cons (pe_ix ix_tup (pv 0) pe_int (fun _ _ => rfl)) pa_nil)) (pe_one (pe_callB call_isi (by rfl) T.z_isinstance (by decide +kernel) (pa_cons (pe_ix ix_tup (pv 0) pe_int (fun _ _ => rfl)) (pa_cons (pe_bltn (v := .ty "list") (by rfl) T.z_list (by decide +kernel) rfl) pa_nil)))))))), ?_⟩
  obtain ⟨c, ks⟩ := t
  cases ht with
  | node h1 h2 _ _ c1 c2 _ =>
    refine ⟨_, rfl, _, _, _, _, true, rfl, .ty "tuple", .base (.tup h1), kit_ty (by decide +kernel), _, rfl, iteF ?_⟩
    refine ⟨_, rfl, _, _, rfl, .inr (SqT.of h1), rfl, _, rfl, iteF ?_⟩
    refine ⟨_, rfl, _, _, 0, _, rfl, rfl, SqT.of h1, atI_nat (j := 0) rfl, _, rfl, c1, c2, _, rfl, iteT ?_⟩
    exact ⟨_, rfl, _, _, 1, _, rfl, rfl, SqT.of h1, atI_nat (j := 1) rfl, _, _, _, _, true, rfl, .ty "list", .base (.lst h2), kit_ty (by decide +kernel), q⟩
theorem ok_is_tree (T : Txt K mg) : FnOk P w K mg base CX0 3 T.f_is_tree T.d_is_tree ["thing"] sp_is_tree := by
  have G__is_part : FnOk P w K mg base CX0 2 T.f__is_part T.d__is_part ["thing"] sp__is_part := ok__is_part T
  refine T.F_is_tree.ok sc_is_tree (fun vs H Q E h => ?_) (fun cdv A outer s H vs Q E hr h => ?_)
  · obtain ⟨v, t, rfl, _⟩ := h
    rfl
  obtain ⟨v, t, rfl, ht, hz, q⟩ := h
  refine ⟨_, (pss_cons (ps_set (i := 1) sc_is_tree.nd rfl (Or.inl rfl) (pe_lst (pa_cons (pv 0) pa_nil))) (pss_cons (ps_while PassesOwn.never (pt_truth (pv 1) (by intro _; rfl)) (pss_cons (ps_set (i := 2) sc_is_tree.nd rfl (Or.inl rfl) (pe_bm0 PySem.F.plainAttrs_list PySem.F.slot_list_pop PySem.F.type_list_pop mt_pop (pv 1))) (pss_cons (ps_if (pt_not (pt_val (pe_call G__is_part (hr.mono (by omega)) (by rfl) T.m__is_part T.F__is_part.kp T.b__is_part .nil pass0 (pa_cons (pv 2) pa_nil)))) (pss_one (ps_ret pe_bl)) pss_nil) (pss_one (ps_expr (pe_bm PySem.F.plainAttrs_list PySem.F.slot_list_extend PySem.F.type_list_extend mt_extend (pv 1) (pa_cons (pe_ix ix_tup (pv 2) pe_int (fun _ _ => rfl)) pa_nil))))))) (pss_one (ps_ret pe_bl)))), ?_⟩
  refine ⟨_, rfl, (by show 1 ≤ sizeLine; decide), fun p hp => ?_⟩
  refine ⟨fun m σ H' => ∃ y ws ts, σ = [some v, some (.ref p), y] ∧ H' p = some (.lst ws) ∧ TrsAt (fun b => True ∧ b ≠ p) H' ws ts ∧ sizes ts = m ∧ m ≤ 1000000 ∧ Same H H',
    ⟨t.size, none, [v], [t], rfl, upd_same, .cons ((ht.off hp).same (same_new hp)) .nil, by simp only [sizes]; omega, hz, same_new hp⟩, ?_⟩
  rintro m σ H' ⟨y, ws, ts, rfl, hw, hts, hm, hm2, hs⟩
  by_cases he : ws = []
  · subst he
    refine ⟨_, rfl, false, .inl ⟨_, SqL.of hw, rfl⟩, iteF ?_⟩
    exact q _ hs
  · refine ⟨_, rfl, true, .inl ⟨_, SqL.of hw, by cases ws with | nil => exact absurd rfl he | cons a b => rfl⟩, iteT ?_⟩
    obtain ⟨ws', x, rfl⟩ := concat_of he
    obtain ⟨ts', tl, rfl, h1, h2⟩ := TrsAt.split hts
    cases h2 with
    | cons hx hn =>
      cases hn
      rename_i tx
      obtain ⟨c, ks⟩ := tx
      refine ⟨fun σ2 H2 => ∃ y ws ts, σ2 = [some v, some (.ref p), y] ∧ H2 p = some (.lst ws) ∧ TrsAt (fun b => True ∧ b ≠ p) H2 ws ts ∧ sizes ts < m ∧ Same H H2, fun σ2 H2 ⟨y, ws, ts, e1, e2, e3, e4, e5⟩ => ⟨sizes ts, e4, y, ws, ts, e1, e2, e3, rfl, by omega, e5⟩, ?_⟩
      refine ⟨_, rfl, .inl ⟨rfl, _, SqL.of hw⟩, _, _, x, rfl, rfl, hw, by simp, ?_⟩
      have kp : ∀ b u, (True ∧ b ≠ p) → H' b = some u → (upd H' p (.lst (ws' ++ [x]).dropLast)) b = some u := upd_keep fun b h => h.2
      have hx2 := hx.keep kp
      have hp3 : (upd H' p (.lst (ws' ++ [x]).dropLast)) p = some (.lst ws') := by rw [upd_same, List.dropLast_concat]
      refine ⟨_, rfl, x, _, rfl, hx2.weak fun _ _ => trivial, _, rfl, iteF ?_⟩
      cases hx2 with
      | node g1 g2 k1 k2 c1 c2 r =>
        have ll := r.len
        have l2 := h1.len
        have l3 := len_sizes ts'
        have l4 := len_sizes ks
        rw [sizes_append] at hm
        simp only [sizes, Tr.size] at hm
        refine ⟨_, rfl, .inl ⟨rfl, _, SqL.of hp3⟩, _, rfl, _, _, 1, _, rfl, rfl, SqT.of g1, atI_nat (j := 1) rfl, p, _, ws', _, rfl, rfl, hp3, g2, ?_, ?_⟩
        · exact Nat.le_trans (show ws'.length + _ ≤ 1000000 by omega) (by decide)
        · refine ⟨some _, _, ts' ++ ks, rfl, upd_same, ?_, ?_, ?_⟩
          · exact ((h1.keep kp).append r).keep (upd_keep fun b h => h.2)
          · rw [sizes_append]
            omega
          · exact same_add (same_add hs hp) hp
theorem ok_check_tree (T : Txt K mg) : FnOk P w K mg base CX0 4 T.f_check_tree T.d_check_tree ["thing"] sp_check_tree := by
  have G_is_tree : FnOk P w K mg base CX0 3 T.f_is_tree T.d_is_tree ["thing"] sp_is_tree := ok_is_tree T
  refine T.F_check_tree.ok sc_check_tree (fun vs H Q E h => ?_) (fun cdv A outer s H vs Q E hr h => ?_)
  · obtain ⟨v, t, rfl, _⟩ := h
    rfl
  obtain ⟨v, t, rfl, ht, hz, q⟩ := h
  refine ⟨_, (pss_one (ps_if (pt_not (pt_val (pe_call G_is_tree (hr.mono (by omega)) (by rfl) T.m_is_tree T.F_is_tree.kp T.b_is_tree .nil pass0 (pa_cons (pv 0) pa_nil)))) (pss_one ps_never) pss_nil)), ?_⟩
  refine ⟨_, rfl, v, t, rfl, ht, hz, fun H' hs => ⟨_, rfl, iteF ?_⟩⟩
  exact q _ hs
theorem ok_parts_upward (T : Txt K mg) : FnOk P w K mg base CX0 5 T.f_parts_upward T.d_parts_upward ["tree"] sp_parts_upward := by
  have G_check_tree : FnOk P w K mg base CX0 4 T.f_check_tree T.d_check_tree ["thing"] sp_check_tree := ok_check_tree T
  refine T.F_parts_upward.ok sc_parts_upward (fun vs H Q E h => ?_) (fun cdv A outer s H vs Q E hr h => ?_)
  · obtain ⟨v, t, ok, rfl, _⟩ := h
    rfl
  obtain ⟨v, t, ok, rfl, ht, hz, q⟩ := h
  refine ⟨_, (pss_cons (ps_expr (pe_call G_check_tree (hr.mono (by omega)) (by rfl) T.m_check_tree T.F_check_tree.kp T.b_check_tree .nil pass0 (pa_cons (pv 0) pa_nil))) (pss_cons (ps_set (i := 1) sc_parts_upward.nd rfl (Or.inl rfl) (pe_lst pa_nil)) (pss_cons (ps_set (i := 2) sc_parts_upward.nd rfl (Or.inl rfl) (pe_lst (pa_cons (pv 0) pa_nil))) (pss_cons (ps_while PassesOwn.never (pt_truth (pv 2) (by intro _; rfl)) (pss_cons (ps_set (i := 3) sc_parts_upward.nd rfl (Or.inl rfl) (pe_bm0 PySem.F.plainAttrs_list PySem.F.slot_list_pop PySem.F.type_list_pop mt_pop (pv 2))) (pss_cons (ps_expr (pe_bm PySem.F.plainAttrs_list PySem.F.slot_list_append PySem.F.type_list_append mt_append (pv 1) (pa_cons (pv 3) pa_nil))) (pss_one (ps_expr (pe_bm PySem.F.plainAttrs_list PySem.F.slot_list_extend PySem.F.type_list_extend mt_extend (pv 2) (pa_cons (pe_ix ix_tup (pv 3) pe_int (fun _ _ => rfl)) pa_nil))))))) (pss_one (ps_ret (pe_revL (pv 1)))))))), ?_⟩
  refine ⟨_, rfl, v, t, rfl, ht.weak fun _ _ => trivial, hz, fun H1 s1 => ?_⟩
  have ht1 := ((TrAt.there t v ht).same s1).weak (ok' := fun b => ok b ∧ H b ≠ none) fun b ⟨k, o, e⟩ => ⟨k, by rw [e]; simp⟩
  refine ⟨(by show 0 ≤ sizeLine; decide), fun a ha => ?_⟩
  refine ⟨_, rfl, (by show 1 ≤ sizeLine; decide), fun p hp => ?_⟩
  have nap : a ≠ p := fun e => by rw [e, upd_same] at hp; cases hp
  have hp1 : H1 p = none := by rw [upd_ne (fun e => nap e.symm)] at hp; exact hp
  have ha0 : H a = none := s1.free ha
  have hp0 : H p = none := s1.free hp1
  have oka : ∀ b, (ok b ∧ H b ≠ none) → b ≠ a := fun b h e => h.2 (by rw [e]; exact ha0)
  have okp : ∀ b, (ok b ∧ H b ≠ none) → b ≠ p := fun b h e => h.2 (by rw [e]; exact hp0)
  refine ⟨fun m σ H' => ∃ y as tas ws ts, σ = [some v, some (.ref a), some (.ref p), y] ∧ H' a = some (.lst as) ∧ H' p = some (.lst ws) ∧ TrsAt (fun b => ok b ∧ H b ≠ none) H' as tas ∧ TrsAt (fun b => ok b ∧ H b ≠ none) H' ws ts ∧
      tas ++ (posts ts).reverse = t.post.reverse ∧ sizes ts = m ∧ Same H H',
    ⟨t.size, none, [], [], [v], [t], rfl, by rw [upd_ne nap]; exact upd_same, upd_same, .nil, .cons ((ht1.keep (upd_keep oka)).keep (upd_keep okp)) .nil, by simp only [posts, List.append_nil, List.nil_append], by simp only [sizes]; omega, same_add (same_add s1 ha0) hp0⟩, ?_⟩
  rintro m σ H' ⟨y, as, tas, ws, ts, rfl, hA, hw, hta, hts, hpo, hm, hs⟩
  have hlen : tas.length + sizes ts = t.size := by
    have := congrArg List.length hpo
    rw [List.length_append, List.length_reverse, List.length_reverse, posts_len, post_len] at this
    exact this
  by_cases he : ws = []
  · subst he
    cases hts
    refine ⟨_, rfl, false, .inl ⟨_, SqL.of hw, rfl⟩, iteF ?_⟩
    refine ⟨_, rfl, a, as, rfl, SqL.of hA, fun r hr' => ?_⟩
    have hr0 : H r = none := hs.free hr'
    refine q r as.reverse _ (same_add hs hr0) hr0 upd_same ?_
    have e : tas.reverse = t.post := by
      simp only [posts, List.reverse_nil, List.append_nil] at hpo
      rw [hpo, List.reverse_reverse]
    rw [← e]
    exact hta.rev.keep (upd_keep fun b h e => h.2 (by rw [e]; exact hr0))
  · refine ⟨_, rfl, true, .inl ⟨_, SqL.of hw, by cases ws with | nil => exact absurd rfl he | cons a b => rfl⟩, iteT ?_⟩
    obtain ⟨ws', x, rfl⟩ := concat_of he
    obtain ⟨ts', tl, rfl, h1, h2⟩ := TrsAt.split hts
    cases h2 with
    | cons hx hn =>
      cases hn
      rename_i tx
      obtain ⟨c, ks⟩ := tx
      rw [sizes_append] at hm hlen
      simp only [sizes, Tr.size] at hm hlen
      refine ⟨fun σ2 H2 => ∃ y as tas ws ts, σ2 = [some v, some (.ref a), some (.ref p), y] ∧ H2 a = some (.lst as) ∧ H2 p = some (.lst ws) ∧ TrsAt (fun b => ok b ∧ H b ≠ none) H2 as tas ∧ TrsAt (fun b => ok b ∧ H b ≠ none) H2 ws ts ∧
        tas ++ (posts ts).reverse = t.post.reverse ∧ sizes ts < m ∧ Same H H2, fun σ2 H2 ⟨y, as, tas, ws, ts, e1, e2, e3, e4, e5, e6, e7, e8⟩ => ⟨sizes ts, e7, y, as, tas, ws, ts, e1, e2, e3, e4, e5, e6, rfl, e8⟩, ?_⟩
      refine ⟨_, rfl, .inl ⟨rfl, _, SqL.of hw⟩, _, _, x, rfl, rfl, hw, by simp, ?_⟩
      have kp : ∀ b u, (ok b ∧ H b ≠ none) → H' b = some u → (upd H' p (.lst (ws' ++ [x]).dropLast)) b = some u := upd_keep okp
      have hA2 : (upd H' p (.lst (ws' ++ [x]).dropLast)) a = some (.lst as) := by rw [upd_ne nap]; exact hA
      have la := hta.len
      refine ⟨_, rfl, .inl ⟨rfl, _, SqL.of hA2⟩, _, rfl, a, as, x, rfl, rfl, hA2, Nat.lt_of_le_of_lt (show as.length ≤ 1000000 by omega) (by decide), ?_⟩
      have hx3 := (hx.keep kp).keep (upd_keep (o := .lst (as ++ [x])) oka)
      have hp3 : (upd (upd H' p (.lst (ws' ++ [x]).dropLast)) a (.lst (as ++ [x]))) p = some (.lst ws') := by
        rw [upd_ne (fun e => nap e.symm), upd_same, List.dropLast_concat]
      have hx3' := hx3
      cases hx3 with
      | node g1 g2 k1 k2 c1 c2 r =>
        have ll := r.len
        have l2 := h1.len
        have l3 := len_sizes ts'
        have l4 := len_sizes ks
        refine ⟨_, rfl, .inl ⟨rfl, _, SqL.of hp3⟩, _, rfl, _, _, 1, _, rfl, rfl, SqT.of g1, atI_nat (j := 1) rfl, p, _, ws', _, rfl, rfl, hp3, g2, ?_, ?_⟩
        · exact Nat.le_trans (show ws'.length + _ ≤ 1000000 by omega) (by decide)
        · refine ⟨some _, as ++ [_], tas ++ [Tr.node c ks], _, ts' ++ ks, rfl, by rw [upd_ne nap]; exact upd_same, upd_same, ?_, ?_, ?_, ?_, ?_⟩
          · exact (((hta.keep kp).keep (upd_keep oka)).append (.cons hx3' .nil)).keep (upd_keep okp)
          · exact (((h1.keep kp).keep (upd_keep oka)).append r).keep (upd_keep okp)
          · rw [← hpo, posts_append, posts_append]
            simp only [posts, Tr.post, List.reverse_append, List.append_assoc, List.append_nil, List.reverse_cons, List.reverse_nil, List.nil_append, List.singleton_append, List.cons_append]
          · rw [sizes_append]
            omega
          · exact same_add (same_add (same_add hs hp0) ha0) hp0
end

def brk : List Nat → List Nat
  | [] => []
  | x :: l => 40 :: ((x :: l) ++ [41])
mutual
def Tr.wr : Tr → List Nat
  | .node c ks => c :: brk (wrs ks)
def wrs : List Tr → List Nat
  | [] => []
  | t :: r => t.wr ++ wrs r
end
def leW (a b : Tr) : Bool := decide (a.wr ≤ b.wr)
mutual
def Tr.told : Tr → Tr
  | .node c ks => .node c ((tolds ks).mergeSort leW)
def tolds : List Tr → List Tr
  | [] => []
  | t :: r => t.told :: tolds r
end
theorem tolds_map : ∀ ts : List Tr, tolds ts = ts.map Tr.told
  | [] => rfl
  | t :: r => by simp only [tolds, List.map_cons, tolds_map r]
theorem tolds_len (ts : List Tr) : (tolds ts).length = ts.length := by rw [tolds_map, List.length_map]
theorem wrs_append : ∀ a b : List Tr, wrs (a ++ b) = wrs a ++ wrs b
  | [], b => rfl
  | t :: r, b => by simp only [List.cons_append, wrs, wrs_append r b, List.append_assoc]
theorem leW_trans (a b c : Tr) (h : leW a b = true) (g : leW b c = true) : leW a c = true :=
  decide_eq_true (List.le_trans (of_decide_eq_true h) (of_decide_eq_true g))
theorem leW_total (a b : Tr) : (leW a b || leW b a) = true := by
  rcases List.le_total a.wr b.wr with h | h
  · simp [leW, h]
  · simp [leW, h]
abbrev Ltr (c : Nat) : Prop := 97 ≤ c ∧ c ≤ 122
theorem wr_ne (t : Tr) : t.wr ≠ [] := by
  cases t
  simp [Tr.wr]
theorem wr_head {t : Tr} (h : t.lets Ltr) : ∃ c l, t.wr = c :: l ∧ 97 ≤ c := by
  cases t with
  | node c ks =>
    simp only [Tr.lets] at h
    exact ⟨c, _, rfl, h.1.1⟩
theorem wrs_ne {t : Tr} {r : List Tr} : ∃ x l, wrs (t :: r) = x :: l := by
  cases t
  simp [wrs, Tr.wr]
theorem brk_wrs (t : Tr) (r : List Tr) : brk (wrs (t :: r)) = 40 :: (wrs (t :: r) ++ [41]) := by
  obtain ⟨x, l, e⟩ := wrs_ne (t := t) (r := r)
  rw [e]
  rfl
def nb (u : List Nat) : Prop := u.head? ≠ some 40
mutual
theorem wr_inj : ∀ (a b : Tr) (u v : List Nat), a.lets Ltr → b.lets Ltr → a.wr ++ u = b.wr ++ v → nb u → nb v → a = b ∧ u = v
  | .node c ks, .node d js, u, v, ha, hb, h, hu, hv => by
    simp only [Tr.lets] at ha hb
    simp only [Tr.wr, List.cons_append, List.cons.injEq] at h
    obtain ⟨rfl, h⟩ := h
    cases ks with
    | nil =>
      cases js with
      | nil => exact ⟨rfl, h⟩
      | cons j js =>
        obtain ⟨x, l, e⟩ := wrs_ne (t := j) (r := js)
        rw [e] at h
        simp only [wrs, brk, List.nil_append, List.cons_append] at h
        rw [h] at hu
        exact absurd rfl hu
    | cons k ks =>
      rw [brk_wrs k ks] at h
      cases js with
      | nil =>
        simp only [wrs, brk, List.nil_append, List.cons_append] at h
        rw [← h] at hv
        exact absurd rfl hv
      | cons j js =>
        rw [brk_wrs j js] at h
        simp only [List.cons_append, List.append_assoc, List.cons.injEq, true_and, List.singleton_append] at h
        obtain ⟨e1, e2⟩ := wrs_inj (k :: ks) (j :: js) u v ha.2 hb.2 h
        exact ⟨by rw [e1], e2⟩
theorem wrs_inj : ∀ (ks js : List Tr) (u v : List Nat), letss Ltr ks → letss Ltr js → wrs ks ++ 41 :: u = wrs js ++ 41 :: v → ks = js ∧ u = v
  | [], [], u, v, _, _, h => ⟨rfl, by simpa [wrs] using h⟩
  | [], j :: js, u, v, _, hb, h => by
    simp only [letss] at hb
    obtain ⟨c, l, e, hc⟩ := wr_head hb.1
    simp only [wrs, e, List.nil_append, List.cons_append, List.cons.injEq] at h
    omega
  | k :: ks, [], u, v, ha, _, h => by
    simp only [letss] at ha
    obtain ⟨c, l, e, hc⟩ := wr_head ha.1
    simp only [wrs, e, List.nil_append, List.cons_append, List.cons.injEq] at h
    omega
  | k :: ks, j :: js, u, v, ha, hb, h => by
    simp only [letss] at ha hb
    simp only [wrs, List.append_assoc] at h
    have nbk : ∀ (l : List Tr) (w : List Nat), letss Ltr l → nb (wrs l ++ 41 :: w) := by
      intro l w hl
      cases l with
      | nil => simp [nb, wrs]
      | cons a b =>
        simp only [letss] at hl
        obtain ⟨c, m, e, hc⟩ := wr_head hl.1
        simp only [nb, wrs, e, List.cons_append, List.head?_cons]
        intro h
        cases h
        omega
    have := wr_inj k j _ _ ha.1 hb.1 h (nbk _ _ ha.2) (nbk _ _ hb.2)
    obtain ⟨rfl, h2⟩ := this
    obtain ⟨rfl, h3⟩ := wrs_inj ks js u v ha.2 hb.2 h2
    exact ⟨rfl, h3⟩
end
theorem wr_eq {a b : Tr} (ha : a.lets Ltr) (hb : b.lets Ltr) (h : a.wr = b.wr) : a = b :=
  (wr_inj a b [] [] ha hb (by rw [h]) (by simp [nb]) (by simp [nb])).1
mutual
theorem told_lets {p : Nat → Prop} : ∀ t : Tr, t.lets p → t.told.lets p
  | .node c ks, h => by
    simp only [Tr.lets, Tr.told] at h ⊢
    exact ⟨h.1, letss_perm (List.mergeSort_perm _ _).symm (tolds_lets ks h.2)⟩
theorem tolds_lets {p : Nat → Prop} : ∀ ts : List Tr, letss p ts → letss p (tolds ts)
  | [], _ => trivial
  | t :: r, h => by
    simp only [letss, tolds] at h ⊢
    exact ⟨told_lets t h.1, tolds_lets r h.2⟩
end
theorem sorted_is {a b : List Tr} (ha : letss Ltr b) (hp : a.Perm b) (hs : a.Pairwise fun x y => leW x y = true) : a = b.mergeSort leW := by
  refine List.Perm.eq_of_pairwise (le := fun x y => leW x y = true) ?_ hs (List.pairwise_mergeSort leW_trans leW_total _) (hp.trans (List.mergeSort_perm _ _).symm)
  intro x y hx hy h g
  have hx2 := letss_mem ha (hp.mem_iff.mp hx)
  have hy2 := letss_mem ha ((List.mergeSort_perm _ _).mem_iff.mp hy)
  exact wr_eq hx2 hy2 (List.le_antisymm (of_decide_eq_true h) (of_decide_eq_true g))
theorem sort_perm {a b : List Tr} (ha : letss Ltr b) (hp : a.Perm b) : a.mergeSort leW = b.mergeSort leW :=
  sorted_is ha ((List.mergeSort_perm _ _).trans hp) (List.pairwise_mergeSort leW_trans leW_total _)
theorem tolds_perm {a b : List Tr} (h : a.Perm b) : (tolds a).Perm (tolds b) := by
  rw [tolds_map, tolds_map]
  exact h.map _
mutual
theorem Sh.told : ∀ {t u : Tr}, Sh t u → t.lets Ltr → t.told = u.told
  | _, _, .node (ks := ks) (us := us) (ls := ls) p h, hl => by
    simp only [Tr.lets] at hl
    simp only [Tr.told]
    have e := Shs.told h (letss_perm p hl.2)
    rw [sort_perm (tolds_lets _ (letss_perm p hl.2)) (tolds_perm p), e]
theorem Shs.told : ∀ {ts us : List Tr}, Shs ts us → My.letss Ltr ts → tolds ts = tolds us
  | _, _, .nil, _ => rfl
  | _, _, .cons a b, hl => by
    simp only [My.letss] at hl
    simp only [tolds, Sh.told a hl.1, Shs.told b hl.2]
end
theorem sizes_sort (ts : List Tr) : sizes (ts.mergeSort leW) = sizes ts := sizes_perm (List.mergeSort_perm _ _)
theorem depths_sort (ts : List Tr) : depths (ts.mergeSort leW) = depths ts := depths_perm (List.mergeSort_perm _ _)
mutual
theorem told_size : ∀ t : Tr, t.told.size = t.size
  | .node c ks => by simp only [Tr.told, Tr.size, sizes_sort, tolds_sizes ks]
theorem tolds_sizes : ∀ ts : List Tr, sizes (tolds ts) = sizes ts
  | [] => rfl
  | t :: r => by simp only [tolds, sizes, told_size t, tolds_sizes r]
end
mutual
theorem told_depth : ∀ t : Tr, t.told.depth = t.depth
  | .node c ks => by simp only [Tr.told, Tr.depth, depths_sort, tolds_depths ks]
theorem tolds_depths : ∀ ts : List Tr, depths (tolds ts) = depths ts
  | [] => rfl
  | t :: r => by simp only [tolds, depths, told_depth t, tolds_depths r]
end
mutual
theorem wr_len : ∀ t : Tr, t.wr.length ≤ 3 * t.size
  | .node c ks => by
    have := wrs_len ks
    have e : (brk (wrs ks)).length ≤ (wrs ks).length + 2 := by
      cases wrs ks with
      | nil => simp [brk]
      | cons x l => simp [brk]
    simp only [Tr.wr, Tr.size, List.length_cons]
    omega
theorem wrs_len : ∀ ts : List Tr, (wrs ts).length ≤ 3 * sizes ts
  | [] => by simp [wrs]
  | t :: r => by
    have a := wr_len t
    have b := wrs_len r
    simp only [wrs, sizes, List.length_append]
    omega
end
def steps : List Tr → List Tr → Option (List Tr)
  | s, [] => some s
  | s, .node c ks :: r => if ks.length ≤ s.length then steps (s.take (s.length - ks.length) ++ [.node c ((s.drop (s.length - ks.length)).mergeSort leW)]) r else none
mutual
theorem steps_post : ∀ (t : Tr) (s r : List Tr), steps s (t.post ++ r) = steps (s ++ [t.told]) r
  | .node c ks, s, r => by
    have e := steps_posts ks s (.node c ks :: r)
    simp only [Tr.post, List.append_assoc, List.singleton_append]
    rw [e]
    have l := tolds_len ks
    simp only [steps, List.length_append, l, Nat.add_sub_cancel, Nat.le_add_left, if_true, Tr.told]
    rw [List.take_left, List.drop_left]
theorem steps_posts : ∀ (ts : List Tr) (s r : List Tr), steps s (posts ts ++ r) = steps (s ++ tolds ts) r
  | [], s, r => by simp only [posts, tolds, List.nil_append, List.append_nil]
  | t :: ts, s, r => by
    simp only [posts, tolds, List.append_assoc]
    rw [steps_post t s (posts ts ++ r), steps_posts ts (s ++ [t.told]) r]
    simp only [List.append_assoc, List.singleton_append]
end
theorem steps_all (t : Tr) : steps [] t.post = some [t.told] := by
  have := steps_post t [] []
  rw [List.append_nil] at this
  rw [this]
  rfl
mutual
theorem told_told : ∀ t : Tr, t.lets Ltr → t.told.told = t.told
  | .node c ks, h => by
    simp only [Tr.lets] at h
    simp only [Tr.told]
    have e : tolds ((tolds ks).mergeSort leW) = (tolds ks).mergeSort leW := by
      rw [tolds_map]
      have : ∀ x ∈ (tolds ks).mergeSort leW, x.told = x := fun x hx => tolds_fix ks h.2 x ((List.mergeSort_perm _ _).mem_iff.mp hx)
      exact (List.map_congr_left this).trans (List.map_id' _)
    rw [e, sort_perm (tolds_lets ks h.2) (List.mergeSort_perm _ _)]
theorem tolds_fix : ∀ ts : List Tr, letss Ltr ts → ∀ x ∈ tolds ts, x.told = x
  | [], _, x, hx => by simp [tolds] at hx
  | t :: r, h, x, hx => by
    simp only [letss] at h
    simp only [tolds, List.mem_cons] at hx
    rcases hx with rfl | hx
    · exact told_told t h.1
    · exact tolds_fix r h.2 x hx
end

mutual
inductive TrO (ok : Addr → Prop) (H : Hp) : V → Tr → List Addr → Prop
  | node {a l : Addr} {vs : List V} {c : Nat} {ks : List Tr} {as : List Addr} : H a = some (.tup [.str (ch c), .ref l]) → H l = some (.lst vs) → ok a → ok l → 97 ≤ c → c ≤ 122 → TrsO ok H vs ks as → TrO ok H (.ref a) (.node c ks) (l :: as)
inductive TrsO (ok : Addr → Prop) (H : Hp) : List V → List Tr → List Addr → Prop
  | nil : TrsO ok H [] [] []
  | cons {v : V} {vs : List V} {t : Tr} {ts : List Tr} {as bs : List Addr} : TrO ok H v t as → TrsO ok H vs ts bs → TrsO ok H (v :: vs) (t :: ts) (as ++ bs)
end
section
variable {ok ok' : Addr → Prop} {H H' : Hp}
mutual
theorem TrO.imp (hk : ∀ b, ok b → ok' b) (h : ∀ b o, ok b → H b = some o → H' b = some o) : ∀ (t : Tr) (v : V) (as : List Addr), TrO ok H v t as → TrO ok' H' v t as
  | .node c ks, v, as, x => by
    cases x with
    | node h1 h2 k1 k2 c1 c2 r => exact .node (h _ _ k1 h1) (h _ _ k2 h2) (hk _ k1) (hk _ k2) c1 c2 (TrsO.imp hk h ks _ _ r)
theorem TrsO.imp (hk : ∀ b, ok b → ok' b) (h : ∀ b o, ok b → H b = some o → H' b = some o) : ∀ (ts : List Tr) (vs : List V) (as : List Addr), TrsO ok H vs ts as → TrsO ok' H' vs ts as
  | [], vs, as, x => by cases x; exact .nil
  | t :: r, vs, as, x => by
    cases x with
    | cons a b => exact .cons (TrO.imp hk h t _ _ a) (TrsO.imp hk h r _ _ b)
end
theorem TrO.keep {v : V} {t : Tr} {as : List Addr} (x : TrO ok H v t as) (h : ∀ b o, ok b → H b = some o → H' b = some o) : TrO ok H' v t as := TrO.imp (fun _ k => k) h t v as x
theorem TrO.same {v : V} {t : Tr} {as : List Addr} (x : TrO ok H v t as) (s : Same H H') : TrO ok H' v t as := x.keep fun b o _ h => s b o h
theorem TrO.weak {v : V} {t : Tr} {as : List Addr} (x : TrO ok H v t as) (h : ∀ b, ok b → ok' b) : TrO ok' H v t as := TrO.imp h (fun _ _ _ e => e) t v as x
theorem TrsO.keep {vs : List V} {ts : List Tr} {as : List Addr} (x : TrsO ok H vs ts as) (h : ∀ b o, ok b → H b = some o → H' b = some o) : TrsO ok H' vs ts as := TrsO.imp (fun _ k => k) h ts vs as x
theorem TrsO.same {vs : List V} {ts : List Tr} {as : List Addr} (x : TrsO ok H vs ts as) (s : Same H H') : TrsO ok H' vs ts as := x.keep fun b o _ h => s b o h
theorem TrsO.weak {vs : List V} {ts : List Tr} {as : List Addr} (x : TrsO ok H vs ts as) (h : ∀ b, ok b → ok' b) : TrsO ok' H vs ts as := TrsO.imp h (fun _ _ _ e => e) ts vs as x
mutual
theorem TrO.at : ∀ (t : Tr) (v : V) (as : List Addr), TrO ok H v t as → TrAt ok H v t
  | .node c ks, v, as, x => by
    cases x with
    | node h1 h2 k1 k2 c1 c2 r => exact .node h1 h2 k1 k2 c1 c2 (TrsO.at ks _ _ r)
theorem TrsO.at : ∀ (ts : List Tr) (vs : List V) (as : List Addr), TrsO ok H vs ts as → TrsAt ok H vs ts
  | [], vs, as, x => by cases x; exact .nil
  | t :: r, vs, as, x => by
    cases x with
    | cons a b => exact .cons (TrO.at t _ _ a) (TrsO.at r _ _ b)
end
mutual
theorem TrO.lst : ∀ (t : Tr) (v : V) (as : List Addr), TrO ok H v t as → ∀ b ∈ as, ok b ∧ ∃ xs, H b = some (.lst xs)
  | .node c ks, v, as, x => by
    cases x with
    | node h1 h2 k1 k2 c1 c2 r =>
      intro b hb
      rcases List.mem_cons.mp hb with e | hb
      · subst e; exact ⟨k2, _, h2⟩
      · exact TrsO.lst ks _ _ r b hb
theorem TrsO.lst : ∀ (ts : List Tr) (vs : List V) (as : List Addr), TrsO ok H vs ts as → ∀ b ∈ as, ok b ∧ ∃ xs, H b = some (.lst xs)
  | [], vs, as, x => by cases x; intro b hb; cases hb
  | t :: r, vs, as, x => by
    cases x with
    | cons x1 x2 =>
      intro b hb
      rcases List.mem_append.mp hb with hb | hb
      · exact TrO.lst t _ _ x1 b hb
      · exact TrsO.lst r _ _ x2 b hb
end
mutual
theorem TrO.there : ∀ (t : Tr) (v : V) (as : List Addr), TrO ok H v t as → TrO (fun b => ok b ∧ ∃ o, H b = some o) H v t as
  | .node c ks, v, as, x => by
    cases x with
    | node h1 h2 k1 k2 c1 c2 r => exact .node h1 h2 ⟨k1, _, h1⟩ ⟨k2, _, h2⟩ c1 c2 (TrsO.there ks _ _ r)
theorem TrsO.there : ∀ (ts : List Tr) (vs : List V) (as : List Addr), TrsO ok H vs ts as → TrsO (fun b => ok b ∧ ∃ o, H b = some o) H vs ts as
  | [], vs, as, x => by cases x; exact .nil
  | t :: r, vs, as, x => by
    cases x with
    | cons a b => exact .cons (TrO.there t _ _ a) (TrsO.there r _ _ b)
end
theorem TrO.off {v : V} {t : Tr} {as : List Addr} {w : Addr} (x : TrO ok H v t as) (h : H w = none) : TrO (fun b => ok b ∧ b ≠ w) H v t as :=
  (TrO.there t v as x).weak fun b ⟨k, o, e⟩ => ⟨k, ne_of_none e h⟩
theorem TrsO.off {vs : List V} {ts : List Tr} {as : List Addr} {w : Addr} (x : TrsO ok H vs ts as) (h : H w = none) : TrsO (fun b => ok b ∧ b ≠ w) H vs ts as :=
  (TrsO.there ts vs as x).weak fun b ⟨k, o, e⟩ => ⟨k, ne_of_none e h⟩
theorem TrsO.of : ∀ bs : List (V × Tr × List Addr), (∀ b ∈ bs, TrO ok H b.1 b.2.1 b.2.2) → TrsO ok H (bs.map (·.1)) (bs.map (·.2.1)) (bs.map (·.2.2)).flatten
  | [], _ => .nil
  | b :: r, h => by
    simp only [List.map_cons, List.flatten_cons]
    exact .cons (h b (by simp)) (TrsO.of r fun x hx => h x (by simp [hx]))
theorem TrsO.split1 : ∀ {vs : List V} {ts : List Tr} {as : List Addr}, TrsO ok H vs ts as → ∃ bs : List (V × Tr × List Addr), vs = bs.map (·.1) ∧ ts = bs.map (·.2.1) ∧ as = (bs.map (·.2.2)).flatten ∧ ∀ b ∈ bs, TrO ok H b.1 b.2.1 b.2.2
  | _, _, _, .nil => ⟨[], rfl, rfl, rfl, fun _ h => by cases h⟩
  | _, _, _, .cons (v := v) (t := t) (as := as) a b => by
    obtain ⟨bs, rfl, rfl, rfl, h⟩ := TrsO.split1 b
    refine ⟨(v, t, as) :: bs, rfl, rfl, rfl, fun x hx => ?_⟩
    rcases List.mem_cons.mp hx with e | hx
    · subst e; exact a
    · exact h x hx
theorem TrsO.snoc {vs : List V} {ts : List Tr} {as bs : List Addr} {v : V} {t : Tr} (x : TrsO ok H vs ts as) (y : TrO ok H v t bs) : TrsO ok H (vs ++ [v]) (ts ++ [t]) (as ++ bs) := by
  obtain ⟨cs, rfl, rfl, rfl, h⟩ := x.split1
  have := TrsO.of (ok := ok) (H := H) (cs ++ [(v, t, bs)]) (by
    intro b hb
    rcases List.mem_append.mp hb with hb | hb
    · exact h b hb
    · simp only [List.mem_singleton] at hb
      subst hb
      exact y)
  simpa using this
theorem TrsO.len {vs : List V} {ts : List Tr} {as : List Addr} (x : TrsO ok H vs ts as) : vs.length = ts.length := (TrsO.at ts vs as x).len
end
def ws (t : Tr) : Str := ⟨t.wr.toArray⟩
def RowO1 (ok : Addr → Prop) (H : Hp) (b : V × Tr × List Addr) : Prop := ∃ p x, b.1 = .ref p ∧ H p = some (.tup [.str (ws b.2.1), x]) ∧ ok p ∧ TrO ok H x b.2.1 b.2.2
theorem RowO1.imp {ok ok' : Addr → Prop} {H H' : Hp} {b : V × Tr × List Addr} (x : RowO1 ok H b) (hk : ∀ b, ok b → ok' b) (h : ∀ b o, ok b → H b = some o → H' b = some o) : RowO1 ok' H' b := by
  obtain ⟨p, x, e, h1, h2, h3⟩ := x
  exact ⟨p, x, e, h _ _ h2 h1, hk _ h2, TrO.imp hk h _ _ _ h3⟩
theorem RowO1.same {ok : Addr → Prop} {H H' : Hp} {b : V × Tr × List Addr} (x : RowO1 ok H b) (s : Same H H') : RowO1 ok H' b := x.imp (fun _ k => k) fun b o _ h => s b o h
theorem nodup_snoc {α : Type} {as bs : List α} (ha : as.Nodup) (hb : bs.Nodup) (h : ∀ x ∈ as, x ∉ bs) : (as ++ bs).Nodup := by
  rw [List.nodup_append]
  exact ⟨ha, hb, fun a h1 b h2 e => h a h1 (e ▸ h2)⟩

open LamX NdefX in
structure CalX (P : Program) (w : World) (K : PySem.W.Frag) (mg : Str → Option Value) (base : Heap) (k : Nat) (f : Addr) (G : Hp → Prop) (np : Nat) (sp : Sp) : Prop where
  len : ∀ vs H Q E, sp vs H Q E → vs.length = np
  at_ : ∀ (s : Shared) (H : Hp), HOk P w H s.heap → K.In s.heap → G H → PySem.W.FnAt f s.heap
  run : ∀ (A : Around) (outer : List Env) (s : Shared) (H : Hp) (us : List Value) (vs : List V) (Q : VK) (E : XK), Room k A → Env0 P w K mg base A outer s H → G H → Vals vs us → sp vs H Q E → codeAny (model P w) A (.call (.ref f) ⟨us, []⟩) (CR CX0 outer P w H s Q E) s
def tCalX (i : Nat) (f : Addr) (G : Hp → Prop) (sp : Sp) (t : TA) : TE := fun σ H Q => σ[i]? = some (some (.ref f)) ∧ G H ∧ t σ H fun vs H1 => G H1 ∧ sp vs H1 Q C8.E0
theorem pe_calX {X : Cx} {k i np : Nat} {f : Addr} {G : Hp → Prop} {sp : Sp} {x : Str} {p pos : Pos} {e : PySem.Expr} {es : List PySem.Expr} {t : TA}
    (C : CalX X.prog X.w X.K X.mg X.base k f G np sp) (hr : Room k X.A) (hN : X.N[i]? = some x) (hv : Vis X.env.scope x) (ha : PA X (e :: es) t)
    (hdb : (x == ("__debug__" : Str)) = false := by decide) (hcd : (x == ("__classdict__" : Str)) = false := by decide)
    (he : starEach (e :: es) X.env = (false, eval e X.env) :: starEach es X.env := by rfl) (hpl : (backTo pos (starEach es X.env)).any (·.1) = false := by rfl) : PE X (.Call (.Name x p) (e :: es) [] pos) (tCalX i f G sp t) := by
  refine ⟨fun pins s σ H Q I h => ?_⟩
  obtain ⟨hs, hg, ht⟩ := h
  refine wpAny_Call_Name_kw (thn ((pe_var (pos := p) hN hv hdb hcd).run pins s σ H (fun v H1 => v = .ref f ∧ H1 = H) I ⟨.ref f, hs, rfl, rfl⟩) fun u s1 ⟨v, H1, I1, r1, q1⟩ => ?_)
  obtain ⟨ev, eH⟩ := q1
  subst ev
  rw [eH] at I1
  obtain rfl : u = Value.ref f := r1
  refine PySem.W.callWith_F (first := []) (C.at_ s1 H I1.hok I1.kIn hg) (thn (ha.run pos pins s1 σ H _ I1 ht) fun us s2 ⟨vs, H2, I2, r, h1, q⟩ => ⟨C.at_ s2 H2 I2.hok I2.kIn h1, ?_⟩) he hpl
  show wpAny _ _ (call (.ref f) us) _ _ _
  refine wpAny_call (codeAny_mono (C.run X.A X.stack s2 H2 us vs Q C8.E0 hr I2.env0 h1 r q) fun r s' hq => ?_)
  cases r with
  | error e => exact (show False from hq).elim
  | ok fl =>
    cases fl with
    | ret u => exact I2.after hq
    | next => exact False.elim hq
    | brk => exact False.elim hq
    | cont => exact False.elim hq
theorem calX_of {P : Program} {w : World} {K : PySem.W.Frag} {mg : Str → Option Value} {base : Heap} {k : Nat} {x q : Str} {st : Stmt} {f : Addr} {fd : FuncData} {ps : List Str} {sp : Sp} (F : FnOk P w K mg base CX0 k f fd ps sp) (U : Fun K x q st f fd) (hb : Binds K fd ps []) {G : Hp → Prop} : CalX P w K mg base k f G ps.length sp := by
  refine ⟨F.len, fun s H _ hk _ => ?_, fun A outer s H us vs Q E hr e0 _ r h => ?_⟩
  · obtain ⟨oc, od, kV, doc, pm, an, cdv, ct, osl, rfl, lk, hcd⟩ := U.ex
    exact ⟨_, _, _, _, hk _ _ lk⟩
  · have KX : K.In s.heap := e0.mod.kin.keeps fun b o e => (e0.bs b o e).1
    have hl : us.length = ps.length := by rw [← r.length]; exact F.len _ _ _ _ h
    have hb' := hb s us KX (by rw [List.append_nil]; exact hl)
    rw [List.append_nil] at hb'
    exact F.run A outer s H ⟨us, []⟩ us vs Q E hr e0 hb' r h
structure LF where
  qual : Str
  params : Arguments
  body : PySem.Expr
  scope : PySem.Scope
  cl : List (Str × Addr)
  c : Addr
abbrev LF.nf (F : LF) : NdefX.NF := ⟨"<lambda>", F.qual, F.params, [], F.scope, F.cl, F.c⟩
def LamO (f : Addr) (F : LF) : HO := .ext fun h => ∃ pm ctv, h.get? f = some (PySem.W.kla_obj "<lambda>" F.qual F.params F.body F.scope F.cl pm F.c ctv)
theorem lamO_ok {P : Program} {w : World} {H : Hp} {h : Heap} {F : LF} {pm ctv : Value} :
    ObjOk P w H (h.push (PySem.W.kla_obj "<lambda>" F.qual F.params F.body F.scope F.cl pm F.c ctv)) h.objs.size (LamO h.objs.size F) := by
  have e : (h.push (PySem.W.kla_obj "<lambda>" F.qual F.params F.body F.scope F.cl pm F.c ctv)).get? h.objs.size = some (PySem.W.kla_obj "<lambda>" F.qual F.params F.body F.scope F.cl pm F.c ctv) := Heap.get?_push_size _ rfl
  exact ⟨⟨pm, ctv, e⟩, ⟨_, e⟩, fun h1 h2 ⟨a1, a2, e1⟩ k => ⟨a1, a2, k _ e1⟩⟩
theorem calX_lam {P : Program} {w : World} {K : PySem.W.Frag} {mg : Str → Option Value} {base : Heap} {k : Nat} {N ps : List Str} {f : Addr} {F : LF} {sp : Sp} (S : NdefX.NScope N ps [] F.scope) (hcl : F.cl = [])
    (hb : ∀ (pm ctv : Value) (us : List Value), us.length = ps.length → bindArgs (PySem.W.kla_fn "<lambda>" F.qual F.params F.body F.scope F.cl pm (.ref F.c) ctv) ⟨us, []⟩ = pure (ps.zip us)) (len : ∀ vs H Q E, sp vs H Q E → vs.length = ps.length)
    (hbody : ∀ (A : Around) (outer : List Env) (s : Shared) (H : Hp) (vs : List V) (Q : VK) (E : XK), Room k (A.deeper (NdefX.envF F.nf f s.heap.objs.size)) → sp vs H Q E →
      ∃ t, PE (NdefX.ncx CX0 P w K mg base N F.nf f A outer s H E) F.body t ∧ t (NdefX.startF N vs []) H Q) :
    CalX P w K mg base (k + 1) f (fun H => H f = some (LamO f F) ∧ H F.c = some (LamX.CodeO F.c F.qual)) ps.length sp := by
  refine ⟨len, fun s H hok _ hg => ?_, fun A outer s H us vs Q E hr e0 hg r hsp => ?_⟩
  · obtain ⟨⟨pm, ctv, e⟩, _, _⟩ := hok _ _ hg.1
    exact ⟨_, _, _, _, e⟩
  obtain ⟨⟨pm, ctv, ho⟩, _, _⟩ := e0.hok _ _ hg.1
  have hl := len _ _ _ _ hsp
  have lim : s.heap.NoLimit := e0.mod.nolimit.keeps fun b o e => (e0.bs b o e).1
  refine PySem.W.kla_callFunE hr.depth ho rfl S.co S.gen rfl (NdefX.codeO_at e0.hok hg.2) ?_
  rw [hb pm ctv us (by rw [← r.length]; exact hl)]
  refine wpAny_pure (wpAny_newFunctionEnv S.nocell (fun ⟨n, _⟩ hy => S.par n (List.of_mem_zip hy).1) (fun h₁ hns hsb => ⟨lim.fresh _ hsb, ?_⟩) S.kind)
  show codeAny _ _ (.expr F.body (NdefX.envF F.nf f s.heap.objs.size)) _ _
  have kp : ∀ b o, s.heap.get? b = some o → h₁.get? b = some o := fun b o e => hsb.extBut b o (Nat.ne_of_lt (Heap.lt_size e)) (Heap.get?_push_of_some _ e)
  obtain ⟨t, ht, hq⟩ := hbody A outer s H vs Q E (hr.deeper _) hsp
  have C : NdefX.CellsAt F.nf.cl [] [] s.heap H := by
    have e : F.nf.cl = [] := hcl
    rw [e]
    exact ⟨rfl, (fun y c e => by cases e), (fun x y c e => by cases e), (fun i y e => by simp at e)⟩
  have I : Inv (NdefX.ncx CX0 P w K mg base N F.nf f A outer s H E) [] (NdefX.startF N vs []) H { s with heap := h₁, toks := s.toks + (ps.zip us).length } := NdefX.inv_startN S hr.hd e0 hl r C hns kp
  refine PySem.W.kla_codeExpr (wpAny_mono (ht.run [] _ _ H Q I hq) (fun v s' hq => ?_) fun e s' hq => hq)
  obtain ⟨w', H', J', rv, q⟩ := hq
  exact ⟨w', H', J'.os, J'.bare, J'.base, J'.hok, rv, q⟩
theorem pe_lamX {X : Cx} {c P : Addr} {params : Arguments} {body : PySem.Expr} {scope : PySem.Scope} {pos : Pos} (tb : LamX.TabB X.base X.mg c P) (hc : X.env.code = .ref c) (hd : defaultsOf params X.env = ([], []))
    (hfree : ∀ y ∈ scope.names, y.2 = .free → ∃ c, X.env.cells.lookup y.1 = some c) : PE X (.Lambda params body scope pos) (fun σ H Q => LamX.TabS H P (X.env.qual ++ "<lambda>") ∧ ∀ (f c : Addr) (H1 : Hp), Fr P H H1 → (∀ b, H1 b = none → H b = none) → LamX.TabS H1 P (X.env.qual ++ "<lambda>") → H f = none →
      H1 f = some (LamO f ⟨X.env.qual ++ "<lambda>", params, body, scope, cloFrom X.env.cells scope.names [], c⟩) → H1 c = some (LamX.CodeO c (X.env.qual ++ "<lambda>")) → Q (.ref f) H1) := by
  refine ⟨fun pins s σ H Q I h => ?_⟩
  obtain ⟨ht, q⟩ := h
  have hclo : closureFor scope X.env = pure (cloFrom X.env.cells scope.names []) := closure_ok hfree
  have ht' := ht
  obtain ⟨ps, hP, hT, hA⟩ := ht'
  have oP : s.heap.get? P = some (PySem.W.tabObj ps) := I.hok _ _ hP
  refine PySem.W.kla_eval hd ?_
  cases hcd : codeAmong pos ps.toList with
  | some cv =>
    obtain ⟨c', rfl, hc'⟩ := hA _ _ hcd
    refine PySem.W.kla_makeFunctionHit hclo I.ok.glob (I.mod.glob.keeps I.bk) hc (tb.code.keeps I.bk) oP hT hcd (tb.bm.keeps I.bk) (fun ctv h' tk hk hs => ?_)
    have I1 := I.kept (t' := tk) hk
    have hz : s.heap.objs.size ≤ h'.objs.size := hs
    have hn : H h'.objs.size = none := I.hok.fresh hz
    refine ⟨.ref h'.objs.size, upd H h'.objs.size (LamO h'.objs.size ⟨X.env.qual ++ "<lambda>", params, body, scope, cloFrom X.env.cells scope.names [], c'⟩), ?_, rfl, q _ c' _ (fun b o _ hb => ?_) (fun b e => NdefX.upd_none e) (ht.ext fun b o hb => ?_) hn upd_same ?_⟩
    · exact I1.laid (h' := h'.push _) (t' := tk) (fun b u hb => Heap.get?_push_of_some _ hb) (Nat.le_refl _) (lamO_ok (F := ⟨X.env.qual ++ "<lambda>", params, body, scope, cloFrom X.env.cells scope.names [], c'⟩))
    · rw [upd_ne (ne_of_none hb hn)]; exact hb
    · rw [upd_ne (ne_of_none hb hn)]; exact hb
    · rw [upd_ne (ne_of_none hc' hn)]; exact hc'
  | none =>
    refine PySem.W.kla_makeFunction hclo I.ok.glob (I.mod.glob.keeps I.bk) hc (tb.code.keeps I.bk) oP hT hcd tb.gP (tb.bm.keeps I.bk) (fun c' ctv h' tk he hl hu hrec hP' => ?_)
    obtain ⟨c2, o2, vs2, t2, ec, e1, e2, e3⟩ := hrec
    cases ec
    have I2 := LamX.inv_table (t' := tk) (c := c') (q := X.env.qual ++ "<lambda>") I hP he (more := #[rawInt ↑pos.line, rawInt ↑pos.col, .ref c']) hP' hl ⟨_, _, _, e1, e2, e3⟩
    have hn : (upd (upd H P (.tbl (ps ++ #[rawInt ↑pos.line, rawInt ↑pos.col, .ref c']))) c' (LamX.CodeO c' (X.env.qual ++ "<lambda>"))) h'.objs.size = none := I2.hok.fresh (Nat.le_refl _)
    have hcn : H c' = none := I.hok.fresh hl
    have hPc : P ≠ c' := fun e => by rw [e] at hP; rw [hcn] at hP; cases hP
    refine ⟨.ref h'.objs.size, _, I2.laid (h' := h'.push _) (o := LamO h'.objs.size ⟨X.env.qual ++ "<lambda>", params, body, scope, cloFrom X.env.cells scope.names [], c'⟩) (t' := tk) (fun b u hb => Heap.get?_push_of_some _ hb) (Nat.le_refl _) (lamO_ok (F := ⟨X.env.qual ++ "<lambda>", params, body, scope, cloFrom X.env.cells scope.names [], c'⟩)), rfl, q _ c' _ ?_ (fun b e => NdefX.upd_none (NdefX.upd_none (NdefX.upd_none e))) ?_ (NdefX.upd_none (NdefX.upd_none hn)) upd_same ?_⟩
    · intro b o hbP hb
      have h1 : (upd (upd H P (.tbl (ps ++ #[rawInt ↑pos.line, rawInt ↑pos.col, .ref c']))) c' (LamX.CodeO c' (X.env.qual ++ "<lambda>"))) b = some o := by
        rw [upd_ne (ne_of_none hb hcn), upd_ne hbP]; exact hb
      rw [upd_ne (ne_of_none h1 hn)]; exact h1
    · refine LamX.TabS.ext (H := upd (upd H P (.tbl (ps ++ #[rawInt ↑pos.line, rawInt ↑pos.col, .ref c']))) c' (LamX.CodeO c' (X.env.qual ++ "<lambda>"))) ?_ (fun b o hb => by rw [upd_ne (ne_of_none hb hn)]; exact hb)
      refine ⟨_, by rw [upd_ne hPc]; exact upd_same, ?_, ?_⟩
      · simpa using TriplesOk_snoc _ _ _ _ hT
      · intro pos2 cv hcv
        rw [Array.toList_append] at hcv
        rcases LamX.among_app _ hT hcv with h | h
        · obtain ⟨c3, e3, h3⟩ := hA _ _ h
          refine ⟨c3, e3, ?_⟩
          rw [upd_ne (ne_of_none h3 hcn), upd_ne (fun e => by rw [e, hP] at h3; cases h3)]
          exact h3
        · exact ⟨c', h, upd_same⟩
    · have h1 : (upd (upd H P (.tbl (ps ++ #[rawInt ↑pos.line, rawInt ↑pos.col, .ref c']))) c' (LamX.CodeO c' (X.env.qual ++ "<lambda>"))) c' = some (LamX.CodeO c' (X.env.qual ++ "<lambda>")) := upd_same
      rw [upd_ne (ne_of_none h1 hn)]; exact h1
theorem nofree_by {scope : PySem.Scope} {cells : List (Str × Addr)} (h : (scope.names.all fun y => !decide (y.2 = .free)) = true) : ∀ y ∈ scope.names, y.2 = .free → ∃ c, cells.lookup y.1 = some c := fun y hy e => by
  have := List.all_eq_true.mp h y hy
  simp only [e, decide_true, Bool.not_true] at this
  cases this
theorem CalX.imp {P : Program} {w : World} {K : PySem.W.Frag} {mg : Str → Option Value} {base : Heap} {k j : Nat} {f : Addr} {G G' : Hp → Prop} {np : Nat} {sp sp' : Sp} (C : CalX P w K mg base k f G np sp) (hk : k ≤ j) (hG : ∀ H, G' H → G H) (hs : ∀ vs H Q E, sp' vs H Q E → sp vs H Q E) : CalX P w K mg base j f G' np sp' :=
  ⟨fun vs H Q E q => C.len vs H Q E (hs _ _ _ _ q), fun s H a b g => C.at_ s H a b (hG H g), fun A outer s H us vs Q E hr e0 g r q => C.run A outer s H us vs Q E (hr.mono hk) e0 (hG H g) r (hs _ _ _ _ q)⟩
inductive Runs : List Tr → List Tr → List Tr → Prop
  | nil {us : List Tr} : Runs us [] us
  | cons {us ks r z : List Tr} {c : Nat} : Runs (us ++ [.node c ks]) r z → Runs (us ++ ks) (.node c ks :: r) z
mutual
theorem runs_post : ∀ (t : Tr) (us r z : List Tr), Runs (us ++ [t]) r z → Runs us (t.post ++ r) z
  | .node c ks, us, r, z, h => by
    simp only [Tr.post, List.append_assoc, List.singleton_append]
    exact runs_posts ks us _ z (.cons h)
theorem runs_posts : ∀ (ts us r z : List Tr), Runs (us ++ ts) r z → Runs us (posts ts ++ r) z
  | [], us, r, z, h => by simpa [posts] using h
  | t :: ts, us, r, z, h => by
    simp only [posts, List.append_assoc]
    refine runs_post t us _ z (runs_posts ts (us ++ [t]) r z ?_)
    rw [List.append_assoc]
    exact h
end
theorem runs_all (t : Tr) : Runs [] t.post [t] := by
  have := runs_post t [] [] [t] .nil
  rwa [List.append_nil] at this
abbrev ItP := (Addr → Prop) → Hp → V → Tr → List Addr → Prop
structure ItOk (It : ItP) : Prop where
  imp : ∀ {ok ok' : Addr → Prop} {H H' : Hp} {v : V} {t : Tr} {as : List Addr}, (∀ b, ok b → ok' b) → (∀ b o, ok b → H b = some o → H' b = some o) → It ok H v t as → It ok' H' v t as
  lst : ∀ {ok : Addr → Prop} {H : Hp} {v : V} {t : Tr} {as : List Addr}, It ok H v t as → ∀ b ∈ as, ok b ∧ ∃ xs, H b = some (.lst xs)
abbrev lstsI (bs : List (V × Tr × List Addr)) : List Addr := (bs.map fun b => b.2.2).flatten
def sp_made (It : ItP) (Pt : Addr) (q : Str) : Sp := fun vs H Q _ => ∃ (c : Nat) (bl : Addr) (bs : List (V × Tr × List Addr)) (ok : Addr → Prop), vs = [.str (ch c), .ref bl] ∧ 97 ≤ c ∧ c ≤ 122 ∧ H bl = some (.lst (bs.map (·.1))) ∧ ok bl ∧
  (∀ b ∈ bs, It ok H b.1 b.2.1 b.2.2) ∧ (bl :: lstsI bs).Nodup ∧ sizes (bs.map (·.2.1)) ≤ 1000000 ∧ (∀ b, ok b → b ≠ Pt) ∧ LamX.TabS H Pt q ∧
  ∀ v as H', Fr Pt H H' → LamX.TabS H' Pt q → It (fun b => ok b ∨ H b = none) H' v (.node c (bs.map (·.2.1))) as → as.Nodup → (∀ a ∈ as, a ∈ bl :: lstsI bs ∨ H a = none) → Q v H'
def sp_built_upward (P : Program) (w : World) (K : PySem.W.Frag) (mg : Str → Option Value) (base : Heap) (k : Nat) (Pt : Addr) (q : Str) : Sp := fun vs H Q _ => ∃ (v : V) (t : Tr) (f : Addr) (It : ItP), vs = [v, .ref f] ∧ TrAt (fun _ => True) H v t ∧ t.size ≤ 1000000 ∧ ItOk It ∧ LamX.TabS H Pt q ∧
  CalX P w K mg base k f (fun H' => Fr Pt H H') 2 (sp_made It Pt q) ∧ ∀ r as H', Fr Pt H H' → LamX.TabS H' Pt q → It (fun b => H b = none) H' r t as → as.Nodup → Q r H'

def CellO (c : Addr) (o : Obj) : HO := .ext fun h => h.get? c = some o
abbrev Lent := List (Addr × Obj)
def lend (H : Hp) (cs : Lent) : Hp := fun b => match cs.lookup b with
  | some o => some (CellO b o)
  | none => H b
def unl (H : Hp) (cs : Lent) : Hp := fun b => match cs.lookup b with
  | some _ => none
  | none => H b
def LentAt (cs : Lent) (H : Hp) : Prop := ∀ c o, cs.lookup c = some o → H c = some (CellO c o)
def Fresh (cs : Lent) (H : Hp) : Prop := ∀ c o, cs.lookup c = some o → H c = none
section
variable {H H' : Hp} {cs : Lent} {b c : Addr} {o : Obj} {u : HO}
theorem lend_in (h : cs.lookup c = some o) : lend H cs c = some (CellO c o) := by unfold lend; rw [h]
theorem lend_out (h : cs.lookup b = none) : lend H cs b = H b := by unfold lend; rw [h]
theorem unl_in (h : cs.lookup c = some o) : unl H cs c = none := by unfold unl; rw [h]
theorem unl_out (h : cs.lookup b = none) : unl H cs b = H b := by unfold unl; rw [h]
theorem Fresh.out (f : Fresh cs H) (h : H b = some u) : cs.lookup b = none := by
  cases e : cs.lookup b with
  | none => rfl
  | some o => rw [f b o e] at h; cases h
theorem lend_some (f : Fresh cs H) (h : H b = some u) : lend H cs b = some u := by rw [lend_out (f.out h)]; exact h
theorem lend_same (f : Fresh cs H) : Same H (lend H cs) := fun _ _ h => lend_some f h
theorem unl_some (h : unl H cs b = some u) : H b = some u := by
  cases e : cs.lookup b with
  | none => rw [unl_out e] at h; exact h
  | some o => rw [unl_in e] at h; cases h
theorem unl_same : Same (unl H cs) H := fun _ _ h => unl_some h
theorem LentAt.out (f : LentAt cs H) (h : H b = some u) (n : ∀ φ, u ≠ .ext φ) : cs.lookup b = none := by
  cases e : cs.lookup b with
  | none => rfl
  | some o => rw [f b o e] at h; cases h; exact absurd rfl (n _)
theorem unl_keep (f : LentAt cs H) (h : H b = some u) (n : ∀ φ, u ≠ .ext φ) : unl H cs b = some u := by rw [unl_out (f.out h n)]; exact h
theorem unl_fresh : Fresh cs (unl H cs) := fun _ _ h => unl_in h
theorem lend_lent : LentAt cs (lend H cs) := fun _ _ h => lend_in h
theorem unl_lend (f : Fresh cs H) : unl (lend H cs) cs = H := by
  funext b
  cases e : cs.lookup b with
  | none => rw [unl_out e, lend_out e]
  | some o => rw [unl_in e, f b o e]
theorem lend_unl (f : LentAt cs H) : lend (unl H cs) cs = H := by
  funext b
  cases e : cs.lookup b with
  | none => rw [lend_out e, unl_out e]
  | some o => rw [lend_in e, f b o e]
end
section
variable {P : Program} {w : World} {H H1 : Hp} {h h0 h1 : Heap} {cs : Lent} {fs : List Addr}
theorem hok_lend (ok : HOk P w H h) (f : Fresh cs H) (hc : ∀ c o, cs.lookup c = some o → h.get? c = some o) : HOk P w (lend H cs) h := fun a u e => by
  cases hl : cs.lookup a with
  | some o =>
    rw [lend_in hl] at e
    cases e
    exact ⟨hc _ _ hl, ⟨o, hc _ _ hl⟩, fun h1 h2 q k => k _ q⟩
  | none =>
    rw [lend_out hl] at e
    exact (ok a u e).stay (fun _ _ _ q => q) (fun b q => lend_some f q) fun b xs q => lend_some f q
theorem hok_unl (ok : HOk P w H h) (f : LentAt cs H) : HOk P w (unl H cs) h := fun a u e =>
  (ok a u (unl_some e)).stay (fun _ _ _ q => q) (fun b q => unl_keep f q (fun φ z => by cases z)) fun b xs q => unl_keep f q (fun φ z => by cases z)
theorem lent_get (ok : HOk P w H h) (f : LentAt cs H) {c : Addr} {o : Obj} (e : cs.lookup c = some o) : h.get? c = some o := (ok c _ (f c o e)).1
theorem un_back (u : Un fs [] (lend H cs) H1 h0 h1) (f : Fresh cs H) (l : LentAt cs H1) (ok : HOk P w H1 h1) (hc : ∀ c o, cs.lookup c = some o → h0.get? c = some o) : Un fs [] H (unl H1 cs) h0 h1 where
  keep := fun b ob e n hf hx => by
    cases hl : cs.lookup b with
    | some o =>
      have e2 := hc _ _ hl
      rw [e] at e2
      cases e2
      exact lent_get ok l hl
    | none => exact u.keep b ob e (by rw [lend_out hl]; exact n) hf hx
  slot := fun b ob e n hf hx => by
    cases hl : cs.lookup b with
    | some o =>
      have e2 := hc _ _ hl
      rw [e] at e2
      cases e2
      exact ⟨ob.slots, lent_get ok l hl⟩
    | none => exact u.slot b ob e (by rw [lend_out hl]; exact n) hf hx
  free := fun b ob e n hx => by
    cases hl : cs.lookup b with
    | some o => exact unl_in hl
    | none => rw [unl_out hl]; exact u.free b ob e (by rw [lend_out hl]; exact n) hx
  there := u.there
  tups := fun b xs e => unl_keep l (u.tups b xs (lend_some f e)) (fun φ z => by cases z)
  frzs := fun b o v e => unl_keep l (u.frzs b o v (lend_some f e)) (fun φ z => by cases z)
  tbls := fun b ps e => by
    obtain ⟨more, q⟩ := u.tbls b ps (lend_some f e)
    exact ⟨more, unl_keep l q (fun φ z => by cases z)⟩
theorem un_fwd (u : Un fs [] (unl H cs) H1 h0 h1) (l : LentAt cs H) (ok : HOk P w H h0) (hf : ∀ c o, cs.lookup c = some o → c ∉ fs) : Fresh cs H1 ∧ (∀ c o, cs.lookup c = some o → h1.get? c = some o) ∧ Un fs [] H (lend H1 cs) h0 h1 := by
  have f1 : Fresh cs H1 := fun c o e => u.free c o (lent_get ok l e) (unl_in e) (by simp)
  have hc : ∀ c o, cs.lookup c = some o → h1.get? c = some o := fun c o e => u.keep c o (lent_get ok l e) (unl_in e) (hf c o e) (by simp)
  have no : ∀ b, H b = none → cs.lookup b = none := fun b n => by
    cases hl : cs.lookup b with
    | none => rfl
    | some o => rw [l b o hl] at n; cases n
  refine ⟨f1, hc, fun b ob e n => ?_, fun b ob e n => ?_, fun b ob e n hx => ?_, u.there, fun b xs e => ?_, fun b o v e => ?_, fun b ps e => ?_⟩
  · exact u.keep b ob e (by rw [unl_out (no b n)]; exact n)
  · exact u.slot b ob e (by rw [unl_out (no b n)]; exact n)
  · rw [lend_out (no b n)]
    exact u.free b ob e (by rw [unl_out (no b n)]; exact n) hx
  · exact lend_some f1 (u.tups b xs (unl_keep l e (fun φ z => by cases z)))
  · exact lend_some f1 (u.frzs b o v (unl_keep l e (fun φ z => by cases z)))
  · obtain ⟨more, q⟩ := u.tbls b ps (unl_keep l e (fun φ z => by cases z))
    exact ⟨more, lend_some f1 q⟩
end
structure Caught (cl : List (Str × Addr)) (fr : List Str) (ws : List (Option V)) (cs : Lent) : Prop where
  len : ws.length = fr.length
  all : ∀ y c, cl.lookup y = some c → ∃ o v, cs.lookup c = some o ∧ o.data = .cell v
  inj : ∀ x y c, cl.lookup x = some c → cl.lookup y = some c → x = y
  has : ∀ (i : Nat) (y : Str), fr[i]? = some y → ∃ c, cl.lookup y = some c ∧ ∀ v, ws[i]? = some (some v) → ∃ u o, L2.RelV v u ∧ cs.lookup c = some o ∧ o.data = .cell (some u)
def Cells (cs : Lent) : Prop := ∀ c o, cs.lookup c = some o → ∃ v, o.data = .cell v
theorem codeO_cell {c : Addr} {q : Str} {o : Obj} {v : Option Value} (hd : o.data = .cell v) : LamX.CodeO c q ≠ CellO c o := fun e => by
  have hg : (Heap.mk (Array.replicate (c + 1) o) {}).get? c = some o := by
    have h1 : (Array.replicate (c + 1) o)[c]? = some o := by rw [Array.getElem?_replicate, if_pos (Nat.lt_succ_self c)]
    show (match (Array.replicate (c + 1) o)[c]? with
      | some ⟨_, _, .freed, _⟩ => none
      | o => o) = some o
    rw [h1]
    obtain ⟨c1, c2, c3, c4⟩ := o
    cases hd
    rfl
  have e2 := HO.ext.inj e
  have e3 := (congrFun e2 (Heap.mk (Array.replicate (c + 1) o) {})).mpr hg
  obtain ⟨oc, vs, t, h1, h2, _⟩ := e3
  rw [hg] at h1
  cases h1
  rw [hd] at h2
  cases h2
section
variable {P : Program} {w : World} {K : PySem.W.Frag} {mg : Str → Option Value} {base : Heap} {cl : List (Str × Addr)} {fr : List Str} {ws : List (Option V)} {cs : Lent}
theorem Caught.at (C : Caught cl fr ws cs) {H : Hp} {h : Heap} (l : LentAt cs H) (ok : HOk P w H h) : NdefX.CellsAt cl fr ws h (unl H cs) := by
  refine ⟨C.len, fun y c e => ?_, C.inj, fun i y e => ?_⟩
  · obtain ⟨o, v, h1, h2⟩ := C.all y c e
    exact ⟨unl_in h1, v, o, lent_get ok l h1, h2⟩
  · obtain ⟨c, h1, h2⟩ := C.has i y e
    refine ⟨c, h1, fun v hv => ?_⟩
    obtain ⟨u, o, r, g1, g2⟩ := h2 v hv
    exact ⟨u, r, o, lent_get ok l g1, g2⟩
theorem unl_none {H : Hp} {b : Addr} (h : H b = none) : unl H cs b = none := by
  cases z : unl H cs b with
  | none => rfl
  | some u => rw [unl_some z] at h; cases h
theorem env0_unl {A : Around} {outer : List Env} {s : Shared} {H : Hp} (e : Env0 P w K mg base A outer s H) (l : LentAt cs H) : Env0 P w K mg base A outer s (unl H cs) :=
  ⟨e.frames, e.mod, fun b o q => ⟨(e.bs b o q).1, unl_none (e.bs b o q).2⟩, e.bsz, e.funs, fun b hb => unl_none (e.frf b hb), hok_unl e.hok l, e.bare⟩
theorem cr_fwd {outer : List Env} {s s' : Shared} {H : Hp} {Q : VK} {E : XK} {r : Result} (l : LentAt cs H) (ok : HOk P w H s.heap) (hf : ∀ c o, cs.lookup c = some o → c ∉ frs outer) (h : CR CX0 outer P w (unl H cs) s (fun v H' => Q v (lend H' cs)) E r s') : CR CX0 outer P w H s Q E r s' := by
  cases r with
  | error e => exact (show False from h).elim
  | ok fl =>
    cases fl with
    | ret u =>
      obtain ⟨v, H1, h1, h2, h3, h4, h5, h6⟩ := h
      obtain ⟨f1, f2, f3⟩ := un_fwd h3 l ok hf
      exact ⟨v, lend H1 cs, h1, h2, f3, hok_lend h4 f1 f2, h5, h6⟩
    | next => exact h
    | brk => exact h
    | cont => exact h
theorem calX_ndef {k : Nat} {f : Addr} {F : NdefX.NF} {ps : List Str} {sp : List (Option V) → Sp} (o : NdefX.NOk P w K mg base CX0 k f F ps fr sp) (C : Caught F.cl fr ws cs) (hz : Cells cs) :
    CalX P w K mg base k f (fun H => H f = some (NdefX.FnO f F) ∧ H F.c = some (LamX.CodeO F.c F.qual) ∧ LentAt cs H) ps.length (fun vs H Q E => sp ws vs (unl H cs) (fun v H' => Q v (lend H' cs)) E) := by
  refine ⟨fun vs H Q E h => o.len _ _ _ _ _ h, fun s H hok _ hg => ?_, fun A outer s H us vs Q E hr e0 hg r h => ?_⟩
  · obtain ⟨od, sl, doc, pm, ctv, ho⟩ := NdefX.fnO_at hok hg.1
    exact ⟨_, od, _, sl, ho⟩
  · obtain ⟨g1, g2, g3⟩ := hg
    have nf : cs.lookup f = none := by
      cases e : cs.lookup f with
      | none => rfl
      | some ob =>
        obtain ⟨od, sl, doc, pm, ctv, ho⟩ := NdefX.fnO_at e0.hok g1
        obtain ⟨v, hv⟩ := hz _ _ e
        rw [lent_get e0.hok g3 e] at ho
        cases ho
        cases hv
    have nc : cs.lookup F.c = none := by
      cases e : cs.lookup F.c with
      | none => rfl
      | some ob =>
        obtain ⟨c, oc, vs, t, ec, h1, h2, h3⟩ := NdefX.codeO_at e0.hok g2
        obtain ⟨v, hv⟩ := hz _ _ e
        cases ec
        rw [lent_get e0.hok g3 e] at h1
        cases h1
        rw [hv] at h2
        cases h2
    refine codeAny_mono (o.run A outer s (unl H cs) us vs ws _ E hr (env0_unl e0 g3) (by rw [unl_out nf]; exact g1) (by rw [unl_out nc]; exact g2) (C.at g3 e0.hok) r h) fun r s' hq => ?_
    exact cr_fwd g3 e0.hok (fun c ob e hb => by have := e0.frf c hb; rw [g3 c ob e] at this; cases this) hq
theorem calX_lamC {k : Nat} {N ps : List Str} {f : Addr} {F : LF} {sp : Sp} (S : NdefX.NScope N ps fr F.scope) (C : Caught F.cl fr ws cs) (hz : Cells cs)
    (hb : ∀ (pm ctv : Value) (us : List Value), us.length = ps.length → bindArgs (PySem.W.kla_fn "<lambda>" F.qual F.params F.body F.scope F.cl pm (.ref F.c) ctv) ⟨us, []⟩ = pure (ps.zip us)) (len : ∀ vs H Q E, sp vs H Q E → vs.length = ps.length)
    (hbody : ∀ (A : Around) (outer : List Env) (s : Shared) (H : Hp) (vs : List V) (Q : VK) (E : XK), Room k (A.deeper (NdefX.envF F.nf f s.heap.objs.size)) → sp vs H Q E →
      ∃ t, PE (NdefX.ncx CX0 P w K mg base N F.nf f A outer s H E) F.body t ∧ t (NdefX.startF N vs ws) H Q) :
    CalX P w K mg base (k + 1) f (fun H => H f = some (LamO f F) ∧ H F.c = some (LamX.CodeO F.c F.qual) ∧ LentAt cs H) ps.length (fun vs H Q E => sp vs (unl H cs) (fun v H' => Q v (lend H' cs)) E) := by
  refine ⟨fun vs H Q E h => len _ _ _ _ h, fun s H hok _ hg => ?_, fun A outer s H us vs Q E hr e0 hg r hsp => ?_⟩
  · obtain ⟨⟨pm, ctv, e⟩, _, _⟩ := hok _ _ hg.1
    exact ⟨_, _, _, _, e⟩
  obtain ⟨g1, g2, g3⟩ := hg
  obtain ⟨⟨pm, ctv, ho⟩, _, _⟩ := e0.hok _ _ g1
  have hl := len _ _ _ _ hsp
  have lim : s.heap.NoLimit := e0.mod.nolimit.keeps fun b o e => (e0.bs b o e).1
  refine codeAny_mono (R := CR CX0 outer P w (unl H cs) s (fun v H' => Q v (lend H' cs)) E) ?_ fun r s' hq => cr_fwd g3 e0.hok (fun c ob e hb => by have := e0.frf c hb; rw [g3 c ob e] at this; cases this) hq
  refine PySem.W.kla_callFunE hr.depth ho rfl S.co S.gen rfl (NdefX.codeO_at e0.hok g2) ?_
  rw [hb pm ctv us (by rw [← r.length]; exact hl)]
  refine wpAny_pure (wpAny_newFunctionEnv S.nocell (fun ⟨n, _⟩ hy => S.par n (List.of_mem_zip hy).1) (fun h₁ hns hsb => ⟨lim.fresh _ hsb, ?_⟩) S.kind)
  show codeAny _ _ (.expr F.body (NdefX.envF F.nf f s.heap.objs.size)) _ _
  have kp : ∀ b o, s.heap.get? b = some o → h₁.get? b = some o := fun b o e => hsb.extBut b o (Nat.ne_of_lt (Heap.lt_size e)) (Heap.get?_push_of_some _ e)
  obtain ⟨t, ht, hq⟩ := hbody A outer s (unl H cs) vs _ E (hr.deeper _) hsp
  have I : Inv (NdefX.ncx CX0 P w K mg base N F.nf f A outer s (unl H cs) E) [] (NdefX.startF N vs ws) (unl H cs) { s with heap := h₁, toks := s.toks + (ps.zip us).length } := NdefX.inv_startN S hr.hd (env0_unl e0 g3) hl r (C.at g3 e0.hok) hns kp
  refine PySem.W.kla_codeExpr (wpAny_mono (ht.run [] _ _ _ _ I hq) (fun v s' hq => ?_) fun e s' hq => hq)
  obtain ⟨w', H', J', rv, q⟩ := hq
  exact ⟨w', H', J'.os, J'.bare, J'.base, J'.hok, rv, q⟩
end
section
variable {X : Cx} {pins : List (Addr × Obj)} {σ : L2.St} {H : Hp} {s : Shared}
def ownCells (X : Cx) (h : Heap) : Lent := (X.env.cells.map (·.1)).filterMap fun y => match X.env.cells.lookup y with
  | some c => (h.get? c).map fun o => (c, o)
  | none => none
theorem look_has {α β : Type} [BEq α] [LawfulBEq α] {a : α} {b : β} : ∀ {l : List (α × β)}, (a, b) ∈ l → ∃ b', l.lookup a = some b'
  | (x, y) :: r, h => by
    by_cases e : a = x
    · subst e
      exact ⟨y, by simp [List.lookup]⟩
    · rcases List.mem_cons.mp h with h | h
      · cases h
        exact absurd rfl e
      · obtain ⟨b', h'⟩ := look_has h
        refine ⟨b', ?_⟩
        have : (a == x) = false := by simpa using e
        simp [List.lookup, this, h']
theorem mem_look {α β : Type} [BEq α] [LawfulBEq α] {a : α} {b : β} : ∀ {l : List (α × β)}, l.lookup a = some b → (a, b) ∈ l
  | (x, y) :: r, h => by
    by_cases e : a = x
    · subst e
      simp [List.lookup] at h
      rw [h]
      exact List.mem_cons_self
    · have e2 : (a == x) = false := by simpa using e
      simp only [List.lookup, e2] at h
      exact List.mem_cons_of_mem _ (mem_look h)
theorem own_mem {c : Addr} {o : Obj} {h : Heap} (e : (c, o) ∈ ownCells X h) : h.get? c = some o ∧ ∃ y, X.env.cells.lookup y = some c := by
  unfold ownCells at e
  obtain ⟨y, _, hy⟩ := List.mem_filterMap.mp e
  cases hl : X.env.cells.lookup y with
  | none => rw [hl] at hy; cases hy
  | some c' =>
    rw [hl] at hy
    dsimp only at hy
    cases ho : h.get? c' with
    | none => rw [ho] at hy; cases hy
    | some o' =>
      rw [ho] at hy
      cases hy
      exact ⟨ho, y, hl⟩
theorem own_look {c : Addr} {o : Obj} {h : Heap} (e : (ownCells X h).lookup c = some o) : h.get? c = some o ∧ ∃ y, X.env.cells.lookup y = some c := own_mem (mem_look e)
theorem own_in {c : Addr} {o : Obj} {h : Heap} {y : Str} (hy : X.env.cells.lookup y = some c) (ho : h.get? c = some o) : (ownCells X h).lookup c = some o := by
  have hm : (c, o) ∈ ownCells X h := by
    unfold ownCells
    refine List.mem_filterMap.mpr ⟨y, List.mem_map.mpr ⟨_, PySem.mem_of_lookup hy, rfl⟩, ?_⟩
    rw [hy]
    dsimp only
    rw [ho]
    rfl
  obtain ⟨o', h'⟩ := look_has hm
  have := (own_look h').1
  rw [ho] at this
  cases this
  exact h'
structure Lends (X : Cx) (σ : L2.St) (H : Hp) (cs : Lent) : Prop where
  new : Fresh cs H
  cel : Cells cs
  got : ∀ (scope : PySem.Scope) (fr : List Str) (js : List Nat), NdefX.ndefB X.env.scope scope fr = true → js.map (fun j => X.N[j]?) = fr.map some → Caught (cloFrom X.env.cells scope.names []) fr (js.map (NdefX.slotAt σ)) cs
theorem lends_own (I : Inv X pins σ H s) : Lends X σ H (ownCells X s.heap) := by
  have cel : Cells (ownCells X s.heap) := fun c o e => by
    obtain ⟨h1, y, h2⟩ := own_look e
    obtain ⟨v, o', h3, h4⟩ := I.cell y c h2
    rw [h1] at h3
    cases h3
    exact ⟨v, h4⟩
  refine ⟨fun c o e => ?_, cel, fun scope fr js hfr hjs => ?_⟩
  · obtain ⟨_, y, h2⟩ := own_look e
    exact I.freeC y c h2
  · have C := NdefX.Caps.made I.ok (NdefX.ndef_free hfr) (NdefX.ndef_fr hfr) hjs
    have A := NdefX.cells_of I C
    refine ⟨A.len, fun y c e => ?_, A.inj, fun i y e => ?_⟩
    · obtain ⟨_, v, o, h1, h2⟩ := A.all y c e
      exact ⟨o, v, own_in (C.sub y c e) h1, h2⟩
    · obtain ⟨c, h1, h2⟩ := A.has i y e
      refine ⟨c, h1, fun v hv => ?_⟩
      obtain ⟨u, r, o, h3, h4⟩ := h2 v hv
      exact ⟨u, o, r, own_in (C.sub y c h1) h3, h4⟩
theorem env0_lend (I : Inv X pins σ H s) (hfn : ∀ x, X.fn x = true) : Env0 X.prog X.w X.K X.mg X.base X.A X.stack s (lend H (ownCells X s.heap)) := by
  have L := lends_own I
  have big : ∀ c o, (ownCells X s.heap).lookup c = some o → X.s_0.heap.objs.size ≤ c := fun c o e => by
    obtain ⟨_, y, h2⟩ := own_look e
    exact I.ok.cab y c (hfn y) h2
  refine ⟨I.ok.frames, I.ok.mod, fun b o e => ⟨(I.bs b o e).1, ?_⟩, Nat.le_trans I.ok.bsz I.sz, I.stack, fun b hb => ?_, hok_lend I.hok L.new (fun c o e => (own_look e).1), I.bare⟩
  · cases hl : (ownCells X s.heap).lookup b with
    | none => rw [lend_out hl]; exact (I.bs b o e).2
    | some ob =>
      exact absurd (Nat.lt_of_lt_of_le (Heap.lt_size e) I.ok.bsz) (Nat.not_lt.mpr (big _ _ hl))
  · cases hl : (ownCells X s.heap).lookup b with
    | none => rw [lend_out hl]; exact I.stkFree b hb
    | some ob =>
      exfalso
      rcases List.mem_cons.mp (I.stkSub b hb) with e | hb
      · obtain ⟨v, hv⟩ := L.cel _ _ hl
        obtain ⟨m, hn, _⟩ := I.loc
        obtain ⟨o2, es, ep, h1, h3, _⟩ := hn
        rw [← e, (own_look hl).1] at h1
        cases h1
        rw [hv] at h3
        cases h3
      · obtain ⟨_, o, ho, _⟩ := I.ok.funs.mem hb
        exact absurd (Heap.lt_size ho) (Nat.not_lt.mpr (big _ _ hl))
theorem pe_callLd {k : Nat} {f : Addr} {fd : FuncData} {ps : List Str} {sp : Sp} {x : Str} {p pos : Pos} {e : PySem.Expr} {es : List PySem.Expr} {t : TA} (F : FnOk X.prog X.w X.K X.mg X.base CX0 k f fd ps sp) (hr : Room k X.A) (hg : Gl X x) (hm : X.mg x = some (.ref f)) (hk : PySem.W.keepIn X.K (.ref f) = true) (hb : Binds X.K fd ps []) (hfn : ∀ x, X.fn x = true)
    (ha : PA X (e :: es) t) (hdb : (x == ("__debug__" : Str)) = false := by decide) (he : starEach (e :: es) X.env = (false, eval e X.env) :: starEach es X.env := by rfl) (hpl : (backTo pos (starEach es X.env)).any (·.1) = false := by rfl) :
    PE X (.Call (.Name x p) (e :: es) [] pos) (fun σ H Q => t σ H fun vs H1 => ∀ cs, Lends X σ H1 cs → sp vs (lend H1 cs) (fun v H2 => LentAt cs H2 ∧ Q v (unl H2 cs)) E0) := by
  refine ⟨fun pins s σ H Q I h => ?_⟩
  refine wpAny_Call_Name_kw (ld_glob I hg hm ?_ hdb)
  refine PySem.W.callWith_K (h₀ := X.base) I.ok.mod.kin hk (thn (ha.run pos pins s σ H _ I h) fun us s1 ⟨vs, H1, I1, r, q⟩ => ⟨I1.kIn, ?_⟩) he hpl
  have L := lends_own I1
  have q := q _ L
  have hl : us.length = ps.length := by rw [← r.length]; exact F.len _ _ _ _ q
  have hb' := hb s1 us I1.kIn (by rw [List.append_nil]; exact hl)
  rw [List.append_nil] at hb'
  refine wpAny_call (codeAny_mono (F.run X.A X.stack s1 _ ⟨us, []⟩ us vs _ E0 hr (env0_lend I1 hfn) hb' r q) fun r s' hq => ?_)
  cases r with
  | error e => exact (show False from hq).elim
  | ok fl =>
    cases fl with
    | ret u =>
      obtain ⟨v, H2, h1, h2, h3, h4, h5, h6, h7⟩ := hq
      exact I1.after ⟨v, unl H2 _, h1, h2, un_back h3 L.new h6 h4 (fun c o e => (own_look e).1), hok_unl h4 h6, h5, h7⟩
    | next => exact False.elim hq
    | brk => exact False.elim hq
    | cont => exact False.elim hq
end
theorem pe_lamXc {X : Cx} {c P : Addr} {params : Arguments} {body : PySem.Expr} {scope : PySem.Scope} {pos : Pos} {fr : List Str} (tb : LamX.TabB X.base X.mg c P) (hc : X.env.code = .ref c) (hd : defaultsOf params X.env = ([], []))
    (hfr : NdefX.ndefB X.env.scope scope fr = true) : PE X (.Lambda params body scope pos) (fun σ H Q => LamX.TabS H P (X.env.qual ++ "<lambda>") ∧ ∀ (f c : Addr) (H1 : Hp), Fr P H H1 → (∀ b, H1 b = none → H b = none) → LamX.TabS H1 P (X.env.qual ++ "<lambda>") → H f = none →
      H1 f = some (LamO f ⟨X.env.qual ++ "<lambda>", params, body, scope, cloFrom X.env.cells scope.names [], c⟩) → H1 c = some (LamX.CodeO c (X.env.qual ++ "<lambda>")) → Q (.ref f) H1) :=
  ⟨fun pins s σ H Q I h => (pe_lamX tb hc hd fun y hy e => ((NdefX.ndef_free hfr) y hy e).elim (fun z => I.ok.has _ (.inl z)) fun z => I.ok.has _ (.inr z)).run pins s σ H Q I h⟩


theorem cut_fromU (xs : List V) (k : Nat) (h : k ≤ xs.length) : cutV xs (some (k : Int)) none = xs.drop k := by
  have e : HT.sIx xs.length 0 (some (k : Int)) = k := by
    show (if (k : Int) < 0 then ((k : Int) + (xs.length : Int)).toNat else min ((k : Int).toNat) xs.length) = k
    rw [if_neg (by omega)]
    omega
  have e2 : HT.sIx xs.length xs.length none = xs.length := rfl
  unfold cutV
  rw [e, e2]
  exact List.take_of_length_le (by rw [List.length_drop]; omega)
theorem TabS.fr1 {H H' : Hp} {P p : Addr} {q : Str} {xs : List V} (h : LamX.TabS H P q) (hp : H p = some (.lst xs)) (f : Fr p H H') : LamX.TabS H' P q := by
  obtain ⟨ps, h1, h2, h3⟩ := h
  refine ⟨ps, f _ _ (fun e => by rw [e, hp] at h1; cases h1) h1, h2, fun pos cv hc => ?_⟩
  obtain ⟨c, e, h4⟩ := h3 pos cv hc
  exact ⟨c, e, f _ _ (fun e => by rw [e, hp] at h4; cases h4) h4⟩
mutual
theorem TrAt.kind1 {ok : Addr → Prop} {H : Hp} : ∀ (t : Tr) (v : V), TrAt ok H v t → TrAt (fun b => ok b ∧ ∀ ps, H b ≠ some (.tbl ps)) H v t
  | .node c ks, v, x => by
    cases x with
    | node h1 h2 k1 k2 c1 c2 r => exact .node h1 h2 ⟨k1, fun ps e => by rw [h1] at e; cases e⟩ ⟨k2, fun ps e => by rw [h2] at e; cases e⟩ c1 c2 (TrsAt.kind1 ks _ r)
theorem TrsAt.kind1 {ok : Addr → Prop} {H : Hp} : ∀ (ts : List Tr) (vs : List V), TrsAt ok H vs ts → TrsAt (fun b => ok b ∧ ∀ ps, H b ≠ some (.tbl ps)) H vs ts
  | [], vs, x => by cases x; exact .nil
  | t :: r, vs, x => by
    cases x with
    | cons a b => exact .cons (TrAt.kind1 t _ a) (TrsAt.kind1 r _ b)
end
section
variable {P : Program} {w : World} {K : PySem.W.Frag} {mg : Str → Option Value} {base : Heap}
theorem ok_built_upward (T : Txt K mg) (k : Nat) (hk : 5 ≤ k) (Pt : Addr) (qn : Str) : FnOk P w K mg base CX0 (k + 1) T.f_built_upward T.d_built_upward ["tree", "made"] (sp_built_upward P w K mg base k Pt qn) := by
  have G_parts_upward : FnOk P w K mg base CX0 5 T.f_parts_upward T.d_parts_upward ["tree"] sp_parts_upward := ok_parts_upward T
  refine T.F_built_upward.ok sc_built_upward (fun vs H Q E h => ?_) (fun cdv A outer s H vs Q E hr h => ?_)
  · obtain ⟨v, t, f, It, rfl, _⟩ := h
    rfl
  obtain ⟨v, t, f, It, rfl, ht, hz, hIt, hT, C, q⟩ := h
  have C_made := C
  refine ⟨_, (pss_cons (ps_set (i := 2) sc_built_upward.nd rfl (Or.inl rfl) (pe_lst pa_nil)) (pss_cons (ps_for PassesOwn.never rfl (pi_list (pe_call G_parts_upward (hr.mono (by omega)) (by rfl) T.m_parts_upward T.F_parts_upward.kp T.b_parts_upward .nil pass0 (pa_cons (pv 0) pa_nil))) (pg_tup rfl (pgs_cons (pg_name (i := 3) sc_built_upward.nd rfl (Or.inl rfl)) (pgs_cons (pg_name (i := 4) sc_built_upward.nd rfl (Or.inl rfl)) pgs_nil))) (pss_cons (ps_set (i := 5) sc_built_upward.nd rfl (Or.inl rfl) (pe_op op_sub (pe_callB call_len_seq (by rfl) T.z_len PySem.boot_len (pa_cons (pv 2) pa_nil)) (pe_callB call_len_seq (by rfl) T.z_len PySem.boot_len (pa_cons (pv 4) pa_nil)))) (pss_cons (ps_set (i := 6) sc_built_upward.nd rfl (Or.inl rfl) (pe_slice sl_list (pv 2) (po_some (pv 5)) po_none)) (pss_cons (ps_delFrom (pv 2) (pv 5)) (pss_one (ps_expr (pe_bm PySem.F.plainAttrs_list PySem.F.slot_list_append PySem.F.type_list_append mt_append (pv 2) (pa_cons (pe_calX (i := 1) C_made (hr.mono (by omega)) rfl (.inl (by rfl)) (pa_cons (pv 3) (pa_cons (pv 6) pa_nil))) pa_nil)))))))) (pss_one (ps_ret (pe_ix ix_list (pv 2) pe_int (fun _ _ => rfl)))))), ?_⟩
  obtain ⟨ps0, hP0, _, _⟩ := id hT
  refine ⟨(by show 0 ≤ sizeLine; decide), fun wl hwl => ?_⟩
  have nPw : Pt ≠ wl := ne_of_none hP0 hwl
  have ht1 := (ht.off hwl).same (same_new (o := .lst []) hwl)
  refine ⟨_, rfl, v, t, _, rfl, ht1, hz, fun r wsv H1 s1 hr0 hr1 hparts => ?_⟩
  have hw1 : H1 wl = some (.lst []) := s1 _ _ upd_same
  have nrw : r ≠ wl := fun e => by rw [e, upd_same] at hr0; cases hr0
  have sH1 : Same H H1 := (same_new hwl).trans s1
  have hr00 : H r = none := by rw [upd_ne nrw] at hr0; exact hr0
  have nPr : Pt ≠ r := ne_of_none hP0 hr00
  have hp2 : TrsAt (fun b => b ≠ wl ∧ b ≠ r ∧ b ≠ Pt) H1 wsv t.post := by
    exact (TrsAt.kind1 _ _ hparts).weak fun b ⟨⟨k, h⟩, n⟩ => ⟨k.2, fun e => h (by rw [e]; exact hr0), fun e => n ps0 (by rw [e]; exact sH1 _ _ hP0)⟩
  refine ⟨r, rfl, ⟨_, SqL.of hr1⟩, for_list (xs := wsv) (fun i σ H2 => ∃ (y3 y4 y5 y6 : Option V) (bs : List (V × Tr × List Addr)), σ = [some v, some (.ref f), some (.ref wl), y3, y4, y5, y6] ∧ H2 wl = some (.lst (bs.map (·.1))) ∧
      (∀ b ∈ bs, It (fun b => H b = none ∧ b ≠ wl) H2 b.1 b.2.1 b.2.2) ∧ (lstsI bs).Nodup ∧ Runs (bs.map (·.2.1)) (t.post.drop i) [t] ∧ sizes (bs.map (·.2.1)) ≤ i ∧ Fr Pt H H2 ∧ LamX.TabS H2 Pt qn ∧ H2 r = some (.lst wsv) ∧ TrsAt (fun b => b ≠ wl ∧ b ≠ r ∧ b ≠ Pt) H2 wsv t.post)
    ⟨none, none, none, none, [], rfl, hw1, (fun _ h => by cases h), List.nodup_nil, (by rw [List.drop_zero]; exact runs_all t), (Nat.le_refl _), Fr.same sH1, hT.ext sH1, hr1, hp2⟩ (fun i σ H2 _ ⟨_, _, _, _, _, _, _, _, _, _, _, _, _, h, _⟩ => SqL.of h) ?_ ?_⟩
  · rintro i x σ H2 hx ⟨y3, y4, y5, y6, bs, rfl, hw2, hb, hnd, hst, hsz, hf, hT2, hr2, hpp⟩
    obtain ⟨t1, ht1', hx2⟩ := hpp.getV hx
    have hdrop : t.post.drop i = t1 :: t.post.drop (i + 1) := by
      obtain ⟨hlt, e⟩ := List.getElem?_eq_some_iff.mp ht1'
      rw [← e]
      exact List.drop_eq_getElem_cons hlt
    have hi : i < t.size := by
      have := (List.getElem?_eq_some_iff.mp ht1').1
      rw [post_len] at this
      exact this
    rw [hdrop] at hst
    generalize hus : bs.map (·.2.1) = us0 at hst
    cases hst with
    | cons hst =>
    rename_i us ks c
    obtain ⟨b1, b2, rfl, e1, e2⟩ := List.map_eq_append_iff.mp hus
    subst e1
    subst e2
    rw [List.map_append, sizes_append] at hsz
    have lz := len_sizes (b2.map (·.2.1))
    have lz1 := len_sizes (b1.map (·.2.1))
    rw [List.length_map] at lz lz1
    cases hx2 with
    | node g1 g2 o1 o2 c1 c2 rr =>
      rename_i ax lx vx
      have lr := rr.len
      rw [List.length_map] at lr
      refine ⟨_, _, rfl, SqT.of g1, rfl, ?_⟩
      refine ⟨_, _, rfl, _, _, rfl, rfl, _, rfl, wl, _, rfl, .inl (SqL.of hw2), _, rfl, lx, _, rfl, .inl (SqL.of g2), _, _, rfl, rfl, ?_⟩
      rw [List.length_map, lr, List.length_append]
      have ek : (((b1.length + b2.length : Nat) : Int) - (b2.length : Int)) = (b1.length : Int) := by omega
      show gName 5 (.int (((b1.length + b2.length : Nat) : Int) - (b2.length : Int))) _ _ _
      rw [ek]
      refine ⟨_, rfl, _, rfl, _, rfl, wl, _, rfl, SqL.of hw2, fun p hp => ?_⟩
      rw [cut_fromU _ _ (by rw [List.length_map, List.length_append]; omega)]
      have hcut : ((b1 ++ b2).map (·.1)).drop b1.length = b2.map (·.1) := by
        rw [List.map_append, List.drop_left' (List.length_map _)]
      have htk : ((b1 ++ b2).map (·.1)).take b1.length = b1.map (·.1) := by
        rw [List.map_append, List.take_left' (List.length_map _)]
      rw [hcut]
      have nPp : Pt ≠ p := by
        intro e
        obtain ⟨_, e2, _⟩ := hT2
        rw [← e, e2] at hp
        cases hp
      have npw : p ≠ wl := fun e => by rw [e, hw2] at hp; cases hp
      have hp0 : H p = none := by
        cases e : H p with
        | none => rfl
        | some o => rw [hf p o nPp.symm e] at hp; cases hp
      have okP : ∀ b, (H b = none ∧ b ≠ wl) → b ≠ Pt := fun b h e => by rw [e, hP0] at h; cases h.1
      refine ⟨_, rfl, _, rfl, wl, _, b1.length, rfl, rfl, (by rw [upd_ne npw.symm]; exact hw2), (by rw [List.length_map, List.length_append]; omega), ?_⟩
      rw [htk]
      generalize hH5 : upd (upd H2 p (.lst (b2.map (·.1)))) wl (.lst (b1.map (·.1))) = H5
      have hw5 : H5 wl = some (.lst (b1.map (·.1))) := by rw [← hH5]; exact upd_same
      have hp5 : H5 p = some (.lst (b2.map (·.1))) := by rw [← hH5, upd_ne npw]; exact upd_same
      have k25 : ∀ b o, b ≠ wl → H2 b = some o → H5 b = some o := fun b o n e => by rw [← hH5, upd_ne n, upd_ne (ne_of_none e hp)]; exact e
      have T5 : LamX.TabS H5 Pt qn := TabS.fr1 hT2 hw2 fun b o n e => k25 b o n e
      have F5 : Fr Pt H H5 := fun b o n e => k25 _ _ (ne_of_none e hwl) (hf b o n e)
      refine ⟨_, rfl, .inl ⟨rfl, _, SqL.of hw5⟩, rfl, F5, _, rfl, _, rfl, F5, c, p, b2, (fun b => H b = none ∧ b ≠ wl), rfl, c1, c2, hp5, ⟨hp0, npw⟩, ?_, ?_, by omega, okP, T5, fun v' as H6 f6 T6 it6 nd6 ha6 => ?_⟩
      · exact fun b hb5 => hIt.imp (fun _ h => h) (fun b o h e => k25 b o h.2 e) (hb b (List.mem_append_right _ hb5))
      · have e0 : lstsI (b1 ++ b2) = lstsI b1 ++ lstsI b2 := by simp [lstsI]
        rw [e0] at hnd
        rw [List.nodup_cons]
        refine ⟨fun hm => ?_, (List.nodup_append.mp hnd).2.1⟩
        obtain ⟨as, ha, hl2⟩ := List.mem_flatten.mp hm
        obtain ⟨b, hb8, rfl⟩ := List.mem_map.mp ha
        obtain ⟨_, xs, e5⟩ := hIt.lst (hb b (List.mem_append_right _ hb8)) p hl2
        rw [hp] at e5
        cases e5
      have hw6 := f6 _ _ nPw.symm hw5
      refine ⟨wl, _, v', rfl, rfl, hw6, Nat.lt_of_le_of_lt (show (b1.map (·.1)).length ≤ 1000000 by rw [List.length_map]; omega) (by decide), ?_⟩
      have k27 : ∀ b o, b ≠ Pt → b ≠ wl → H2 b = some o → (upd H6 wl (.lst (b1.map (·.1) ++ [v']))) b = some o := fun b o n1 n2 e => by
        rw [upd_ne n2]
        exact f6 _ _ n1 (k25 _ _ n2 e)
      obtain ⟨ps5, hP5, _, _⟩ := id T5
      have free5 : ∀ b, H5 b = none → H b = none ∧ b ≠ wl := fun b h => by
        refine ⟨?_, fun e => by rw [e, hw5] at h; cases h⟩
        cases e : H b with
        | none => rfl
        | some o =>
          have n1 : b ≠ Pt := fun e2 => by rw [e2, hP5] at h; cases h
          rw [F5 _ _ n1 e] at h
          cases h
      refine ⟨_, _, _, _, b1 ++ [(v', .node c (b2.map (·.2.1)), as)], rfl, ?_, ?_, ?_, ?_, ?_, ?_, ?_, k27 _ _ nPr.symm nrw hr2, ?_⟩
      · rw [upd_same, List.map_append]
        rfl
      · intro b hb7
        rcases List.mem_append.mp hb7 with h | h
        · exact hIt.imp (fun _ h => h) (fun b o h e => k27 b o (okP b h) h.2 e) (hb b (List.mem_append_left _ h))
        · simp only [List.mem_singleton] at h
          subst h
          refine hIt.imp (fun b h => h.elim id (free5 b)) (fun b o h e => ?_) it6
          rw [upd_ne (h.elim (fun h => h.2) fun h => (free5 b h).2)]
          exact e
      · have e0 : lstsI (b1 ++ b2) = lstsI b1 ++ lstsI b2 := by simp [lstsI]
        have e1 : lstsI (b1 ++ [(v', Tr.node c (b2.map (·.2.1)), as)]) = lstsI b1 ++ as := by simp [lstsI]
        rw [e0] at hnd
        rw [e1]
        refine nodup_snoc (List.nodup_append.mp hnd).1 nd6 fun a h1 h2 => ?_
        obtain ⟨as1, hm1, hl1⟩ := List.mem_flatten.mp h1
        obtain ⟨b, hb8, rfl⟩ := List.mem_map.mp hm1
        obtain ⟨o1, xs, e5⟩ := hIt.lst (hb b (List.mem_append_left _ hb8)) a hl1
        rcases ha6 a h2 with h | h
        · rcases List.mem_cons.mp h with h | h
          · rw [h, hp] at e5; cases e5
          · exact (List.nodup_append.mp hnd).2.2 a h1 a h rfl
        · rw [k25 _ _ o1.2 e5] at h
          cases h
      · rw [List.map_append]
        exact hst
      · rw [List.map_append, sizes_append]
        simp only [List.map_cons, List.map_nil, sizes, Tr.size]
        omega
      · intro b o n e
        exact k27 b o n (ne_of_none e hwl) (hf b o n e)
      · exact TabS.fr1 T6 hw6 fun b o n e => by rw [upd_ne n]; exact e
      · exact hpp.keep fun b o h e => k27 b o h.2.2 h.1 e
  · rintro σ H2 ⟨y3, y4, y5, y6, bs, rfl, hw2, hb, hnd, hst, hsz, hf, hT2, hr2, hpp⟩
    rw [hpp.len, List.drop_length] at hst
    generalize hus : bs.map (·.2.1) = us0 at hst
    cases hst
    obtain ⟨b, rfl⟩ : ∃ b, bs = [b] := by
      have := congrArg List.length hus
      rw [List.length_map] at this
      exact List.length_eq_one_iff.mp this
    simp only [List.map_cons, List.map_nil, List.cons.injEq, and_true] at hus
    refine ⟨_, rfl, wl, _, 0, b.1, rfl, rfl, SqL.of hw2, atI_nat (j := 0) rfl, ?_⟩
    have hb1 := hb b (by simp)
    refine q b.1 b.2.2 H2 hf hT2 ?_ (by simpa [lstsI] using hnd)
    rw [← hus]
    exact hIt.imp (fun b h => h.1) (fun _ _ _ h => h) hb1
end

def FrX (E : Addr → Prop) (H H' : Hp) : Prop := ∀ b o, ¬ E b → H b = some o → H' b = some o
theorem FrX.refl {E : Addr → Prop} {H : Hp} : FrX E H H := fun _ _ _ h => h
theorem FrX.trans {E : Addr → Prop} {H H1 H2 : Hp} (a : FrX E H H1) (b : FrX E H1 H2) : FrX E H H2 := fun c o n h => b c o n (a c o n h)
theorem FrX.same {E : Addr → Prop} {H H' : Hp} (s : Same H H') : FrX E H H' := fun b o _ h => s b o h
def sp_madeJ (R : Tr → V) (E : Addr → Prop) (H0 : Hp) (J : List Tr → Hp → Prop) (t0 : Tr) : Sp := fun vs H Q _ => ∃ (c : Nat) (bl : Addr) (ks done rest : List Tr), vs = [.str (ch c), .ref bl] ∧ t0.post = done ++ .node c ks :: rest ∧ 97 ≤ c ∧ c ≤ 122 ∧ ks.length ≤ 1000000 ∧
  H bl = some (.lst (ks.map R)) ∧ H0 bl = none ∧ FrX E H0 H ∧ J done H ∧ ∀ H', FrX E H H' → J (done ++ [.node c ks]) H' → Q (R (.node c ks)) H'
def sp_built_upwardJ (P : Program) (w : World) (K : PySem.W.Frag) (mg : Str → Option Value) (base : Heap) (k : Nat) : Sp := fun vs H Q _ => ∃ (v : V) (t : Tr) (f : Addr) (R : Tr → V) (E : Addr → Prop) (J : List Tr → Hp → Prop), vs = [v, .ref f] ∧ TrAt (fun b => ¬ E b) H v t ∧ t.size ≤ 1000000 ∧
  (∀ b, E b → H b ≠ none) ∧ (∀ l H' b, J l H' → E b → H' b ≠ none) ∧ (∀ l H1 H2, (∀ b o, H b ≠ none → H1 b = some o → H2 b = some o) → J l H1 → J l H2) ∧ J [] H ∧
  CalX P w K mg base k f (fun H' => FrX E H H') 2 (sp_madeJ R E H J t) ∧ ∀ H', FrX E H H' → J t.post H' → Q (R t) H'
section
variable {P : Program} {w : World} {K : PySem.W.Frag} {mg : Str → Option Value} {base : Heap}
theorem ok_built_upwardJ (T : Txt K mg) (k : Nat) (hk : 5 ≤ k) : FnOk P w K mg base CX0 (k + 1) T.f_built_upward T.d_built_upward ["tree", "made"] (sp_built_upwardJ P w K mg base k) := by
  have G_parts_upward : FnOk P w K mg base CX0 5 T.f_parts_upward T.d_parts_upward ["tree"] sp_parts_upward := ok_parts_upward T
  refine T.F_built_upward.ok sc_built_upward (fun vs H Q E h => ?_) (fun cdv A outer s H vs Q E hr h => ?_)
  · obtain ⟨v, t, f, R, EE, J, rfl, _⟩ := h
    rfl
  obtain ⟨v, t, f, R, EE, J, rfl, ht, hz, hE, hJE, hJ, J0, C, q⟩ := h
  have C_made := C
  refine ⟨_, (pss_cons (ps_set (i := 2) sc_built_upward.nd rfl (Or.inl rfl) (pe_lst pa_nil)) (pss_cons (ps_for PassesOwn.never rfl (pi_list (pe_call G_parts_upward (hr.mono (by omega)) (by rfl) T.m_parts_upward T.F_parts_upward.kp T.b_parts_upward .nil pass0 (pa_cons (pv 0) pa_nil))) (pg_tup rfl (pgs_cons (pg_name (i := 3) sc_built_upward.nd rfl (Or.inl rfl)) (pgs_cons (pg_name (i := 4) sc_built_upward.nd rfl (Or.inl rfl)) pgs_nil))) (pss_cons (ps_set (i := 5) sc_built_upward.nd rfl (Or.inl rfl) (pe_op op_sub (pe_callB call_len_seq (by rfl) T.z_len PySem.boot_len (pa_cons (pv 2) pa_nil)) (pe_callB call_len_seq (by rfl) T.z_len PySem.boot_len (pa_cons (pv 4) pa_nil)))) (pss_cons (ps_set (i := 6) sc_built_upward.nd rfl (Or.inl rfl) (pe_slice sl_list (pv 2) (po_some (pv 5)) po_none)) (pss_cons (ps_delFrom (pv 2) (pv 5)) (pss_one (ps_expr (pe_bm PySem.F.plainAttrs_list PySem.F.slot_list_append PySem.F.type_list_append mt_append (pv 2) (pa_cons (pe_calX (i := 1) C_made (hr.mono (by omega)) rfl (.inl (by rfl)) (pa_cons (pv 3) (pa_cons (pv 6) pa_nil))) pa_nil)))))))) (pss_one (ps_ret (pe_ix ix_list (pv 2) pe_int (fun _ _ => rfl)))))), ?_⟩
  refine ⟨(by show 0 ≤ sizeLine; decide), fun wl hwl => ?_⟩
  have nEw : ∀ b, H b = none → ¬ EE b := fun b h e => hE b e h
  have ht1 := (ht.off hwl).same (same_new (o := .lst []) hwl)
  refine ⟨_, rfl, v, t, _, rfl, ht1, hz, fun r wsv H1 s1 hr0 hr1 hparts => ?_⟩
  have hw1 : H1 wl = some (.lst []) := s1 _ _ upd_same
  have nrw : r ≠ wl := fun e => by rw [e, upd_same] at hr0; cases hr0
  have sH1 : Same H H1 := (same_new hwl).trans s1
  have hr00 : H r = none := by rw [upd_ne nrw] at hr0; exact hr0
  have hp2 : TrsAt (fun b => b ≠ wl ∧ b ≠ r ∧ ¬ EE b) H1 wsv t.post := by
    exact hparts.weak fun b ⟨k, h⟩ => ⟨k.2, fun e => h (by rw [e]; exact hr0), k.1⟩
  refine ⟨r, rfl, ⟨_, SqL.of hr1⟩, for_list (xs := wsv) (fun i σ H2 => ∃ (y3 y4 y5 y6 : Option V) (us : List Tr), σ = [some v, some (.ref f), some (.ref wl), y3, y4, y5, y6] ∧ H2 wl = some (.lst (us.map R)) ∧
      Runs us (t.post.drop i) [t] ∧ sizes us ≤ i ∧ FrX EE H H2 ∧ J (t.post.take i) H2 ∧ H2 r = some (.lst wsv) ∧ TrsAt (fun b => b ≠ wl ∧ b ≠ r ∧ ¬ EE b) H2 wsv t.post)
    ⟨none, none, none, none, [], rfl, hw1, (by rw [List.drop_zero]; exact runs_all t), (Nat.le_refl _), FrX.same sH1, (by rw [List.take_zero]; exact hJ _ _ _ (fun b o _ e => sH1 b o e) J0), hr1, hp2⟩ (fun i σ H2 _ ⟨_, _, _, _, _, _, _, _, _, _, _, h, _⟩ => SqL.of h) ?_ ?_⟩
  · rintro i x σ H2 hx ⟨y3, y4, y5, y6, us0, rfl, hw2, hst, hsz, hf, hJ2, hr2, hpp⟩
    obtain ⟨t1, ht1', hx2⟩ := hpp.getV hx
    have hdrop : t.post.drop i = t1 :: t.post.drop (i + 1) := by
      obtain ⟨hlt, e⟩ := List.getElem?_eq_some_iff.mp ht1'
      rw [← e]
      exact List.drop_eq_getElem_cons hlt
    have hi : i < t.size := by
      have := (List.getElem?_eq_some_iff.mp ht1').1
      rw [post_len] at this
      exact this
    have hsplit : t.post = t.post.take i ++ t1 :: t.post.drop (i + 1) := by rw [← hdrop, List.take_append_drop]
    have htake : t.post.take (i + 1) = t.post.take i ++ [t1] := take_succ_of ht1'
    rw [hdrop] at hst
    cases hst with
    | cons hst =>
    rename_i us ks c
    rw [sizes_append] at hsz
    have lz := len_sizes ks
    have lz1 := len_sizes us
    cases hx2 with
    | node g1 g2 o1 o2 c1 c2 rr =>
      rename_i ax lx vx
      have lr := rr.len
      refine ⟨_, _, rfl, SqT.of g1, rfl, ?_⟩
      refine ⟨_, _, rfl, _, _, rfl, rfl, _, rfl, wl, _, rfl, .inl (SqL.of hw2), _, rfl, lx, _, rfl, .inl (SqL.of g2), _, _, rfl, rfl, ?_⟩
      rw [List.length_map, lr, List.length_append]
      have ek : (((us.length + ks.length : Nat) : Int) - (ks.length : Int)) = (us.length : Int) := by omega
      show gName 5 (.int (((us.length + ks.length : Nat) : Int) - (ks.length : Int))) _ _ _
      rw [ek]
      refine ⟨_, rfl, _, rfl, _, rfl, wl, _, rfl, SqL.of hw2, fun p hp => ?_⟩
      rw [cut_fromU _ _ (by rw [List.length_map, List.length_append]; omega)]
      have hcut : ((us ++ ks).map R).drop us.length = ks.map R := by
        rw [List.map_append, List.drop_left' (List.length_map _)]
      have htk : ((us ++ ks).map R).take us.length = us.map R := by
        rw [List.map_append, List.take_left' (List.length_map _)]
      rw [hcut]
      have npw : p ≠ wl := fun e => by rw [e, hw2] at hp; cases hp
      have hp0 : H p = none := by
        cases e : H p with
        | none => rfl
        | some o =>
          by_cases hEp : EE p
          · exact absurd hp (hJE _ _ _ hJ2 hEp)
          · rw [hf p o hEp e] at hp; cases hp
      refine ⟨_, rfl, _, rfl, wl, _, us.length, rfl, rfl, (by rw [upd_ne npw.symm]; exact hw2), (by rw [List.length_map, List.length_append]; omega), ?_⟩
      rw [htk]
      generalize hH5 : upd (upd H2 p (.lst (ks.map R))) wl (.lst (us.map R)) = H5
      have hw5 : H5 wl = some (.lst (us.map R)) := by rw [← hH5]; exact upd_same
      have hp5 : H5 p = some (.lst (ks.map R)) := by rw [← hH5, upd_ne npw]; exact upd_same
      have k25 : ∀ b o, b ≠ wl → H2 b = some o → H5 b = some o := fun b o n e => by rw [← hH5, upd_ne n, upd_ne (ne_of_none e hp)]; exact e
      have F5 : FrX EE H H5 := fun b o n e => k25 _ _ (ne_of_none e hwl) (hf b o n e)
      have J5 : J (t.post.take i) H5 := hJ _ _ _ (fun b o hb e => k25 b o (fun e2 => hb (by rw [e2]; exact hwl)) e) hJ2
      refine ⟨_, rfl, .inl ⟨rfl, _, SqL.of hw5⟩, rfl, F5, _, rfl, _, rfl, F5, c, p, ks, t.post.take i, _, rfl, hsplit, c1, c2, by omega, hp5, hp0, F5, J5, fun H6 f6 J6 => ?_⟩
      have hw6 := f6 _ _ (nEw _ hwl) hw5
      refine ⟨wl, _, _, rfl, rfl, hw6, Nat.lt_of_le_of_lt (show (us.map R).length ≤ 1000000 by rw [List.length_map]; omega) (by decide), ?_⟩
      have k27 : ∀ b o, ¬ EE b → b ≠ wl → H2 b = some o → (upd H6 wl (.lst (us.map R ++ [R (.node c ks)]))) b = some o := fun b o n1 n2 e => by
        rw [upd_ne n2]
        exact f6 _ _ n1 (k25 _ _ n2 e)
      refine ⟨_, _, _, _, us ++ [.node c ks], rfl, ?_, hst, ?_, ?_, ?_, k27 _ _ (nEw _ hr00) nrw hr2, ?_⟩
      · rw [upd_same, List.map_append]
        rfl
      · rw [sizes_append]
        simp only [sizes, Tr.size]
        omega
      · intro b o n e
        exact k27 b o n (ne_of_none e hwl) (hf b o n e)
      · rw [htake]
        exact hJ _ _ _ (fun b o hb e => by rw [upd_ne (fun e2 => hb (by rw [e2]; exact hwl))]; exact e) J6
      · exact hpp.keep fun b o h e => k27 b o h.2.2 h.1 e
  · rintro σ H2 ⟨y3, y4, y5, y6, us, rfl, hw2, hst, hsz, hf, hJ2, hr2, hpp⟩
    rw [hpp.len, List.drop_length] at hst
    rw [hpp.len, List.take_length] at hJ2
    cases hst
    exact ⟨_, rfl, wl, _, 0, R t, rfl, rfl, SqL.of hw2, atI_nat (j := 0) rfl, q H2 hf hJ2⟩
end


theorem join_go (g : Str) (hg : g.cps = #[]) : ∀ (ts : List Tr) (a : Array Nat), (ts.map ws).foldl (fun acc p => acc ++ g.cps ++ p.cps) a = a ++ (wrs ts).toArray
  | [], a => by simp [wrs]
  | t :: r, a => by
    rw [List.map_cons, List.foldl_cons, join_go g hg r, hg]
    simp [wrs, ws]
theorem join_ws (ts : List Tr) : Txt.join (Str.ofString "") (ts.map ws) = ⟨(wrs ts).toArray⟩ := by
  show Builtin.Str.glued _ _ = _
  unfold Builtin.Str.glued
  cases ts with
  | nil => rfl
  | cons t r =>
    have e : (Str.ofString "").cps = #[] := by decide +kernel
    have := join_go (Str.ofString "") e r t.wr.toArray
    simp only [List.map_cons, List.headD_cons, List.drop_succ_cons, List.drop_zero, wrs]
    rw [show (ws t).cps = t.wr.toArray from rfl, this]
    simp
theorem ws_len (ts : List Tr) : ((ts.map ws).map (·.length)).sum = (wrs ts).length := by
  induction ts with
  | nil => rfl
  | cons t r ih => simp only [List.map_cons, List.sum_cons, ih, wrs, List.length_append]; simp [ws, Str.length]
theorem cut_from (xs : List V) (k : Nat) (h : k ≤ xs.length) : cutV xs (some (k : Int)) none = xs.drop k := by
  have e : HT.sIx xs.length 0 (some (k : Int)) = k := by
    show (if (k : Int) < 0 then ((k : Int) + (xs.length : Int)).toNat else min ((k : Int).toNat) xs.length) = k
    rw [if_neg (by omega)]
    omega
  have e2 : HT.sIx xs.length xs.length none = xs.length := rfl
  unfold cutV
  rw [e, e2]
  exact List.take_of_length_le (by rw [List.length_drop]; omega)
def leB (a b : V × Tr × List Addr) : Bool := leW a.2.1 b.2.1
theorem leB_str (l : List (V × Tr × List Addr)) : ((l.map fun b => (b.1, ws b.2.1)).mergeSort leS).map Prod.fst = (l.mergeSort leB).map (·.1) := by
  rw [← PySem.W.sort_maps (r := leB) (s := leS) (fun b : V × Tr × List Addr => (b.1, ws b.2.1)) (fun a _ b _ => rfl), List.map_map]
  rfl
theorem leB_tr (l : List (V × Tr × List Addr)) : (l.mergeSort leB).map (·.2.1) = (l.map (·.2.1)).mergeSort leW :=
  PySem.W.sort_maps (r := leB) (s := leW) (fun b : V × Tr × List Addr => b.2.1) (fun a _ b _ => rfl)
mutual
theorem TrAt.ltr {ok : Addr → Prop} {H : Hp} : ∀ (t : Tr) (v : V), TrAt ok H v t → t.lets Ltr
  | .node c ks, v, x => by
    cases x with
    | node h1 h2 k1 k2 c1 c2 r =>
      simp only [Tr.lets]
      exact ⟨⟨c1, c2⟩, TrsAt.ltr ks _ r⟩
theorem TrsAt.ltr {ok : Addr → Prop} {H : Hp} : ∀ (ts : List Tr) (vs : List V), TrsAt ok H vs ts → letss Ltr ts
  | [], vs, x => trivial
  | t :: r, vs, x => by
    cases x with
    | cons a b =>
      simp only [letss]
      exact ⟨TrAt.ltr t _ a, TrsAt.ltr r _ b⟩
end
abbrev lsts (bs : List (V × Tr × List Addr)) : List Addr := (bs.map fun b => b.2.2).flatten
mutual
theorem TrAt.kind {ok : Addr → Prop} {H : Hp} : ∀ (t : Tr) (v : V), TrAt ok H v t → TrAt (fun b => ok b ∧ ∀ ps, H b ≠ some (.tbl ps)) H v t
  | .node c ks, v, x => by
    cases x with
    | node h1 h2 k1 k2 c1 c2 r => exact .node h1 h2 ⟨k1, fun ps e => by rw [h1] at e; cases e⟩ ⟨k2, fun ps e => by rw [h2] at e; cases e⟩ c1 c2 (TrsAt.kind ks _ r)
theorem TrsAt.kind {ok : Addr → Prop} {H : Hp} : ∀ (ts : List Tr) (vs : List V), TrsAt ok H vs ts → TrsAt (fun b => ok b ∧ ∀ ps, H b ≠ some (.tbl ps)) H vs ts
  | [], vs, x => by cases x; exact .nil
  | t :: r, vs, x => by
    cases x with
    | cons a b => exact .cons (TrAt.kind t _ a) (TrsAt.kind r _ b)
end
theorem TabS.fr {H H' : Hp} {P p : Addr} {q : Str} {xs : List V} (h : LamX.TabS H P q) (hp : H p = some (.lst xs)) (f : Fr p H H') : LamX.TabS H' P q := by
  obtain ⟨ps, h1, h2, h3⟩ := h
  refine ⟨ps, f _ _ (fun e => by rw [e, hp] at h1; cases h1) h1, h2, fun pos cv hc => ?_⟩
  obtain ⟨c, e, h4⟩ := h3 pos cv hc
  exact ⟨c, e, f _ _ (fun e => by rw [e, hp] at h4; cases h4) h4⟩

def ItR : ItP := fun ok H v t as => RowO1 ok H (v, t.told, as)
theorem itOk_ItR : ItOk ItR := ⟨fun hk h x => RowO1.imp x hk h, fun ⟨_, _, _, _, _, h⟩ => TrO.lst _ _ _ h⟩
def sp_written_part : Sp := fun vs H Q _ => ∃ (c : Nat) (l : Addr) (ts : List Tr), vs = [.str (ch c), .ref l] ∧ H l = some (.lst (ts.map fun t => V.str (ws t))) ∧ sizes ts ≤ 1000000 ∧ Q (.str (ws (.node c ts))) H
section
variable {P : Program} {w : World} {K : PySem.W.Frag} {mg : Str → Option Value} {base : Heap}
theorem ok_written_part (T : Txt K mg) : FnOk P w K mg base CX0 1 T.f_written_part T.d_written_part ["letter", "texts"] sp_written_part := by
  refine T.F_written_part.ok sc_written_part (fun vs H Q E h => ?_) (fun cdv A outer s H vs Q E hr h => ?_)
  · obtain ⟨c, l, ts, rfl, _⟩ := h
    rfl
  obtain ⟨c, l, ts, rfl, hl, hz, q⟩ := h
  refine ⟨_, (pss_cons (ps_if (pt_not (pt_truth (pv 1) (by intro _; rfl))) (pss_one (ps_ret (pv 0))) pss_nil) (pss_cons (ps_set (i := 2) sc_written_part.nd rfl (Or.inl rfl) (pe_join pe_str (pv 1))) (pss_one (ps_ret (pe_joined (.cons (pe_fmt (pv 0)) (.cons pe_str (.cons (pe_fmt (pv 2)) (.cons pe_str .nil))))))))), ?_⟩
  cases ts with
  | nil =>
    refine ⟨_, rfl, false, .inl ⟨_, SqL.of hl, rfl⟩, iteT ?_⟩
    exact ⟨_, rfl, q⟩
  | cons t0 r =>
    refine ⟨_, rfl, true, .inl ⟨_, SqL.of hl, rfl⟩, iteF ?_⟩
    generalize hts : t0 :: r = ts at *
    have e0 : (ts.map fun t => V.str (ws t)) = (ts.map ws).map V.str := by simp
    rw [e0] at hl
    refine ⟨⟨_, rfl⟩, _, rfl, _, l, _, rfl, rfl, .inl (SqL.of hl), ?_, ?_⟩
    · rw [ws_len]
      have := wrs_len ts
      have e : (Str.ofString "").length = 0 := by decide +kernel
      rw [e, Nat.mul_zero]
      omega
    rw [join_ws]
    have lw := wrs_len ts
    generalize hW : (⟨(wrs ts).toArray⟩ : Str) = W
    have lW : W.length ≤ 3000000 := by
      rw [← hW]
      show (wrs ts).toArray.size ≤ _
      rw [List.size_toArray]
      omega
    have l1 : (ch c).length = 1 := rfl
    have l2 : (Str.ofString "(").length = 1 := by decide +kernel
    have l3 : (Str.ofString ")").length = 1 := by decide +kernel
    have la : ∀ a b : Str, (a ++ b).length = a.length + b.length := fun a b => by
      show (a.cps ++ b.cps).size = _
      rw [Array.size_append]
      rfl
    have l0 : Str.empty.length = 0 := rfl
    have big : ∀ n : Nat, n ≤ 3000010 → n ≤ sizeLine := fun n h => Nat.le_trans h (by decide)
    refine ⟨_, rfl, .inl ⟨_, rfl, big _ (by omega), _, rfl, big _ (by rw [la]; omega), ?_⟩⟩
    refine ⟨_, rfl, big _ (by rw [la, la]; omega), ?_⟩
    refine ⟨_, rfl, .inl ⟨_, rfl, big _ (by omega), _, rfl, big _ (by rw [la, la, la]; omega), ?_⟩⟩
    refine ⟨_, rfl, big _ (by rw [la, la, la, la]; omega), ?_⟩
    have e : ws (.node c ts) = Str.empty ++ ch c ++ Str.ofString "(" ++ W ++ Str.ofString ")" := by
      have e1 : (Str.ofString "(").cps = #[40] := by decide +kernel
      have e2 : (Str.ofString ")").cps = #[41] := by decide +kernel
      rw [← hW, ← hts]
      show (⟨(c :: brk (wrs _)).toArray⟩ : Str) = (⟨((((#[] ++ #[c]) ++ (Str.ofString "(").cps) ++ (wrs _).toArray) ++ (Str.ofString ")").cps)⟩ : Str)
      rw [e1, e2, brk_wrs]
      simp
    rw [e] at q
    exact q
theorem told_sizes : ∀ (ts : List Tr), sizes (ts.map Tr.told) = sizes ts
  | [] => rfl
  | t :: r => by simp only [List.map_cons, sizes, told_size, told_sizes r]
theorem ok__joined (T : Txt K mg) (B : Tbs T base) : FnOk P w K mg base CX0 2 T.f__joined T.d__joined ["letter", "below"] (sp_made ItR T.P__joined q__joined) := by
  have G_written_part : FnOk P w K mg base CX0 1 T.f_written_part T.d_written_part ["letter", "texts"] sp_written_part := ok_written_part T
  refine okC T.F__joined T.h__joined sc__joined (fun vs H Q E h => ?_) (fun A outer s H vs Q E hr h => ?_)
  · obtain ⟨c, bl, bs, ok, rfl, _⟩ := h
    rfl
  obtain ⟨c, bl, bs0, ok, rfl, c1, c2, hbl, okb, hb0, hnd, hsz0, hok, hT, q⟩ := h
  refine ⟨_, (pss_cons (ps_set (i := 2) sc__joined.nd rfl (Or.inl rfl) (pe_callBK (cr_sortRow hr) (by rfl) T.z_sorted (by decide +kernel) (pa_cons (pv 1) pa_nil) (pk_cons (pe_lamRow B.tb__joined rfl (by rfl) (rowL_mk (x := "row") (by decide +kernel) rfl rfl rfl rfl (fun _ _ _ _ _ _ _ _ _ _ _ _ _ => rfl))) pk_nil))) (pss_one (ps_ret (pe_tup (pa_cons (pe_call G_written_part (hr.mono (by omega)) (by rfl) T.m_written_part T.F_written_part.kp T.b_written_part .nil pass0 (pa_cons (pv 0) (pa_cons (pe_lc (own := [("row", 3)]) (g := gName 3) (te := tOp (rIxT K) (tVar 3) (tC (.int 0))) (tt := tYes) rfl sc__joined.nd (pi_list (pv 2)) (blkOk_by (own := [("row", 3)]) (N := ["letter", "below", "rows", "row"]) (sc := (defScope s__joined)) (by decide +kernel)) (fun _ _ _ _ _ => (pg_name (i := 3) sc__joined.nd rfl (Or.inl rfl))) (fun _ _ _ _ _ => pts_nil) (fun _ _ _ _ _ => (pe_ix ix_tup (pv 3) pe_int (fun _ _ => rfl)))) pa_nil))) (pa_cons (pe_tup (pa_cons (pv 0) (pa_cons (pe_lc (own := [("row", 3)]) (g := gName 3) (te := tOp (rIxT K) (tVar 3) (tC (.int 1))) (tt := tYes) rfl sc__joined.nd (pi_list (pv 2)) (blkOk_by (own := [("row", 3)]) (N := ["letter", "below", "rows", "row"]) (sc := (defScope s__joined)) (by decide +kernel)) (fun _ _ _ _ _ => (pg_name (i := 3) sc__joined.nd rfl (Or.inl rfl))) (fun _ _ _ _ _ => pts_nil) (fun _ _ _ _ _ => (pe_ix ix_tup (pv 3) pe_int (fun _ _ => rfl)))) pa_nil))) pa_nil)))))), ?_⟩
  obtain ⟨ps0, hP0, _, _⟩ := id hT
  generalize hbs : bs0.map (fun b => (b.1, b.2.1.told, b.2.2)) = bs at *
  have e1 : bs0.map (·.1) = bs.map (·.1) := by rw [← hbs, List.map_map]; rfl
  have e2 : (bs0.map (·.2.1)).map Tr.told = bs.map (·.2.1) := by rw [← hbs, List.map_map, List.map_map]; rfl
  have e3 : lstsI bs0 = lsts bs := by rw [← hbs]; simp only [lstsI, lsts, List.map_map]; rfl
  have hb : ∀ b ∈ bs, RowO1 ok H b := by
    intro b h
    rw [← hbs] at h
    obtain ⟨b0, hb1, rfl⟩ := List.mem_map.mp h
    exact hb0 b0 hb1
  have hsz : sizes (bs.map (·.2.1)) ≤ 1000000 := by rw [← e2, told_sizes]; exact hsz0
  rw [e1] at hbl
  rw [e3] at hnd
  have lz := len_sizes (bs.map (·.2.1))
  rw [List.length_map] at lz
  refine ⟨_, rfl, hT, fun f cc H3 f3 hT3' hF hC => ?_⟩
  have hb3 : ∀ b ∈ bs, RowO1 ok H3 b := fun b h => (hb b h).imp (fun _ h => h) fun b o h e => f3 b o (hok b h) e
  have hbl3 := f3 _ _ (hok _ okb) hbl
  refine ⟨bl, f, cc, _, bs.map fun b => (b.1, ws b.2.1), rfl, rfl, hF, hC, ?_, ?_, ?_, fun rs hrs => ?_⟩
  · rw [hbl3, List.map_map]
    rfl
  · intro b hb4
    obtain ⟨b2, hb5, rfl⟩ := List.mem_map.mp hb4
    obtain ⟨p2, x2, e1, e2, _⟩ := hb3 b2 hb5
    exact ⟨p2, _, e1, e2⟩
  · rw [List.length_map]
    exact Nat.le_trans (show _ ≤ 1000000 by omega) (by decide)
  rw [leB_str]
  generalize hcs : bs.mergeSort leB = cs
  have hperm : cs.Perm bs := by rw [← hcs]; exact List.mergeSort_perm _ _
  have hctr : cs.map (·.2.1) = (bs.map (·.2.1)).mergeSort leW := by rw [← hcs, leB_tr]
  have hrs0 : H rs = none := by
    cases e : H rs with
    | none => rfl
    | some o =>
      have n1 : rs ≠ T.P__joined := fun e2 => by
        obtain ⟨_, e3, _⟩ := hT3'
        rw [e2, e3] at hrs
        cases hrs
      rw [f3 _ _ n1 e] at hrs
      cases hrs
  have lcs := hperm.length_eq
  have szc : sizes (cs.map (·.2.1)) = sizes (bs.map (·.2.1)) := sizes_perm (hperm.map _)
  have s34 : Same H3 (upd H3 rs (.lst (cs.map (·.1)))) := same_new hrs
  have hb4 : ∀ b ∈ cs, RowO1 ok (upd H3 rs (.lst (cs.map (·.1)))) b := fun b h => (hb3 b (hperm.mem_iff.mp h)).same s34
  have hR : (upd H3 rs (.lst (cs.map (·.1)))) rs = some (.lst (cs.map (·.1))) := upd_same
  have T4 := hT3'.ext s34
  have F4 : Fr T.P__joined H (upd H3 rs (.lst (cs.map (·.1)))) := fun b o n e => s34 _ _ (f3 b o n e)
  generalize hH4 : upd H3 rs (.lst (cs.map (·.1))) = H4 at *
  refine ⟨_, rfl, _, rfl, rs, rfl, ⟨_, SqL.of hR⟩, fun D hD => ?_⟩
  refine lc_list (xs := cs.map (·.1)) (fun i H5 => H5 D = some (.lst ((cs.take i).map fun b => .str (ws b.2.1))) ∧ Same H4 H5) ⟨upd_same, same_new hD⟩ (fun i H5 _ ⟨_, s⟩ => SqL.of (s _ _ hR)) ?_ ?_
  · rintro i x H5 hx ⟨g1, g2⟩
    rw [List.getElem?_map] at hx
    cases hc : cs[i]? with
    | none => rw [hc] at hx; cases hx
    | some b =>
      rw [hc] at hx
      cases hx
      obtain ⟨p, y, e, h1, h2, h3⟩ := hb4 b (List.mem_of_getElem? hc)
      obtain ⟨bv, bt, bl⟩ := b
      cases e
      refine ⟨rfl, _, rfl, p, _, 0, _, rfl, rfl, SqT.of (g2 _ _ h1), atI_nat (j := 0) rfl, _, g1, ?_, ?_, same_add g2 hD⟩
      · rw [List.length_map, List.length_take]
        exact Nat.lt_of_le_of_lt (show _ ≤ 1000000 by omega) (by decide)
      · rw [upd_same, take_succ_of hc, List.map_append]
        rfl
  rintro H5 ⟨g1, g2⟩
  rw [List.length_map, List.take_length] at g1
  have e0 : (cs.map fun b => V.str (ws b.2.1)) = (cs.map (·.2.1)).map fun t => V.str (ws t) := by simp
  rw [e0] at g1
  refine ⟨c, D, cs.map (·.2.1), rfl, g1, by omega, ?_⟩
  refine ⟨_, rfl, _, rfl, rs, rfl, ⟨_, SqL.of (g2 _ _ hR)⟩, fun D2 hD2 => ?_⟩
  have free4 : ∀ b, H4 b = none → H b = none := fun b h => by
    cases e : H b with
    | none => rfl
    | some o =>
      by_cases n1 : b = T.P__joined
      · obtain ⟨_, e3, _⟩ := T4
        rw [n1, e3] at h
        cases h
      · rw [F4 _ _ n1 e] at h
        cases h
  have hD20 : H D2 = none := free4 _ (g2.free hD2)
  have hD24 : H4 D2 = none := g2.free hD2
  refine lc_list (xs := cs.map (·.1)) (fun i H6 => ∃ ys, H6 D2 = some (.lst ys) ∧ TrsO (fun b => ok b ∧ b ≠ D2) H6 ys ((cs.take i).map (·.2.1)) ((cs.take i).map (·.2.2)).flatten ∧ Same H5 H6) ⟨[], upd_same, .nil, same_new hD2⟩ (fun i H6 _ ⟨_, _, _, s⟩ => SqL.of (s _ _ (g2 _ _ hR))) ?_ ?_
  · rintro i x H6 hx ⟨ys, k1, k2, k3⟩
    rw [List.getElem?_map] at hx
    cases hc : cs[i]? with
    | none => rw [hc] at hx; cases hx
    | some b =>
      rw [hc] at hx
      cases hx
      obtain ⟨p, y, e, h1, h2, h3⟩ := hb4 b (List.mem_of_getElem? hc)
      obtain ⟨bv, bt, bl⟩ := b
      cases e
      have hy := ((h3.off hD24).same (g2.trans k3))
      have kl := k2.len
      rw [List.length_map, List.length_take] at kl
      refine ⟨rfl, _, rfl, p, _, 1, _, rfl, rfl, SqT.of (k3 _ _ (g2 _ _ h1)), atI_nat (j := 1) rfl, ys, k1, ?_, ys ++ [y], upd_same, ?_, same_add k3 hD2⟩
      · exact Nat.lt_of_le_of_lt (show _ ≤ 1000000 by omega) (by decide)
      · rw [take_succ_of hc, List.map_append, List.map_append, List.flatten_append]
        have ky := k2.snoc hy
        simp only [List.map_cons, List.map_nil, List.flatten_cons, List.flatten_nil, List.append_nil]
        exact ky.keep (upd_keep fun b h => h.2)
  rintro H6 ⟨ys, k1, k2, k3⟩
  rw [List.length_map, List.take_length] at k2
  have s46 : Same H4 H6 := g2.trans k3
  refine ⟨(by show 2 ≤ sizeLine; decide), fun a ha => ⟨(by show 2 ≤ sizeLine; decide), fun p hp => ?_⟩⟩
  have nap : a ≠ p := fun e => by rw [← e, upd_same] at hp; cases hp
  have hp1 : H6 p = none := NdefX.upd_none hp
  have s68 : Same H6 (upd (upd H6 a (.tup [.str (ch c), .ref D2])) p (.tup [.str (ws (.node c (cs.map (·.2.1)))), .ref a])) := (same_new ha).trans (same_new hp)
  have s48 := s46.trans s68
  have nDa : D2 ≠ a := ne_of_none k1 ha
  have nDp : D2 ≠ p := ne_of_none k1 hp1
  have e3' : ((cs.map (·.2.2)).flatten).Perm (lsts bs) := (hperm.map _).flatten
  have etold : (Tr.node c (bs0.map (·.2.1))).told = .node c (cs.map (·.2.1)) := by
    rw [hctr, ← e2]
    simp only [Tr.told, tolds_map]
  have ndb := (List.nodup_cons.mp hnd)
  refine q (.ref p) (D2 :: (cs.map (·.2.2)).flatten) _ (fun b o n e => s48 _ _ (F4 b o n e)) (T4.ext s48) ?_ ?_ ?_
  · show RowO1 _ _ (V.ref p, (Tr.node c (bs0.map (·.2.1))).told, _)
    rw [etold]
    refine ⟨p, .ref a, rfl, upd_same, .inr (free4 _ (s46.free hp1)), ?_⟩
    refine .node (by rw [upd_ne nap]; exact upd_same) (by rw [upd_ne nDp, upd_ne nDa]; exact k1) (.inr (free4 _ (s46.free ha))) (.inr hD20) c1 c2 ?_
    exact (k2.same s68).weak fun b h => .inl h.1
  · rw [List.nodup_cons]
    refine ⟨fun hm => ?_, (e3'.nodup_iff).mpr ndb.2⟩
    exact (TrsO.lst _ _ _ k2 D2 hm).1.2 rfl
  · intro b hb8
    rcases List.mem_cons.mp hb8 with h | h
    · exact .inr (h ▸ hD20)
    · refine .inl (List.mem_cons_of_mem _ ?_)
      rw [e3]
      exact e3'.mem_iff.mp h
def sp__written_and_told (Pt : Addr) (q : Str) : Sp := fun vs H Q _ => ∃ (v : V) (t : Tr), vs = [v] ∧ TrAt (fun _ => True) H v t ∧ t.size ≤ 1000000 ∧ LamX.TabS H Pt q ∧
  ∀ v' as H', Fr Pt H H' → LamX.TabS H' Pt q → as.Nodup → RowO1 (fun b => H b = none) H' (v', t.told, as) → Q v' H'
theorem ok__written_and_told (T : Txt K mg) (B : Tbs T base) : FnOk P w K mg base CX0 8 T.f__written_and_told T.d__written_and_told ["tree"] (sp__written_and_told T.P__joined q__joined) := by
  have G_built_upward : FnOk P w K mg base CX0 7 T.f_built_upward T.d_built_upward ["tree", "made"] (sp_built_upward P w K mg base 6 T.P__joined q__joined) := ok_built_upward T 6 (by decide) _ _
  refine T.F__written_and_told.ok sc__written_and_told (fun vs H Q E h => ?_) (fun cdv A outer s H vs Q E hr h => ?_)
  · obtain ⟨v, t, rfl, _⟩ := h
    rfl
  obtain ⟨v, t, rfl, ht, hz, hT, q⟩ := h
  refine ⟨_, (pss_one (ps_ret (pe_call G_built_upward (hr.mono (by omega)) (by rfl) T.m_built_upward T.F_built_upward.kp T.b_built_upward .nil pass0 (pa_cons (pv 0) (pa_cons (pe_glob (v := .ref T.f__joined) rfl T.m__joined rfl) pa_nil))))), ?_⟩
  refine ⟨_, rfl, v, t, T.f__joined, ItR, rfl, ht, hz, itOk_ItR, hT, ?_, fun r as H' f T' x nd => q r as H' f T' nd x⟩
  exact (calX_of (ok__joined T B) T.F__joined T.b__joined (G := fun H' => Fr T.P__joined H H')).imp (by decide) (fun _ h => h) (fun _ _ _ _ h => h)
end
def sp_told_form (Pt : Addr) (q : Str) : Sp := fun vs H Q _ => ∃ (v : V) (t : Tr), vs = [v] ∧ TrAt (fun _ => True) H v t ∧ t.size ≤ 1000000 ∧ LamX.TabS H Pt q ∧
  ∀ x as H', Fr Pt H H' → LamX.TabS H' Pt q → as.Nodup → TrO (fun b => H b = none) H' x t.told as → Q x H'
def sp_written_tree (Pt : Addr) (q : Str) : Sp := fun vs H Q _ => ∃ (v : V) (t : Tr), vs = [v] ∧ TrAt (fun _ => True) H v t ∧ t.size ≤ 1000000 ∧ LamX.TabS H Pt q ∧
  ∀ H', Fr Pt H H' → LamX.TabS H' Pt q → Q (.str (ws t.told)) H'
section
variable {P : Program} {w : World} {K : PySem.W.Frag} {mg : Str → Option Value} {base : Heap}
theorem ok_told_form (T : Txt K mg) (B : Tbs T base) : FnOk P w K mg base CX0 9 T.f_told_form T.d_told_form ["tree"] (sp_told_form T.P__joined q__joined) := by
  have G__written_and_told : FnOk P w K mg base CX0 8 T.f__written_and_told T.d__written_and_told ["tree"] (sp__written_and_told T.P__joined q__joined) := ok__written_and_told T B
  refine T.F_told_form.ok sc_told_form (fun vs H Q E h => ?_) (fun cdv A outer s H vs Q E hr h => ?_)
  · obtain ⟨v, t, rfl, _⟩ := h
    rfl
  obtain ⟨v, t, rfl, ht, hz, hT, q⟩ := h
  refine ⟨_, (pss_one (ps_ret (pe_ix ix_tup (pe_call G__written_and_told (hr.mono (by omega)) (by rfl) T.m__written_and_told T.F__written_and_told.kp T.b__written_and_told .nil pass0 (pa_cons (pv 0) pa_nil)) pe_int (fun _ _ => rfl)))), ?_⟩
  refine ⟨_, rfl, v, t, rfl, ht, hz, hT, fun v' as H' f T' nd row => ?_⟩
  obtain ⟨p, x, rfl, h1, h2, h3⟩ := row
  exact ⟨p, _, 1, _, rfl, rfl, SqT.of h1, atI_nat (j := 1) rfl, q x as H' f T' nd h3⟩
end


def hstep (acc : List (Tr × Nat)) (t : Tr) : List (Tr × Nat) :=
  match acc.getLast? with
  | some (u, n) => if u.wr = t.wr then acc.dropLast ++ [(u, n + 1)] else acc ++ [(t, 1)]
  | none => [(t, 1)]
def rle (ts : List Tr) : List (Tr × Nat) := ts.foldl hstep []
theorem rle_snoc (ts : List Tr) (t : Tr) : rle (ts ++ [t]) = hstep (rle ts) t := by
  unfold rle
  rw [List.foldl_append]
  rfl
def expand (acc : List (Tr × Nat)) : List Tr := (acc.map fun e => List.replicate e.2 e.1).flatten
theorem expand_append (a b : List (Tr × Nat)) : expand (a ++ b) = expand a ++ expand b := by simp [expand]
theorem hstep_expand {acc : List (Tr × Nat)} {t : Tr} (ha : ∀ e ∈ acc, e.1.lets Ltr) (ht : t.lets Ltr) : expand (hstep acc t) = expand acc ++ [t] := by
  unfold hstep
  cases h : acc.getLast? with
  | none =>
    have : acc = [] := List.getLast?_eq_none_iff.mp h
    subst this
    rfl
  | some e =>
    obtain ⟨u, n⟩ := e
    have hne : acc ≠ [] := fun e => by rw [e] at h; cases h
    have hl : acc.getLast hne = (u, n) := by
      rw [List.getLast?_eq_some_getLast hne] at h
      exact Option.some.inj h
    have hsp : acc = acc.dropLast ++ [(u, n)] := by rw [← hl]; exact (List.dropLast_concat_getLast hne).symm
    dsimp only
    by_cases hw : u.wr = t.wr
    · rw [if_pos hw]
      have hu := ha (u, n) (by rw [hsp]; simp)
      have : u = t := wr_eq hu ht hw
      subst this
      conv => rhs; rw [hsp]
      rw [expand_append, expand_append]
      simp [expand, List.replicate_succ']
    · rw [if_neg hw, expand_append]
      simp [expand]
theorem hstep_lets {acc : List (Tr × Nat)} {t : Tr} (ha : ∀ e ∈ acc, e.1.lets Ltr ∧ 1 ≤ e.2) (ht : t.lets Ltr) : ∀ e ∈ hstep acc t, e.1.lets Ltr ∧ 1 ≤ e.2 := by
  unfold hstep
  intro e he
  cases h : acc.getLast? with
  | none =>
    rw [h] at he
    simp only [List.mem_singleton] at he
    subst he
    exact ⟨ht, Nat.le_refl 1⟩
  | some x =>
    obtain ⟨u, n⟩ := x
    rw [h] at he
    dsimp only at he
    by_cases hw : u.wr = t.wr
    · rw [if_pos hw] at he
      rcases List.mem_append.mp he with he | he
      · exact ha e ((List.dropLast_sublist _).subset he)
      · simp only [List.mem_singleton] at he
        subst he
        exact ⟨(ha (u, n) (List.mem_of_getLast? h)).1, Nat.le_add_left 1 n⟩
    · rw [if_neg hw] at he
      rcases List.mem_append.mp he with he | he
      · exact ha e he
      · simp only [List.mem_singleton] at he
        subst he
        exact ⟨ht, Nat.le_refl 1⟩
theorem rle_go : ∀ (ts : List Tr) (acc : List (Tr × Nat)), (∀ e ∈ acc, e.1.lets Ltr ∧ 1 ≤ e.2) → letss Ltr ts → expand (ts.foldl hstep acc) = expand acc ++ ts ∧ ∀ e ∈ ts.foldl hstep acc, e.1.lets Ltr ∧ 1 ≤ e.2
  | [], acc, h, _ => ⟨by simp, h⟩
  | t :: r, acc, h, hl => by
    simp only [letss] at hl
    obtain ⟨h1, h2⟩ := rle_go r (hstep acc t) (hstep_lets h hl.1) hl.2
    rw [List.foldl_cons]
    refine ⟨?_, h2⟩
    rw [h1, hstep_expand (fun e he => (h e he).1) hl.1, List.append_assoc]
    rfl
theorem rle_all (ts : List Tr) (h : letss Ltr ts) : expand (rle ts) = ts ∧ ∀ e ∈ rle ts, e.1.lets Ltr ∧ 1 ≤ e.2 := by
  obtain ⟨h1, h2⟩ := rle_go ts [] (fun e h => by cases h) h
  exact ⟨by rw [show rle ts = ts.foldl hstep [] from rfl, h1]; rfl, h2⟩
structure HE where
  v : V
  t : Tr
  n : Nat
  as : List Addr
def HeAt (ok : Addr → Prop) (H : Hp) (e : HE) : Prop := ∃ p x, e.v = .ref p ∧ H p = some (.tup [x, .int e.n]) ∧ ok p ∧ TrO ok H x e.t e.as
def HeIn (H : Hp) (e : V × Tr × Nat) : Prop := ∃ p x, e.1 = .ref p ∧ H p = some (.tup [x, .int e.2.2]) ∧ TrAt (fun _ => True) H x e.2.1
section
variable {P : Program} {w : World} {K : PySem.W.Frag} {mg : Str → Option Value} {base : Heap}
theorem TabS.frO {H H' : Hp} {P P2 : Addr} {q : Str} {ps : Array Value} (h : LamX.TabS H P2 q) (n : P2 ≠ P) (hP : H P = some (.tbl ps)) (f : Fr P H H') : LamX.TabS H' P2 q := by
  obtain ⟨ps2, h1, h2, h3⟩ := h
  refine ⟨ps2, f _ _ n h1, h2, fun pos cv hc => ?_⟩
  obtain ⟨c, e, h4⟩ := h3 pos cv hc
  exact ⟨c, e, f _ _ (fun e => by rw [e, hP] at h4; cases h4) h4⟩
theorem TrAt.frT' {ok : Addr → Prop} {P : Addr} {H H' : Hp} {v : V} {t : Tr} {ps : Array Value} (x : TrAt ok H v t) (hP : H P = some (.tbl ps)) (f : Fr P H H') : TrAt ok H' v t :=
  ((TrAt.kind t v x).keep fun b o h e => f b o (fun e2 => h.2 ps (by rw [e2]; exact hP)) e).weak fun b h => h.1
theorem Fr.upd0 {p q : Addr} {H H' : Hp} {o : HO} (f : Fr p H H') (h : H q = none) : Fr p H (upd H' q o) := fun b u n e => by
  rw [upd_ne (ne_of_none e h)]
  exact f b u n e
def Fr2 (p r : Addr) (H H' : Hp) : Prop := ∀ b o, b ≠ p → b ≠ r → H b = some o → H' b = some o
end

abbrev nI (n : Nat) : V := .int (n : Int)
theorem nI_map (xs : List Nat) : xs.map nI = (xs.map fun n : Nat => (n : Int)).map V.int := by rw [List.map_map]; rfl
theorem tabsN_fr1 {TT : List NdefX.NTab} {H H' : Hp} {p : Addr} {xs : List V} (h : NdefX.TabsN TT H) (hp : H p = some (.lst xs)) (f : Fr p H H') : NdefX.TabsN TT H' := fun z hz => by
  obtain ⟨ps, h1, h2, h3⟩ := h z hz
  refine ⟨ps, f _ _ (fun e => by rw [e, hp] at h1; cases h1) h1, h2, fun pos cv hc => ?_⟩
  obtain ⟨c, e, h4⟩ := h3 pos cv hc
  exact ⟨c, e, f _ _ (fun e => by rw [e, hp] at h4; unfold LamX.CodeO at h4; cases h4) h4⟩
theorem CalX.imp2 {P : Program} {w : World} {K : PySem.W.Frag} {mg : Str → Option Value} {base : Heap} {k j : Nat} {f : Addr} {G G' : Hp → Prop} {np : Nat} {sp sp' : Sp} (C : CalX P w K mg base k f G np sp) (hk : k ≤ j) (hl : ∀ vs H Q E, sp' vs H Q E → vs.length = np) (hG : ∀ H, G' H → G H) (hs : ∀ vs H Q E, G' H → sp' vs H Q E → sp vs H Q E) : CalX P w K mg base j f G' np sp' :=
  ⟨hl, fun s H a b g => C.at_ s H a b (hG H g), fun A outer s H us vs Q E hr e0 g r q => C.run A outer s H us vs Q E (hr.mono hk) e0 (hG H g) r (hs _ _ _ _ g q)⟩


def cnts (n : Nat) (xs : List Nat) : List Nat := (List.range n).map fun s => xs.count s
mutual
def St (fs : Nat → List Nat → Nat) (n : Nat) : Tr → Nat
  | .node c ks => fs c (cnts n (Sts fs n ks))
def Sts (fs : Nat → List Nat → Nat) (n : Nat) : List Tr → List Nat
  | [] => []
  | t :: r => St fs n t :: Sts fs n r
end
theorem Sts_map (fs : Nat → List Nat → Nat) (n : Nat) : ∀ ks : List Tr, Sts fs n ks = ks.map (St fs n)
  | [] => rfl
  | t :: r => by simp only [Sts, List.map_cons, Sts_map fs n r]
theorem count_cast (s : Nat) : ∀ xs : List Nat, (xs.map fun n : Nat => (n : Int)).count (s : Int) = xs.count s
  | [] => rfl
  | x :: r => by
    rw [List.map_cons, List.count_cons, List.count_cons, count_cast s r]
    by_cases e : x = s
    · subst e; simp
    · have : ¬ ((x : Int) = (s : Int)) := by omega
      simp [e, this]
def sp__numbers (K : PySem.W.Frag) : Sp := fun vs H Q _ => ∃ (b : Addr) (xs : List Nat) (n : Nat), vs = [.ref b, nI n] ∧ SqL K H b (xs.map nI) ∧ n ≤ 1000 ∧ ∀ r H', Same H H' → H r = none → H' r = some (.lst ((cnts n xs).map nI)) → Q (.ref r) H'
def sp_state_at (L : Str) (n : Nat) (fs : Nat → List Nat → Nat) : Sp := fun vs H Q _ => ∃ (c : Nat) (b : Addr) (cs : List Nat), vs = [.str (ch c), .ref b] ∧ c ∈ L.cps.toList ∧ cs.length = n ∧ (∀ x ∈ cs, x ≤ 1000000) ∧ H b = some (.lst (cs.map nI)) ∧ ∀ H', Same H H' → Q (nI (fs c cs)) H'
def sp_check_letters (K : PySem.W.Frag) : Sp := fun vs H Q _ => ∃ (a : Addr) (L : Str) (ws : List V) (ts : List Tr) (ok : Addr → Prop), vs = [.ref a, .str L] ∧ SqL K H a ws ∧ TrsAt ok H ws ts ∧ (∀ t ∈ ts, ∀ c ks, t = .node c ks → c ∈ L.cps.toList) ∧ ∀ H', Same H H' → Q .non H'
def sp_next_state (L : Str) (n : Nat) (fs : Nat → List Nat → Nat) (f p : Addr) (G : Hp → Prop) : List (Option V) → Sp := fun ws vs H Q _ => ∃ (c : Nat) (bl : Addr) (xs ds : List Nat), vs = [.str (ch c), .ref bl] ∧ ws = [some (.ref p), some (.ref f), some (nI n)] ∧ c ∈ L.cps.toList ∧ n ≤ 1000 ∧ xs.length ≤ 1000000 ∧ ds.length ≤ 1000000 ∧
  H bl = some (.lst (xs.map nI)) ∧ H p = some (.lst (ds.map nI)) ∧ (∀ H', Same H H' → G H') ∧ ∀ H', Fr p H H' → H' p = some (.lst ((ds ++ [fs c (cnts n xs)]).map nI)) → Q (nI (fs c (cnts n xs))) H'
def sp_states_upward (P : Program) (w : World) (K : PySem.W.Frag) (mg : Str → Option Value) (base : Heap) (TT : List NdefX.NTab) : Sp := fun vs H Q _ => ∃ (v : V) (t : Tr) (L : Str) (n : Nat) (f : Addr) (fs : Nat → List Nat → Nat), vs = [v, .str L, nI n, .ref f] ∧ TrAt (fun _ => True) H v t ∧ t.size ≤ 1000000 ∧
  t.lets (fun c => c ∈ L.cps.toList) ∧ n ≤ 1000 ∧ NdefX.TabsN TT H ∧ CalX P w K mg base 10 f (fun H' => LamX.ExtN H H') 2 (sp_state_at L n fs) ∧
  ∀ r H', LamX.ExtN H H' → NdefX.TabsN TT H' → H r = none → H' r = some (.lst ((t.post.map (St fs n)).map nI)) → Q (.ref r) H'
mutual
theorem lets_post {q : Nat → Prop} : ∀ t : Tr, t.lets q → ∀ u ∈ t.post, ∀ c ks, u = .node c ks → q c
  | .node c ks, h, u, hu, c', ks', e => by
    simp only [Tr.lets] at h
    simp only [Tr.post, List.mem_append, List.mem_singleton] at hu
    rcases hu with hu | hu
    · exact letss_post ks h.2 u hu c' ks' e
    · rw [hu] at e
      cases e
      exact h.1
theorem letss_post {q : Nat → Prop} : ∀ ts : List Tr, letss q ts → ∀ u ∈ posts ts, ∀ c ks, u = .node c ks → q c
  | [], _, u, hu, _, _, _ => by simp [posts] at hu
  | t :: r, h, u, hu, c', ks', e => by
    simp only [letss] at h
    simp only [posts, List.mem_append] at hu
    rcases hu with hu | hu
    · exact lets_post t h.1 u hu c' ks' e
    · exact letss_post r h.2 u hu c' ks' e
end
theorem TrAt.extN1 {ok : Addr → Prop} {H H' : Hp} {v : V} {t : Tr} (x : TrAt ok H v t) (f : LamX.ExtN H H') : TrAt ok H' v t :=
  ((TrAt.kind1 t v x).keep fun b o h e => f b o e fun ps e2 => h.2 ps (by rw [e, e2])).weak fun b h => h.1
theorem Same.fr {H H' : Hp} {p : Addr} (s : Same H H') : Fr p H H' := Fr.same s
section
variable {P : Program} {w : World} {K : PySem.W.Frag} {mg : Str → Option Value} {base : Heap}
end

mutual
inductive Dt (ok : Addr → Prop) (H : Hp) : V → PyData → Prop
  | non : Dt ok H .non .none
  | bl (b : Bool) : Dt ok H (.bl b) (.bool b)
  | int (i : Int) : Dt ok H (.int i) (.int i)
  | str (x : Str) : Dt ok H (.str x) (.str x)
  | dic {a : Addr} : H a = some (.dK []) → ok a → Dt ok H (.ref a) (.dict [])
  | lst {a : Addr} {xs : List V} {ds : List PyData} : H a = some (.lst xs) → ok a → xs.length ≤ 1000 → DtAll ok H xs ds → Dt ok H (.ref a) (.list ds)
  | tup {a : Addr} {xs : List V} {ds : List PyData} : H a = some (.tup xs) → ok a → xs.length ≤ 1000 → DtAll ok H xs ds → Dt ok H (.ref a) (.tuple ds)
inductive DtAll (ok : Addr → Prop) (H : Hp) : List V → List PyData → Prop
  | nil : DtAll ok H [] []
  | cons {v : V} {vs : List V} {d : PyData} {ds : List PyData} : Dt ok H v d → DtAll ok H vs ds → DtAll ok H (v :: vs) (d :: ds)
end
section
variable {ok ok' : Addr → Prop} {H H' : Hp} {K : PySem.W.Frag}
mutual
theorem Dt.imp (hk : ∀ b o, ok b → H b = some o → ok' b) (h : ∀ b o, ok b → H b = some o → H' b = some o) : ∀ {v : V} {d : PyData}, Dt ok H v d → Dt ok' H' v d
  | _, _, .non => .non
  | _, _, .bl b => .bl b
  | _, _, .int i => .int i
  | _, _, .str x => .str x
  | _, _, .dic e k => .dic (h _ _ k e) (hk _ _ k e)
  | _, _, .lst e k l r => .lst (h _ _ k e) (hk _ _ k e) l (DtAll.imp hk h r)
  | _, _, .tup e k l r => .tup (h _ _ k e) (hk _ _ k e) l (DtAll.imp hk h r)
theorem DtAll.imp (hk : ∀ b o, ok b → H b = some o → ok' b) (h : ∀ b o, ok b → H b = some o → H' b = some o) : ∀ {vs : List V} {ds : List PyData}, DtAll ok H vs ds → DtAll ok' H' vs ds
  | _, _, .nil => .nil
  | _, _, .cons a b => .cons (Dt.imp hk h a) (DtAll.imp hk h b)
end
theorem Dt.keep {v : V} {d : PyData} (x : Dt ok H v d) (h : ∀ b o, ok b → H b = some o → H' b = some o) : Dt ok H' v d := x.imp (fun _ _ k _ => k) h
theorem Dt.same {v : V} {d : PyData} (x : Dt ok H v d) (s : Same H H') : Dt ok H' v d := x.keep fun b o _ h => s b o h
theorem Dt.weak {v : V} {d : PyData} (x : Dt ok H v d) (h : ∀ b, ok b → ok' b) : Dt ok' H v d := x.imp (fun b _ k _ => h b k) fun _ _ _ e => e
theorem Dt.any {v : V} {d : PyData} (x : Dt ok H v d) : Dt (fun _ => True) H v d := x.weak fun _ _ => trivial
theorem Dt.off {w : Addr} {v : V} {d : PyData} (x : Dt ok H v d) (h : H w = none) : Dt (fun b => ok b ∧ b ≠ w) H v d := x.imp (fun _ _ k e => ⟨k, ne_of_none e h⟩) fun _ _ _ e => e
theorem DtAll.keep {vs : List V} {ds : List PyData} (x : DtAll ok H vs ds) (h : ∀ b o, ok b → H b = some o → H' b = some o) : DtAll ok H' vs ds := x.imp (fun _ _ k _ => k) h
theorem DtAll.same {vs : List V} {ds : List PyData} (x : DtAll ok H vs ds) (s : Same H H') : DtAll ok H' vs ds := x.keep fun b o _ h => s b o h
theorem DtAll.weak {vs : List V} {ds : List PyData} (x : DtAll ok H vs ds) (h : ∀ b, ok b → ok' b) : DtAll ok' H vs ds := x.imp (fun b _ k _ => h b k) fun _ _ _ e => e
mutual
theorem Dt.dp : ∀ {v : V} {d : PyData}, Dt ok H v d → d.canLay0 = true → Dp K H v d
  | _, _, .non, _ => .non
  | _, _, .bl b, _ => .bl b
  | _, _, .int i, _ => .int i
  | _, _, .str x, _ => .str x
  | _, _, .dic _ _, h => by simp [PyData.canLay0] at h
  | _, _, .lst e _ _ r, h => .lst (SqL.of e) (DtAll.dp r (by simpa only [PyData.canLay0] using h))
  | _, _, .tup e _ _ r, h => .tup (SqT.of e) (DtAll.dp r (by simpa only [PyData.canLay0] using h))
theorem DtAll.dp : ∀ {vs : List V} {ds : List PyData}, DtAll ok H vs ds → PyData.canLayAll0 ds = true → DpAll K H vs ds
  | _, _, .nil, _ => .nil
  | _, _, .cons a b, h => by
    simp only [PyData.canLayAll0, Bool.and_eq_true] at h
    exact .cons (Dt.dp a h.1) (DtAll.dp b h.2)
end
theorem DtAll.len : ∀ {vs : List V} {ds : List PyData}, DtAll ok H vs ds → vs.length = ds.length
  | _, _, .nil => rfl
  | _, _, .cons _ b => by simp only [List.length_cons, DtAll.len b]
theorem DtAll.getV : ∀ {vs : List V} {ds : List PyData} {i : Nat} {x : V}, DtAll ok H vs ds → vs[i]? = some x → ∃ d, ds[i]? = some d ∧ Dt ok H x d
  | _, _, 0, _, .cons a _, h => by cases h; exact ⟨_, rfl, a⟩
  | _, _, i + 1, _, .cons _ b, h => by
    rw [List.getElem?_cons_succ] at h
    obtain ⟨d, h1, h2⟩ := DtAll.getV b h
    exact ⟨d, by rw [List.getElem?_cons_succ]; exact h1, h2⟩
theorem DtAll.snoc : ∀ {vs : List V} {ds : List PyData} {v : V} {d : PyData}, DtAll ok H vs ds → Dt ok H v d → DtAll ok H (vs ++ [v]) (ds ++ [d])
  | _, _, _, _, .nil, y => .cons y .nil
  | _, _, _, _, .cons a b, y => .cons a (DtAll.snoc b y)
theorem dt_ints : ∀ xs : List Int, DtAll ok H (xs.map V.int) (xs.map PyData.int)
  | [] => .nil
  | x :: r => .cons (.int x) (dt_ints r)
theorem dt_intsL {a : Addr} {xs : List Int} (h : H a = some (.lst (xs.map V.int))) (k : ok a) (l : xs.length ≤ 1000) : Dt ok H (.ref a) (.list (xs.map PyData.int)) := .lst h k (by rw [List.length_map]; exact l) (dt_ints xs)
theorem dtAll_ints : ∀ {w : List Int} {vs : List V}, DtAll ok H vs (w.map PyData.int) → vs = w.map V.int
  | [], _, h => by cases h; rfl
  | x :: r, _, h => by
    cases h with
    | cons a b =>
      cases a
      rw [dtAll_ints b]
      rfl
theorem Dt.intsL {v : V} {w : List Int} (h : Dt ok H v (.list (w.map PyData.int))) : ∃ a, v = .ref a ∧ H a = some (.lst (w.map V.int)) ∧ ok a := by
  cases h with
  | lst e k l r =>
    rw [dtAll_ints r] at e
    exact ⟨_, rfl, e, k⟩
end
theorem layAll_mem {d : PyData} : ∀ {ds : List PyData}, PyData.canLayAll0 ds = true → d ∈ ds → d.canLay0 = true
  | x :: r, h, hm => by
    simp only [PyData.canLayAll0, Bool.and_eq_true] at h
    rcases List.mem_cons.mp hm with rfl | hm
    · exact h.1
    · exact layAll_mem h.2 hm
theorem depthAll_mem {d : PyData} : ∀ {ds : List PyData}, d ∈ ds → d.depth ≤ PyData.depthAll ds
  | x :: r, h => by
    simp only [PyData.depthAll]
    rcases List.mem_cons.mp h with rfl | h
    · omega
    · have := depthAll_mem h
      omega
theorem eqT {x y : V} {i : Decidable (x = y)} {A B : Prop} (h : x = y) (k : A) : if (@decide (x = y) i) = true then A else B := by
  rw [decide_eq_true h]
  exact iteT k
theorem eqF {x y : V} {i : Decidable (x = y)} {A B : Prop} (h : x ≠ y) (k : B) : if (@decide (x = y) i) = true then A else B := by
  rw [decide_eq_false h]
  exact iteF k
theorem noneOf {sp : Sp} {P : Program} {w : World} {K : PySem.W.Frag} {mg : Str → Option Value} {base : Heap} {f : Addr} {fd : FuncData} {ps : List Str} {k : Nat} (no : ∀ vs H Q E, ¬ sp vs H Q E) : FnOk P w K mg base CX0 k f fd ps sp :=
  ⟨fun vs H Q E h => absurd h (no vs H Q E), fun A outer s H args us vs Q E _ _ _ _ h => absurd h (no vs H Q E)⟩


def Dn (H : Hp) (p : Addr) : Prop := ∃ xs : List Int, H p = some (.lst (xs.map V.int)) ∧ (∀ x ∈ xs, 0 ≤ x ∧ x < 2147483648) ∧ 1 ≤ xs.length ∧ xs.length ≤ 2000
theorem Dn.some {H : Hp} {p : Addr} (h : Dn H p) : H p ≠ none := by obtain ⟨xs, e, _⟩ := h; rw [e]; simp
theorem Dn.ne {H : Hp} {p q : Addr} (h : Dn H p) (e : H q = none) : q ≠ p := fun e2 => h.some (by rw [← e2]; exact e)
theorem Dn.keep {H H' : Hp} {p : Addr} (h : Dn H p) (s : Same H H') : Dn H' p := by obtain ⟨xs, e, r⟩ := h; exact ⟨xs, s _ _ e, r⟩
theorem Dn.upd {H : Hp} {p q : Addr} {o : HO} (h : Dn H p) (n : q ≠ p) : Dn (upd H q o) p := by obtain ⟨xs, e, r⟩ := h; exact ⟨xs, by rw [upd_ne (fun e => n e.symm)]; exact e, r⟩
theorem Dn.ext {H H' : Hp} {p : Addr} (d : Dn H p) (f : LamX.ExtN H H') : Dn H' p := by
  obtain ⟨xs, h, r⟩ := d
  exact ⟨xs, f _ _ h (fun _ z => by cases z), r⟩
theorem Dn.tabs {p : Addr} {H H' : Hp} {TT : List NdefX.NTab} (d : Dn H p) (t : NdefX.TabsN TT H) (f : Fr p H H') : NdefX.TabsN TT H' := by
  obtain ⟨xs, h, _⟩ := d
  exact tabsN_fr1 t h f
def sp__law_cell_at (K : PySem.W.Frag) : Sp := fun vs H Q _ => ∃ (a : Addr) (ns : List Int) (k : Int), vs = [.ref a, .int k] ∧ SqL K H a (ns.map V.int) ∧ 0 ≤ k ∧ ∀ x, Q (.int x) H
def sp__law_stir : Sp := fun vs H Q _ => ∃ (c k : Int), vs = [.int c, .int k] ∧ 0 ≤ k ∧ k ≤ 100000 ∧ ∀ x, 0 ≤ x → x < 268435456 → Q (.int x) H
def sp__law_deck : Sp := fun vs H Q _ => ∃ (c m : Int), vs = [.int c, .int m] ∧ 1 ≤ m ∧ m ≤ 1000 ∧ ∀ p H', Same H H' → H p = none → Dn H' p → Q (.ref p) H'
def sp__law_next : Sp := fun vs H Q _ => ∃ p : Addr, vs = [.ref p] ∧ Dn H p ∧ ∀ x H', 0 ≤ x → x < 2147483648 → Fr p H H' → Dn H' p → Q (.int x) H'
section
variable {P : Program} {w : World} {K : PySem.W.Frag} {mg : Str → Option Value} {base : Heap}
theorem ok__law_cell_at (T : Txt K mg) : FnOk P w K mg base CX0 1 T.f__law_cell_at T.d__law_cell_at ["script", "k"] (sp__law_cell_at K) := by
  refine T.F__law_cell_at.ok sc__law_cell_at (fun vs H Q E h => ?_) (fun cdv A outer s H vs Q E hr h => ?_)
  · obtain ⟨a, ns, k, rfl, _⟩ := h
    rfl
  obtain ⟨a, ns, k, rfl, hS, h0, q⟩ := h
  refine ⟨_, (pss_cons (ps_if (pt_cmpR op_lt (pv 1) (pe_callB call_len_seq (by rfl) T.z_len PySem.boot_len (pa_cons (pv 0) pa_nil)) (nomark _)) (pss_one (ps_ret (pe_ix ix_list (pv 0) (pv 1) (fun _ _ => rfl)))) pss_nil) (pss_one (ps_ret pe_int))), ?_⟩
  refine ⟨_, rfl, _, rfl, a, _, rfl, .inl hS, _, _, rfl, rfl, _, rfl, ?_⟩
  refine ite2 (fun c => ?_) (fun c => ?_)
  · have hk : k.toNat < ns.length := by
      have c' : k < (((ns.map V.int).length : Nat) : Int) := of_decide_eq_true c
      rw [List.length_map] at c'
      omega
    exact ⟨_, rfl, _, rfl, a, _, _, _, rfl, rfl, hS, at_of (j := k.toNat) (v := V.int ns[k.toNat]) (by omega) (by rw [List.getElem?_map, List.getElem?_eq_getElem hk]; rfl), q _⟩
  · exact q _
theorem ok__law_stir (T : Txt K mg) : FnOk P w K mg base CX0 1 T.f__law_stir T.d__law_stir ["cell", "k"] sp__law_stir := by
  refine T.F__law_stir.ok sc__law_stir (fun vs H Q E h => ?_) (fun cdv A outer s H vs Q E hr h => ?_)
  · obtain ⟨c, k, rfl, _⟩ := h
    rfl
  obtain ⟨c, k, rfl, h0, h1, q⟩ := h
  refine ⟨_, (pss_cons (ps_set (i := 2) sc__law_stir.nd rfl (Or.inl rfl) (pe_op op_mod (pe_op op_mul (pe_op op_add (pe_op op_add (pe_op op_mod (pv 0) pe_int) (pe_op op_mul pe_int (pv 1))) pe_int) pe_int) pe_int)) (pss_cons (ps_set (i := 2) sc__law_stir.nd rfl (Or.inl rfl) (pe_op op_mod (pe_op op_mul (pv 2) (pv 2)) pe_int)) (pss_one (ps_ret (pe_op op_fdivW (pe_op op_mod (pe_op op_mul (pe_op op_add (pv 2) (pe_op op_mul pe_int (pv 1))) pe_int) pe_int) pe_int))))), ?_⟩
  have a0 : 0 ≤ c % 2147483629 := Int.emod_nonneg _ (by decide)
  have a1 : c % 2147483629 < 2147483629 := Int.emod_lt_of_pos _ (by decide)
  refine ⟨_, rfl, _, _, rfl, rfl, (by show (0 : Int) < 2147483629; decide), _, rfl, 9973, k, rfl, rfl, .inl ⟨by decide, by decide⟩, _, _, rfl, rfl, _, _, rfl, rfl, _, _, rfl, rfl, .inl ⟨by omega, by omega⟩, _, _, rfl, rfl, (by show (0 : Int) < 2147483647; decide), ?_⟩
  have b0 : 0 ≤ (c % 2147483629 + 9973 * k + 5) * 48271 % 2147483647 := Int.emod_nonneg _ (by decide)
  have b1 : (c % 2147483629 + 9973 * k + 5) * 48271 % 2147483647 < 2147483647 := Int.emod_lt_of_pos _ (by decide)
  generalize (c % 2147483629 + 9973 * k + 5) * 48271 % 2147483647 = y at *
  refine ⟨_, rfl, _, rfl, _, _, rfl, rfl, .inl ⟨by omega, by omega⟩, _, _, rfl, rfl, (by show (0 : Int) < 2147483587; decide), ?_⟩
  have c0 : 0 ≤ y * y % 2147483587 := Int.emod_nonneg _ (by decide)
  have c1 : y * y % 2147483587 < 2147483587 := Int.emod_lt_of_pos _ (by decide)
  generalize y * y % 2147483587 = z at *
  refine ⟨_, rfl, _, rfl, 7919, k, rfl, rfl, .inl ⟨by decide, by decide⟩, _, _, rfl, rfl, _, _, rfl, rfl, .inl ⟨by omega, by omega⟩, _, _, rfl, rfl, (by show (0 : Int) < 2147483563; decide), _, _, rfl, rfl, divW (by decide) (by decide), ?_⟩
  have d0 : 0 ≤ (z + 7919 * k) * 16807 % 2147483563 := Int.emod_nonneg _ (by decide)
  have d1 : (z + 7919 * k) * 16807 % 2147483563 < 2147483563 := Int.emod_lt_of_pos _ (by decide)
  exact q _ (by omega) (by omega)
theorem ok__law_deck (T : Txt K mg) : FnOk P w K mg base CX0 2 T.f__law_deck T.d__law_deck ["cell", "many"] sp__law_deck := by
  have G__law_stir : FnOk P w K mg base CX0 1 T.f__law_stir T.d__law_stir ["cell", "k"] sp__law_stir := ok__law_stir T
  refine T.F__law_deck.ok sc__law_deck (fun vs H Q E h => ?_) (fun cdv A outer s H vs Q E hr h => ?_)
  · obtain ⟨c, m, rfl, _⟩ := h
    rfl
  obtain ⟨c, m, rfl, h0, h1, q⟩ := h
  refine ⟨_, (pss_cons (ps_set (i := 2) sc__law_deck.nd rfl (Or.inl rfl) (pe_lst pa_nil)) (pss_cons (ps_set (i := 3) sc__law_deck.nd rfl (Or.inl rfl) (pv 0)) (pss_cons (ps_for PassesOwn.never rfl (pi_range1 (by rfl) T.z_range (pa_cons (pv 1) pa_nil)) (pg_name (i := 4) sc__law_deck.nd rfl (Or.inl rfl)) (pss_cons (ps_set (i := 5) sc__law_deck.nd rfl (Or.inl rfl) (pe_call G__law_stir (hr.mono (by omega)) (by rfl) T.m__law_stir T.F__law_stir.kp T.b__law_stir .nil pass0 (pa_cons (pv 0) (pa_cons (pv 4) pa_nil)))) (pss_cons (ps_if (pt_cmpR op_ge (pv 0) (pe_op op_pow pe_int pe_int) (nomark _)) (pss_one (ps_set (i := 5) sc__law_deck.nd rfl (Or.inl rfl) (pe_op op_mod (pv 3) pe_int))) pss_nil) (pss_cons (ps_set (i := 3) sc__law_deck.nd rfl (Or.inl rfl) (pe_op op_fdivW (pv 3) pe_int)) (pss_one (ps_expr (pe_bm PySem.F.plainAttrs_list PySem.F.slot_list_append PySem.F.type_list_append mt_append (pv 2) (pa_cons (pv 5) pa_nil)))))))) (pss_one (ps_ret (pe_revL (pv 2))))))), ?_⟩
  refine ⟨(by show 0 ≤ sizeLine; decide), fun p hp => ?_⟩
  refine ⟨_, rfl, _, rfl, m, rfl, by omega, by omega, for_range (lo := 0) (n := m.toNat) (fun i σ H' => ∃ (dg : Int) (xs : List Int) (y4 y5 : Option V), σ = [some (.int c), some (.int m), some (.ref p), some (.int dg), y4, y5] ∧ H' p = some (.lst (xs.map V.int)) ∧ (∀ x ∈ xs, 0 ≤ x ∧ x < 2147483648) ∧ xs.length = i ∧ Same H H') ⟨_, [], _, _, rfl, upd_same, (fun _ h => by cases h), rfl, same_new hp⟩ ?_ ?_⟩
  · rintro i σ H' hi ⟨dg, xs, y4, y5, rfl, g1, g2, g3, g4⟩
    refine ⟨_, rfl, _, rfl, c, 0 + (i : Int), rfl, by omega, by omega, fun x x0 x1 => ?_⟩
    have fits : (xs.map V.int).length < sizeLine := by
      rw [List.length_map]
      exact Nat.lt_of_le_of_lt (show _ ≤ 1000000 by omega) (by decide)
    have fin : ∀ (z d : Int), 0 ≤ z → z < 2147483648 → ∃ (dg : Int) (xs1 : List Int) (y4 y5 : Option V), [some (.int c), some (.int m), some (.ref p), some (.int d), some (.int (0 + (i : Int))), some (.int z)] = [some (.int c), some (.int m), some (.ref p), some (V.int dg), y4, y5] ∧ upd H' p (.lst (xs.map V.int ++ [V.int z])) p = some (.lst (xs1.map V.int)) ∧ (∀ x ∈ xs1, 0 ≤ x ∧ x < 2147483648) ∧ xs1.length = i + 1 ∧ Same H (upd H' p (.lst (xs.map V.int ++ [V.int z]))) := fun z d z0 z1 =>
      ⟨d, xs ++ [z], _, _, rfl, by rw [upd_same, List.map_append]; rfl, fun y hy => by
        rcases List.mem_append.mp hy with hy | hy
        · exact g2 y hy
        · rw [List.mem_singleton.mp hy]; exact ⟨z0, z1⟩, by rw [List.length_append, g3]; rfl, same_add g4 hp⟩
    have e0 : 0 ≤ dg % 720720 := Int.emod_nonneg _ (by decide)
    have e1 : dg % 720720 < 720720 := Int.emod_lt_of_pos _ (by decide)
    refine ⟨_, rfl, 10, 18, rfl, rfl, ⟨by decide, by decide, by decide⟩, _, _, rfl, rfl, _, rfl, ite2 (fun k2 => ?_) (fun k2 => ?_)⟩
    · refine ⟨_, rfl, _, _, rfl, rfl, (by show (0 : Int) < 720720; decide), ?_⟩
      refine ⟨_, rfl, _, _, rfl, rfl, divW (by decide) (by decide), ?_⟩
      exact ⟨_, rfl, .inl ⟨rfl, _, SqL.of g1⟩, _, rfl, p, _, _, rfl, rfl, g1, fits, fin _ _ e0 (by omega)⟩
    · refine ⟨_, rfl, _, _, rfl, rfl, divW (by decide) (by decide), ?_⟩
      exact ⟨_, rfl, .inl ⟨rfl, _, SqL.of g1⟩, _, rfl, p, _, _, rfl, rfl, g1, fits, fin _ _ x0 (by omega)⟩
  · rintro σ H' ⟨dg, xs, y4, y5, rfl, g1, g2, g3, g4⟩
    refine ⟨_, rfl, p, _, rfl, SqL.of g1, fun p2 hp2 => ?_⟩
    refine q p2 _ (g4.trans (same_new hp2)) (g4.free hp2) ⟨xs.reverse, by rw [upd_same, List.map_reverse], fun x hx => g2 x (List.mem_reverse.mp hx), by rw [List.length_reverse]; omega, by rw [List.length_reverse]; omega⟩
theorem ok__law_next (T : Txt K mg) : FnOk P w K mg base CX0 2 T.f__law_next T.d__law_next ["deck"] sp__law_next := by
  have G__law_stir : FnOk P w K mg base CX0 1 T.f__law_stir T.d__law_stir ["cell", "k"] sp__law_stir := ok__law_stir T
  refine T.F__law_next.ok sc__law_next (fun vs H Q E h => ?_) (fun cdv A outer s H vs Q E hr h => ?_)
  · obtain ⟨p, rfl, _⟩ := h
    rfl
  obtain ⟨p, rfl, ⟨xs, hp, hx, l1, l2⟩, q⟩ := h
  refine ⟨_, (pss_cons (ps_if (pt_cmpR op_eq (pe_callB call_len_seq (by rfl) T.z_len PySem.boot_len (pa_cons (pv 0) pa_nil)) pe_int (nomark _)) (pss_one (ps_expr (pe_bm PySem.F.plainAttrs_list PySem.F.slot_list_insert PySem.F.type_list_insert mt_insert (pv 0) (pa_cons pe_int (pa_cons (pe_op op_mul (pe_call G__law_stir (hr.mono (by omega)) (by rfl) T.m__law_stir T.F__law_stir.kp T.b__law_stir .nil pass0 (pa_cons (pe_ix ix_list (pv 0) pe_int (fun _ _ => rfl)) (pa_cons pe_int pa_nil))) (pe_callTy call_int1 (by rfl) T.z_int (by decide +kernel) (pa_cons (pe_cmpR op_gt (pe_ix ix_list (pv 0) pe_int (fun _ _ => rfl)) pe_int (nomark _)) pa_nil))) pa_nil))))) pss_nil) (pss_one (ps_ret (pe_bm0 PySem.F.plainAttrs_list PySem.F.slot_list_pop PySem.F.type_list_pop mt_pop (pv 0))))), ?_⟩
  have pop : ∀ (ys : List Int) (H1 : Hp), H1 p = some (.lst (ys.map V.int)) → (∀ x ∈ ys, 0 ≤ x ∧ x < 2147483648) → 2 ≤ ys.length → ys.length ≤ 2000 → Fr p H H1 → ∃ y : Int, (ys.map V.int)[(ys.map V.int).length - 1]? = some (V.int y) ∧ Q (.int y) (upd H1 p (.lst ((ys.map V.int).dropLast))) := fun ys H1 e h h2 h3 f => by
    have hl : ys.length - 1 < ys.length := by omega
    refine ⟨ys[ys.length - 1], by rw [List.length_map, List.getElem?_map, List.getElem?_eq_getElem hl]; rfl, ?_⟩
    have hm := h _ (List.getElem_mem hl)
    exact q _ _ hm.1 hm.2 (fun b o n e1 => by rw [upd_ne n]; exact f b o n e1) ⟨ys.dropLast, by rw [upd_same, List.map_dropLast], fun x hx => h x (List.dropLast_subset _ hx), by rw [List.length_dropLast]; omega, by rw [List.length_dropLast]; omega⟩
  refine ⟨_, rfl, p, _, rfl, .inl (SqL.of hp), rfl, _, rfl, ?_⟩
  rw [List.length_map]
  by_cases hu : xs.length = 1
  · obtain ⟨x, rfl⟩ : ∃ x, xs = [x] := by
      match xs, hu with
      | [x], _ => exact ⟨x, rfl⟩
    obtain ⟨x0, x1⟩ := hx x (List.mem_singleton.mpr rfl)
    refine eqT (by rw [hu]; rfl) ?_
    refine ⟨_, rfl, .inl ⟨rfl, _, SqL.of hp⟩, _, rfl, p, _, 0, .int x, rfl, rfl, SqL.of hp, atI_nat (j := 0) rfl, x, 7, rfl, by decide, by decide, fun y y0 y1 => ?_⟩
    refine ⟨_, rfl, p, _, 0, .int x, rfl, rfl, SqL.of hp, atI_nat (j := 0) rfl, _, _, rfl, rfl, .inr ⟨_, rfl, y, _, rfl, rfl, .inl ⟨by omega, by omega⟩, ?_⟩⟩
    have e : ∀ b : Bool, 0 ≤ y * (if b = true then 1 else 0) ∧ y * (if b = true then 1 else 0) < 268435456 := fun b => by cases b <;> simp <;> omega
    obtain ⟨z0, z1⟩ := e (decide (0 < x))
    refine ⟨p, _, 0, _, rfl, rfl, hp, (by show 1 < sizeLine; decide), by decide, by decide, ?_⟩
    have eu : upd H p (.lst ([V.int x].take (0 : Int).toNat ++ [V.int (y * (if decide (0 < x) = true then 1 else 0))] ++ [V.int x].drop (0 : Int).toNat)) p = some (.lst ([y * (if decide (0 < x) = true then 1 else 0), x].map V.int)) := upd_same
    obtain ⟨y2, k1, k2⟩ := pop [y * (if decide (0 < x) = true then 1 else 0), x] _ eu (fun z hz => by
      simp only [List.mem_cons, List.not_mem_nil, or_false] at hz
      rcases hz with rfl | rfl
      · exact ⟨z0, by omega⟩
      · exact ⟨x0, x1⟩) (by show 2 ≤ 2; decide) (by show 2 ≤ 2000; decide) (fun b o n e1 => by rw [upd_ne n]; exact e1)
    exact ⟨_, rfl, .inl ⟨rfl, _, SqL.of eu⟩, p, _, _, rfl, rfl, eu, k1, k2⟩
  · refine eqF (fun e => hu (by have := V.int.inj e; omega)) ?_
    obtain ⟨y, h1, h2⟩ := pop xs H hp hx (by omega) l2 (Fr.refl p H)
    exact ⟨_, rfl, .inl ⟨rfl, _, SqL.of hp⟩, p, _, _, rfl, rfl, hp, h1, h2⟩
end

mutual
inductive NK (H : Hp) : NestedKey → V → Prop
  | int (i : Int) : NK H (.num i) (.int i)
  | text (x : Str) : NK H (.text x) (.str x)
  | tup {a : Addr} {vs : List V} {ks : List NestedKey} : H a = some (.tup vs) → NKs H ks vs → NK H (.tup ks) (.ref a)
inductive NKs (H : Hp) : List NestedKey → List V → Prop
  | nil : NKs H [] []
  | cons {k : NestedKey} {v : V} {ks : List NestedKey} {vs : List V} : NK H k v → NKs H ks vs → NKs H (k :: ks) (v :: vs)
end
section
variable {X : Cx} {pins : List (Addr × Obj)} {σ : L2.St} {H H' : Hp} {s : Shared}
mutual
theorem NK.is (I : Inv X pins σ H s) : ∀ {k : NestedKey} {v : V} {u : Value}, NK H k v → RelV v u → NestedIs s.heap k u
  | _, _, _, .int i, r => by
    obtain ⟨t, rfl⟩ := r
    exact .int i t
  | _, _, _, .text x, r => by
    obtain ⟨t, rfl⟩ := r
    exact .text x t
  | _, _, _, .tup h1 h2, r => by
    cases r
    obtain ⟨_, its, rv, o, e1, e2, n, e3⟩ := I.hok _ _ h1
    exact .tup e1 e2 e3 (by simpa using NKs.is I h2 rv)
theorem NKs.is (I : Inv X pins σ H s) : ∀ {ks : List NestedKey} {vs : List V} {us : List Value}, NKs H ks vs → Vals vs us → NestedAll s.heap ks us
  | _, _, _, .nil, r => by cases r; exact .nil
  | _, _, _, .cons a b, r => by
    cases r with
    | cons r1 r2 => exact .cons (NK.is I a r1) (NKs.is I b r2)
end
mutual
theorem NK.keep (f : ∀ b xs, H b = some (.tup xs) → H' b = some (.tup xs)) : ∀ {k : NestedKey} {v : V}, NK H k v → NK H' k v
  | _, _, .int i => .int i
  | _, _, .text x => .text x
  | _, _, .tup h1 h2 => .tup (f _ _ h1) (NKs.keep f h2)
theorem NKs.keep (f : ∀ b xs, H b = some (.tup xs) → H' b = some (.tup xs)) : ∀ {ks : List NestedKey} {vs : List V}, NKs H ks vs → NKs H' ks vs
  | _, _, .nil => .nil
  | _, _, .cons a b => .cons (NK.keep f a) (NKs.keep f b)
end
end
abbrev NRow := NestedKey × Addr × V
def DictN (P : Program) (w : World) (a : Addr) (xs : List NRow) : HO := .ext fun h => (a == sysModules) = false ∧ xs.length ≤ sizeLine ∧ ∃ us : List (NestedKey × Addr × Value), Paired (fun (p : NRow) (q : NestedKey × Addr × Value) => p.1 = q.1 ∧ p.2.1 = q.2.1 ∧ RelV p.2.2 q.2.2) xs us ∧
  ∃ o es ep, h.get? a = some o ∧ o.ExactDict ∧ o.data = .dict es ep ∧ es.toList = us.map (entryOfKey (nestedKind P w)) ∧ (us.map (·.1)).Nodup
theorem dictN_ok {P : Program} {w : World} {H : Hp} {h : Heap} {a : Addr} {xs : List NRow} (h1 : (a == sysModules) = false) (h2 : xs.length ≤ sizeLine) {us : List (NestedKey × Addr × Value)} (h3 : Paired (fun (p : NRow) (q : NestedKey × Addr × Value) => p.1 = q.1 ∧ p.2.1 = q.2.1 ∧ RelV p.2.2 q.2.2) xs us)
    (h4 : ∃ o es ep, h.get? a = some o ∧ o.ExactDict ∧ o.data = .dict es ep ∧ es.toList = us.map (entryOfKey (nestedKind P w)) ∧ (us.map (·.1)).Nodup) : ObjOk P w H h a (DictN P w a xs) :=
  ⟨⟨h1, h2, us, h3, h4⟩, (let ⟨o, _, _, e, _⟩ := h4; ⟨o, e⟩), fun _ _ ⟨b1, b2, us, b3, o, es, ep, e, r⟩ k => ⟨b1, b2, us, b3, o, es, ep, k o e, r⟩⟩
def RowsN (H : Hp) (xs : List NRow) : Prop := ∀ x ∈ xs, NK H x.1 (.ref x.2.1) ∧ x.1.depth ≤ 8
def atN (xs : List NRow) (k : NestedKey) : Option V := (xs.find? fun x => decide (x.1 = k)).map (·.2.2)
section
variable {X : Cx} {pins : List (Addr × Obj)} {σ : L2.St} {H : Hp} {s : Shared} {a : Addr} {xs : List NRow}
theorem dictN_of (I : Inv X pins σ H s) (h : H a = some (DictN X.prog X.w a xs)) (hk : RowsN H xs) : (a == sysModules) = false ∧ ∃ us : List (NestedKey × Addr × Value), Paired (fun (p : NRow) (q : NestedKey × Addr × Value) => p.1 = q.1 ∧ p.2.1 = q.2.1 ∧ RelV p.2.2 q.2.2) xs us ∧ s.heap.DictOfH (nestedKind X.prog X.w) a us := by
  obtain ⟨⟨h1, h2, us, h3, o, es, ep, e1, e2, e3, e4, e5⟩, _, _⟩ := I.hok _ _ h
  refine ⟨h1, us, h3, o, es, ep, e1, e2, e3, e4, fun u hu => ?_, e5⟩
  have : ∀ (xs : List NRow) (us : List (NestedKey × Addr × Value)), Paired (fun (p : NRow) (q : NestedKey × Addr × Value) => p.1 = q.1 ∧ p.2.1 = q.2.1 ∧ RelV p.2.2 q.2.2) xs us → RowsN H xs → ∀ u ∈ us, (nestedKind X.prog X.w).is s.heap u.1 u.2.1 := by
    intro xs us p
    induction p with
    | nil => intro _ u hu; cases hu
    | cons r t ih =>
      intro hk u hu
      rcases List.mem_cons.mp hu with rfl | hu
      · obtain ⟨n1, n2⟩ := hk _ List.mem_cons_self
        refine ⟨?_, ?_⟩
        · rw [← r.1, ← r.2.1]
          exact NK.is I n1 rfl
        · rw [← r.1]
          exact n2
      · exact ih (fun x hx => hk x (List.mem_cons_of_mem _ hx)) u hu
  exact this _ _ h3 hk u hu
def tDGetN (P : Program) (w : World) (td ty : TE) : TE := fun σ H Q => td σ H fun x H1 => ty σ H1 fun y H2 => ∃ (a b : Addr) (xs : List NRow) (k : NestedKey) (v : V), x = .ref a ∧ y = .ref b ∧ H2 a = some (DictN P w a xs) ∧ RowsN H2 xs ∧ NK H2 k (.ref b) ∧ k.depth ≤ 8 ∧ atN xs k = some v ∧ Q v H2
theorem atN_pairs {k : NestedKey} {xs : List NRow} {us : List (NestedKey × Addr × Value)} (p : Paired (fun (p : NRow) (q : NestedKey × Addr × Value) => p.1 = q.1 ∧ p.2.1 = q.2.1 ∧ RelV p.2.2 q.2.2) xs us) : (∃ v u, atN xs k = some v ∧ valueAt (pairsH us) k = some u ∧ RelV v u) ∨ (atN xs k = none ∧ valueAt (pairsH us) k = none) := by
  induction p with
  | nil => exact .inr ⟨rfl, rfl⟩
  | cons r t ih =>
    rename_i x u xs us
    by_cases e : x.1 = k
    · have e2 : u.1 = k := r.1.symm.trans e
      exact .inl ⟨x.2.2, u.2.2, by simp [atN, e], by simp [valueAt, pairsH, e2], r.2.2⟩
    · have e2 : ¬ u.1 = k := fun z => e (r.1.trans z)
      have a1 : atN (x :: xs) k = atN xs k := by simp [atN, List.find?_cons, e]
      have a2 : valueAt (pairsH (u :: us)) k = valueAt (pairsH us) k := by simp [valueAt, pairsH, List.find?_cons, e2]
      rw [a1, a2]
      exact ih
theorem pe_dgetN {o i : PySem.Expr} {td ty : TE} {pos : Pos} (hu : X.A.units + 9 < cLine) (ho : PE X o td) (hi : PE X i ty) (hs : NoSl i) : PE X (.Subscript o i pos) (tDGetN X.prog X.w td ty) := by
  refine ⟨fun pins s σ H Q I h => ?_⟩
  refine subD_of PySem.F.slot_dict_getitem.lookup hs (thn (ho.run pins s σ H _ I h) fun u s1 ⟨x, H1, I1, rx, q1⟩ => thn (hi.run pins s1 σ H1 _ I1 q1) fun iv s2 ⟨y, H2, I2, ry, a, b, xs, k, v, ex, ey, g, gr, gk, gd, ga, q2⟩ => ?_)
  subst ex ey
  cases rx
  cases ry
  obtain ⟨ha, us, hp, hm⟩ := dictN_of I2 g gr
  rcases atN_pairs (k := k) hp with ⟨v', uv, e1, e2, rv⟩ | ⟨e1, _⟩
  · have ev := Option.some.inj (e1.symm.trans ga)
    subst ev
    exact ⟨hm.typeIs, getItem_keyed (knd := nestedKind X.prog X.w) (show X.A.units + 1 + 8 < cLine by omega) ⟨NK.is I2 gk rfl, gd⟩ ⟨us, hm, rfl⟩ e2 ⟨_, H2, I2.tok _, rv, q2⟩⟩
  · rw [ga] at e1
    cases e1
def rInN (P : Program) (w : World) : R2 := fun y x H Q => ∃ (a b : Addr) (xs : List NRow) (k : NestedKey), x = .ref a ∧ y = .ref b ∧ H a = some (DictN P w a xs) ∧ RowsN H xs ∧ NK H k (.ref b) ∧ k.depth ≤ 8 ∧ Q (.bl (atN xs k).isSome) H
theorem op_inN (hu : X.A.units + 9 < cLine) : OpR X (compareOp .In) (rInN X.prog X.w) := by
  intro pins s σ H y x u iv Q I ry rx h
  obtain ⟨a, b, xs, k, rfl, rfl, g, gr, gk, gd, q⟩ := h
  cases rx
  cases ry
  obtain ⟨ha, us, hp, hm⟩ := dictN_of I g gr
  refine in_keyed (knd := nestedKind X.prog X.w) (show X.A.units + 1 + 8 < cLine by omega) ⟨NK.is I gk rfl, gd⟩ ha ⟨us, hm, rfl⟩ ?_
  rcases atN_pairs (k := k) hp with ⟨v', uv, e1, e2, _⟩ | ⟨e1, e2⟩
  · rw [e1] at q
    rw [e2]
    exact ⟨.bl true, H, I.tok _, rfl, q⟩
  · rw [e1] at q
    rw [e2]
    exact ⟨.bl false, H, I.tok _, rfl, q⟩
def rNotInN (P : Program) (w : World) : R2 := fun y x H Q => ∃ (a b : Addr) (xs : List NRow) (k : NestedKey), x = .ref a ∧ y = .ref b ∧ H a = some (DictN P w a xs) ∧ RowsN H xs ∧ NK H k (.ref b) ∧ k.depth ≤ 8 ∧ Q (.bl (!(atN xs k).isSome)) H
theorem op_notInN (hu : X.A.units + 9 < cLine) : OpR X (compareOp .NotIn) (rNotInN X.prog X.w) := by
  intro pins s σ H y x u iv Q I ry rx h
  obtain ⟨a, b, xs, k, rfl, rfl, g, gr, gk, gd, q⟩ := h
  cases rx
  cases ry
  obtain ⟨ha, us, hp, hm⟩ := dictN_of I g gr
  refine notIn_keyed (knd := nestedKind X.prog X.w) (show X.A.units + 1 + 8 < cLine by omega) ⟨NK.is I gk rfl, gd⟩ ha ⟨us, hm, rfl⟩ ?_
  rcases atN_pairs (k := k) hp with ⟨v', uv, e1, e2, _⟩ | ⟨e1, e2⟩
  · rw [e1] at q
    rw [e2]
    exact ⟨.bl false, H, I.tok _, rfl, q⟩
  · rw [e1] at q
    rw [e2]
    exact ⟨.bl true, H, I.tok _, rfl, q⟩
def storedN (xs : List NRow) (k : NestedKey) (b : Addr) (v : V) : List NRow := if (atN xs k).isSome then xs.map (fun x => if x.1 = k then (x.1, x.2.1, v) else x) else xs ++ [(k, b, v)]
abbrev RowsP (xs : List NRow) (us : List (NestedKey × Addr × Value)) : Prop := Paired (fun (p : NRow) (q : NestedKey × Addr × Value) => p.1 = q.1 ∧ p.2.1 = q.2.1 ∧ RelV p.2.2 q.2.2) xs us
theorem rows_map {k : NestedKey} {v : V} {u : Value} (rv : RelV v u) : ∀ {xs : List NRow} {us : List (NestedKey × Addr × Value)}, RowsP xs us → RowsP (xs.map (fun x => if x.1 = k then (x.1, x.2.1, v) else x)) (us.map (putAt k u))
  | _, _, .nil => .nil
  | x :: xs, y :: us, .cons r t => by
    refine .cons ?_ (rows_map rv t)
    show (if x.1 = k then (x.1, x.2.1, v) else x).1 = (putAt k u y).1 ∧ (if x.1 = k then (x.1, x.2.1, v) else x).2.1 = (putAt k u y).2.1 ∧ RelV (if x.1 = k then (x.1, x.2.1, v) else x).2.2 (putAt k u y).2.2
    unfold putAt
    by_cases e : x.1 = k
    · rw [if_pos e, if_pos (r.1.symm.trans e)]
      exact ⟨r.1, r.2.1, rv⟩
    · rw [if_neg e, if_neg (fun z => e (r.1.trans z))]
      exact r
theorem rows_app {k : NestedKey} {b : Addr} {v : V} {u : Value} (rv : RelV v u) : ∀ {xs : List NRow} {us : List (NestedKey × Addr × Value)}, RowsP xs us → RowsP (xs ++ [(k, b, v)]) (us ++ [(k, b, u)])
  | _, _, .nil => .cons ⟨rfl, rfl, rv⟩ .nil
  | _ :: _, _ :: _, .cons r t => .cons r (rows_app rv t)
theorem stored_pairs {k : NestedKey} {b : Addr} {v : V} {u : Value} (rv : RelV v u) {xs : List NRow} {us : List (NestedKey × Addr × Value)} (p : Paired (fun (p : NRow) (q : NestedKey × Addr × Value) => p.1 = q.1 ∧ p.2.1 = q.2.1 ∧ RelV p.2.2 q.2.2) xs us) :
    Paired (fun (p : NRow) (q : NestedKey × Addr × Value) => p.1 = q.1 ∧ p.2.1 = q.2.1 ∧ RelV p.2.2 q.2.2) (storedN xs k b v) (storedH us k b u) := by
  have hs : (atN xs k).isSome = (atKey us k).isSome := by
    have e : valueAt (pairsH us) k = (atKey us k).map (·.2) := valueAt_pairsH us k
    rcases atN_pairs (k := k) p with ⟨v', u', e1, e2, _⟩ | ⟨e1, e2⟩
    · rw [e1]
      rw [e2] at e
      cases h : atKey us k with
      | none => rw [h] at e; cases e
      | some _ => rfl
    · rw [e1]
      rw [e2] at e
      cases h : atKey us k with
      | none => rfl
      | some _ => rw [h] at e; cases e
  unfold storedN storedH
  rw [hs]
  split
  · exact rows_map rv p
  · exact rows_app rv p
theorem storedN_len (xs : List NRow) (k : NestedKey) (b : Addr) (v : V) : (storedN xs k b v).length ≤ xs.length + 1 := by
  unfold storedN
  split
  · rw [List.length_map]; omega
  · rw [List.length_append]; exact Nat.le_refl _
def sDPutN (P : Program) (w : World) (td ty tv : TE) : TS := fun D σ H => tv σ H fun v H1 => td σ H1 fun x H2 => ty σ H2 fun y H3 => ∃ (a b : Addr) (xs : List NRow) (k : NestedKey), x = .ref a ∧ y = .ref b ∧ H3 a = some (DictN P w a xs) ∧ RowsN H3 xs ∧ NK H3 k (.ref b) ∧ k.depth ≤ 8 ∧ xs.length < sizeLine ∧ D.nx σ (upd H3 a (DictN P w a (storedN xs k b v)))
theorem ps_dputN {o i value : PySem.Expr} {td ty tv : TE} {pos pos' : Pos} (hu : X.A.units + 9 < cLine) (ho : PE X o td) (hi : PE X i ty) (hv : PE X value tv) (hs : swapsWith value (some (.Subscript o i pos')) pos.line X.env = pure false) :
    PS X (.Assign [.Subscript o i pos'] value pos) (sDPutN X.prog X.w td ty tv) := by
  refine ⟨fun pins s σ H D I h => ?_⟩
  refine wpAny_Assign_Subscript (thn (hv.run pins s σ H _ I h) fun r s1 ⟨v, H1, I1, rv, q1⟩ => thn (ho.run pins s1 σ H1 _ I1 q1) fun u s2 ⟨x, H2, I2, rx, q2⟩ => thn (hi.run pins s2 σ H2 _ I2 q2) fun iv s3 ⟨y, H3, I3, ry, a, b, xs, k, ex, ey, g, gr, gk, gd, gz, q3⟩ => ?_) hs
  subst ex ey
  cases rx
  cases ry
  obtain ⟨ha, us, hp, hm⟩ := dictN_of I3 g gr
  have hl : us.length ≤ sizeLine := by rw [← Paired.length hp]; omega
  refine wpAny_setItem_heap (knd := nestedKind X.prog X.w) (hsz := hl) (show X.A.units + 1 + 8 < cLine by omega) ⟨NK.is I3 gk rfl, gd⟩ hm fun h' hm' sb => ?_
  obtain ⟨ob, es, ep, e1, e2, e3, e4, _, e5⟩ := hm'
  have hz : (storedN xs k b v).length ≤ sizeLine := by have := storedN_len xs k b v; omega
  exact ⟨σ, _, d_write I3 (by rw [g]; exact True.intro) sb ⟨ob, e1⟩ (dictN_ok ha hz (stored_pairs rv hp) ⟨ob, es, ep, e1, e2, e3, e4, e5⟩), q3⟩
theorem pe_dnewN {pos : Pos} : PE X (.Dict [] [] pos) (fun _ H Q => ∀ p, H p = none → Q (.ref p) (upd H p (DictN X.prog X.w p []))) := ⟨fun pins s σ H Q I h =>
  wpAny_Dict_empty ⟨.ref s.heap.objs.size, _, I.laid (a := s.heap.objs.size) (o := DictN X.prog X.w s.heap.objs.size []) (t' := s.toks) (fun _ _ q => Heap.get?_push_of_some _ q) (Nat.le_refl _)
    (dictN_ok (beq_eq_false_iff_ne.mpr (Ne.symm (Nat.ne_of_lt I.big))) (Nat.zero_le _) .nil ⟨_, #[], 0, Heap.get?_push_size _ rfl, ⟨rfl, rfl, rfl⟩, rfl, rfl, List.nodup_nil⟩), rfl, h _ (I.hok.fresh (Nat.le_refl _))⟩⟩
end
theorem frzN {X : Cx} {pins : List (Addr × Obj)} {σ : L2.St} {H : Hp} {s : Shared} {a : Addr} {o : Obj} {xs : List NRow} (I : Inv X pins σ H s) (h : H a = some (.frz o (DictN X.prog X.w a xs))) :
    (a == sysModules) = false ∧ s.heap.get? a = some o ∧ o.ExactDict ∧ ∃ (es : Array DictEntry) (ep : Nat), o.data = .dict es ep ∧ es.size = xs.length ∧ ∀ (i : Nat) (row : NRow), xs[i]? = some row → ∃ en : DictEntry, es[i]? = some en ∧ en.key = Value.ref row.2.1 ∧ RelV row.2.2 en.val := by
  obtain ⟨hg, ⟨h1, h2, us, h3, o2, es, ep, e1, e2, e3, e4, e5⟩, _, _⟩ := I.hok _ _ h
  have eo : o2 = o := Option.some.inj (e1.symm.trans hg)
  subst eo
  have hl : us.length = es.size := by
    have := congrArg List.length e4
    rw [List.length_map, Array.length_toList] at this
    exact this.symm
  refine ⟨h1, hg, e2, es, ep, e3, by rw [← hl]; exact (Paired.length h3).symm, fun i row hr => ?_⟩
  have : ∀ (xs : List NRow) (us : List (NestedKey × Addr × Value)), RowsP xs us → ∀ (i : Nat) (row : NRow), xs[i]? = some row → ∃ u : NestedKey × Addr × Value, us[i]? = some u ∧ u.2.1 = row.2.1 ∧ RelV row.2.2 u.2.2 := by
    intro xs us p
    induction p with
    | nil => intro i row h; cases h
    | cons r t ih =>
      intro i row h
      cases i with
      | zero => cases h; exact ⟨_, rfl, r.2.1.symm, r.2.2⟩
      | succ i => exact ih i row (by simpa using h)
  obtain ⟨u, hu, k1, k2⟩ := this _ _ h3 i row hr
  refine ⟨entryOfKey (nestedKind X.prog X.w) u, ?_, by show Value.ref u.2.1 = _; rw [k1], k2⟩
  rw [← Array.getElem?_toList, e4, List.getElem?_map, hu]
  rfl
def ItkN (P : Program) (w : World) (d : Addr) (o : Obj) (xs : List NRow) : It :=
  ⟨fun i H => H d = some (.frz o (DictN P w d xs)) ∧ i < xs.length, fun i H x H' => H' = H ∧ ∃ row, xs[i]? = some row ∧ x = .ref row.2.1, fun i H => H d = some (.frz o (DictN P w d xs)) ∧ xs.length ≤ i⟩
theorem turn_keysN {P : Program} {w : World} {K : PySem.W.Frag} {tg : PySem.Expr} {d : Addr} {o : Obj} {es : Array DictEntry} {ep : Nat} {xs : List NRow} (it : Addr) (hod : o.data = .dict es ep) : Turn P w K tg (ItkN P w d o xs) [it] it (fun i h => h.IsKeyIter it d i xs.length ep) where
  mem := List.mem_singleton.mpr rfl
  obj := by
    intro i h st b hb
    cases List.mem_singleton.mp hb
    obtain ⟨x, e, c, dd⟩ := st
    exact ⟨x, e, fun v z => by rw [dd] at z; cases z⟩
  keep := by
    intro i h h' st k
    exact st.at fun x e => k it (List.mem_singleton.mpr rfl) x e
  item := by
    intro X hP hw hK hc i pins s σ H E I hf st hg
    subst hP hw hK
    obtain ⟨hd, hi⟩ := hg
    obtain ⟨z0, z1, z2, z3, z4, z5⟩ := hf it (List.mem_singleton.mpr rfl)
    obtain ⟨hs, hgd, hx, es2, ep2, hdt, hsz, ent⟩ := frzN I hd
    obtain ⟨rfl, rfl⟩ := dict_ep hod hdt
    obtain ⟨row, hrow⟩ : ∃ row, xs[i]? = some row := ⟨_, List.getElem?_eq_getElem hi⟩
    obtain ⟨en, hen, hkey, _⟩ := ent i row hrow
    refine next_key_item st hgd hdt hsz hen fun h' st' sb => ?_
    have J : Inv X pins σ H { s with heap := h' } := I.turned (t' := s.toks) (fun b ob hb e => (sb.2 b hb).trans e) z0 z1 z3 z4 z5
    obtain ⟨x, e, c, dd⟩ := id st'
    exact ⟨en.key, rfl, go_of (s := { s with heap := h' }) e c dd (by decide) ⟨.ref row.2.1, H, J, hkey, ⟨rfl, row, hrow, rfl⟩, st', fun b hb => (hf b hb).1⟩⟩
  done := by
    intro X hP hw hK hc i pins s σ H E I hf st hg
    subst hP hw hK
    obtain ⟨hd, hi⟩ := hg
    obtain ⟨z0, z1, z2, z3, z4, z5⟩ := hf it (List.mem_singleton.mpr rfl)
    obtain ⟨hs, hgd, hx, es2, ep2, hdt, hsz, ent⟩ := frzN I hd
    obtain ⟨rfl, rfl⟩ := dict_ep hod hdt
    exact next_key_end (I.ok.hd hc) st hgd hdt hsz hi fun h' eb => ⟨rfl, I.turned (t' := s.toks) (fun b ob hb e => eb b ob hb e) z0 z1 z3 z4 z5⟩
  self := fun A i s Q E st h => wpAny_pyIter_keyiter st h
def iKeysN (P : Program) (w : World) (td : TE) : TI := fun σ H R => td σ H fun x H1 => ∃ d o xs, x = .ref d ∧ H1 d = some (.frz o (DictN P w d xs)) ∧ R (ItkN P w d o xs) H1
theorem pi_keysN {X : Cx} {tg e : PySem.Expr} {td : TE} (he : PE X e td) : PI X tg e (iKeysN X.prog X.w td) := by
  refine ⟨fun pins s σ H R I h => ?_⟩
  refine thn (he.run pins s σ H _ I h) fun u s1 ⟨x, H1, I1, rx, d, o, xs, ex, hd, q⟩ => ?_
  subst ex
  cases rx
  obtain ⟨hs, hgd, hx, es, ep, hdt, hsz, ent⟩ := frzN I1 hd
  refine iter_keys hs hgd hx hdt (pi_one (tk := s1.toks) I1 _ (turn_keysN _ hdt) ⟨_, Heap.get?_push_size _ rfl, rfl, ?_⟩ q)
  rw [hsz] <;> rfl
theorem walk_keysN {P : Program} {w : World} {d : Addr} {o : Obj} {xs : List NRow} : Walk (ItkN P w d o xs) xs.length (fun H => H d = some (.frz o (DictN P w d xs))) (fun i H x H' => H' = H ∧ ∃ row, xs[i]? = some row ∧ x = .ref row.2.1) :=
  ⟨fun _ _ hi q => ⟨q, hi⟩, fun _ q => ⟨q, Nat.le_refl _⟩, fun _ _ _ _ _ _ y => y⟩
theorem roomN {k : Nat} {A : Around} (r : Room k A) : A.units + 9 < cLine := by have := r.un; omega
theorem call_lenN {X : Cx} : CallR X (.builtin "len") (fun xs H Q => ∃ (a : Addr) (rows : List NRow), xs = [.ref a] ∧ H a = some (DictN X.prog X.w a rows) ∧ RowsN H rows ∧ Q (.int (rows.length : Nat)) H) := by
  intro pins s σ H xs us Q I r h
  obtain ⟨a, rows, rfl, g, gr, q⟩ := h
  have hz : rows.length ≤ sizeLine := by
    obtain ⟨⟨_, h2, _⟩, _, _⟩ := I.hok _ _ g
    exact h2
  cases r with
  | cons r1 r2 =>
    cases r2
    cases r1
    obtain ⟨ha, us, hp, hm⟩ := dictN_of I g gr
    have hl : (pairsH us).length = rows.length := by
      rw [pairsH_length]
      exact (Paired.length hp).symm
    refine PyProof.Rows.call_len_slot (n := (pairsH us).length) hm.typeIs PySem.F.slot_dict_len (fun Q' hq => len_keyed (knd := nestedKind X.prog X.w) ha ⟨us, hm, rfl⟩ hq) (by omega) (by rw [hl]; rw [sizeLine_eq] at hz; omega) ?_
    rw [hl]
    exact ⟨.int _, H, I.tok _, ⟨_, rfl⟩, q⟩

def ItiN (P : Program) (w : World) (d : Addr) (o : Obj) (xs : List NRow) : It :=
  ⟨fun n H => H d = some (.frz o (DictN P w d xs)) ∧ n < xs.length, fun n H v H' => ∃ (p : Addr) (row : NRow), xs[n]? = some row ∧ v = .ref p ∧ H p = none ∧ H' = upd H p (.tup [.ref row.2.1, row.2.2]), fun n H => H d = some (.frz o (DictN P w d xs)) ∧ xs.length ≤ n⟩
theorem turn_itemsN {P : Program} {w : World} {K : PySem.W.Frag} {parts : List PySem.Expr} {many : Nat} {at_ : Pos} {d : Addr} {o : Obj} {es : Array DictEntry} {ep : Nat} {xs : List NRow} (it : Addr) (hod : o.data = .dict es ep) :
    Turn P w K (.Tuple parts many at_) (ItiN P w d o xs) [it] it (fun n h => ∃ x y, IsItemIter h it d n xs.length ep x y) where
  mem := List.mem_singleton.mpr rfl
  obj := by
    rintro n h ⟨x, y, e⟩ b hb
    cases List.mem_singleton.mp hb
    exact ⟨_, e, fun v z => nomatch z⟩
  keep := by
    rintro n h h' ⟨x, y, e⟩ k
    exact ⟨x, y, k it (List.mem_singleton.mpr rfl) _ e⟩
  item := by
    rintro X rfl rfl rfl calm n pins s σ H E I free ⟨x, y, here⟩ ⟨hd, more⟩
    obtain ⟨sys, got, exact_, es2, ep2, hdt, hsz, ent⟩ := frzN I hd
    obtain ⟨rfl, rfl⟩ := dict_ep hod hdt
    obtain ⟨row, hrow⟩ : ∃ row, xs[n]? = some row := ⟨_, List.getElem?_eq_getElem more⟩
    obtain ⟨en, hen, hkey, hval⟩ := ent n row hrow
    rw [← hsz] at here more
    have een : es2[n] = en := by
      have := List.getElem?_eq_some_iff.mp (show es2.toList[n]? = some en by rw [Array.getElem?_toList]; exact hen)
      simpa using this.2
    have low : it < s.heap.objs.size := Heap.lt_size here
    refine DT.nextI here ⟨o, got, exact_, hdt⟩ more fun h1 out tup _ stays => ?_
    refine ⟨_, rfl, wpAny_letOwnedTupleGo_items (s := { s with heap := h1 }) out fun h2 back but => ?_⟩
    rw [een] at tup back
    have tup2 : h2.get? s.heap.objs.size = some { cls := .type "tuple", data := .seq #[en.key, en.val] } := (but.2 _ (Nat.ne_of_gt low)).trans tup
    have made : ObjOk X.prog X.w (upd H s.heap.objs.size (.tup [.ref row.2.1, row.2.2])) h2 s.heap.objs.size (.tup [.ref row.2.1, row.2.2]) :=
      ⟨by show 2 ≤ sizeLine; decide, [en.key, en.val], .cons hkey (.cons hval .nil), _, tup2, rfl, _, rfl⟩
    have J : Inv X pins σ (upd H s.heap.objs.size (.tup [.ref row.2.1, row.2.2])) { s with heap := h2 } :=
      I.turnedNew (t' := s.toks) (ch := [it]) (fun b ob hb e => by
        have ne : b ≠ it := fun z => hb (by rw [z]; exact List.mem_singleton.mpr rfl)
        exact (but.2 b ne).trans (stays b ob ne e)) free (Nat.le_refl _) made
    refine ⟨.ref s.heap.objs.size, _, J, rfl, ⟨_, row, hrow, rfl, I.hok.fresh (Nat.le_refl _), rfl⟩, ⟨en.key, en.val, ?_⟩, fun b hb => ?_⟩
    · rw [← hsz]
      exact back
    · cases List.mem_singleton.mp hb
      rw [upd_ne (Nat.ne_of_lt low)]
      exact (free it (List.mem_singleton.mpr rfl)).1
  done := by
    rintro X rfl rfl rfl calm n pins s σ H E I free ⟨x, y, here⟩ ⟨hd, over⟩
    obtain ⟨z0, z1, z2, z3, z4, z5⟩ := free it (List.mem_singleton.mpr rfl)
    obtain ⟨sys, got, exact_, es2, ep2, hdt, hsz, _⟩ := frzN I hd
    obtain ⟨rfl, rfl⟩ := dict_ep hod hdt
    rw [← hsz] at here over
    exact DT.endI (I.ok.hd calm) here ⟨o, got, exact_, hdt⟩ over fun h' eb => ⟨rfl, I.turned (t' := s.toks) (fun b ob hb e => eb b ob hb e) z0 z1 z3 z4 z5⟩
  self := fun A i s Q E st h => let ⟨_, _, e⟩ := st; PySem.W.kcp_self e h
def iItemsN (P : Program) (w : World) (td : TE) : TI := fun σ H R => td σ H fun x H1 => ∃ d o xs, x = .ref d ∧ H1 d = some (.frz o (DictN P w d xs)) ∧ R (ItiN P w d o xs) H1
theorem pi_itemsN {X : Cx} {e : PySem.Expr} {td : TE} {parts : List PySem.Expr} {many : Nat} {at_ at1 at2 : Pos} (he : PE X e td) (base : attributeBase e "items" X.env (eval e X.env) = eval e X.env := by rfl) (line : (at1.endLine == at2.line) = true := by rfl) :
    PI X (.Tuple parts many at_) (.Call (.Attribute e "items" at1) [] [] at2) (iItemsN X.prog X.w td) := by
  refine ⟨fun pins s σ H R I h => wpAny_Call_method (T := "dict") (id := "dict.items") base rfl line F.plainAttrs_dict F.slot_dict_items F.type_dict_items (thn (he.run pins s σ H _ I h) ?_)⟩
  rintro u s1 ⟨x, H1, I1, rx, d, o, xs, rfl, hd, q⟩
  obtain rfl : u = Value.ref d := rx
  obtain ⟨sys, got, exact_, es, ep, hdt, hsz, _⟩ := frzN I1 hd
  have raw : DT.Raw s1.heap d es ep := ⟨o, got, exact_, hdt⟩
  refine ⟨raw.typeIs, (fun a e => by cases e; exact ⟨o, got, exact_.2.1⟩), ?_⟩
  have I2 : Inv X pins σ H1 { s1 with heap := s1.heap.push { cls := .type "dict_items", data := .fields #[.ref d] } } := I1.kept (t' := s1.toks) fun b ob z => Heap.get?_push_of_some _ z
  have go : wpAny (model X.prog X.w) X.A (pyIter (.ref s1.heap.objs.size)) (PIE X pins σ (.Tuple parts many at_) R) X.xe { s1 with heap := s1.heap.push { cls := .type "dict_items", data := .fields #[.ref d] } } := by
    refine DT.iterI (d := d) (es := es) (ep := ep) ⟨_, Heap.get?_push_size _ rfl, rfl, rfl⟩ (raw.push _) (pi_one (tk := s1.toks) I2 _ (turn_itemsN _ hdt) ⟨.none, .none, ?_⟩ q)
    rw [← hsz]
    exact Heap.get?_push_size _ rfl
  show wpAny _ _ (callWith at2 (.builtin "dict.items") [.ref d] [] []) _ X.xe s1
  exact method_meetsIn F.slot_dict_items F.entry_dict_items rfl (PySem.evalArgs_none ⟨rfl, raw.typeIs, F.args_dict_items_1 _, _, DT.meetsItems (es := es) (ep := ep) sys, raw, go⟩)
theorem walk_itemsN {P : Program} {w : World} {d : Addr} {o : Obj} {xs : List NRow} : Walk (ItiN P w d o xs) xs.length (fun H => H d = some (.frz o (DictN P w d xs))) (fun i H x H' => ∃ (p : Addr) (row : NRow), xs[i]? = some row ∧ x = .ref p ∧ H p = none ∧ H' = upd H p (.tup [.ref row.2.1, row.2.2])) :=
  ⟨fun _ _ hi q => ⟨q, hi⟩, fun _ q => ⟨q, Nat.le_refl _⟩, fun _ _ _ _ _ _ y => y⟩
def rIsN (P : Program) (w : World) (K : PySem.W.Frag) : List V → Hp → VK → Prop := fun xs H Q => ∃ (a : Addr) (rows : List NRow) (y : V) (u : Value) (b : Bool), xs = [.ref a, y] ∧ H a = some (DictN P w a rows) ∧ ClsV y u ∧ PySem.W.kitOne K (.type "dict") u = some b ∧ Q (.bl b) H
theorem call_isN {X : Cx} : CallR X (.builtin "isinstance") (rIsN X.prog X.w X.K) := by
  rintro pins s σ H _ us Q I r ⟨a, rows, y, u, b, rfl, ha, hy, hk, q⟩
  obtain ⟨_, u2, rfl, r1, r2⟩ := vals2 r
  obtain rfl := hy.eq r2
  cases r1
  obtain ⟨⟨_, _, _, _, o, _, _, e1, e2, _⟩, _, _⟩ := I.hok a _ ha
  exact PySem.W.kia_one PySem.W.kitx_dict I.kIn ⟨o, e1, e2.1⟩ hk (fun z => nomatch z) fun tk => ⟨.bl b, H, I.tok tk, rfl, q⟩

abbrev InBlk (X : Cx) (scope : PySem.Scope) (F : Cx → Prop) : Prop := ∀ (s : Shared) (H : Hp) (C : Addr) (cl : List (Str × Addr)) (fp : List Addr), F (X.blk s H scope (compEnvC scope cl C X.env) fp)
def tDcN (P : Program) (w : World) (wi : TI) (g : TG) (tt : TT) (tk tv : TE) (vs : List Nat) : TE := fun σ H Q => wi σ H fun J H1 => ∀ D, H1 D = none → ∃ W : Nat → Nat → Hp → Prop, (∃ m, W 0 m (upd H1 D (DictN P w D []))) ∧ ∀ n m H, W n m H →
  ((J.stop n H ∧ Q (.ref D) H) ∨ (J.go n H ∧ ∃ Nx : Hp → Prop, (∀ H', Nx H' → ∃ less, less < m ∧ W (n + 1) less H') ∧ ∀ x H', J.yld n H x H' → g x (wipe σ vs) H' fun σ2 H2 => wipe σ2 vs = wipe σ vs ∧ tt σ2 H2 fun yes H3 =>
    if yes = true then tk σ2 H3 fun y H4 => tv σ2 H4 fun z H5 => ∃ (xs : List NRow) (k : NestedKey) (b : Addr), y = .ref b ∧ H5 D = some (DictN P w D xs) ∧ RowsN H5 xs ∧ NK H5 k (.ref b) ∧ k.depth ≤ 8 ∧ xs.length < sizeLine ∧ Nx (upd H5 D (DictN P w D (storedN xs k b z))) else Nx H3))
section
variable {X : Cx} {pins : List (Addr × Obj)} {σ : L2.St} {H : Hp} {s : Shared}
theorem put_rowN {D b : Addr} {xs : List NRow} {k : NestedKey} {z : V} {r : Value} {E : Value → Shared → Prop} {Q : Unit → Shared → Prop} (hu : X.A.units + 9 < cLine) (I : Inv X pins σ H s) (hD : H D = some (DictN X.prog X.w D xs)) (hr : RowsN H xs) (hk : NK H k (.ref b)) (hd : k.depth ≤ 8) (hz : xs.length < sizeLine) (rv : RelV z r)
    (h : ∀ s', Inv X pins σ (upd H D (DictN X.prog X.w D (storedN xs k b z))) s' → Q () s') : wpAny (model X.prog X.w) X.A (dictSet D (.ref b) r) Q E s := by
  obtain ⟨hs, us, hp, hm⟩ := dictN_of I hD hr
  have hl : us.length ≤ sizeLine := by rw [← Paired.length hp]; omega
  refine wpAny_dictSet_heap (knd := nestedKind X.prog X.w) (hsz := hl) (show X.A.units + 8 < cLine by omega) ⟨NK.is I hk rfl, hd⟩ hm fun h' hm' but => h _ ?_
  obtain ⟨ob, es, ep, e1, e2, e3, e4, _, e5⟩ := hm'
  have fits : (storedN xs k b z).length ≤ sizeLine := by have := storedN_len xs k b z; omega
  exact d_write I (by rw [hD]; exact True.intro) but ⟨ob, e1⟩ (dictN_ok hs fits (stored_pairs rv hp) ⟨ob, es, ep, e1, e2, e3, e4, e5⟩)
theorem pe_dcN {kx vx tg iter : PySem.Expr} {ifs : List PySem.Expr} {scope : PySem.Scope} {own : List (Str × Nat)} {pos : Pos} {wi : TI} {g : TG} {tt : TT} {tk tv : TE} (hu : X.A.units + 9 < cLine) (calm : X.calm = true) (nd : X.N.Nodup) (hi : PI X tg iter wi) (ok : BlkOk X.N X.env.scope scope own)
    (hg : InBlk X scope fun Y => PG Y tg g) (ht : InBlk X scope fun Y => PTs Y ifs tt) (hk : InBlk X scope fun Y => PE Y kx tk) (he : InBlk X scope fun Y => PE Y vx tv) (plain : ∀ x, foldedSetIterable iter X.env x = pure x := by intro _; rfl) :
    PE X (.DictComp kx vx [⟨tg, iter, ifs, 0⟩] scope pos) (tDcN X.prog X.w wi g tt tk tv (own.map (·.2))) := by
  refine ⟨fun pins s σ H Q I h => ?_⟩
  rw [arm_eval_DictComp]
  have known : ∀ y ∈ scope.names, y.2 = .free → ∃ c, X.env.cells.lookup y.1 = some c := fun y hy e => (ok.free y hy e).elim (fun k => I.ok.has _ (.inl k)) (fun k => I.ok.has _ (.inr k))
  refine wpAny_comprehension_free (use := none) rfl plain (closure_ok known) ok.kind (fun y hy e => by rw [ok.uniq y hy, e]) (thn (hi.run pins s σ H _ I h) fun _ t1 a1 => thn a1 fun _ t2 a2 => ?_)
  obtain ⟨it, fp, tn, J, H2, rfl, I2, T, st2, apart, q⟩ := a2
  refine wpAny_newObj_type (newEnv_comp ?_)
  obtain ⟨W, ⟨m0, w0⟩, turn⟩ := q _ (I2.hok.fresh (Nat.le_refl _))
  have nsys : (t2.heap.objs.size == sysModules) = false := beq_eq_false_iff_ne.mpr (Ne.symm (Nat.ne_of_lt I2.big))
  have I3 : Inv X pins σ (upd H2 t2.heap.objs.size (DictN X.prog X.w t2.heap.objs.size [])) { t2 with heap := t2.heap.push { cls := .type "dict", data := .dict #[] } } :=
    I2.laid (t' := t2.toks) (fun _ _ z => Heap.get?_push_of_some _ z) (Nat.le_refl _) (dictN_ok nsys (Nat.zero_le _) .nil ⟨_, #[], 0, Heap.get?_push_size _ rfl, ⟨rfl, rfl, rfl⟩, rfl, rfl, List.nodup_nil⟩)
  have ahead : ∀ b ∈ fp, b < t2.heap.objs.size := fun b hb => let ⟨_, z, _⟩ := T.obj _ _ st2 b hb; Heap.lt_size z
  generalize e3 : ({ t2 with heap := t2.heap.push { cls := .type "dict", data := .dict #[] } } : Shared) = t3 at I3
  have h3 : t3.heap = t2.heap.push { cls := .type "dict", data := .dict #[] } := by rw [← e3]
  have fp3 : ∀ b ∈ fp, FpOk X pins (upd H2 t2.heap.objs.size (DictN X.prog X.w t2.heap.objs.size [])) b ∧ b < t3.heap.objs.size := fun b hb => by
    refine ⟨⟨?_, (apart b hb).2⟩, ?_⟩
    · rw [upd_ne (Nat.ne_of_lt (ahead b hb))]
      exact (apart b hb).1
    · rw [h3, Heap.size_push]
      exact Nat.lt_succ_of_lt (ahead b hb)
  have st3 : tn 0 t3.heap := T.keep _ _ _ st2 fun b _ o z => by rw [h3]; exact Heap.get?_push_of_some _ z
  have I4 := block_start I3 ok nd fp3
  generalize eD : t2.heap.objs.size = D at *
  generalize eH : upd H2 D (DictN X.prog X.w D []) = H3 at *
  have pg := hg t3 H3 t3.heap.objs.size (cellsFrom (t3.heap.objs.size + 1) scope.names (cloFrom X.env.cells scope.names [])) fp
  have pt := ht t3 H3 t3.heap.objs.size (cellsFrom (t3.heap.objs.size + 1) scope.names (cloFrom X.env.cells scope.names [])) fp
  have pk := hk t3 H3 t3.heap.objs.size (cellsFrom (t3.heap.objs.size + 1) scope.names (cloFrom X.env.cells scope.names [])) fp
  have pv := he t3 H3 t3.heap.objs.size (cellsFrom (t3.heap.objs.size + 1) scope.names (cloFrom X.env.cells scope.names [])) fp
  show codeAny _ _ (.compStart (.DictComp kx vx [⟨tg, iter, ifs, 0⟩] scope pos) 0 (.ref it) (.ref D) (compEnvC scope (cellsFrom (t3.heap.objs.size + 1) scope.names (cloFrom X.env.cells scope.names [])) t3.heap.objs.size X.env)) (compPost (model X.prog X.w) X.A X.xe none (EP X pins σ Q) (.ref D) t3.heap.objs.size) { t3 with heap := pushCells (t3.heap.push { cls := .type "dict", data := .dict #[] }) scope.names }
  have off : ∀ b ∈ fp, H3 b = none := fun b hb => (fp3 b hb).1.1
  generalize eC : compEnvC scope (cellsFrom (t3.heap.objs.size + 1) scope.names (cloFrom X.env.cells scope.names [])) t3.heap.objs.size X.env = ce at I4 pg pt pk pv ⊢
  have place : ce.locals = t3.heap.objs.size := by rw [← eC]; rfl
  generalize e4 : ({ t3 with heap := pushCells (t3.heap.push { cls := .type "dict", data := .dict #[] }) scope.names } : Shared) = t4 at I4 ⊢
  have st4 : tn 0 t4.heap := T.keep _ _ _ st3 fun b _ o z => by rw [← e4]; exact pushCells_keeps _ _ _ _ (Heap.get?_push_of_some _ z)
  have still : ∀ {σ' : L2.St} {H' : Hp} {t : Shared}, Inv (X.blk t3 H3 scope ce fp) [] σ' H' t → (∀ b ∈ fp, H' b = none) → ∀ b ∈ fp, FpOk (X.blk t3 H3 scope ce fp) [] H' b := fun J n b hb =>
    ⟨n b hb, (J.ok.exf b hb).1, J.ok.exfs b hb, .inl hb, fun x c z => (J.ok.exf b hb).2 x c z, fun z hz => absurd (show z ∈ ([] : List (Addr × Obj)) ++ [] from hz) (by simp)⟩
  have main : codeAny (model X.prog X.w) X.A (.compLoop (.DictComp kx vx [⟨tg, iter, ifs, 0⟩] scope pos) 0 (.ref it) (.ref D) ce) (compPost (model X.prog X.w) X.A X.xe none (EP X pins σ Q) (.ref D) t3.heap.objs.size) t4 := by
    refine compLoop_anyD (fun m t => ∃ n Hn, Inv (X.blk t3 H3 scope ce fp) [] (wipe σ (own.map (·.2))) Hn t ∧ tn n t.heap ∧ (∀ b ∈ fp, Hn b = none) ∧ W n m Hn) ?_ m0 ⟨0, H3, I4, st4, off, w0⟩
    rintro m t5 ⟨n, H5, I5, st5, off5, w5⟩
    rcases turn n m H5 w5 with ⟨stop, over⟩ | ⟨go, Nx, lower, step⟩
    · refine thnF (T.done (X.blk t3 H3 scope ce fp) rfl rfl rfl calm n [] t5 _ H5 (fun _ _ => False) I5 (still I5 off5) st5 stop) ?_
      rintro _ t6 ⟨rfl, I6⟩
      have I7 : Inv X pins σ H5 t6 := I3.call' (ch := fp) I6.os I6.base I6.hok I6.bare fun b hb => let z := (fp3 b hb).1.2; ⟨z.2.2.1, z.1, z.2.2.2.1, z.2.2.2.2⟩
      have gone : H5 t3.heap.objs.size = none := by rw [← place]; exact I6.free
      obtain ⟨names, hn, _⟩ := I6.loc
      have hn2 : t6.heap.Ns ce.locals names := hn
      rw [place] at hn2
      obtain ⟨z0, z1, z2, z3, z4, z5⟩ := I3.fpOk (Nat.le_refl _) gone
      exact ⟨names, hn2, fun h7 but => ⟨.ref D, H5, I7.turned (t' := t6.toks) (fun b ob hb z => (but.2 b hb).trans z) z0 z1 z3 z4 z5, rfl, over⟩⟩
    · refine thnF (T.item (X.blk t3 H3 scope ce fp) rfl rfl rfl calm n [] t5 _ H5 (fun _ _ => False) I5 (still I5 off5) st5 go) ?_
      rintro _ t6 ⟨u, rfl, a6⟩
      refine thnF a6 ?_
      rintro _ t7 ⟨x, H7, I7, rx, yx, st7, off7⟩
      refine thnF (pg.run _ t7 _ H7 x u _ (I7.pinned (still I7 off7) (T.obj _ _ st7)) rx (step x H7 yx)) ?_
      rintro _ t8 ⟨σ8, H8, I8, same8, q8⟩
      have close : ∀ {t : Shared} {Hn : Hp}, Inv (X.blk t3 H3 scope ce fp) ([] ++ pinsAt fp t7.heap) σ8 Hn t → Nx Hn → ∃ less, less < m ∧ ∃ n Hn, Inv (X.blk t3 H3 scope ce fp) [] (wipe σ (own.map (·.2))) Hn t ∧ tn n t.heap ∧ (∀ b ∈ fp, Hn b = none) ∧ W n less Hn := fun {t Hn} J nx => by
        obtain ⟨less, hl, wl⟩ := lower Hn nx
        have kept : ∀ b ∈ fp, ∀ o, t7.heap.get? b = some o → t.heap.get? b = some o ∧ Hn b = none := fun b hb o z =>
          let y := J.pin (b, o) (List.mem_append_right _ (List.mem_append_right _ (mem_pinsAt hb z)))
          ⟨y.1, y.2.1⟩
        refine ⟨less, hl, n + 1, Hn, (J.unpinned (pins := [])).weak (by rw [← same8, wipe_length]) fun j v z => ?_, T.keep _ _ _ st7 fun b hb o z => (kept b hb o z).1, fun b hb => ?_, wl⟩
        · rw [← same8] at z
          exact (wipe_some z).1
        · obtain ⟨o, z, _⟩ := T.obj _ _ st7 b hb
          exact (kept b hb o z).2
      refine thnF (pt.run _ t8 σ8 H8 _ I8 q8) ?_
      rintro yes t9 ⟨H9, I9, q9⟩
      cases yes with
      | false => exact close I9 (by simpa using q9)
      | true =>
        simp only [if_true] at q9 ⊢
        refine thnF (pk.run _ t9 σ8 H9 _ I9 q9) ?_
        rintro uk t10 ⟨y, H10, I10, ry, q10⟩
        refine thnF (pv.run _ t10 σ8 H10 _ I10 q10) ?_
        rintro uz t11 ⟨z, H11, I11, rz, xs, k, b, rfl, g1, g2, g3, g4, g5, nx⟩
        cases ry
        exact put_rowN (X := X.blk t3 H3 scope ce fp) hu I11 g1 g2 g3 g4 g5 rz fun t12 I12 => close I12 nx
  exact codeAny_compStart_dict main (T.self X.A 0 _ _ _ st4 main)
end

def Lets (L : Str) : Prop := 1 ≤ L.length ∧ L.length ≤ 26 ∧ ∀ c ∈ L.cps.toList, 97 ≤ c ∧ c ≤ 122

def rLcm : List V → Hp → VK → Prop := fun vs H Q => ∃ a b : Nat, vs = [nI a, nI b] ∧ a < 1000 ∧ b < 1000 ∧ Q (nI (a.lcm b)) H
theorem cr_lcm {X : Cx} : CallR X (.builtin "math.lcm") rLcm := by
  intro pins s σ H vs us Q I r ⟨a, b, e, ha, hb, q⟩
  subst e
  obtain ⟨t, u, rfl⟩ := Vals.int2 r
  refine PySem.W.mc_lcm (by rw [Int.natAbs_natCast]; exact Nat.lt_trans ha (by decide)) (by rw [Int.natAbs_natCast]; exact Nat.lt_trans hb (by decide)) fun _ => ⟨nI (a.lcm b), H, I.tok _, ⟨s.toks, ?_⟩, q⟩
  simp

theorem lc_outT {K : PySem.W.Frag} {a : Addr} {xs : List V} {Bd : V → Hp → (Hp → Prop) → Prop} {Qd : Hp → Prop} {H0 : Hp} (Pv : Nat → Hp → Prop) (h0 : Pv 0 H0) (hl : ∀ i H, i ≤ xs.length → Pv i H → SqT K H a xs)
    (hs : ∀ i x H, xs[i]? = some x → Pv i H → Bd x H (Pv (i + 1))) (hd : ∀ H, Pv xs.length H → Qd H) :
    ∃ W : Nat → Nat → Hp → Prop, (∃ m, W 0 m H0) ∧ ∀ i m H, W i m H → ((Itt K a).stop i H ∧ Qd H) ∨ ((Itt K a).go i H ∧ ∃ Nx : Hp → Prop, (∀ H', Nx H' → ∃ m', m' < m ∧ W (i + 1) m' H') ∧ ∀ x H', (Itt K a).yld i H x H' → Bd x H' Nx) := by
  refine ⟨fun i m H => m = xs.length - i ∧ i ≤ xs.length ∧ Pv i H, ⟨xs.length, by simp, Nat.zero_le _, h0⟩, ?_⟩
  rintro i m H ⟨rfl, hi, p⟩
  have q := hl i H hi p
  rcases Nat.lt_or_ge i xs.length with lt | ge
  · exact .inr ⟨⟨xs, xs[i], q, by simp [lt]⟩, Pv (i + 1), fun H' p' => ⟨_, by omega, rfl, lt, p'⟩, fun x H' y => by
      obtain ⟨e, y⟩ := y
      subst e
      exact hs i x _ (y xs q) p⟩
  · obtain rfl : i = xs.length := by omega
    exact .inl ⟨⟨xs, q, Nat.le_refl _⟩, hd H p⟩
theorem cut1 {x : V} {r : List V} : cutV (x :: r) (some 1) none = r := by
  have h1 : HT.sIx (x :: r).length 0 (some 1) = 1 := by
    have := HT.sIx_nat (x :: r).length 0 1
    rw [show ((1 : Nat) : Int) = 1 from rfl] at this
    rw [this, List.length_cons]
    omega
  unfold cutV
  rw [h1, HT.sIx_none, List.length_cons, List.drop_succ_cons, List.drop_zero, Nat.add_sub_cancel, List.take_length]
theorem cut1_not {x : V} {r : List V} : ¬ (HT.sIx (x :: r).length 0 (some 1) = 0 ∧ HT.sIx (x :: r).length (x :: r).length none = (x :: r).length) := by
  have h1 : HT.sIx (x :: r).length 0 (some 1) = 1 := by
    have := HT.sIx_nat (x :: r).length 0 1
    rw [show ((1 : Nat) : Int) = 1 from rfl] at this
    rw [this, List.length_cons]
    omega
  rw [h1]
  omega
theorem dtAll_app {ok : Addr → Prop} {H : Hp} : ∀ {xs ys : List V} {ds es : List PyData}, DtAll ok H xs ds → DtAll ok H ys es → DtAll ok H (xs ++ ys) (ds ++ es)
  | _, _, _, _, .nil, y => y
  | _, _, _, _, .cons a b, y => .cons a (dtAll_app b y)
theorem flat_take {α β : Type} (f : α → List β) {l : List α} {i : Nat} {x : α} (h : l[i]? = some x) : (l.take (i + 1)).flatMap f = (l.take i).flatMap f ++ f x := by
  rw [take_succ_of h, List.flatMap_append]
  simp


def rowsTo : Nat → Nat → List (List Nat)
  | 0, _ => [[]]
  | n + 1, k => (rowsTo n k).flatMap fun r => (List.range k).map fun x => r ++ [x]
def keysOf (L : Str) (n k : Nat) : List (Nat × List Nat) := L.cps.toList.flatMap fun c => (rowsTo n k).map fun r => (c, r)
def RowsAt (H : Hp) (as : List Addr) (rows : List (List Nat)) : Prop := Paired (fun (a : Addr) (row : List Nat) => H a = some (.tup (row.map nI))) as rows
def KeysAt (H : Hp) (bs : List Addr) (keys : List (Nat × List Nat)) : Prop := Paired (fun (b : Addr) (key : Nat × List Nat) => ∃ a, H b = some (.tup [.str (ch key.1), .ref a]) ∧ H a = some (.tup (key.2.map nI))) bs keys
theorem ext_len (k : Nat) : ∀ l : List (List Nat), (l.flatMap fun r => (List.range k).map fun x => r ++ [x]).length = l.length * k
  | [] => by simp
  | a :: t => by rw [List.flatMap_cons, List.length_append, List.length_map, List.length_range, ext_len k t, List.length_cons, Nat.succ_mul, Nat.add_comm]
theorem rowsTo_len (k : Nat) : ∀ n, (rowsTo n k).length = k ^ n
  | 0 => rfl
  | n + 1 => by rw [rowsTo, ext_len, rowsTo_len k n, Nat.pow_succ]
theorem rowsTo_mem {k : Nat} : ∀ {n : Nat} {r : List Nat}, r ∈ rowsTo n k → r.length = n ∧ ∀ x ∈ r, x < k
  | 0, r, h => by simp [rowsTo] at h; subst h; simp
  | n + 1, r, h => by
    simp only [rowsTo, List.mem_flatMap, List.mem_map, List.mem_range] at h
    obtain ⟨r0, h0, x, hx, rfl⟩ := h
    obtain ⟨a, b⟩ := rowsTo_mem h0
    refine ⟨by simp [a], fun y hy => ?_⟩
    rcases List.mem_append.mp hy with hy | hy
    · exact b y hy
    · rw [List.mem_singleton.mp hy]; exact hx
theorem prd_app {α β : Type} {F : α → β → Prop} : ∀ {as cs : List α} {bs ds : List β}, Paired F as bs → Paired F cs ds → Paired F (as ++ cs) (bs ++ ds)
  | _, _, _, _, .nil, y => y
  | _, _, _, _, .cons r t, y => .cons r (prd_app t y)
theorem prd_at {α β : Type} {F : α → β → Prop} : ∀ {as : List α} {bs : List β} {i : Nat} {a : α}, Paired F as bs → as[i]? = some a → ∃ b, bs[i]? = some b ∧ F a b
  | _, _, 0, _, .cons r _, h => by cases h; exact ⟨_, rfl, r⟩
  | _, _, i + 1, _, .cons _ t, h => by
    rw [List.getElem?_cons_succ] at h
    obtain ⟨b, h1, h2⟩ := prd_at t h
    exact ⟨b, by rw [List.getElem?_cons_succ]; exact h1, h2⟩
theorem RowsAt.keep {H H' : Hp} {as : List Addr} {rows : List (List Nat)} (x : RowsAt H as rows) (h : ∀ b xs, H b = some (.tup xs) → H' b = some (.tup xs)) : RowsAt H' as rows := Paired.mapP x fun _ _ e => h _ _ e
theorem KeysAt.keep {H H' : Hp} {as : List Addr} {ks : List (Nat × List Nat)} (x : KeysAt H as ks) (h : ∀ b xs, H b = some (.tup xs) → H' b = some (.tup xs)) : KeysAt H' as ks := Paired.mapP x fun _ _ ⟨a, e1, e2⟩ => ⟨a, h _ _ e1, h _ _ e2⟩
theorem upd_tup {H : Hp} {D : Addr} {xs : List V} {o : HO} (hD : H D = some (.lst xs)) : ∀ b ys, H b = some (.tup ys) → (upd H D o) b = some (.tup ys) := fun b ys e => by
  rw [upd_ne (fun z => by rw [z, hD] at e; cases e)]
  exact e
theorem lc_walk {J : It} {len : Nat} {G : Hp → Prop} {Y : Nat → Hp → V → Hp → Prop} (wk : Walk J len G Y) {Bd : V → Hp → (Hp → Prop) → Prop} {Qd : Hp → Prop} {H0 : Hp} (Pv : Nat → Hp → Prop) (h0 : Pv 0 H0) (hp : ∀ i H, i ≤ len → Pv i H → G H)
    (hs : ∀ i x H H', i < len → Pv i H → Y i H x H' → Bd x H' (Pv (i + 1))) (hd : ∀ H, Pv len H → Qd H) :
    ∃ W : Nat → Nat → Hp → Prop, (∃ m, W 0 m H0) ∧ ∀ i m H, W i m H → (J.stop i H ∧ Qd H) ∨ (J.go i H ∧ ∃ Nx : Hp → Prop, (∀ H', Nx H' → ∃ m', m' < m ∧ W (i + 1) m' H') ∧ ∀ x H', J.yld i H x H' → Bd x H' Nx) := by
  refine ⟨fun i m H => m = len - i ∧ i ≤ len ∧ Pv i H, ⟨len, by simp, Nat.zero_le _, h0⟩, ?_⟩
  rintro i m H ⟨rfl, hi, p⟩
  have g := hp i H hi p
  rcases Nat.lt_or_ge i len with lt | ge
  · exact .inr ⟨wk.goes i H lt g, Pv (i + 1), fun H' p' => ⟨_, by omega, rfl, lt, p'⟩, fun x H' y => hs i x H H' lt p (wk.yields i H x H' lt g y)⟩
  · obtain rfl : i = len := by omega
    exact .inl ⟨wk.stops H g, hd H p⟩
def sp_tuples_due : Sp := fun vs H Q _ => ∃ (L : Str) (n k : Nat), vs = [.str L, nI n, nI k] ∧ L.length ≤ 26 ∧ n ≤ 6 ∧ k ≤ 20 ∧ Q (nI (L.length * k ^ n)) H
def sp_class_rows : Sp := fun vs H Q _ => ∃ (n k : Nat), vs = [nI n, nI k] ∧ n ≤ 6 ∧ 1 ≤ k ∧ k ≤ 20 ∧ k ^ n ≤ 600 ∧ ∀ r as H', Same H H' → H r = none → H' r = some (.lst (as.map V.ref)) → RowsAt H' as (rowsTo n k) → Q (.ref r) H'
def sp_keys_due : Sp := fun vs H Q _ => ∃ (L : Str) (n k : Nat), vs = [.str L, nI n, nI k] ∧ Lets L ∧ n ≤ 6 ∧ 1 ≤ k ∧ k ≤ 20 ∧ L.length * k ^ n ≤ 600 ∧ ∀ r bs H', Same H H' → H r = none → H' r = some (.lst (bs.map V.ref)) → KeysAt H' bs (keysOf L n k) → Q (.ref r) H'
section
variable {P : Program} {w : World} {K : PySem.W.Frag} {mg : Str → Option Value} {base : Heap}
end

def keyN (c : Nat) (row : List Nat) : NestedKey := .tup [.text (ch c), .tup (row.map fun x : Nat => .num (x : Int))]
def RowsJ (xs : List NRow) (keys : List (Nat × List Nat)) (fs : Nat → List Nat → Nat) : Prop := Paired (fun (x : NRow) (key : Nat × List Nat) => x.1 = keyN key.1 key.2 ∧ x.2.2 = nI (fs key.1 key.2)) xs keys
def Rises (L : Str) : Prop := L.cps.toList.Pairwise (· < ·)
def sp_at (L : Str) (n : Nat) (fs : Nat → List Nat → Nat) : Sp := fun vs H Q _ => ∃ (c : Nat) (b : Addr) (row : List Nat), vs = [.str (ch c), .ref b] ∧ c ∈ L.cps.toList ∧ row.length = n ∧ H b = some (.tup (row.map nI)) ∧ ∀ H', Same H H' → Q (nI (fs c row)) H'
def sp_table_made (P : Program) (w : World) (K : PySem.W.Frag) (mg : Str → Option Value) (base : Heap) : Sp := fun vs H Q _ => ∃ (L : Str) (n few turn : Nat) (f : Addr) (fs : Nat → List Nat → Nat), vs = [.str L, nI n, nI few, nI turn, .ref f] ∧ Lets L ∧ Rises L ∧ n ≤ 6 ∧ few ≤ 4 ∧ 1 ≤ turn ∧ turn ≤ 4 ∧ L.length * (few + turn) ^ n ≤ 600 ∧
  CalX P w K mg base 8 f (fun H' => Same H H') 2 (sp_at L n fs) ∧ ∀ d xs H', Same H H' → H d = none → H' d = some (DictN P w d xs) → RowsN H' xs → RowsJ xs (keysOf L n (few + turn)) fs → Q (.ref d) H'
theorem ch_inj {a b : Nat} (h : ch a = ch b) : a = b := by
  have := congrArg (fun s : Str => s.cps.toList) h
  simpa [ch] using this
theorem keyN_inj {c c' : Nat} {r r' : List Nat} (h : keyN c r = keyN c' r') : c = c' ∧ r = r' := by
  unfold keyN at h
  injection h with h
  injection h with h1 h2
  injection h1 with h1
  injection h2 with h2
  injection h2 with h2
  refine ⟨ch_inj h1, ?_⟩
  clear h1
  induction r generalizing r' with
  | nil => cases r' with | nil => rfl | cons a b => cases h2
  | cons a b ih => cases r' with
    | nil => cases h2
    | cons a' b' =>
      rw [List.map_cons, List.map_cons] at h2
      injection h2 with e1 e2
      injection e1 with e1
      rw [ih e2, show a = a' by omega]
theorem keyN_depth (c : Nat) (r : List Nat) : (keyN c r).depth ≤ 8 := by
  have : ∀ r : List Nat, NestedKey.depthAll (r.map fun x : Nat => NestedKey.num (x : Int)) ≤ 1 := by
    intro r
    induction r with
    | nil => simp [NestedKey.depthAll]
    | cons a b ih => simp only [List.map_cons, NestedKey.depthAll, NestedKey.depth]; omega
  have := this r
  simp only [keyN, NestedKey.depth, NestedKey.depthAll]
  omega
theorem nk_nums {H : Hp} : ∀ r : List Nat, NKs H (r.map fun x : Nat => .num (x : Int)) (r.map nI)
  | [] => .nil
  | x :: r => .cons (.int _) (nk_nums r)
theorem nk_key {H : Hp} {b a : Addr} {c : Nat} {r : List Nat} (hb : H b = some (.tup [.str (ch c), .ref a])) (ha : H a = some (.tup (r.map nI))) : NK H (keyN c r) (.ref b) := .tup hb (.cons (.text _) (.cons (.tup ha (nk_nums r)) .nil))
theorem rowsTo_nd (k : Nat) : ∀ n, (rowsTo n k).Pairwise (· ≠ ·)
  | 0 => by simp [rowsTo]
  | n + 1 => by
    rw [rowsTo, List.pairwise_flatMap]
    refine ⟨fun r _ => ?_, (rowsTo_nd k n).imp fun {a b} hab x hx y hy e => ?_⟩
    · rw [List.pairwise_map]
      exact List.nodup_range.imp fun h e => h (by simpa using e)
    · simp only [List.mem_map] at hx hy
      obtain ⟨p, _, rfl⟩ := hx
      obtain ⟨q, _, rfl⟩ := hy
      exact hab (List.append_inj' e rfl).1
theorem keysOf_nd {L : Str} (h : Rises L) (n k : Nat) : (keysOf L n k).Pairwise (· ≠ ·) := by
  unfold keysOf
  rw [List.pairwise_flatMap]
  refine ⟨fun c _ => ?_, h.imp fun {a b} hab x hx y hy e => ?_⟩
  · rw [List.pairwise_map]
    exact (rowsTo_nd k n).imp fun h e => h (by simpa using e)
  · simp only [List.mem_map] at hx hy
    obtain ⟨p, _, rfl⟩ := hx
    obtain ⟨q, _, rfl⟩ := hy
    have : a = b := (Prod.mk.inj e).1
    omega
theorem atN_none {xs : List NRow} {k : NestedKey} (h : ∀ x ∈ xs, x.1 ≠ k) : atN xs k = none := by
  unfold atN
  rw [List.find?_eq_none.mpr fun x hx => by simpa using h x hx]
  rfl
theorem storedN_new {xs : List NRow} {k : NestedKey} {b : Addr} {v : V} (h : ∀ x ∈ xs, x.1 ≠ k) : storedN xs k b v = xs ++ [(k, b, v)] := by
  unfold storedN
  rw [atN_none h]
  rfl
theorem prd_mem {α β : Type} {F : α → β → Prop} {as : List α} {bs : List β} {a : α} (p : Paired F as bs) (h : a ∈ as) : ∃ b ∈ bs, F a b := by
  obtain ⟨i, hi⟩ := List.getElem?_of_mem h
  obtain ⟨b, h1, h2⟩ := prd_at p hi
  exact ⟨b, List.mem_of_getElem? h1, h2⟩
theorem ahead_ne {α : Type} {l : List α} {i : Nat} {x : α} (h : l.Pairwise (· ≠ ·)) (hx : l[i]? = some x) : ∀ y ∈ l.take i, y ≠ x := fun y hy e => by
  obtain ⟨j, hj⟩ := List.getElem?_of_mem hy
  have lt := (List.getElem?_eq_some_iff.mp hj).1
  rw [List.length_take] at lt
  rw [List.getElem?_take_of_lt (by omega)] at hj
  have h1 := List.getElem?_eq_some_iff.mp hj
  have h2 := List.getElem?_eq_some_iff.mp hx
  exact (List.pairwise_iff_getElem.mp h) j i h1.1 h2.1 (by omega) (by rw [h1.2, h2.2]; exact e)
theorem dF {p : Prop} {i : Decidable p} {A B : Prop} (h : ¬p) (k : B) : if (@decide p i) = true then A else B := by
  rw [decide_eq_false h]
  exact iteF k
theorem dT {p : Prop} {i : Decidable p} {A B : Prop} (h : p) (k : A) : if (@decide p i) = true then A else B := by
  rw [decide_eq_true h]
  exact iteT k
theorem RowsN.keep {H H' : Hp} {xs : List NRow} (x : RowsN H xs) (h : ∀ b ys, H b = some (.tup ys) → H' b = some (.tup ys)) : RowsN H' xs := fun r hr => ⟨NK.keep h (x r hr).1, (x r hr).2⟩
theorem upd_tupN {H : Hp} {D : Addr} {P : Program} {w : World} {d : Addr} {xs : List NRow} {o : HO} (hD : H D = some (DictN P w d xs)) : ∀ b ys, H b = some (.tup ys) → (upd H D o) b = some (.tup ys) := fun b ys e => by
  rw [upd_ne (fun z => by rw [z, hD] at e; unfold DictN at e; cases e)]
  exact e
theorem upd_lstN {H : Hp} {D : Addr} {P : Program} {w : World} {d : Addr} {xs : List NRow} {o : HO} (hD : H D = some (DictN P w d xs)) : ∀ b ys, H b = some (.lst ys) → (upd H D o) b = some (.lst ys) := fun b ys e => by
  rw [upd_ne (fun z => by rw [z, hD] at e; unfold DictN at e; cases e)]
  exact e
section
variable {P : Program} {w : World} {K : PySem.W.Frag} {mg : Str → Option Value} {base : Heap}
end

theorem inV_nI (x : Nat) : ∀ g : List Nat, inV (nI x) (g.map nI) = decide (x ∈ g)
  | [] => rfl
  | y :: r => by
    have ih := inV_nI x r
    unfold inV at ih ⊢
    rw [List.map_cons, List.any_cons, ih]
    have e : eqV (nI y) (nI x) = decide (x = y) := by
      show ((y : Int) == (x : Int)) = _
      rw [Bool.eq_iff_iff]
      simp
      omega
    rw [e]
    simp
theorem flat_nI : ∀ g : List Nat, (g.map nI).all flatV = true
  | [] => rfl
  | y :: r => by rw [List.map_cons, List.all_cons, flat_nI r]; rfl
theorem post_last : ∀ t : Tr, ∃ l, t.post = l ++ [t]
  | .node c ks => ⟨posts ks, rfl⟩

theorem tabsN_frP {TT : List NdefX.NTab} {H H' : Hp} {P : Addr} {q : Str} (h : NdefX.TabsN TT H) (hm : (P, fun _ _ => q) ∈ TT) (hu : ∀ z ∈ TT, z.1 = P → z.2 = fun _ _ => q) (f : Fr P H H') (t : LamX.TabS H' P q) : NdefX.TabsN TT H' := fun z hz => by
  by_cases e : z.1 = P
  · rw [hu z hz e, e]
    exact NdefX.TabN.of t
  · obtain ⟨ps, h1, h2, h3⟩ := h z hz
    refine ⟨ps, f _ _ e h1, h2, fun pos cv hc => ?_⟩
    obtain ⟨c, e1, h4⟩ := h3 pos cv hc
    obtain ⟨ps0, g1, _⟩ := h _ hm
    exact ⟨c, e1, f _ _ (fun e2 => by rw [e2, g1] at h4; unfold LamX.CodeO at h4; cases h4) h4⟩
theorem extN_of_frP {H H' : Hp} {P : Addr} {TT : List NdefX.NTab} {q : Str} (h : NdefX.TabsN TT H) (hm : (P, fun _ _ => q) ∈ TT) (f : Fr P H H') : LamX.ExtN H H' := fun b o e n => f b o (fun e2 => by
  obtain ⟨ps0, g1, _⟩ := h _ hm
  rw [e2, g1] at e
  cases e
  exact n _ rfl) e
theorem lent_extN {cs : Lent} {H H' : Hp} (f : LamX.ExtN (lend H cs) H') : LentAt cs H' := fun c o e => f c _ (lend_in e) (fun ps z => by unfold CellO at z; cases z)
theorem same_lend {cs : Lent} {H H2 : Hp} (l : LentAt cs H) (s : Same (unl H cs) H2) : Same H (lend H2 cs) := fun b o e => by
  cases hb : cs.lookup b with
  | some ob => rw [lend_in hb, ← l b ob hb]; exact e
  | none => rw [lend_out hb]; exact s b o (by rw [unl_out hb]; exact e)
theorem extN_unl {cs : Lent} {H H' : Hp} (hn : Fresh cs H) (f : LamX.ExtN (lend H cs) H') : LamX.ExtN H (unl H' cs) := fun b o e n => by
  rw [unl_out (hn.out e)]
  exact f b o (lend_some hn e) n
theorem tabsN_unl {cs : Lent} {TT : List NdefX.NTab} {H H' : Hp} (hn : Fresh cs H) (h : NdefX.TabsN TT H') (l : LentAt cs H') (hcel : Cells cs) : NdefX.TabsN TT (unl H' cs) := fun z hz => by
  obtain ⟨ps, h1, h2, h3⟩ := h z hz
  refine ⟨ps, unl_keep l h1 (fun _ e => by cases e), h2, fun pos cv hc => ?_⟩
  obtain ⟨c, e, h4⟩ := h3 pos cv hc
  refine ⟨c, e, ?_⟩
  cases hb : cs.lookup c with
  | none => rw [unl_out hb]; exact h4
  | some ob =>
    obtain ⟨v, hv⟩ := hcel _ _ hb
    rw [l c ob hb] at h4
    exact absurd (Option.some.inj h4).symm (codeO_cell hv)

theorem neS {x y : V} {i : Decidable (x = y)} {A B : Prop} (h : x = y) (k : B) : if (!@decide (x = y) i) = true then A else B := by
  rw [decide_eq_true h]
  exact iteF k
def FrD (d : Addr) (H H' : Hp) : Prop := ∀ b o, b ≠ d → H b = some o → H' b = some o
theorem keysOf_len (L : Str) (n k : Nat) : (keysOf L n k).length = L.length * k ^ n := by
  have e : (keysOf L n k).length = L.cps.toList.length * (rowsTo n k).length := by
    unfold keysOf
    generalize L.cps.toList = l
    induction l with
    | nil => simp
    | cons a t ih => rw [List.flatMap_cons, List.length_append, List.length_map, ih, List.length_cons, Nat.succ_mul, Nat.add_comm]
  rw [e, rowsTo_len, Array.length_toList]
  rfl
theorem keysOf_mem {L : Str} {n k : Nat} {key : Nat × List Nat} (h : key ∈ keysOf L n k) : key.1 ∈ L.cps.toList ∧ key.2.length = n ∧ ∀ x ∈ key.2, x < k := by
  simp only [keysOf, List.mem_flatMap, List.mem_map] at h
  obtain ⟨c, hc, row, hrow, rfl⟩ := h
  exact ⟨hc, rowsTo_mem hrow⟩
theorem nks_nums {H : Hp} : ∀ {r : List Nat} {vs : List V}, NKs H (r.map fun x : Nat => .num (x : Int)) vs → vs = r.map nI
  | [], _, h => by cases h; rfl
  | x :: r, _, h => by
    cases h with
    | cons a b =>
      cases a
      rw [nks_nums b]
      rfl
theorem nk_inv {H : Hp} {b : Addr} {c : Nat} {r : List Nat} (h : NK H (keyN c r) (.ref b)) : ∃ a, H b = some (.tup [.str (ch c), .ref a]) ∧ H a = some (.tup (r.map nI)) := by
  unfold keyN at h
  cases h with
  | tup h1 h2 =>
    cases h2 with
    | cons a1 a2 =>
    cases a1
    cases a2 with
    | cons b1 b2 =>
    cases b2
    cases b1 with
    | tup c1 c2 =>
    rw [nks_nums c2] at c1
    exact ⟨_, h1, c1⟩

def clsN (few turn x : Nat) : Nat := if x < few + turn then x else few + (x - few) % turn
theorem clsN_lt {few turn : Nat} (h : 1 ≤ turn) (x : Nat) : clsN few turn x < few + turn := by
  unfold clsN
  split
  · assumption
  · have := Nat.mod_lt (x - few) (show turn > 0 by omega)
    omega
theorem clsN_low {few turn x : Nat} (h : x < few + turn) : clsN few turn x = x := by
  unfold clsN
  rw [if_pos h]
theorem clsN_few {few turn x : Nat} (h : few ≤ x) : few ≤ clsN few turn x := by
  unfold clsN
  split <;> omega
theorem clsN_dvd {few turn m : Nat} (hm : m ∣ turn) (x : Nat) : ((clsN few turn x : Nat) : Int) % (m : Int) = ((x : Nat) : Int) % (m : Int) := by
  unfold clsN
  split
  · rfl
  · obtain ⟨q, rfl⟩ := hm
    have e := Nat.div_add_mod (x - few) (m * q)
    have e2 : x = (few + (x - few) % (m * q)) + m * (q * ((x - few) / (m * q))) := by
      rw [← Nat.mul_assoc]
      omega
    have e3 : ((x : Nat) : Int) = ((few + (x - few) % (m * q) : Nat) : Int) + (m : Int) * ((q * ((x - few) / (m * q)) : Nat) : Int) := by
      rw [← Int.natCast_mul, ← Int.natCast_add, ← e2]
    rw [e3, Int.add_mul_emod_self_left]

theorem atN_rows {c : Nat} {row : List Nat} {fs : Nat → List Nat → Nat} : ∀ {xs : List NRow} {keys : List (Nat × List Nat)}, RowsJ xs keys fs → (c, row) ∈ keys → atN xs (keyN c row) = some (nI (fs c row))
  | _, _, .nil, h => by cases h
  | x :: xs, (c', row') :: keys, .cons r t, h => by
    obtain ⟨e1, e2⟩ := r
    by_cases e : (c', row') = (c, row)
    · cases e
      simp [atN, e1, e2]
    · have hm : (c, row) ∈ keys := (List.mem_cons.mp h).resolve_left fun z => e z.symm
      have ne : ¬ x.1 = keyN c row := fun z => e (by
        obtain ⟨a, b⟩ := keyN_inj (e1.symm.trans z)
        dsimp only at a b
        rw [a, b])
      have : atN (x :: xs) (keyN c row) = atN xs (keyN c row) := by simp [atN, List.find?_cons, ne]
      rw [this]
      exact atN_rows t hm


structure JD where
  L : Str
  n : Nat
  few : Nat
  turn : Nat
  fs : Nat → List Nat → Nat
  good : List Nat
def JD.keys (J : JD) : List (Nat × List Nat) := keysOf J.L J.n (J.few + J.turn)
def JD.sf (J : JD) (c : Nat) (row : List Nat) : Nat := J.fs c (row.map (clsN J.few J.turn))
structure JD.ok (J : JD) : Prop where
  L : Lets J.L
  n1 : 1 ≤ J.n
  n6 : J.n ≤ 6
  f4 : J.few ≤ 4
  t1 : 1 ≤ J.turn
  t4 : J.turn ≤ 4
  h600 : J.L.length * (J.few + J.turn) ^ J.n ≤ 600
  lt : ∀ key ∈ J.keys, J.fs key.1 key.2 < J.n
  g6 : J.good.length ≤ 6
  gn : ∀ g ∈ J.good, g < J.n
def JAt (P : Program) (w : World) (H : Hp) (v : V) (J : JD) : Prop := ∃ (j d g : Addr) (xs : List NRow) (keys : List (Nat × List Nat)), v = .ref j ∧ H j = some (.tup [.str J.L, nI J.n, nI J.few, nI J.turn, .ref d, .ref g]) ∧ H d = some (DictN P w d xs) ∧ RowsN H xs ∧ RowsJ xs keys J.fs ∧ keys.Perm J.keys ∧ H g = some (.lst (J.good.map nI))
theorem not_tbl {P : Program} {w : World} {d : Addr} {xs : List NRow} : ∀ ps, DictN P w d xs ≠ .tbl ps := fun ps z => by unfold DictN at z; cases z
theorem JAt.extN {P : Program} {w : World} {H H' : Hp} {v : V} {J : JD} (x : JAt P w H v J) (f : LamX.ExtN H H') : JAt P w H' v J := by
  obtain ⟨j, d, g, xs, keys, rfl, h1, h2, h3, h4, h5, h6⟩ := x
  exact ⟨j, d, g, xs, keys, rfl, f _ _ h1 (fun _ z => by cases z), f _ _ h2 not_tbl, h3.keep fun b ys e => f _ _ e (fun _ z => by cases z), h4, h5, f _ _ h6 (fun _ z => by cases z)⟩
theorem JAt.same {P : Program} {w : World} {H H' : Hp} {v : V} {J : JD} (x : JAt P w H v J) (f : Same H H') : JAt P w H' v J := x.extN (.of f)
theorem rowsTo_all {k : Nat} : ∀ {n : Nat} {r : List Nat}, r.length = n → (∀ x ∈ r, x < k) → r ∈ rowsTo n k
  | 0, r, h, _ => by
    rw [List.length_eq_zero_iff] at h
    subst h
    simp [rowsTo]
  | n + 1, r, h, hx => by
    obtain ⟨a, b, rfl⟩ := concat_of (l := r) (by intro z; rw [z] at h; cases h)
    rw [List.length_append, List.length_singleton] at h
    simp only [rowsTo, List.mem_flatMap, List.mem_map, List.mem_range]
    exact ⟨a, rowsTo_all (by omega) fun x hm => hx x (List.mem_append_left _ hm), b, hx b (List.mem_append_right _ (List.mem_singleton.mpr rfl)), rfl⟩
theorem keysOf_all {L : Str} {n k c : Nat} {row : List Nat} (hc : c ∈ L.cps.toList) (hl : row.length = n) (hx : ∀ x ∈ row, x < k) : (c, row) ∈ keysOf L n k :=
  List.mem_flatMap.mpr ⟨c, hc, List.mem_map.mpr ⟨row, rowsTo_all hl hx, rfl⟩⟩
theorem JD.ok.key {J : JD} (h : J.ok) {c : Nat} {row : List Nat} (hc : c ∈ J.L.cps.toList) (hl : row.length = J.n) : (c, row.map (clsN J.few J.turn)) ∈ J.keys :=
  keysOf_all hc (by rw [List.length_map, hl]) fun x hx => by
    obtain ⟨y, _, rfl⟩ := List.mem_map.mp hx
    exact clsN_lt h.t1 y
theorem JD.ok.sf_lt {J : JD} (h : J.ok) {c : Nat} {row : List Nat} (hc : c ∈ J.L.cps.toList) (hl : row.length = J.n) : J.sf c row < J.n := h.lt _ (h.key hc hl)
def NewN (H : Hp) (r : Addr) : Prop := ∀ o, H r = some o → ∃ ps, o = .tbl ps
def sp_class_of : Sp := fun vs H Q _ => ∃ x few turn : Nat, vs = [nI x, nI few, nI turn] ∧ 1 ≤ turn ∧ Q (nI (clsN few turn x)) H
def sp_state_by_numbers (P : Program) (w : World) : Sp := fun vs H Q _ => ∃ (v : V) (J : JD) (c : Nat) (b : Addr) (row : List Nat), vs = [v, .str (ch c), .ref b] ∧ JAt P w H v J ∧ J.ok ∧ c ∈ J.L.cps.toList ∧ row.length = J.n ∧ H b = some (.lst (row.map nI)) ∧ ∀ H', Same H H' → Q (nI (J.sf c row)) H'
def sp_part_states (P : Program) (w : World) (TT : List NdefX.NTab) : Sp := fun vs H Q _ => ∃ (v u : V) (J : JD) (t : Tr), vs = [v, u] ∧ JAt P w H v J ∧ J.ok ∧ TrAt (fun _ => True) H u t ∧ t.size ≤ 1000000 ∧ t.lets (fun c => c ∈ J.L.cps.toList) ∧ NdefX.TabsN TT H ∧
  ∀ r H', LamX.ExtN H H' → NdefX.TabsN TT H' → NewN H r → H' r = some (.lst ((t.post.map (St J.sf J.n)).map nI)) → Q (.ref r) H'
def sp_state_of (P : Program) (w : World) (TT : List NdefX.NTab) : Sp := fun vs H Q _ => ∃ (v u : V) (J : JD) (t : Tr), vs = [v, u] ∧ JAt P w H v J ∧ J.ok ∧ TrAt (fun _ => True) H u t ∧ t.size ≤ 1000000 ∧ t.lets (fun c => c ∈ J.L.cps.toList) ∧ NdefX.TabsN TT H ∧
  ∀ H', LamX.ExtN H H' → NdefX.TabsN TT H' → Q (nI (St J.sf J.n t)) H'
def sp_lets_by (P : Program) (w : World) (TT : List NdefX.NTab) : Sp := fun vs H Q _ => ∃ (v u : V) (J : JD) (t : Tr), vs = [v, u] ∧ JAt P w H v J ∧ J.ok ∧ TrAt (fun _ => True) H u t ∧ t.size ≤ 1000000 ∧ t.lets (fun c => c ∈ J.L.cps.toList) ∧ NdefX.TabsN TT H ∧
  ∀ H', LamX.ExtN H H' → NdefX.TabsN TT H' → Q (.bl (decide (St J.sf J.n t ∈ J.good))) H'
section
variable {P : Program} {w : World} {K : PySem.W.Frag} {mg : Str → Option Value} {base : Heap}
end

section
variable {X : Cx}
def rListN (P : Program) (w : World) : List V → Hp → VK → Prop := fun vs H Q => ∃ (d : Addr) (xs : List NRow), vs = [.ref d] ∧ H d = some (DictN P w d xs) ∧ ∀ q, H q = none → Q (.ref q) (upd H q (.lst (xs.map fun x => V.ref x.2.1)))
theorem call_listN (hc : X.calm = true) : CallR X (.type "list") (rListN X.prog X.w) := by
  intro pins s σ H vs ws Q I r h
  obtain ⟨d, xs, rfl, hd, q⟩ := h
  obtain ⟨u, rfl, rx⟩ := vals1 r
  cases rx
  obtain ⟨⟨h1, h2, us, h3, o, es, ep, e1, e2, e3, e4, e5⟩, _, _⟩ := I.hok _ _ hd
  have hl : us.length = es.size := by
    have := congrArg List.length e4
    rw [List.length_map, Array.length_toList] at this
    exact this.symm
  have ln : xs.length = us.length := Paired.length h3
  refine PySem.W.kdl_call (kdl_raw h1 e2 e3) (I.ok.hd hc) e1 (by omega) fun h' tk acc' c' hkeep hS hacc => ?_
  refine ⟨.ref s.heap.objs.size, _, I.laid hkeep (Nat.le_refl _) (show ObjOk X.prog X.w _ _ _ (.lst (xs.map fun x => V.ref x.2.1)) from ⟨?_, acc'.toList, c', ?_, ?_⟩), rfl, q _ (I.hok.fresh (Nat.le_refl _))⟩
  · rw [List.length_map]; exact h2
  · have el : acc'.toList.length = acc'.size := by simp
    refine vals_of_at (by rw [List.length_map, el, hacc.1, ← hl, ln]) fun j x w h1 h2 => ?_
    obtain ⟨en, hen, hw⟩ := hacc.2 j w (by rw [← Array.getElem?_toList]; exact h2)
    rw [← Array.getElem?_toList, e4, List.getElem?_map] at hen
    rw [List.getElem?_map] at h1
    cases hx : xs[j]? with
    | none => rw [hx] at h1; cases h1
    | some row =>
      rw [hx] at h1
      cases h1
      obtain ⟨u, hu, k1, k2, k3⟩ := prd_at h3 hx
      rw [hu] at hen
      cases hen
      rw [hw]
      show Value.ref u.2.1 = Value.ref row.2.1
      rw [← k2]
  · rw [Array.toArray_toList]; exact hS
theorem storedAll_new {ps : List (NestedKey × Addr × Value)} (nd : (ps.map (·.1)).Nodup) : storedAllH [] ps = ps := by
  have : ∀ (n : Nat), n ≤ ps.length → storedAllH [] (ps.take n) = ps.take n := by
    intro n
    induction n with
    | zero => intro _; rfl
    | succ n ih =>
      intro hn
      have hp : ps[n]? = some ps[n] := List.getElem?_eq_getElem hn
      rw [storedAllH_take_succ [] ps n _ hp, ih (by omega), List.take_add_one, hp]
      have none : atKey (ps.take n) ps[n].1 = none := by
        cases e : atKey (ps.take n) ps[n].1 with
        | none => rfl
        | some v =>
          exfalso
          have hm : ∃ x ∈ ps.take n, x.1 = ps[n].1 := by
            unfold atKey at e
            cases f : (ps.take n).find? fun x => decide (x.1 = ps[n].1) with
            | none => rw [f] at e; cases e
            | some x => exact ⟨x, List.mem_of_find?_eq_some f, by simpa using List.find?_some f⟩
          obtain ⟨x, hx, ex⟩ := hm
          obtain ⟨j, hj⟩ := List.getElem?_of_mem hx
          have hjn : j < n := by
            have := (List.getElem?_eq_some_iff.mp hj).1
            rw [List.length_take] at this
            omega
          rw [List.getElem?_take_of_lt hjn] at hj
          have g1 : (ps.map (·.1))[j]? = some ps[n].1 := by rw [List.getElem?_map, hj]; exact congrArg some ex
          have g2 : (ps.map (·.1))[n]? = some ps[n].1 := by rw [List.getElem?_map, hp]; rfl
          have := (List.getElem?_inj (List.getElem?_eq_some_iff.mp g1).1 nd).mp (g1.trans g2.symm)
          omega
      unfold storedH
      rw [none]
      rfl
  have := this ps.length (Nat.le_refl _)
  rwa [List.take_length] at this
def rDictP (P : Program) (w : World) : List V → Hp → VK → Prop := fun vs H Q => ∃ (l : Addr) (bs : List Addr) (ps : List NRow), vs = [.ref l] ∧ H l = some (.lst (bs.map V.ref)) ∧ Paired (fun (b : Addr) (p : NRow) => H b = some (.tup [.ref p.2.1, p.2.2])) bs ps ∧ RowsN H ps ∧ (ps.map (·.1)).Nodup ∧ ps.length ≤ sizeLine ∧
  ∀ d, H d = none → Q (.ref d) (upd H d (DictN P w d ps))
theorem call_dictP (hc : X.calm = true) (hu : X.A.units + 12 < cLine) : CallR X (.type "dict") (rDictP X.prog X.w) := by
  intro pins s σ H vs ws Q I r h
  obtain ⟨l, bs, ps, rfl, hl, hp, hr, nd, hz, q⟩ := h
  obtain ⟨u, rfl, rx⟩ := vals1 r
  cases rx
  obtain ⟨its, ri, ⟨o, m, g1, g2, g3, g4⟩, _⟩ := I.list (SqL.of hl)
  have pick : ∀ (bs : List Addr) (ps : List NRow), Paired (fun (b : Addr) (p : NRow) => H b = some (.tup [.ref p.2.1, p.2.2])) bs ps → ∃ us : List (NestedKey × Addr × Value), RowsP ps us ∧ Paired (fun (b : Addr) (u : NestedKey × Addr × Value) => s.heap.IsTuple b #[.ref u.2.1, u.2.2]) bs us := by
    intro bs ps p
    induction p with
    | nil => exact ⟨[], .nil, .nil⟩
    | @cons b x bs ps e t ih =>
      obtain ⟨us, a1, a2⟩ := ih
      obtain ⟨vs2, r1, k1, _⟩ := I.tuple (SqT.of e)
      cases r1 with
      | cons c1 c2 =>
      cases c2 with
      | cons c3 c4 =>
      cases c4
      cases c1
      exact ⟨(x.1, x.2.1, _) :: us, .cons ⟨rfl, rfl, c3⟩ a1, .cons k1 a2⟩
  obtain ⟨us, a1, a2⟩ := pick bs ps hp
  have lb : bs.length = us.length := Paired.length a2
  have lp : ps.length = us.length := Paired.length a1
  have li := ri.length
  rw [List.length_map] at li
  have keys : ps.map (·.1) = us.map (·.1) := by
    have : ∀ (ps : List NRow) (us : List (NestedKey × Addr × Value)), RowsP ps us → ps.map (·.1) = us.map (·.1) := by
      intro ps us p
      induction p with
      | nil => rfl
      | cons r t ih => rw [List.map_cons, List.map_cons, r.1, ih]
    exact this _ _ a1
  have nds : ((us.map (·.1))).Nodup := by rw [← keys]; exact nd
  have isk : ∀ x ∈ us, (nestedKind X.prog X.w).is s.heap x.1 x.2.1 := by
    have : ∀ (xs : List NRow) (us : List (NestedKey × Addr × Value)), RowsP xs us → RowsN H xs → ∀ u ∈ us, (nestedKind X.prog X.w).is s.heap u.1 u.2.1 := by
      intro xs us p
      induction p with
      | nil => intro _ u hu; cases hu
      | cons r t ih =>
        intro hk u hu
        rcases List.mem_cons.mp hu with rfl | hu
        · obtain ⟨n1, n2⟩ := hk _ List.mem_cons_self
          refine ⟨?_, ?_⟩
          · rw [← r.1, ← r.2.1]
            exact NK.is I n1 rfl
          · rw [← r.1]
            exact n2
        · exact ih (fun x hx => hk x (List.mem_cons_of_mem _ hx)) u hu
    exact this _ _ a1 hr
  have lo : s.heap.objs.size ≠ sysModules := Ne.symm (Nat.ne_of_lt I.big)
  refine call_dict_pairsH (knd := nestedKind X.prog X.w) (ps := us) (PairArg.list l its.toArray (fun j => bs.getD j 0) (us.map fun u => (Value.ref u.2.1, u.2.2))) (I.ok.hd hc) (show X.A.units + 1 + 1 + 8 < cLine by omega) ?_ ?_ (fun h' hk x hx => ?_) (by rw [List.length_map, ← lp]; exact hz) fun h' tk hd' hk => ?_
  · refine ⟨⟨o, m, g1, g2, g3, g4⟩, ?_, fun j k v hj => ?_⟩
    · rw [List.size_toArray, List.length_map]; omega
    · rw [List.getElem?_map] at hj
      cases hu : us[j]? with
      | none => rw [hu] at hj; cases hj
      | some u =>
        rw [hu] at hj
        cases hj
        have hjb : j < bs.length := by rw [lb]; exact (List.getElem?_eq_some_iff.mp hu).1
        have hb : bs[j]? = some bs[j] := List.getElem?_eq_getElem hjb
        have ed : bs.getD j 0 = bs[j] := by rw [List.getD_eq_getElem?_getD, hb]; rfl
        obtain ⟨u2, hu2, k1⟩ := prd_at a2 hb
        have e2 := Option.some.inj (hu2.symm.trans hu)
        subst e2
        dsimp only
        rw [ed]
        refine ⟨?_, .inl k1⟩
        obtain ⟨u3, hu3, r3⟩ := ri.get (show (bs.map V.ref)[j]? = some (V.ref bs[j]) by rw [List.getElem?_map, hb]; rfl)
        cases r3
        rw [List.getElem?_toArray]
        exact hu3
  · refine ⟨by rw [List.length_map], fun i key v hi => ?_⟩
    have hi : (us.map fun u => (Value.ref u.2.1, u.2.2))[i]? = some (key, v) := hi
    rw [List.getElem?_map] at hi
    cases hu : us[i]? with
    | none => rw [hu] at hi; cases hi
    | some u =>
      rw [hu] at hi
      cases hi
      exact ⟨u.1, u.2.1, rfl, rfl⟩
  · exact nestedKind_stays.stays (fun b o vs m e q => hk b o (Nat.ne_of_lt (Heap.lt_size e)) (fun z => nomatch z) e) (isk x hx)
  · rw [storedAll_new nds] at hd'
    obtain ⟨ob, es, ep, e1, e2, e3, e4, _, e5⟩ := hd'
    exact ⟨.ref s.heap.objs.size, _, I.laid (t' := tk) (fun b o e => hk b o (fun z => nomatch z) e) (Nat.le_refl _) (dictN_ok (beq_eq_false_iff_ne.mpr lo) hz a1 ⟨ob, es, ep, e1, e2, e3, e4, e5⟩), rfl, q _ (I.hok.fresh (Nat.le_refl _))⟩
end

def everyV {α : Type} (k a : Nat) (xs : List α) : List α := (List.range (if a < xs.length then (xs.length - a - 1) / k + 1 else 0)).filterMap fun m => xs[a + m * k]?
section
open HT
variable {prog : Program} {w : World} {A : Around} {E : Value → Shared → Prop} {s : Shared}
theorem applied_step {sl : Addr} {vl vs : Value} {a k n : Nat} {Q : Int × Int × Nat → Shared → Prop} (hs : s.heap.IsSliceOf sl vl .none vs) (pl : IsPart vl (some (a : Int))) (ps : IsPart vs (some (k : Int))) (hk : 1 ≤ k) (ha : a ≤ n)
    (h : Q (((a : Nat) : Int), ((k : Nat) : Int), if a < n then (n - a - 1) / k + 1 else 0) s) : wpAny (model prog w) A (Builtin.Slice.sliceApplied (.ref sl) (pure (n : Int))) Q E s := by
  obtain ⟨os, hos, hcs, hds⟩ := id hs
  unfold Builtin.Slice.sliceApplied Builtin.Slice.sliceFields
  refine wpAny_bind (wpAny_bind (wpAny_field hos hds (x := vl) rfl (wpAny_bind (wpAny_field hos hds (x := .none) rfl (wpAny_bind (wpAny_field hos hds (x := vs) rfl (wpAny_pure ?_)))))))
  refine wpAny_bind (slicePart_ ps ?_)
  show wpAny _ _ (if ((k : Int) == 0) = true then _ else _) _ _ s
  rw [if_neg (by simp; omega)]
  refine wpAny_bind (slicePart_ pl (wpAny_bind (slicePart_none (wpAny_bind (wpAny_pure ?_)))))
  have e1 : Builtin.Slice.sliceAdjust (some (a : Int)) none (k : Int) (n : Int) = ((a : Int), (n : Int)) := by
    have h1 : ¬ ((k : Int) < 0) := by omega
    unfold Builtin.Slice.sliceAdjust
    simp only [h1, if_false]
    refine Prod.ext ?_ rfl
    show (if (a : Int) < 0 then max ((a : Int) + (n : Int)) 0 else min (a : Int) (n : Int)) = (a : Int)
    rw [if_neg (by omega)]
    omega
  show wpAny _ _ (match Builtin.Slice.sliceAdjust (some (a : Int)) none (k : Int) (n : Int) with | (lo, hi) => pure (lo, (k : Int), Builtin.Slice.slicePlaces lo hi (k : Int))) _ _ s
  rw [e1]
  show wpAny _ _ (pure (((a : Nat) : Int), ((k : Nat) : Int), Builtin.Slice.slicePlaces (a : Int) (n : Int) (k : Int))) _ _ s
  have e2 : Builtin.Slice.slicePlaces (a : Int) (n : Int) (k : Int) = if a < n then (n - a - 1) / k + 1 else 0 := by
    unfold Builtin.Slice.slicePlaces
    rw [if_pos (show (k : Int) > 0 by omega)]
    by_cases hl : a < n
    · rw [if_pos (by omega), if_pos hl]
      have e3 : ((n : Int) - (a : Int) - 1) = ((n - a - 1 : Nat) : Int) := by omega
      rw [e3, ← Int.natCast_ediv, ← Int.natCast_succ, Int.toNat_natCast]
    · rw [if_neg (by omega), if_neg hl]
      rfl
  rw [e2]
  exact wpAny_pure h
theorem getItem_tuple_step {t sl : Addr} {items : Array Value} {vl vs : Value} {a k : Nat} {Q : Value → Shared → Prop} (ht : IsTup s.heap t items) (hs : s.heap.IsSliceOf sl vl .none vs) (pl : IsPart vl (some (a : Int))) (ps : IsPart vs (some (k : Int))) (hk : 1 ≤ k) (ha : a ≤ items.size)
    (h1 : a = 0 ∧ k = 1 → Q (.ref t) s) (h2 : ¬ (a = 0 ∧ k = 1) → Q (.ref s.heap.objs.size) { s with heap := s.heap.push { cls := .type "tuple", data := .seq (everyV k a items.toList).toArray } })
    (hsz : items.size ≤ sizeLine) : wpAny (model prog w) A (getItem (.ref t) (.ref sl)) Q E s := by
  obtain ⟨os, hos, hcs, hds⟩ := id hs
  have hTs : s.TypeIs (.ref sl) "slice" := ⟨os, hos, hcs⟩
  have few : (everyV k a items.toList).length ≤ items.size := by
    unfold everyV
    refine Nat.le_trans (List.length_filterMap_le _ _) ?_
    rw [List.length_range, Array.length_toList]
    split
    · have : (items.size - a - 1) / k ≤ items.size - a - 1 := Nat.div_le_self _ _
      omega
    · omega
  have htake : sizeOk (.seq (everyV k a items.toList).toArray) := by
    show (everyV k a items.toList).toArray.size ≤ sizeLine
    rw [List.size_toArray]
    omega
  unfold getItem
  try with_reducible refine wpAny_holding ?_
  first | refine wpAny_bind (wpAny_pure ?_) | skip
  refine wpAny_bind (wpAny_sequenceKey ht.typeIs (by decide) ?_)
  refine wpAny_bind (wpAny_callSpecial?_slot (name := Str.ofString "__getitem__") ht.typeIs PyProof.Rows.slot_tuple_getitem
    (wpAny_call_entry PyProof.Rows.slot_tuple_getitem ht.typeIs entry_tuple_getitem ?_ (args_tuple_getitem _ _)))
  show wpAny _ _ (Builtin.Tuple.tupleItemsOf (.ref t) >>= _) _ _ s
  refine wpAny_bind (tupleItemsOf_ ht ?_)
  refine wpAny_bind (wpAny_typeOf hTs ?_)
  rw [if_pos (by decide)]
  refine wpAny_bind (applied_step hs pl ps hk ha ?_)
  show wpAny _ _ (if (((a : Nat) : Int) == 0 && ((k : Nat) : Int) == 1 && (if a < items.size then (items.size - a - 1) / k + 1 else 0) == items.size) = true then _ else _) _ _ s
  by_cases whole : a = 0 ∧ k = 1
  · obtain ⟨rfl, rfl⟩ := whole
    have hyes : ((((0 : Nat) : Nat) : Int) == 0 && ((1 : Nat) : Int) == 1 && (if 0 < items.size then (items.size - 0 - 1) / 1 + 1 else 0) == items.size) = true := by
      have : (if 0 < items.size then (items.size - 0 - 1) / 1 + 1 else 0) = items.size := by
        split
        · rw [Nat.div_one]; omega
        · omega
      rw [this]
      simp
    rw [if_pos hyes]
    refine wpAny_bind ?_
    show wpAny _ _ (typeOf (.ref t) >>= fun T => pure (T == .type "tuple")) _ _ s
    refine wpAny_bind (wpAny_typeOf ht.typeIs (wpAny_pure ?_))
    first
      | rw [if_pos (by decide)]
      | simp only [beq_self_eq_true, if_true]
    first
      | exact wpAny_bind (wpAny_rule (wpAny_pure ⟨_, rfl, wpAny_pure (h1 ⟨rfl, rfl⟩)⟩))
      | exact wpAny_bind (wpAny_rule (wpAny_bind (wpAny_pure (wpAny_pure ⟨_, rfl, wpAny_pure (h1 ⟨rfl, rfl⟩)⟩))))
  · have hno : ¬ ((((a : Nat) : Int) == 0 && ((k : Nat) : Int) == 1 && (if a < items.size then (items.size - a - 1) / k + 1 else 0) == items.size) = true) := by
      intro q
      rw [Bool.and_eq_true, Bool.and_eq_true] at q
      have q1 : ((a : Nat) : Int) = 0 := eq_of_beq q.1.1
      have q2 : ((k : Nat) : Int) = 1 := eq_of_beq q.1.2
      exact whole ⟨by omega, by omega⟩
    rw [if_neg hno]
    have ep : ((List.range (if a < items.size then (items.size - a - 1) / k + 1 else 0)).filterMap fun (m : Nat) => items[((a : Int) + (m : Int) * (k : Int)).toNat]?).toArray = (everyV k a items.toList).toArray := by
      unfold everyV
      rw [Array.length_toList]
      have : (fun (m : Nat) => items[((a : Int) + (m : Int) * (k : Int)).toNat]?) = fun m => items.toList[a + m * k]? := by
        funext m
        have : ((a : Int) + (m : Int) * (k : Int)).toNat = a + m * k := by
          rw [← Int.natCast_mul, ← Int.natCast_add, Int.toNat_natCast]
        rw [this, Array.getElem?_toList]
      rw [this]
    rw [ep]
    have h := h2 whole
    first
      | exact wpAny_bind (m := Builtin.Tuple.tupleExact _) (wpAny_newObj_type (wpAny_pure ⟨_, rfl, wpAny_pure h⟩) htake)
      | exact wpAny_bind (m := Builtin.Tuple.tupleExact _) (wpAny_newObj_type (wpAny_bind (wpAny_pure (wpAny_pure ⟨_, rfl, wpAny_pure h⟩))) htake)
      | exact wpAny_bind (wpAny_bind (m := Builtin.Tuple.tupleExact _) (wpAny_newObj_type (wpAny_pure (wpAny_pure ⟨_, rfl, wpAny_pure h⟩)) htake))
      | exact wpAny_bind (wpAny_bind (m := Builtin.Tuple.tupleExact _) (wpAny_newObj_type (wpAny_pure ⟨_, rfl, wpAny_pure h⟩) htake))
end
theorem vals_every {xs : List V} {us : List Value} (r : Vals xs us) (k a : Nat) : Vals (everyV k a xs) (everyV k a us) := by
  unfold everyV
  rw [r.length]
  generalize List.range (if a < us.length then (us.length - a - 1) / k + 1 else 0) = l
  induction l with
  | nil => exact .nil
  | cons m t ih =>
    rw [List.filterMap_cons, List.filterMap_cons]
    cases hx : xs[a + m * k]? with
    | none =>
      have : us[a + m * k]? = none := List.getElem?_eq_none (by rw [← r.length]; exact List.getElem?_eq_none_iff.mp hx)
      rw [this]
      exact ih
    | some x =>
      obtain ⟨u, hu, ru⟩ := r.get hx
      rw [hu]
      exact .cons ru ih
section
variable {X : Cx} {e f g : PySem.Expr} {te tf tg : TE} {p3 pos : Pos}
def tStepT (K : PySem.W.Frag) (te tf tg : TE) : TE := fun σ H Q => te σ H fun x H1 => tPart tf σ H1 fun o H2 => tPart tg σ H2 fun o2 H3 => ∃ (p : Addr) (xs : List V) (a k : Nat), x = .ref p ∧ o = some (a : Int) ∧ o2 = some (k : Int) ∧ SqT K H3 p xs ∧ 1 ≤ k ∧ a ≤ xs.length ∧
  (a = 0 ∧ k = 1 → Q (.ref p) H3) ∧ (¬ (a = 0 ∧ k = 1) → ∀ q, H3 q = none → Q (.ref q) (upd H3 q (.tup (everyV k a xs))))
theorem pe_stepT (he : PE X e te) (hf : PE X f tf) (hg : PE X g tg) : PE X (.Subscript e (.Slice (some f) none (some g) p3) pos) (tStepT X.K te tf tg) := by
  refine ⟨fun pins s σ H Q I h => ?_⟩
  refine Subscript_ (thn (he.run pins s σ H _ I h) fun v s1 ⟨x, H1, I1, r1, q1⟩ => ?_)
  refine wpAny_Slice (thn ((po_some hf).run pins s1 σ H1 _ I1 q1) fun vl s2 ⟨o1, H2, I2, pl, q2⟩ => ?_)
  refine thn (po_none.run pins s2 σ H2 (fun o H3 => o = none ∧ H3 = H2) I2 ⟨rfl, rfl⟩) fun vu s3 ⟨u, H3, I3, pu, eu, e3⟩ => ?_
  subst eu e3
  refine thn ((po_some hg).run pins s3 σ H3 _ I3 q2) fun vs s4 ⟨o2, H4, I4, ps, p, xs, a, k, ex, e1, e2, hx, hk, ha, c1, c2⟩ => ?_
  subst ex e1 e2
  cases r1
  cases pu
  have I5 : Inv X pins σ H4 { s4 with heap := s4.heap.push { cls := .type "slice", data := .fields #[vl, .none, vs] } } := I4.kept (t' := s4.toks) fun b ob q => Heap.get?_push_of_some _ q
  obtain ⟨its, r, ht, hz⟩ := I5.tuple hx
  have hlen := r.length
  show wpAny (model X.prog X.w) X.A (subscriptTail e (.Slice (some f) none (some g) p3) (.ref p) (.ref s4.heap.objs.size)) (EP X pins σ Q) X.xe { s4 with heap := s4.heap.push { cls := .type "slice", data := .fields #[vl, .none, vs] } }
  refine tail_any (ops := [.ref p, .ref s4.heap.objs.size]) ht.typeIs (PyProof.Rows.slot_tuple_getitem.lookup) ?_ (by with_unfolding_all rfl)
  refine getItem_tuple_step ht (Heap.IsSliceOf.new _ vl .none vs) pl ps hk (by rw [List.size_toArray, ← hlen]; exact ha) (fun c => ⟨.ref p, H4, I5, rfl, c1 c⟩) (fun c => ?_) (by rw [List.size_toArray]; omega)
  have rr := vals_every r k a
  have few : (everyV k a xs).length ≤ xs.length := by
    unfold everyV
    refine Nat.le_trans (List.length_filterMap_le _ _) ?_
    rw [List.length_range]
    split
    · have : (xs.length - a - 1) / k ≤ xs.length - a - 1 := Nat.div_le_self _ _
      omega
    · omega
  refine ⟨.ref _, _, I5.laid (t' := s4.toks) (o := .tup (everyV k a xs)) (fun b ob q => Heap.get?_push_of_some _ q) (Nat.le_refl _) (show ObjOk X.prog X.w _ _ _ (.tup (everyV k a xs)) from ⟨Nat.le_trans few hz, everyV k a its, rr, IsTup.new _ _⟩), rfl, c2 c _ (I5.hok.fresh (Nat.le_refl _))⟩
def tStepL (K : PySem.W.Frag) (te tg : TE) : TE := fun σ H Q => te σ H fun x H1 => tPart tg σ H1 fun o H2 => ∃ (p : Addr) (xs : List V) (back : Bool), x = .ref p ∧ o = some (if back then -1 else 1) ∧ SqL K H2 p xs ∧ ∀ q, H2 q = none → Q (.ref q) (upd H2 q (.lst (if back then xs.reverse else xs)))
theorem pick_one (items : Array Value) : slicePick items none none (some 1) = items.toList.toArray := by
  unfold slicePick
  show ((sliceRange 0 (items.size : Int) 1).filterMap (items[·]?)).toArray = _
  have e : sliceRange 0 (items.size : Int) 1 = List.range items.size := by
    unfold sliceRange
    have h1 : (if (1 : Int) > 0 then (if (0 : Int) < (items.size : Int) then ((items.size : Int) - 0 + 1 - 1) / 1 else 0) else (if (0 : Int) > (items.size : Int) then (0 - (items.size : Int) - 1 - 1) / (-1) else 0)) = (items.size : Int) := by
      rw [if_pos (by decide)]
      split
      · rw [Int.ediv_one]; omega
      · omega
    dsimp only
    rw [h1, Int.toNat_natCast]
    have : (fun (k : Nat) => ((0 : Int) + 1 * (k : Int)).toNat) = id := by
      funext k
      show ((0 : Int) + 1 * (k : Int)).toNat = k
      omega
    rw [this, List.map_id]
  rw [e, PySem.W.krv_all]
theorem pe_stepL (he : PE X e te) (hg : PE X g tg) : PE X (.Subscript e (.Slice none none (some g) p3) pos) (tStepL X.K te tg) := by
  refine ⟨fun pins s σ H Q I h => ?_⟩
  refine Subscript_ (thn (he.run pins s σ H _ I h) fun v s1 ⟨x, H1, I1, r1, q1⟩ => ?_)
  refine wpAny_Slice (thn (po_none.run pins s1 σ H1 (fun o H2 => o = none ∧ H2 = H1) I1 ⟨rfl, rfl⟩) fun vl s2 ⟨l, H2, I2, pl, el, e2⟩ => ?_)
  subst el e2
  refine thn (po_none.run pins s2 σ H2 (fun o H3 => o = none ∧ H3 = H2) I2 ⟨rfl, rfl⟩) fun vu s3 ⟨u, H3, I3, pu, eu, e3⟩ => ?_
  subst eu e3
  refine thn ((po_some hg).run pins s3 σ H3 _ I3 q1) fun vs s4 ⟨o, H4, I4, ps, p, xs, back, ex, eo, hx, q⟩ => ?_
  subst ex eo
  cases r1
  have I5 : Inv X pins σ H4 { s4 with heap := s4.heap.push { cls := .type "slice", data := .fields #[vl, vu, vs] } } := I4.kept (t' := s4.toks) fun b ob q => Heap.get?_push_of_some _ q
  obtain ⟨its, r, ht, hz⟩ := I5.list hx
  have hlen := r.length
  show wpAny (model X.prog X.w) X.A (subscriptTail e (.Slice none none (some g) p3) (.ref p) (.ref s4.heap.objs.size)) (EP X pins σ Q) X.xe { s4 with heap := s4.heap.push { cls := .type "slice", data := .fields #[vl, vu, vs] } }
  refine tail_any (ops := [.ref p, .ref s4.heap.objs.size]) ht.isList.typeIs (PySem.slot_list_getitem.lookup) ?_ (by with_unfolding_all rfl)
  refine wpAny_getItem_list_slice ht.isList (Heap.IsSliceOf.new _ vl vu vs) pl pu ps (by cases back <;> decide) ?_ (by rw [List.size_toArray]; omega)
  cases back with
  | true =>
    rw [if_pos rfl] at q ⊢
    rw [PySem.W.krv_pick]
    refine ⟨.ref _, _, I5.laid (t' := s4.toks) (o := .lst xs.reverse) (fun b ob q => Heap.get?_push_of_some _ q) (Nat.le_refl _) ?_, rfl, q _ (I5.hok.fresh (Nat.le_refl _))⟩
    exact ⟨by rw [List.length_reverse]; exact hz, _, 0, r.reverse, Heap.get?_push_size _ rfl⟩
  | false =>
    rw [if_neg (by decide)] at q ⊢
    rw [pick_one]
    refine ⟨.ref _, _, I5.laid (t' := s4.toks) (o := .lst xs) (fun b ob q => Heap.get?_push_of_some _ q) (Nat.le_refl _) ?_, rfl, q _ (I5.hok.fresh (Nat.le_refl _))⟩
    exact ⟨hz, _, 0, r, Heap.get?_push_size _ rfl⟩
end
theorem everyV_map {α β : Type} (f : α → β) (k a : Nat) (xs : List α) : everyV k a (xs.map f) = (everyV k a xs).map f := by
  unfold everyV
  rw [List.length_map]
  generalize List.range (if a < xs.length then (xs.length - a - 1) / k + 1 else 0) = l
  induction l with
  | nil => rfl
  | cons m t ih =>
    rw [List.filterMap_cons, List.filterMap_cons, List.getElem?_map]
    cases xs[a + m * k]? with
    | none => exact ih
    | some x => rw [Option.map_some, List.map_cons, ih]

def ItzM (K : PySem.W.Frag) (a b : Addr) : It := ⟨fun n H => ∃ xs ys : List V, SqL K H a xs ∧ SqT K H b ys ∧ n < xs.length ∧ n < ys.length,
  fun n H v H' => ∃ (p : Addr) (x y : V), v = .ref p ∧ H p = none ∧ H' = upd H p (.tup [x, y]) ∧ (∀ xs, SqL K H a xs → xs[n]? = some x) ∧ ∀ ys, SqT K H b ys → ys[n]? = some y,
  fun n H => ∃ xs ys : List V, SqL K H a xs ∧ SqT K H b ys ∧ n ≤ xs.length ∧ n ≤ ys.length ∧ (n = xs.length ∨ n = ys.length)⟩
theorem fiveM {z TI TO i1 i2 b : Addr} (h : b ∈ [z, TI, TO, i1, i2]) : b = z ∨ b = TI ∨ b = TO ∨ b = i1 ∨ b = i2 := by simpa using h
theorem turn_zipM {P : Program} {w : World} {K : PySem.W.Frag} {parts : List PySem.Expr} {many : Nat} {at_ : Pos} {a b z TI TO i1 i2 : Addr} (S : ZipSep2 z TI TO i1 i2 [i1, a] [i2, b]) (na : a ≠ i1) (nb : b ≠ i2) :
    Turn P w K (.Tuple parts many at_) (ItzM K a b) [z, TI, TO, i1, i2] z (fun n h => IsZip h z TI TO .none ∧ IsTupOf2 h TI (.ref i1) (.ref i2) ∧ (∃ x y, IsTupOf2 h TO x y) ∧ h.IsListIter i1 a n ∧ h.IsTupleIter i2 b n) where
  mem := List.mem_cons_self
  obj := by
    rintro n h ⟨hz, hTI, ⟨x, y, hTO⟩, ⟨o1, e1, _, d1⟩, ⟨o2, e2, _, d2⟩⟩ c hc
    rcases fiveM hc with rfl | rfl | rfl | rfl | rfl
    · exact ⟨_, hz, fun v q => nomatch q⟩
    · exact ⟨_, hTI, fun v q => nomatch q⟩
    · exact ⟨_, hTO, fun v q => nomatch q⟩
    · exact ⟨o1, e1, fun v q => by rw [d1] at q; cases q⟩
    · exact ⟨o2, e2, fun v q => by rw [d2] at q; cases q⟩
  keep := by
    rintro n h h' ⟨hz, hTI, ⟨x, y, hTO⟩, ⟨o1, e1, r1⟩, ⟨o2, e2, r2⟩⟩ k
    exact ⟨k z (by simp) _ hz, k TI (by simp) _ hTI, ⟨x, y, k TO (by simp) _ hTO⟩, ⟨o1, k i1 (by simp) _ e1, r1⟩, ⟨o2, k i2 (by simp) _ e2, r2⟩⟩
  item := by
    rintro X rfl rfl rfl calm n pins s σ H E I free ⟨hz, hTI, ⟨x0, y0, hTO⟩, h1, h2⟩ ⟨xs, ys, hqx, hqy, lt1, lt2⟩
    obtain ⟨its, rv, p1, _⟩ := I.list hqx
    obtain ⟨its2, rv2, p2, _⟩ := I.tuple hqy
    have D1 := Draws.list (prog := X.prog) (w := X.w) (A := X.A.in1) (I.ok.hd calm) i1 a na its.toArray
    have D2 := Draws.tuple (prog := X.prog) (w := X.w) (A := X.A.in1) (I.ok.hd calm) i2 b nb its2.toArray
    have low : z < s.heap.objs.size := Heap.lt_size hz
    refine wpAny_pyNext_zipD2_item S D1 D2 hz hTI hTO ⟨h1, p1.isList⟩ ⟨h2, p2⟩ (by rw [List.size_toArray, ← rv.length]; exact lt1) (by rw [List.size_toArray, ← rv2.length]; exact lt2) ?_
    rintro u u2 h3 tk hu hu2 out pair n1 n2 made _ stays
    refine ⟨_, rfl, wpAny_letOwnedTupleGo_zip (s := { s with heap := h3, toks := tk }) out fun h4 back but => ?_⟩
    have made4 : h4.get? s.heap.objs.size = some { cls := .type "tuple", data := .seq #[u, u2] } := (but.2 _ (Nat.ne_of_gt low)).trans made
    have hx : xs[n]? = some xs[n] := List.getElem?_eq_getElem lt1
    have hy : ys[n]? = some ys[n] := List.getElem?_eq_getElem lt2
    obtain ⟨v1, e1, r1⟩ := rv.get hx
    obtain ⟨v2, e2, r2⟩ := rv2.get hy
    rw [List.getElem?_toArray] at hu hu2
    rw [e1] at hu
    rw [e2] at hu2
    cases hu
    cases hu2
    have new : ObjOk X.prog X.w (upd H s.heap.objs.size (.tup [xs[n], ys[n]])) h4 s.heap.objs.size (.tup [xs[n], ys[n]]) :=
      ⟨by show 2 ≤ sizeLine; decide, [u, u2], .cons r1 (.cons r2 .nil), _, made4, rfl, _, rfl⟩
    have J : Inv X pins σ (upd H s.heap.objs.size (.tup [xs[n], ys[n]])) { s with heap := h4, toks := tk } :=
      I.turnedNew (t' := tk) (ch := [z, TI, TO, i1, i2]) (fun c ob hb e => by
        have ne : c ≠ z ∧ c ≠ TO ∧ c ≠ i1 ∧ c ≠ i2 := ⟨fun q => hb (by simp [q]), fun q => hb (by simp [q]), fun q => hb (by simp [q]), fun q => hb (by simp [q])⟩
        exact (but.2 c ne.1).trans (stays c ob ne.1 ne.2.1 ne.2.2.1 ne.2.2.2 e)) free (Nat.le_refl _) new
    refine ⟨.ref s.heap.objs.size, _, J, rfl, ⟨_, xs[n], ys[n], rfl, I.hok.fresh (Nat.le_refl _), rfl, fun l hl => by rw [I.list_inj hl hqx]; exact hx, fun l hl => by rw [I.tuple_inj hl hqy]; exact hy⟩, ⟨back, ?_, ⟨_, _, (but.2 _ S.TOz).trans pair⟩, (D1.over n1 but S.zf1).1, (D2.over n2 but S.zf2).1⟩, fun c hb => ?_⟩
    · exact (but.2 _ S.TIz).trans (stays _ _ S.TIz S.TITO S.TIi1 S.TIi2 hTI)
    · have lt : c < s.heap.objs.size := by
        rcases fiveM hb with rfl | rfl | rfl | rfl | rfl
        · exact low
        · exact Heap.lt_size hTI
        · exact Heap.lt_size hTO
        · obtain ⟨_, e, _⟩ := h1; exact Heap.lt_size e
        · obtain ⟨_, e, _⟩ := h2; exact Heap.lt_size e
      rw [upd_ne (Nat.ne_of_lt lt)]
      exact (free c hb).1
  done := by
    rintro X rfl rfl rfl calm n pins s σ H E I free ⟨hz, hTI, ⟨x0, y0, hTO⟩, h1, h2⟩ ⟨xs, ys, hqx, hqy, le1, le2, over⟩
    obtain ⟨its, rv, p1, _⟩ := I.list hqx
    obtain ⟨its2, rv2, p2, _⟩ := I.tuple hqy
    have D1 := Draws.list (prog := X.prog) (w := X.w) (A := X.A.in1) (I.ok.hd calm) i1 a na its.toArray
    have D2 := Draws.tuple (prog := X.prog) (w := X.w) (A := X.A.in1) (I.ok.hd calm) i2 b nb its2.toArray
    have l1 := rv.length
    have l2 := rv2.length
    exact wpAny_pyNext_zipD2_end S D1 D2 hz hTI hTO ⟨h1, p1.isList⟩ ⟨h2, p2⟩ (by rw [List.size_toArray]; omega) (by rw [List.size_toArray]; omega) (by rw [List.size_toArray, List.size_toArray]; omega) fun h' tk stays => ⟨rfl, I.turnedL (t' := tk) (ch := [z, TI, TO, i1, i2]) (fun c ob hb e =>
      stays c ob (fun q => hb (by simp [q])) (fun q => hb (by simp [q])) (fun q => hb (by simp [q])) (fun q => hb (by simp [q])) e) free⟩
  self := fun A n s Q E st h => wpAny_pyIter_zip st.1 h
def iZipM (K : PySem.W.Frag) (ta : TA) : TI := fun σ H R => ta σ H fun vs H1 => ∃ (a b : Addr) (xs ys : List V), vs = [.ref a, .ref b] ∧ SqL K H1 a xs ∧ SqT K H1 b ys ∧ R (ItzM K a b) H1
theorem sep_newM {n a b : Nat} (ha : a < n) (hb : b < n) : ZipSep2 (n + 4) (n + 2) (n + 3) n (n + 1) [n, a] [n + 1, b] := by
  have z1 : a ≠ n + 4 := by omega
  have z2 : b ≠ n + 4 := by omega
  have z3 : a ≠ n + 3 := by omega
  have z4 : b ≠ n + 3 := by omega
  have z5 : b ≠ n := by omega
  have z6 : a ≠ n + 1 := by omega
  constructor <;> simp [z1, z2, z3, z4, z5, z6, z1.symm, z2.symm, z3.symm, z4.symm, z5.symm, z6.symm]
theorem pi_zipM {X : Cx} {e e2 : PySem.Expr} {ta : TA} {p pos at_ : Pos} {parts : List PySem.Expr} {many : Nat} (hg : Gl X "zip") (hm : X.mg "zip" = none) (ha : PA X [e, e2] ta)
    (hs : starEach [e, e2] X.env = (false, eval e X.env) :: starEach [e2] X.env := by rfl) (hpl : (backTo pos (starEach [e2] X.env)).any (·.1) = false := by rfl) :
    PI X (.Tuple parts many at_) (.Call (.Name "zip" p) [e, e2] [] pos) (iZipM X.K ta) := by
  refine ⟨fun pins s σ H R I h => Call_ (ld_blt I hg hm PyProof.Rows.boot_zip (PyProof.Rows.callWith_type1 (thn (ha.run pos pins s σ H _ I h) ?_) hs hpl))⟩
  rintro us s1 ⟨_, H1, I1, r1, a, b, xs, ys, rfl, hqx, hqy, q⟩
  obtain ⟨u1, u2, rfl, e1, e2⟩ := Vals.two r1
  cases e1
  cases e2
  obtain ⟨its, rv, p1, _⟩ := I1.list hqx
  obtain ⟨its2, rv2, p2, _⟩ := I1.tuple hqy
  have la : a < s1.heap.objs.size := p1.lt
  have lb : b < s1.heap.objs.size := p2.lt
  refine zip_begins2 (begins_list a its.toArray) (begins_tuple b its2.toArray) p1.isList p2 fun h' hz hTI hTO g1 g2 _ keep => wpAny_pyIter_zip hz ?_
  refine ⟨s1.heap.objs.size + 4, [s1.heap.objs.size + 4, s1.heap.objs.size + 2, s1.heap.objs.size + 3, s1.heap.objs.size, s1.heap.objs.size + 1], _, _, H1, rfl, I1.kept (t' := s1.toks) keep, turn_zipM (sep_newM la lb) (Nat.ne_of_lt la) (Nat.ne_of_lt (Nat.lt_succ_of_lt lb)), ⟨hz, hTI, ⟨_, _, hTO⟩, ⟨_, g1, rfl, rfl⟩, ⟨_, g2, rfl, rfl⟩⟩, fun b hb => ?_, q⟩
  have hle : s1.heap.objs.size ≤ b := by rcases fiveM hb with rfl | rfl | rfl | rfl | rfl <;> omega
  exact I1.fpOk hle (I1.hok.fresh hle)
theorem lc_zipM {K : PySem.W.Frag} {a b : Addr} {xs ys : List V} {Bd : V → Hp → (Hp → Prop) → Prop} {Qd : Hp → Prop} {H0 : Hp} (hlen : xs.length = ys.length) (Pv : Nat → Hp → Prop) (h0 : Pv 0 H0) (hl : ∀ i H, i ≤ xs.length → Pv i H → SqL K H a xs ∧ SqT K H b ys)
    (hs : ∀ i x y T H, xs[i]? = some x → ys[i]? = some y → Pv i H → H T = none → Bd (.ref T) (upd H T (.tup [x, y])) (Pv (i + 1))) (hd : ∀ H, Pv xs.length H → Qd H) :
    ∃ W : Nat → Nat → Hp → Prop, (∃ m, W 0 m H0) ∧ ∀ i m H, W i m H → ((ItzM K a b).stop i H ∧ Qd H) ∨ ((ItzM K a b).go i H ∧ ∃ Nx : Hp → Prop, (∀ H', Nx H' → ∃ m', m' < m ∧ W (i + 1) m' H') ∧ ∀ x H', (ItzM K a b).yld i H x H' → Bd x H' Nx) := by
  refine ⟨fun i m H => m = xs.length - i ∧ i ≤ xs.length ∧ Pv i H, ⟨xs.length, by simp, Nat.zero_le _, h0⟩, ?_⟩
  rintro i m H ⟨rfl, hi, p⟩
  obtain ⟨q1, q2⟩ := hl i H hi p
  by_cases hlt : i < xs.length
  · have hlt2 : i < ys.length := by omega
    refine .inr ⟨⟨xs, ys, q1, q2, hlt, hlt2⟩, Pv (i + 1), fun H' p' => ⟨xs.length - (i + 1), by omega, rfl, hlt, p'⟩, fun x H' y => ?_⟩
    obtain ⟨T, x1, y1, rfl, hT, rfl, g1, g2⟩ := y
    exact hs i x1 y1 T H (g1 xs q1) (g2 ys q2) p hT
  · have e : i = xs.length := by omega
    subst e
    exact .inl ⟨⟨xs, ys, q1, q2, Nat.le_refl _, by omega, .inl rfl⟩, hd H p⟩

theorem perm_nodup {α : Type} [DecidableEq α] : ∀ {xs ys : List α}, xs.Nodup → ys.Nodup → (∀ a, a ∈ xs ↔ a ∈ ys) → xs.Perm ys
  | [], ys, _, _, h => by
    cases ys with
    | nil => exact .nil
    | cons y r => exact absurd ((h y).mpr List.mem_cons_self) (by simp)
  | x :: r, ys, n1, n2, h => by
    have hx : x ∈ ys := (h x).mp List.mem_cons_self
    rw [List.nodup_cons] at n1
    have p := List.perm_cons_erase hx
    have n3 : (ys.erase x).Nodup := n2.erase x
    refine (List.Perm.cons x (perm_nodup n1.2 n3 fun a => ?_)).trans p.symm
    rw [n2.mem_erase_iff]
    constructor
    · intro ha
      exact ⟨fun e => n1.1 (by rw [← e]; exact ha), (h a).mp (List.mem_cons_of_mem _ ha)⟩
    · rintro ⟨ne, ha⟩
      exact (List.mem_cons.mp ((h a).mpr ha)).resolve_left ne
theorem prd_perm {α β : Type} {F : α → β → Prop} {as cs : List α} (p : as.Perm cs) : ∀ {bs : List β}, Paired F as bs → ∃ ds, bs.Perm ds ∧ Paired F cs ds := by
  induction p with
  | nil => intro bs h; cases h; exact ⟨[], .nil, .nil⟩
  | cons x _ ih =>
    intro bs h
    cases h with
    | cons r t =>
    obtain ⟨ds, h1, h2⟩ := ih t
    exact ⟨_ :: ds, h1.cons _, .cons r h2⟩
  | swap x y l =>
    intro bs h
    cases h with
    | cons r t =>
    cases t with
    | cons r2 t =>
    exact ⟨_ :: _ :: _, .swap _ _ _, .cons r2 (.cons r t)⟩
  | trans _ _ ih1 ih2 =>
    intro bs h
    obtain ⟨d1, p1, h1⟩ := ih1 h
    obtain ⟨d2, p2, h2⟩ := ih2 h1
    exact ⟨d2, p1.trans p2, h2⟩
def RowsB (n : Nat) (xs : List NRow) (keys : List (Nat × List Nat)) : Prop := Paired (fun (x : NRow) (key : Nat × List Nat) => x.1 = keyN key.1 key.2 ∧ ∃ v : Nat, v < n ∧ x.2.2 = nI v) xs keys
theorem rows_fun {n : Nat} : ∀ {xs : List NRow} {keys : List (Nat × List Nat)}, RowsB n xs keys → keys.Nodup → ∃ fs : Nat → List Nat → Nat, RowsJ xs keys fs ∧ ∀ key ∈ keys, fs key.1 key.2 < n
  | _, _, .nil, _ => ⟨fun _ _ => 0, .nil, fun _ h => by cases h⟩
  | x :: xs, (c, row) :: keys, .cons ⟨e1, v, hv, e2⟩ t, nd => by
    rw [List.nodup_cons] at nd
    obtain ⟨fs, h1, h2⟩ := rows_fun t nd.2
    have same : ∀ {xs : List NRow} {ks : List (Nat × List Nat)}, RowsJ xs ks fs → (∀ k ∈ ks, k ∈ keys) → RowsJ xs ks (fun c' r' => if (c', r') = (c, row) then v else fs c' r') := by
      intro xs ks h
      induction h with
      | nil => intro _; exact .nil
      | @cons x1 k1 _ _ r _ ih =>
        intro hk
        refine .cons ⟨r.1, ?_⟩ (ih fun k h => hk k (List.mem_cons_of_mem _ h))
        have ne : ¬ ((k1.1, k1.2) = (c, row)) := fun e => nd.1 (by rw [← e]; exact hk k1 List.mem_cons_self)
        show x1.2.2 = nI (if (k1.1, k1.2) = (c, row) then v else fs k1.1 k1.2)
        rw [if_neg ne]
        exact r.2
    refine ⟨fun c' r' => if (c', r') = (c, row) then v else fs c' r', .cons ⟨e1, ?_⟩ (same h1 fun _ h => h), fun key hk => ?_⟩
    · show x.2.2 = nI (if (c, row) = (c, row) then v else fs c row)
      rw [if_pos rfl]
      exact e2
    · show (if (key.1, key.2) = (c, row) then v else fs key.1 key.2) < n
      split
      · exact hv
      · rename_i ne
        exact h2 key ((List.mem_cons.mp hk).resolve_left ne)
theorem atN_isb {n : Nat} {c : Nat} {row : List Nat} : ∀ {xs : List NRow} {keys : List (Nat × List Nat)}, RowsB n xs keys → (c, row) ∈ keys → ∃ v : Nat, v < n ∧ atN xs (keyN c row) = some (nI v)
  | _, _, .nil, h => by cases h
  | x :: xs, (c', row') :: keys, .cons r t, h => by
    obtain ⟨e1, v, hv, e2⟩ := r
    by_cases e : (c', row') = (c, row)
    · cases e
      exact ⟨v, hv, by simp [atN, e1, e2]⟩
    · have hm : (c, row) ∈ keys := (List.mem_cons.mp h).resolve_left fun z => e z.symm
      have ne : ¬ x.1 = keyN c row := fun z => e (by
        obtain ⟨a, b⟩ := keyN_inj (e1.symm.trans z)
        dsimp only at a b
        rw [a, b])
      have : atN (x :: xs) (keyN c row) = atN xs (keyN c row) := by simp [atN, List.find?_cons, ne]
      rw [this]
      exact atN_isb t hm
theorem storedN_old {n : Nat} {c v : Nat} {row : List Nat} {b : Addr} (hv : v < n) {xs : List NRow} {keys : List (Nat × List Nat)} (h : RowsB n xs keys) (hm : (c, row) ∈ keys) : RowsB n (storedN xs (keyN c row) b (nI v)) keys ∧ (storedN xs (keyN c row) b (nI v)).map (fun x => x.2.1) = xs.map fun x => x.2.1 := by
  obtain ⟨v0, _, e0⟩ := atN_isb h hm
  unfold storedN
  rw [e0, Option.isSome_some, if_pos rfl]
  constructor
  · have : ∀ {xs : List NRow} {ks : List (Nat × List Nat)}, RowsB n xs ks → RowsB n (xs.map fun x => if x.1 = keyN c row then (x.1, x.2.1, nI v) else x) ks := by
      intro xs ks h
      induction h with
      | nil => exact .nil
      | @cons x1 k1 _ _ r _ ih =>
        refine .cons ?_ ih
        dsimp only
        split
        · exact ⟨r.1, v, hv, rfl⟩
        · exact r
    exact this h
  · rw [List.map_map]
    refine List.map_congr_left fun x _ => ?_
    show (if x.1 = keyN c row then (x.1, x.2.1, nI v) else x).2.1 = x.2.1
    split <;> rfl
theorem keys_len {n : Nat} {xs : List NRow} {keys : List (Nat × List Nat)} (h : RowsB n xs keys) : xs.length = keys.length := Paired.length h
def keysC (L : Str) (n k : Nat) : List (Nat × List Nat) := (rowsTo n k).flatMap fun r => L.cps.toList.map fun c => (c, r)
theorem keysC_mem {L : Str} {n k c : Nat} {r : List Nat} : (c, r) ∈ keysC L n k ↔ (c, r) ∈ keysOf L n k := by
  simp only [keysC, keysOf, List.mem_flatMap, List.mem_map, Prod.mk.injEq]
  constructor
  · rintro ⟨r0, h1, c0, h2, rfl, rfl⟩
    exact ⟨c0, h2, r0, h1, rfl, rfl⟩
  · rintro ⟨c0, h2, r0, h1, rfl, rfl⟩
    exact ⟨r0, h1, c0, h2, rfl, rfl⟩
theorem nodup_flat {α β : Type} {f : α → List β} {g : β → α} (hg : ∀ a b, b ∈ f a → g b = a) (hf : ∀ a, (f a).Nodup) : ∀ {l : List α}, l.Nodup → (l.flatMap f).Nodup
  | [], _ => by simp
  | a :: r, nd => by
    rw [List.nodup_cons] at nd
    rw [List.flatMap_cons, List.nodup_append]
    refine ⟨hf a, nodup_flat hg hf nd.2, fun x h1 y h2 e => ?_⟩
    subst e
    obtain ⟨a2, m2, h3⟩ := List.mem_flatMap.mp h2
    have := (hg a x h1).symm.trans (hg a2 x h3)
    exact nd.1 (by rw [this]; exact m2)
theorem nodup_map {α β : Type} {f : α → β} (hf : ∀ a b, f a = f b → a = b) : ∀ {l : List α}, l.Nodup → (l.map f).Nodup
  | [], _ => by simp
  | a :: r, nd => by
    rw [List.nodup_cons] at nd
    rw [List.map_cons, List.nodup_cons]
    refine ⟨fun h => ?_, nodup_map hf nd.2⟩
    obtain ⟨b, hb, e⟩ := List.mem_map.mp h
    exact nd.1 (by rw [← hf b a e]; exact hb)
theorem keysC_nd {L : Str} (hL : Rises L) (n k : Nat) : (keysC L n k).Nodup :=
  nodup_flat (g := fun p => p.2) (fun a b h => by obtain ⟨c, _, rfl⟩ := List.mem_map.mp h; rfl) (fun a => nodup_map (fun x y e => by cases e; rfl) (hL.imp fun h => Nat.ne_of_lt h)) (rowsTo_nd k n)
theorem keysC_perm {L : Str} (hL : Rises L) (n k : Nat) : (keysC L n k).Perm (keysOf L n k) := perm_nodup (keysC_nd hL n k) (keysOf_nd hL n k) fun (_, _) => keysC_mem
theorem atN_self {row : NRow} : ∀ {xs : List NRow}, (xs.map (·.1)).Nodup → row ∈ xs → atN xs row.1 = some row.2.2
  | [], _, h => by cases h
  | x :: r, nd, h => by
    rw [List.map_cons, List.nodup_cons] at nd
    rcases List.mem_cons.mp h with e | h
    · rw [e]
      simp [atN]
    · have ne : ¬ x.1 = row.1 := fun e => nd.1 (List.mem_map.mpr ⟨row, h, e.symm⟩)
      have : atN (x :: r) row.1 = atN r row.1 := by simp [atN, List.find?_cons, ne]
      rw [this]
      exact atN_self nd.2 h
theorem rowsB_nd {n : Nat} : ∀ {xs : List NRow} {keys : List (Nat × List Nat)}, RowsB n xs keys → keys.Nodup → (xs.map (·.1)).Nodup
  | _, _, .nil, _ => by simp
  | x :: xs, key :: keys, .cons ⟨e, _⟩ t, nd => by
    rw [List.nodup_cons] at nd
    rw [List.map_cons, List.nodup_cons]
    refine ⟨fun h => ?_, rowsB_nd t nd.2⟩
    obtain ⟨y, hy, e1⟩ := List.mem_map.mp h
    obtain ⟨k2, hk2, e2, _⟩ := prd_mem t hy
    have e3 := e2.symm.trans (e1.trans e)
    obtain ⟨a, b⟩ := keyN_inj e3
    exact nd.1 (by rw [show key = k2 from Prod.ext a.symm b.symm]; exact hk2)

def JAtO (P : Program) (w : World) (ok : Addr → Prop) (H : Hp) (v : V) (J : JD) : Prop := ∃ (j d g : Addr) (xs : List NRow) (keys : List (Nat × List Nat)), v = .ref j ∧ H j = some (.tup [.str J.L, nI J.n, nI J.few, nI J.turn, .ref d, .ref g]) ∧ H d = some (DictN P w d xs) ∧ RowsN H xs ∧ RowsJ xs keys J.fs ∧ keys.Perm J.keys ∧ H g = some (.lst (J.good.map nI)) ∧ ok g
section
variable {P : Program} {w : World} {ok ok' : Addr → Prop} {H H' : Hp} {v : V} {J : JD}
theorem JAtO.at (x : JAtO P w ok H v J) : JAt P w H v J := by
  obtain ⟨j, d, g, xs, keys, rfl, h1, h2, h3, h4, h5, h6, _⟩ := x
  exact ⟨j, d, g, xs, keys, rfl, h1, h2, h3, h4, h5, h6⟩
theorem JAtO.weak (x : JAtO P w ok H v J) (h : ∀ b, ok b → ok' b) : JAtO P w ok' H v J := by
  obtain ⟨j, d, g, xs, keys, rfl, h1, h2, h3, h4, h5, h6, h7⟩ := x
  exact ⟨j, d, g, xs, keys, rfl, h1, h2, h3, h4, h5, h6, h _ h7⟩
theorem JAtO.extN (x : JAtO P w ok H v J) (f : LamX.ExtN H H') : JAtO P w ok H' v J := by
  obtain ⟨j, d, g, xs, keys, rfl, h1, h2, h3, h4, h5, h6, h7⟩ := x
  exact ⟨j, d, g, xs, keys, rfl, f _ _ h1 (fun _ z => by cases z), f _ _ h2 not_tbl, h3.keep fun b ys e => f _ _ e (fun _ z => by cases z), h4, h5, f _ _ h6 (fun _ z => by cases z), h7⟩
theorem JAtO.same (x : JAtO P w ok H v J) (f : Same H H') : JAtO P w ok H' v J := x.extN (.of f)
theorem JAtO.fr {p : Addr} {ys : List V} (x : JAtO P w ok H v J) (ho : ∀ b, ok b → b ≠ p) (hp : H p = some (.lst ys)) (f : Fr p H H') : JAtO P w ok H' v J := by
  obtain ⟨j, d, g, xs, keys, rfl, h1, h2, h3, h4, h5, h6, h7⟩ := x
  exact ⟨j, d, g, xs, keys, rfl, f _ _ (fun e => by rw [e, hp] at h1; cases h1) h1, f _ _ (fun e => by rw [e, hp] at h2; unfold DictN at h2; cases h2) h2, h3.keep fun b zs e => f _ _ (fun z => by rw [z, hp] at e; cases e) e, h4, h5, f _ _ (ho _ h7) h6, h7⟩
theorem JAt.o (x : JAt P w H v J) : JAtO P w (fun _ => True) H v J := by
  obtain ⟨j, d, g, xs, keys, rfl, h1, h2, h3, h4, h5, h6⟩ := x
  exact ⟨j, d, g, xs, keys, rfl, h1, h2, h3, h4, h5, h6, trivial⟩
end

section
variable {ok : Addr → Prop} {H H' : Hp}
theorem DtAll.take : ∀ {vs : List V} {ds : List PyData} (n : Nat), DtAll ok H vs ds → DtAll ok H (vs.take n) (ds.take n)
  | _, _, 0, _ => .nil
  | _, _, n + 1, .nil => .nil
  | _, _, n + 1, .cons a b => .cons a (DtAll.take n b)
theorem DtAll.drop : ∀ {vs : List V} {ds : List PyData} (n : Nat), DtAll ok H vs ds → DtAll ok H (vs.drop n) (ds.drop n)
  | _, _, 0, h => h
  | _, _, n + 1, .nil => .nil
  | _, _, n + 1, .cons a b => DtAll.drop n b
theorem DtAll.app : ∀ {vs us : List V} {ds es : List PyData}, DtAll ok H vs ds → DtAll ok H us es → DtAll ok H (vs ++ us) (ds ++ es)
  | _, _, _, _, .nil, y => y
  | _, _, _, _, .cons a b, y => .cons a (DtAll.app b y)
theorem DtAll.at {vs : List V} {ds : List PyData} {r : Int} (h : DtAll ok H vs ds) (h0 : 0 ≤ r) (h1 : r < ds.length) : ∃ v d, atI vs r = some v ∧ ds[r.toNat]? = some d ∧ Dt ok H v d := by
  have hl := h.len
  have hn : r.toNat < vs.length := by omega
  obtain ⟨d, hd, hv⟩ := h.getV (List.getElem?_eq_getElem hn)
  exact ⟨_, d, at_of (j := r.toNat) (by omega) (List.getElem?_eq_getElem hn), hd, hv⟩
end
theorem cut_hi {xs : List V} {k : Nat} (h : k ≤ xs.length) : cutV xs none (some (k : Int)) = xs.take k := by
  unfold cutV
  rw [HT.sIx_none, HT.sIx_nat, List.drop_zero, Nat.sub_zero, Nat.min_eq_left h]
theorem cut_lo {xs : List V} {k : Nat} (h : k ≤ xs.length) : cutV xs (some (k : Int)) none = xs.drop k := by
  unfold cutV
  rw [HT.sIx_nat, HT.sIx_none, Nat.min_eq_left h, List.take_of_length_le (by rw [List.length_drop]; omega)]
theorem cut_m1 {xs : List V} : cutV xs none (some (-1)) = xs.take (xs.length - 1) := by
  have h : HT.sIx xs.length xs.length (some (-1)) = xs.length - 1 := by
    show (if (-1 : Int) < 0 then ((-1 : Int) + (xs.length : Int)).toNat else min (-1 : Int).toNat xs.length) = xs.length - 1
    rw [if_pos (by decide)]
    omega
  unfold cutV
  rw [HT.sIx_none, h, List.drop_zero, Nat.sub_zero]
theorem cut_whole {xs : List V} {lo hi : Option Int} (h : HT.sIx xs.length 0 lo = 0 ∧ HT.sIx xs.length xs.length hi = xs.length) : cutV xs lo hi = xs := by
  unfold cutV
  rw [h.1, h.2, List.drop_zero, Nat.sub_zero, List.take_length]
theorem slA {K : PySem.W.Frag} {H : Hp} {a : Addr} {xs : List V} {lo hi : Option Int} {Q : VK} (hx : H a = some (.tup xs))
    (q : ∀ t H', Same H H' → H' t = some (.tup (cutV xs lo hi)) → (t = a ∨ H t = none) → Q (.ref t) H') : rSlA K (.ref a) lo hi H Q :=
  ⟨a, xs, rfl, SqT.of hx, fun hw => q a H (Same.refl _) (by rw [cut_whole hw]; exact hx) (.inl rfl), fun _ p hp => q p _ (same_new hp) upd_same (.inr hp)⟩
theorem catA {K : PySem.W.Frag} {H : Hp} {a b : Addr} {xs ys : List V} {Q : VK} (ha : H a = some (.tup xs)) (hb : H b = some (.tup ys)) (hz : xs.length + ys.length ≤ 3000)
    (q : ∀ t H', Same H H' → H' t = some (.tup (xs ++ ys)) → (t = a ∨ t = b ∨ H t = none) → Q (.ref t) H') : rCatA K (.ref a) (.ref b) H Q :=
  ⟨a, b, xs, ys, rfl, rfl, SqT.of ha, SqT.of hb, Nat.le_trans hz (by decide), fun e => q b H (Same.refl _) (by rw [e]; exact hb) (.inr (.inl rfl)), fun _ e => q a H (Same.refl _) (by rw [e, List.append_nil]; exact ha) (.inl rfl),
    fun _ _ p hp => q p _ (same_new hp) upd_same (.inr (.inr hp))⟩

def revS (z : Str) : Str := ⟨z.cps.toList.reverse.toArray⟩
def tRevS (te : TE) : TE := fun σ H Q => te σ H fun x H1 => ∃ z : Str, x = .str z ∧ z.length ≤ sizeLine ∧ Q (.str (revS z)) H1
theorem pe_revS {X : Cx} {e : PySem.Expr} {te : TE} {k : Nat} {p1 p2 p3 pos : Pos} (he : PE X e te) : PE X (.Subscript e (.Slice none none (some (.UnaryOp .USub (.Constant (.int 1) k p1) p2)) p3) pos) (tRevS te) := by
  refine ⟨fun pins s σ H Q I h => ?_⟩
  refine Subscript_ (thn (he.run pins s σ H _ I h) fun v s1 ⟨x, H1, I1, r1, z, ex, hz, q⟩ => ?_)
  subst ex
  obtain ⟨t, rfl⟩ := r1
  have step : PO X (some (.UnaryOp .USub (.Constant (.int 1) k p1) p2)) (tPart (tUn (rU fun i => .int (-i)) (tC (.int 1)))) := po_some (pe_un un_neg pe_int)
  refine wpAny_Slice (thn (po_none.run pins s1 σ H1 (fun o H2 => o = none ∧ H2 = H1) I1 ⟨rfl, rfl⟩) fun v1 s2 ⟨o1, H2, I2, g1, f1, f2⟩ => ?_)
  subst f1 f2
  refine thn (po_none.run pins s2 σ H2 (fun o H3 => o = none ∧ H3 = H2) I2 ⟨rfl, rfl⟩) fun v2 s3 ⟨o2, H3, I3, g2, f3, f4⟩ => ?_
  subst f3 f4
  refine thn (step.run pins s3 σ H3 (fun o H4 => o = some (-1) ∧ H4 = H3) I3 ⟨1, rfl, -1, rfl, rfl, rfl⟩) fun v3 s4 ⟨o3, H4, I4, g3, f5, f6⟩ => ?_
  subst f5 f6
  obtain ⟨l, rfl, el⟩ := IsPart.raw g1
  obtain ⟨u, rfl, eu⟩ := IsPart.raw g2
  obtain ⟨st, rfl, es⟩ := IsPart.raw g3
  have I5 : Inv X pins σ H4 { s4 with heap := s4.heap.push { cls := .type "slice", data := .fields #[partValue l, partValue u, partValue st] } } := I4.kept (t' := s4.toks) fun b ob q => Heap.get?_push_of_some _ q
  show wpAny (model X.prog X.w) X.A (subscriptTail e (.Slice none none (some (.UnaryOp .USub (.Constant (.int 1) k p1) p2)) p3) (.str z t) (.ref s4.heap.objs.size)) (EP X pins σ Q) X.xe { s4 with heap := s4.heap.push { cls := .type "slice", data := .fields #[partValue l, partValue u, partValue st] } }
  refine tail_any (ops := [.str z t, .ref s4.heap.objs.size]) (typeIs_str _ _ _) PySem.F.slot_str_getitem.lookup ?_ (by with_unfolding_all rfl)
  refine wpAny_getItem_str_slice (l := l) (u := u) (st := st) ⟨_, Heap.get?_push_size _ rfl, rfl, rfl⟩ (by rw [es]; rfl) ?_
  have ep : slicePicked z l u st = (List.range z.length).reverse := by
    unfold slicePicked
    rw [el, eu, es]
    show Builtin.Str.strSliceIndices none none (-1) z.length = _
    rw [PyProof.Rows.picked_rev, PySem.W.krv_range]
  have em : sliceMade z t l u st = .str (revS z) := by
    unfold sliceMade
    rw [es, ep, if_neg (by simp), List.filterMap_reverse]
    have e : (List.range z.length).filterMap (z.cps[·]?) = z.cps.toList := PySem.W.krv_all z.cps
    rw [e]
    rfl
  rw [em]
  have hl : (revS z).length ≤ sizeLine := by
    show (z.cps.toList.reverse.toArray).size ≤ sizeLine
    rw [List.size_toArray, List.length_reverse, Array.length_toList]
    exact hz
  exact ⟨hl, .str _, H4, I5.tok _, ⟨_, rfl⟩, q⟩

def IteS (x : Str) : It := ⟨fun i _ => i < x.cps.size, fun i H v H' => ∃ (T : Addr) (c : Nat), v = .ref T ∧ H T = none ∧ H' = upd H T (.tup [.int (i : Nat), .str (ch c)]) ∧ x.cps[i]? = some c, fun i _ => x.cps.size = i⟩
theorem drawsS {prog : Program} {w : World} {A : Around} (hh : A.handled = none) (it : Addr) (x : Str) (t : Tok) :
    Draws prog w A it [it] x.cps.size (fun i v => ∃ c u, x.cps[i]? = some c ∧ v = .str ⟨#[c]⟩ u) (fun i h => h.IsStrIter it (strIterType x) x t i) := by
  unfold strIterType
  split
  · exact Draws.strAscii hh it x t
  · exact Draws.strWide hh it x t
theorem turn_enumS {P : Program} {w : World} {K : PySem.W.Frag} {elts : List PySem.Expr} {kk : Nat} {tpos : Pos} (x : Str) (t : Tok) (en it : Addr) :
    Turn P w K (.Tuple elts kk tpos) (IteS x) [en, it] en (fun i h => (∃ old, IsEnum h en it ((i : Nat) : Int) old) ∧ h.IsStrIter it (strIterType x) x t i ∧ en ≠ it) where
  mem := by simp
  obj := fun i h st b hb => by
    obtain ⟨⟨old, h1⟩, ⟨o, ho, _, hd⟩, _⟩ := st
    rcases (by simpa using hb : b = en ∨ b = it) with z | z
    · subst z; exact ⟨_, h1, fun v q => nomatch q⟩
    · subst z; exact ⟨o, ho, fun v q => by rw [hd] at q; cases q⟩
  keep := fun i h h' st k => by
    obtain ⟨⟨old, h1⟩, ⟨o, ho, r⟩, ne⟩ := st
    exact ⟨⟨old, k en (by simp) _ h1⟩, ⟨o, k it (by simp) _ ho, r⟩, ne⟩
  item := by
    intro X e1 e2 e3 hc i pins s σ H E I hf st hg
    subst e1 e2 e3
    obtain ⟨⟨old, h1⟩, h2, ne⟩ := st
    have D := drawsS (prog := X.prog) (w := X.w) (A := X.A.in1) (I.ok.hd hc) it x t
    have hel : en < s.heap.objs.size := Heap.lt_size h1
    have hil : it < s.heap.objs.size := by obtain ⟨_, q⟩ := D.live _ _ h2; exact Heap.lt_size q
    refine wpAny_pyNext_enum_itemD D h1 h2 hg ne (fun z => ne (List.mem_singleton.mp z)) fun u h' tk hP ho hit' hT hsz hk => ?_
    obtain ⟨c, tu, hcx, rfl⟩ := hP
    refine ⟨_, rfl, wpAny_letOwnedTupleGo_enum (s := { s with heap := h', toks := tk + 1 }) ho fun h'' he' sb => ?_⟩
    have hT2 : h''.get? s.heap.objs.size = some { cls := .type "tuple", data := .seq #[.int i tk, .str ⟨#[c]⟩ tu] } := (sb.2 _ (Nat.ne_of_gt hel)).trans hT
    have nw : ObjOk X.prog X.w (upd H s.heap.objs.size (.tup [.int (i : Nat), .str (ch c)])) h'' s.heap.objs.size (.tup [.int (i : Nat), .str (ch c)]) :=
      ⟨(show 2 ≤ sizeLine by decide), [.int i tk, .str ⟨#[c]⟩ tu], .cons ⟨_, rfl⟩ (.cons ⟨_, rfl⟩ .nil), _, hT2, rfl, _, rfl⟩
    have I1 : Inv X pins σ (upd H s.heap.objs.size (.tup [.int (i : Nat), .str (ch c)])) { s with heap := h'', toks := tk + 1 } :=
      I.turnedNew (ch := [en, it]) (fun b ob hb q => (sb.2 b (fun z => hb (by simp [z]))).trans (hk b ob (fun z => hb (by simp [z])) (fun z => hb (by simp [z])) q)) hf (Nat.le_refl _) nw
    refine ⟨.ref s.heap.objs.size, _, I1, rfl, ⟨_, c, rfl, I.hok.fresh (Nat.le_refl _), rfl, hcx⟩, ⟨⟨.str ⟨#[c]⟩ tu, ?_⟩, D.frame (i + 1) h' h'' hit' (fun b hb o q => (sb.2 b (fun z => ne (by rw [← z]; exact List.mem_singleton.mp hb))).trans q), ne⟩, fun b hb => ?_⟩
    · have e9 : ((i + 1 : Nat) : Int) = (i : Int) + 1 := by omega
      rw [e9]; exact he'
    · have hb' : b < s.heap.objs.size := by
        rcases (by simpa using hb : b = en ∨ b = it) with z | z
        · rw [z]; exact hel
        · rw [z]; exact hil
      rw [upd_ne (Nat.ne_of_lt hb')]
      exact (hf b hb).1
  done := by
    intro X e1 e2 e3 hc i pins s σ H E I hf st hg
    subst e1 e2 e3
    obtain ⟨⟨old, h1⟩, h2, ne⟩ := st
    obtain ⟨f0, f1, f2, f3, f4, f5⟩ := hf it (by simp)
    have D := drawsS (prog := X.prog) (w := X.w) (A := X.A.in1) (I.ok.hd hc) it x t
    have hg' : x.cps.size = i := hg
    subst hg'
    exact wpAny_pyNext_enum_endD D h1 h2 fun h' eb => ⟨rfl, I.turned (t' := s.toks) (fun b o hb q => eb b o hb q) f0 f1 f3 f4 f5⟩
  self := fun A i s Q E st h => let ⟨⟨_, h1⟩, _⟩ := st; wpAny_pyIter_enum h1 h
def iEnumS (ta : TA) : TI := fun σ H R => ta σ H fun vs H1 => ∃ x, vs = [.str x] ∧ R (IteS x) H1
theorem pi_enumS {X : Cx} {e : PySem.Expr} {ta : TA} {p pos tpos : Pos} {elts : List PySem.Expr} {kk : Nat} (hg : Gl X "enumerate") (hm : X.mg "enumerate" = none) (ha : PA X [e] ta) (hs : starEach [e] X.env = [(false, eval e X.env)] := by rfl) :
    PI X (.Tuple elts kk tpos) (.Call (.Name "enumerate" p) [e] [] pos) (iEnumS ta) := by
  refine ⟨fun pins s σ H R I h => ?_⟩
  refine Call_ (ld_blt I hg hm boot_enumerate (PyProof.Rows.callWith_type1 (thn (ha.run pos pins s σ H _ I h) fun us s1 ⟨vs, H1, I1, r1, q1⟩ => ?_) hs rfl))
  obtain ⟨x, ex, q⟩ := q1
  subst ex
  obtain ⟨u, rfl, ru⟩ := r1.one
  obtain ⟨t, rfl⟩ := ru
  refine call_enumerate_str fun h' he hit hsz hk => wpAny_pyIter_enum he ?_
  have I2 : Inv X pins σ H1 { s1 with heap := h' } := I1.kept (t' := s1.toks) hk
  refine ⟨s1.heap.objs.size + 1, [s1.heap.objs.size + 1, s1.heap.objs.size], _, _, H1, rfl, I2, turn_enumS x t (s1.heap.objs.size + 1) s1.heap.objs.size, ⟨⟨.none, he⟩, hit, Nat.succ_ne_self _⟩, fun b hb => ?_, q⟩
  have hle : s1.heap.objs.size ≤ b := by
    rcases (by simpa using hb : b = s1.heap.objs.size + 1 ∨ b = s1.heap.objs.size) with z | z
    · rw [z]; exact Nat.le_add_right _ _
    · rw [z]; exact Nat.le_refl _
  exact I1.fpOk hle (I1.hok.fresh hle)
theorem walk_enumS {x : Str} : Walk (IteS x) x.cps.size (fun _ => True) (fun i H v H' => ∃ (T : Addr) (c : Nat), v = .ref T ∧ H T = none ∧ H' = upd H T (.tup [.int (i : Nat), .str (ch c)]) ∧ x.cps[i]? = some c) :=
  ⟨fun _ _ hi _ => hi, fun _ _ => rfl, fun _ _ _ _ _ _ y => y⟩


theorem roomP {k : Nat} {A : Around} (r : Room k A) : A.units + 12 < cLine := by have := r.un; omega
def IxF (L : Str) : Prop := (L.cps.toList.zipIdx.all fun x => decide ((Builtin.Str.occurrences L (ch x.1) 0 L.length 1).head? = some x.2)) = true
def sp__law_letters : Sp := fun vs H Q _ => ∃ p : Addr, vs = [.ref p] ∧ Dn H p ∧ ∀ L H', Lets L → Rises L → L.length ≤ 26 → IxF L → Fr p H H' → Dn H' p → Q (.str L) H'
def sp__law_classes : Sp := fun vs H Q _ => ∃ (n k : Nat), vs = [nI n, nI k] ∧ n ≤ 6 ∧ 1 ≤ k ∧ k ≤ 20 ∧ k ^ n ≤ 600 ∧ ∀ r as H', Same H H' → H r = none → H' r = some (.lst (as.map V.ref)) → RowsAt H' as (rowsTo n k) → Q (.ref r) H'
def sp__law_room : Sp := fun vs H Q _ => ∃ (L : Str) (n k : Nat), vs = [.str L, nI n, nI k] ∧ L.length ≤ 26 ∧ n ≤ 6 ∧ k ≤ 20 ∧ Q (nI (L.length * k ^ n)) H
section
variable {P : Program} {w : World} {K : PySem.W.Frag} {mg : Str → Option Value} {base : Heap}
theorem ok__law_letters (T : Txt K mg) : FnOk P w K mg base CX0 3 T.f__law_letters T.d__law_letters ["deck"] sp__law_letters := by
  have G__law_next : FnOk P w K mg base CX0 2 T.f__law_next T.d__law_next ["deck"] sp__law_next := ok__law_next T
  refine T.F__law_letters.ok sc__law_letters (fun vs H Q E h => ?_) (fun cdv A outer s H vs Q E hr h => ?_)
  · obtain ⟨p, rfl, _⟩ := h
    rfl
  obtain ⟨p, rfl, hp, q⟩ := h
  refine ⟨_, (pss_one (ps_ret (pe_ix ix_list (pe_lst (pa_cons pe_str (pa_cons pe_str (pa_cons pe_str (pa_cons pe_str (pa_cons pe_str (pa_cons pe_str (pa_cons pe_str pa_nil)))))))) (pe_op op_mod (pe_call G__law_next (hr.mono (by omega)) (by rfl) T.m__law_next T.F__law_next.kp T.b__law_next .nil pass0 (pa_cons (pv 0) pa_nil)) pe_int) (fun _ _ => rfl)))), ?_⟩
  refine ⟨(by show 7 ≤ sizeLine; decide), fun l hl => ?_⟩
  have sl := same_new hl (o := .lst [V.str (Str.ofString "a"), V.str (Str.ofString "ab"), V.str (Str.ofString "xyz"), V.str (Str.ofString "bq"), V.str (Str.ofString "abcd"), V.str (Str.ofString "kmpqrst"), V.str (Str.ofString "abcdefghijklmnopqrstuvwxyz")])
  refine ⟨_, rfl, p, rfl, hp.keep sl, fun x H2 x0 x1 f2 d2 => ⟨_, _, rfl, rfl, (by show (0 : Int) < 7; decide), ?_⟩⟩
  have hl2 := f2 l _ (hp.ne hl) upd_same
  have r0 : 0 ≤ x % 7 := Int.emod_nonneg _ (by decide)
  have r1 : x % 7 < 7 := Int.emod_lt_of_pos _ (by decide)
  obtain ⟨L, hm, a1, a2, a3, a4⟩ : ∃ L : Str, atI [V.str (Str.ofString "a"), V.str (Str.ofString "ab"), V.str (Str.ofString "xyz"), V.str (Str.ofString "bq"), V.str (Str.ofString "abcd"), V.str (Str.ofString "kmpqrst"), V.str (Str.ofString "abcdefghijklmnopqrstuvwxyz")] (x % 7) = some (V.str L) ∧ Lets L ∧ Rises L ∧ L.length ≤ 26 ∧ IxF L := by
    rcases (by omega : x % 7 = 0 ∨ x % 7 = 1 ∨ x % 7 = 2 ∨ x % 7 = 3 ∨ x % 7 = 4 ∨ x % 7 = 5 ∨ x % 7 = 6) with e | e | e | e | e | e | e <;> rw [e]
    · exact ⟨_, at_of (j := 0) rfl rfl, by unfold Lets; decide +kernel, by unfold Rises; decide +kernel, by decide +kernel, by unfold IxF; decide +kernel⟩
    · exact ⟨_, at_of (j := 1) rfl rfl, by unfold Lets; decide +kernel, by unfold Rises; decide +kernel, by decide +kernel, by unfold IxF; decide +kernel⟩
    · exact ⟨_, at_of (j := 2) rfl rfl, by unfold Lets; decide +kernel, by unfold Rises; decide +kernel, by decide +kernel, by unfold IxF; decide +kernel⟩
    · exact ⟨_, at_of (j := 3) rfl rfl, by unfold Lets; decide +kernel, by unfold Rises; decide +kernel, by decide +kernel, by unfold IxF; decide +kernel⟩
    · exact ⟨_, at_of (j := 4) rfl rfl, by unfold Lets; decide +kernel, by unfold Rises; decide +kernel, by decide +kernel, by unfold IxF; decide +kernel⟩
    · exact ⟨_, at_of (j := 5) rfl rfl, by unfold Lets; decide +kernel, by unfold Rises; decide +kernel, by decide +kernel, by unfold IxF; decide +kernel⟩
    · exact ⟨_, at_of (j := 6) rfl rfl, by unfold Lets; decide +kernel, by unfold Rises; decide +kernel, by decide +kernel, by unfold IxF; decide +kernel⟩
  exact ⟨l, _, x % 7, V.str L, rfl, rfl, SqL.of hl2, hm, q L H2 a1 a2 a3 a4 ((Fr.same sl).trans f2) d2⟩
theorem ok__law_room (T : Txt K mg) : FnOk P w K mg base CX0 1 T.f__law_room T.d__law_room ["letters", "states", "many"] sp__law_room := by
  refine T.F__law_room.ok sc__law_room (fun vs H Q E h => ?_) (fun cdv A outer s H vs Q E hr h => ?_)
  · obtain ⟨L, n, k, rfl, _⟩ := h
    rfl
  obtain ⟨L, n, k, rfl, l26, n6, k20, q⟩ := h
  refine ⟨_, (pss_cons (ps_set (i := 3) sc__law_room.nd rfl (Or.inl rfl) (pe_callB call_len_str (by rfl) T.z_len PySem.boot_len (pa_cons (pv 0) pa_nil))) (pss_cons (ps_for PassesOwn.never rfl (pi_range1 (by rfl) T.z_range (pa_cons (pv 1) pa_nil)) (pg_name (i := 4) sc__law_room.nd rfl (Or.inl rfl)) (pss_one (ps_set (i := 3) sc__law_room.nd rfl (Or.inl rfl) (pe_op op_mul (pv 3) (pv 2))))) (pss_one (ps_ret (pv 3))))), ?_⟩
  refine ⟨_, rfl, L, rfl, Nat.le_trans l26 (by decide), ?_⟩
  refine ⟨_, rfl, n, rfl, by omega, by omega, for_range (lo := 0) (n := n) (fun i σ H' => (∃ (f : Int) (y4 : Option V), f = ((L.length * k ^ i : Nat) : Int) ∧ σ = [some (.str L), some (nI n), some (nI k), some (.int f), y4]) ∧ H' = H) ⟨⟨_, _, by rw [Nat.pow_zero, Nat.mul_one], rfl⟩, rfl⟩ ?_ ?_⟩
  · rintro i σ H2 hi ⟨⟨f, y4, rfl, rfl⟩, rfl⟩
    refine ⟨_, rfl, _, rfl, _, _, rfl, rfl, .inr ⟨by omega, by omega⟩, ⟨_, _, ?_, rfl⟩, rfl⟩
    rw [Nat.pow_succ, ← Nat.mul_assoc]
    push_cast
    rfl
  · rintro σ H2 ⟨⟨f, y4, rfl, rfl⟩, rfl⟩
    exact ⟨_, rfl, q⟩
theorem ok__law_classes (T : Txt K mg) : FnOk P w K mg base CX0 1 T.f__law_classes T.d__law_classes ["states", "many"] sp__law_classes := by
  refine T.F__law_classes.ok sc__law_classes (fun vs H Q E h => ?_) (fun cdv A outer s H vs Q E hr h => ?_)
  · obtain ⟨n, k, rfl, _⟩ := h
    rfl
  obtain ⟨n, k, rfl, n6, k1, k20, h600, q⟩ := h
  refine ⟨_, (pss_cons (ps_set (i := 2) sc__law_classes.nd rfl (Or.inl rfl) (pe_lst (pa_cons (pe_tup pa_nil) pa_nil))) (pss_cons (ps_for PassesOwn.never rfl (pi_range1 (by rfl) T.z_range (pa_cons (pv 0) pa_nil)) (pg_name (i := 3) sc__law_classes.nd rfl (Or.inl rfl)) (pss_cons (ps_set (i := 4) sc__law_classes.nd rfl (Or.inl rfl) (pe_lst pa_nil)) (pss_cons (ps_for PassesOwn.never rfl (pi_list (pv 2)) (pg_name (i := 5) sc__law_classes.nd rfl (Or.inr rfl)) (pss_one (ps_expr (pe_bm PySem.F.plainAttrs_list PySem.F.slot_list_extend PySem.F.type_list_extend mt_extend (pv 4) (pa_cons (pe_lc (own := [("c", 6)]) (g := gName 6) (te := tOp (rCatA K) (tVar 5) (tTup (tCons (tVar 6) tNil))) (tt := tYes) rfl sc__law_classes.nd (pi_range1 (by rfl) T.z_range (pa_cons (pv 1) pa_nil)) (blkOk_by (own := [("c", 6)]) (N := ["states", "many", "found", "state", "longer", "classes", "c"]) (sc := (defScope s__law_classes)) (by decide +kernel)) (fun _ _ _ _ _ => (pg_name (i := 6) sc__law_classes.nd rfl (Or.inl rfl))) (fun _ _ _ _ _ => pts_nil) (fun _ _ _ _ _ => (pe_op op_catA (pv 5) (pe_tup (pa_cons (pv 6) pa_nil))))) pa_nil))))) (pss_one (ps_set (i := 2) sc__law_classes.nd rfl (Or.inl rfl) (pv 4)))))) (pss_one (ps_ret (pv 2))))), ?_⟩
  refine ⟨(by show 0 ≤ sizeLine; decide), fun p0 hp0 => ⟨(by show 1 ≤ sizeLine; decide), fun r0 hr0 => ?_⟩⟩
  have s0 := (same_new (o := .tup []) hp0).trans (same_new (o := .lst [V.ref p0]) hr0)
  have kp0 := same_new (o := .lst [V.ref p0]) hr0 _ _ (upd_same (H := H) (a := p0) (o := .tup []))
  have kr0 := upd_same (H := upd H p0 (.tup [])) (a := r0) (o := .lst [V.ref p0])
  have nr0 : H r0 = none := (same_new (o := .tup []) hp0).free hr0
  generalize upd (upd H p0 (.tup [])) r0 (.lst [V.ref p0]) = H2 at *
  refine ⟨_, rfl, n, rfl, by omega, by omega, for_range (lo := 0) (n := n) (fun i σ H' => ∃ (r : Addr) (as : List Addr) (y3 y4 y5 : Option V), σ = [some (nI n), some (nI k), some (.ref r), y3, y4, y5, none] ∧ H' r = some (.lst (as.map V.ref)) ∧ RowsAt H' as (rowsTo i k) ∧ Same H H' ∧ H r = none) ⟨r0, [p0], none, none, none, rfl, kr0, .cons kp0 .nil, s0, nr0⟩ ?_ ?_⟩
  · rintro i σ H3 hi ⟨r, as, y3, y4, y5, rfl, hr3, ha3, s3, nr⟩
    have la : as.length = k ^ i := by rw [Paired.length ha3, rowsTo_len]
    have pw : k ^ i ≤ 600 := Nat.le_trans (Nat.pow_le_pow_right k1 (by omega)) h600
    refine ⟨(by show 0 ≤ sizeLine; decide), fun f0 hf0 => ?_⟩
    have s4 := same_new (o := .lst []) hf0
    have kf0 := upd_same (H := H3) (a := f0) (o := .lst [])
    generalize upd H3 f0 (.lst []) = H4 at *
    refine ⟨_, rfl, r, rfl, ⟨_, SqL.of (s4 _ _ hr3)⟩, for_list (xs := as.map V.ref) (fun j σ H' => ∃ (bs : List Addr) (y5 : Option V), σ = [some (nI n), some (nI k), some (.ref r), some (.int (0 + i)), some (.ref f0), y5, none] ∧ H' f0 = some (.lst (bs.map V.ref)) ∧ RowsAt H' bs (((rowsTo i k).take j).flatMap fun r => (List.range k).map fun x => r ++ [x]) ∧ Same H3 H') ⟨[], _, rfl, kf0, .nil, s4⟩ (fun j σ H' _ ⟨_, _, _, _, _, s5⟩ => SqL.of (s5 _ _ hr3)) ?_ ?_⟩
    · rintro j x σ H5 hx ⟨bs, y5, rfl, hf5, hb5, s5⟩
      rw [List.getElem?_map] at hx
      cases haj : as[j]? with
      | none => rw [haj] at hx; cases hx
      | some aj =>
      rw [haj] at hx
      cases hx
      obtain ⟨row, hrow, kaj⟩ := prd_at ha3 haj
      have kaj5 := s5 _ _ kaj
      have hj := (List.getElem?_eq_some_iff.mp haj).1
      have lb := Paired.length hb5
      rw [ext_len, List.length_take, rowsTo_len] at lb
      have lb2 : bs.length ≤ 600 * 20 := by rw [lb]; exact Nat.mul_le_mul (Nat.le_trans (Nat.min_le_right _ _) pw) k20
      refine ⟨_, rfl, .inl ⟨rfl, _, SqL.of hf5⟩, _, rfl, k, rfl, by omega, by omega, fun D hD => ?_⟩
      refine lc_range (lo := 0) (n := k) (fun m H6 => ∃ cs : List Addr, H6 D = some (.lst (cs.map V.ref)) ∧ RowsAt H6 cs ((List.range m).map fun x => row ++ [x]) ∧ Same H5 H6) ⟨[], upd_same, .nil, same_new hD⟩ ?_ ?_
      · rintro m H6 hm ⟨cs, g1, g2, g3⟩
        have lc := Paired.length g2
        rw [List.length_map, List.length_range] at lc
        refine ⟨rfl, _, rfl, _, rfl, (by show 1 ≤ sizeLine; decide), fun t ht => ?_⟩
        have st := same_new (o := .tup [V.int (0 + (m : Int))]) ht
        have hD6 : H5 D = none := hD
        refine catA (st _ _ (g3 _ _ kaj5)) upd_same (by rw [List.length_map, (rowsTo_mem (List.mem_of_getElem? hrow)).1, List.length_singleton]; omega) fun b H7 s7 kb nb => ?_
        have kD := s7 _ _ (st _ _ g1)
        have tk := upd_tup (o := .lst (cs.map V.ref ++ [V.ref b])) kD
        refine ⟨_, kD, ?_, cs ++ [b], ?_, ?_, same_add ((g3.trans st).trans s7) hD6⟩
        · rw [List.length_map, lc]
          exact Nat.lt_of_le_of_lt (show _ ≤ 1000000 by omega) (by decide)
        · rw [upd_same, List.map_append (l₂ := [b])]
          rfl
        · rw [List.range_succ, List.map_append (f := fun x => row ++ [x])]
          refine prd_app (((RowsAt.keep g2 fun b xs e => st _ _ e).keep fun b xs e => s7 _ _ e).keep tk) (.cons ?_ .nil)
          have e : row.map nI ++ [V.int (0 + (m : Int))] = (row ++ [m]).map nI := by rw [List.map_append, Int.zero_add]; rfl
          rw [← e]
          exact tk _ _ kb
      · rintro H6 ⟨cs, g1, g2, g3⟩
        have lc := Paired.length g2
        rw [List.length_map, List.length_range] at lc
        have kf6 := g3 _ _ hf5
        have tk := upd_tup (o := .lst (bs.map V.ref ++ cs.map V.ref)) kf6
        refine ⟨f0, D, _, _, rfl, rfl, kf6, g1, ?_, bs ++ cs, _, rfl, ?_, ?_, ?_⟩
        · rw [List.length_map, List.length_map]
          exact Nat.le_of_lt (Nat.lt_of_le_of_lt (show _ ≤ 1000000 by omega) (by decide))
        · rw [upd_same, List.map_append]
        · rw [flat_take _ hrow]
          exact prd_app ((hb5.keep fun b xs e => g3 _ _ e).keep tk) (RowsAt.keep g2 tk)
        · intro b o e
          rw [upd_ne (ne_of_none e hf0)]
          exact g3 _ _ (s5 _ _ e)
    · rintro σ H5 ⟨bs, y5, rfl, hf5, hb5, s5⟩
      rw [List.length_map, la, ← rowsTo_len k i, List.take_length] at hb5
      exact ⟨_, rfl, f0, bs, _, _, _, rfl, hf5, hb5, s3.trans s5, s3.free hf0⟩
  · rintro σ H3 ⟨r, as, y3, y4, y5, rfl, hr3, ha3, s3, nr⟩
    exact ⟨_, rfl, q r as H3 s3 nr hr3 ha3⟩
end

def sp__law_judge (P : Program) (w : World) : Sp := fun vs H Q _ => ∃ (p : Addr) (L : Str) (most room : Nat), vs = [.ref p, .str L, nI most, nI room] ∧ Dn H p ∧ Lets L ∧ Rises L ∧ 1 ≤ most ∧ most ≤ 6 ∧ L.length ≤ room ∧ room ≤ 600 ∧ ∀ v (J : JD) H', Fr p H H' → Dn H' p → J.L = L → J.ok → J.n ≤ most → L.length * (J.few + J.turn) ^ J.n ≤ room → J.good.Pairwise (· < ·) → JAtO P w (fun b => b ≠ p ∧ H b = none) H' v J → Q v H'
theorem pow_le_pow1 {a b n m : Nat} (h1 : 1 ≤ a) (h : a ≤ b) (hn : n ≤ m) : a ^ n ≤ b ^ m := Nat.le_trans (Nat.pow_le_pow_left h n) (Nat.pow_le_pow_right (by omega) hn)
section
variable {P : Program} {w : World} {K : PySem.W.Frag} {mg : Str → Option Value} {base : Heap}
theorem ok__law_judge (T : Txt K mg) : FnOk P w K mg base CX0 4 T.f__law_judge T.d__law_judge ["deck", "letters", "most", "room"] (sp__law_judge P w) := by
  have G__law_next : FnOk P w K mg base CX0 2 T.f__law_next T.d__law_next ["deck"] sp__law_next := ok__law_next T
  have G__law_stir : FnOk P w K mg base CX0 1 T.f__law_stir T.d__law_stir ["cell", "k"] sp__law_stir := ok__law_stir T
  have G__law_room : FnOk P w K mg base CX0 1 T.f__law_room T.d__law_room ["letters", "states", "many"] sp__law_room := ok__law_room T
  have G__law_classes : FnOk P w K mg base CX0 1 T.f__law_classes T.d__law_classes ["states", "many"] sp__law_classes := ok__law_classes T
  refine T.F__law_judge.ok sc__law_judge (fun vs H Q E h => ?_) (fun cdv A outer s H vs Q E hr h => ?_)
  · obtain ⟨p, L, most, room, rfl, _⟩ := h
    rfl
  obtain ⟨p, L, most, room, rfl, hp, hL, hri, m1, m6, hlr, hr6, q⟩ := h
  refine ⟨_, (pss_cons (ps_set (i := 4) sc__law_judge.nd rfl (Or.inl rfl) (pe_op op_add pe_int (pe_op op_mod (pe_call G__law_next (hr.mono (by omega)) (by rfl) T.m__law_next T.F__law_next.kp T.b__law_next .nil pass0 (pa_cons (pv 0) pa_nil)) (pv 2)))) (pss_cons (ps_set (i := 5) sc__law_judge.nd rfl (Or.inl rfl) (pe_op op_mod (pe_call G__law_next (hr.mono (by omega)) (by rfl) T.m__law_next T.F__law_next.kp T.b__law_next .nil pass0 (pa_cons (pv 0) pa_nil)) (pe_ix ix_list (pe_lst (pa_cons pe_int (pa_cons pe_int pa_nil))) (pe_op op_mod (pe_call G__law_next (hr.mono (by omega)) (by rfl) T.m__law_next T.F__law_next.kp T.b__law_next .nil pass0 (pa_cons (pv 0) pa_nil)) pe_int) (fun _ _ => rfl)))) (pss_cons (ps_set (i := 6) sc__law_judge.nd rfl (Or.inl rfl) (pe_op op_add pe_int (pe_op op_mod (pe_call G__law_next (hr.mono (by omega)) (by rfl) T.m__law_next T.F__law_next.kp T.b__law_next .nil pass0 (pa_cons (pv 0) pa_nil)) (pe_ix ix_list (pe_lst (pa_cons pe_int (pa_cons pe_int pa_nil))) (pe_op op_mod (pe_call G__law_next (hr.mono (by omega)) (by rfl) T.m__law_next T.F__law_next.kp T.b__law_next .nil pass0 (pa_cons (pv 0) pa_nil)) pe_int) (fun _ _ => rfl))))) (pss_cons (ps_while PassesOwn.never (pt_cmpR op_gt (pe_call G__law_room (hr.mono (by omega)) (by rfl) T.m__law_room T.F__law_room.kp T.b__law_room .nil pass0 (pa_cons (pv 1) (pa_cons (pv 4) (pa_cons (pe_op op_add (pv 5) (pv 6)) pa_nil)))) (pv 3) (nomark _)) (pss_one (ps_if (pt_cmpR op_gt (pv 4) pe_int (nomark _)) (pss_one (ps_set (i := 4) sc__law_judge.nd rfl (Or.inl rfl) (pe_op op_sub (pv 4) pe_int))) (pss_one (ps_if (pt_cmpR op_gt (pv 5) pe_int (nomark _)) (pss_one (ps_set (i := 5) sc__law_judge.nd rfl (Or.inl rfl) (pe_op op_sub (pv 5) pe_int))) (pss_one (ps_set (i := 6) sc__law_judge.nd rfl (Or.inl rfl) (pe_op op_sub (pv 6) pe_int)))))))) (pss_cons (ps_set (i := 7) sc__law_judge.nd rfl (Or.inl rfl) (pe_op op_mod (pe_call G__law_next (hr.mono (by omega)) (by rfl) T.m__law_next T.F__law_next.kp T.b__law_next .nil pass0 (pa_cons (pv 0) pa_nil)) pe_int)) (pss_cons (ps_set (i := 8) sc__law_judge.nd rfl (Or.inl rfl) (pe_call G__law_next (hr.mono (by omega)) (by rfl) T.m__law_next T.F__law_next.kp T.b__law_next .nil pass0 (pa_cons (pv 0) pa_nil))) (pss_cons (ps_setLc (i := 9) (own := [("state", 19)]) (g := gName 19) (tt := tYes) rfl sc__law_judge.nd rfl rfl (sw_true rfl rfl rfl (by decide +kernel)) (pi_range1 (by rfl) T.z_range (pa_cons (pv 4) pa_nil)) (blkOk_by (own := [("state", 19)]) (N := ["deck", "letters", "most", "room", "states", "few", "turn", "way", "seed", "weights", "table", "classes", "total", "k", "letter", "number", "key", "keys", "at", "state", "weight", "c"]) (sc := (defScope s__law_judge)) (by decide +kernel)) (fun _ _ _ _ _ => (pg_name (i := 19) sc__law_judge.nd rfl (Or.inl rfl))) (fun _ _ _ _ _ => pts_nil) (fun _ _ _ _ _ => (pe_op op_mod (pe_call G__law_next (hr.mono (by omega)) (by rfl) T.m__law_next T.F__law_next.kp T.b__law_next .nil pass0 (pa_cons (pv 0) pa_nil)) pe_int))) (pss_cons (ps_set (i := 10) sc__law_judge.nd rfl (Or.inr rfl) pe_dnewN) (pss_cons (ps_for PassesOwn.never rfl (pi_list (pe_call G__law_classes (hr.mono (by omega)) (by rfl) T.m__law_classes T.F__law_classes.kp T.b__law_classes .nil pass0 (pa_cons (pv 4) (pa_cons (pe_op op_add (pv 5) (pv 6)) pa_nil)))) (pg_name (i := 11) sc__law_judge.nd rfl (Or.inl rfl)) (pss_cons (ps_set (i := 12) sc__law_judge.nd rfl (Or.inl rfl) (pe_callB (cr_sum rfl) (by rfl) T.z_sum (by decide +kernel) (pa_cons (pe_lc (own := [("weight", 20), ("c", 21)]) (g := gTup K 2 (gCons (gName 20) (gCons (gName 21) gNil))) (tt := tYes) rfl sc__law_judge.nd (pi_zipM (by rfl) T.z_zip (pa_cons (pv 9) (pa_cons (pv 11) pa_nil))) (blkOk_by (own := [("weight", 20), ("c", 21)]) (N := ["deck", "letters", "most", "room", "states", "few", "turn", "way", "seed", "weights", "table", "classes", "total", "k", "letter", "number", "key", "keys", "at", "state", "weight", "c"]) (sc := (defScope s__law_judge)) (by decide +kernel)) (fun _ _ _ _ _ => (pg_tup rfl (pgs_cons (pg_name (i := 20) sc__law_judge.nd rfl (Or.inl rfl)) (pgs_cons (pg_name (i := 21) sc__law_judge.nd rfl (Or.inl rfl)) pgs_nil)))) (fun _ _ _ _ _ => pts_nil) (fun _ _ _ _ _ => (pe_op op_mul (pv 20) (pv 21)))) pa_nil))) (pss_one (ps_for PassesOwn.never rfl (pi_enumS (by rfl) T.z_enumerate (pa_cons (pv 1) pa_nil)) (pg_tup rfl (pgs_cons (pg_name (i := 13) sc__law_judge.nd rfl (Or.inl rfl)) (pgs_cons (pg_name (i := 14) sc__law_judge.nd rfl (Or.inl rfl)) pgs_nil))) (pss_cons (ps_set (i := 15) sc__law_judge.nd rfl (Or.inl rfl) (pe_call G__law_stir (hr.mono (by omega)) (by rfl) T.m__law_stir T.F__law_stir.kp T.b__law_stir .nil pass0 (pa_cons (pv 8) (pa_cons (pe_callB call_lenN (by rfl) T.z_len PySem.boot_len (pa_cons (pv 10) pa_nil)) pa_nil)))) (pss_one (ps_dputN (roomN hr) (pv 10) (pe_tup (pa_cons (pv 14) (pa_cons (pv 11) pa_nil))) (pe_op op_mod (pe_ix ix_list (pe_lst (pa_cons (pv 15) (pa_cons (pv 15) (pa_cons (pe_op op_add (pe_op op_add (pv 12) (pv 13)) (pv 8)) (pa_cons (pe_callB (call_min2 rfl) (by rfl) T.z_min (by decide +kernel) (pa_cons (pe_op op_add (pv 12) (pv 13)) (pa_cons pe_int pa_nil))) pa_nil))))) (pv 7) (fun _ _ => rfl)) (pv 4)) rfl))))))) (C8.pss_cut (ps_if (pt_cmpR op_lt (pe_callB call_lenN (by rfl) T.z_len PySem.boot_len (pa_cons (pv 10) pa_nil)) pe_int (nomark _)) (pss_one (ps_for PassesOwn.never rfl (pi_list (pe_callTy (call_listN rfl) (by rfl) T.z_list (by decide +kernel) (pa_cons (pv 10) pa_nil))) (pg_name (i := 16) sc__law_judge.nd rfl (Or.inl rfl)) (pss_one (ps_dputN (roomN hr) (pv 10) (pv 16) (pe_op op_mod (pe_op op_add (pe_dgetN (roomN hr) (pv 10) (pv 16) (fun _ _ => rfl)) (pe_call G__law_next (hr.mono (by omega)) (by rfl) T.m__law_next T.F__law_next.kp T.b__law_next .nil pass0 (pa_cons (pv 0) pa_nil))) (pv 4)) rfl)))) pss_nil) (pss_cons (ps_set (i := 17) sc__law_judge.nd rfl (Or.inl rfl) (pe_callTy (call_listN rfl) (by rfl) T.z_list (by decide +kernel) (pa_cons (pv 10) pa_nil))) (pss_cons (ps_set (i := 18) sc__law_judge.nd rfl (Or.inl rfl) (pe_op op_mod (pe_call G__law_next (hr.mono (by omega)) (by rfl) T.m__law_next T.F__law_next.kp T.b__law_next .nil pass0 (pa_cons (pv 0) pa_nil)) (pe_callB call_len_seq (by rfl) T.z_len PySem.boot_len (pa_cons (pv 17) pa_nil)))) (pss_cons (ps_set (i := 17) sc__law_judge.nd rfl (Or.inl rfl) (pe_stepL (pe_op op_cat (pe_slice sl_list (pv 17) (po_some (pv 18)) po_none) (pe_slice sl_list (pv 17) po_none (po_some (pv 18)))) (pe_ix ix_list (pe_lst (pa_cons pe_int (pa_cons (pe_un un_neg pe_int) pa_nil))) (pe_op op_mod (pe_call G__law_next (hr.mono (by omega)) (by rfl) T.m__law_next T.F__law_next.kp T.b__law_next .nil pass0 (pa_cons (pv 0) pa_nil)) pe_int) (fun _ _ => rfl)))) (pss_cons (ps_set (i := 10) sc__law_judge.nd rfl (Or.inr rfl) (pe_callTy (call_dictP rfl (roomP hr)) (by rfl) T.z_dict (by decide +kernel) (pa_cons (pe_lc (own := [("key", 16)]) (g := gName 16) (te := tTup (tCons (tVar 16) (tCons (tDGetN P w (tVar 10) (tVar 16)) tNil))) (tt := tYes) rfl sc__law_judge.nd (pi_list (pv 17)) (blkOk_by (own := [("key", 16)]) (N := ["deck", "letters", "most", "room", "states", "few", "turn", "way", "seed", "weights", "table", "classes", "total", "k", "letter", "number", "key", "keys", "at", "state", "weight", "c"]) (sc := (defScope s__law_judge)) (by decide +kernel)) (fun _ _ _ _ _ => (pg_name (i := 16) sc__law_judge.nd rfl (Or.inl rfl))) (fun _ _ _ _ _ => pts_nil) (fun _ _ _ _ _ => (pe_tup (pa_cons (pv 16) (pa_cons (pe_dgetN (roomN hr) (pv 10) (pv 16) (fun _ _ => rfl)) pa_nil))))) pa_nil))) (pss_one (ps_ret (pe_tup (pa_cons (pv 1) (pa_cons (pv 4) (pa_cons (pv 5) (pa_cons (pv 6) (pa_cons (pv 10) (pa_cons (pe_lc (own := [("state", 19)]) (g := gName 19) rfl sc__law_judge.nd (pi_range1 (by rfl) T.z_range (pa_cons (pv 4) pa_nil)) (blkOk_by (own := [("state", 19)]) (N := ["deck", "letters", "most", "room", "states", "few", "turn", "way", "seed", "weights", "table", "classes", "total", "k", "letter", "number", "key", "keys", "at", "state", "weight", "c"]) (sc := (defScope s__law_judge)) (by decide +kernel)) (fun _ _ _ _ _ => (pg_name (i := 19) sc__law_judge.nd rfl (Or.inl rfl))) (fun _ _ _ _ _ => pts_one (pt_cmpR op_eq (pe_op op_mod (pe_call G__law_next (hr.mono (by omega)) (by rfl) T.m__law_next T.F__law_next.kp T.b__law_next .nil pass0 (pa_cons (pv 0) pa_nil)) pe_int) pe_int (nomark _))) (fun _ _ _ _ _ => (pv 19))) pa_nil))))))))))))))))))))))), ?_⟩
  have l1 := hL.1
  refine ⟨_, rfl, p, rfl, hp, fun x H1 x0 x1 f1 D1 => ⟨_, rfl, x, (most : Int), rfl, rfl, by omega, 1, _, rfl, rfl, ?_⟩⟩
  have r0 : 0 ≤ x % (most : Int) := Int.emod_nonneg _ (by omega)
  have r1 : x % (most : Int) < (most : Int) := Int.emod_lt_of_pos _ (by omega)
  obtain ⟨n0, hn0, n01, n0m⟩ : ∃ n0 : Nat, 1 + x % (most : Int) = (n0 : Int) ∧ 1 ≤ n0 ∧ n0 ≤ most := ⟨(1 + x % (most : Int)).toNat, by omega, by omega, by omega⟩
  show gName 4 (.int (1 + x % (most : Int))) _ _ _
  rw [hn0]
  clear r0 r1 hn0 x0 x1
  refine ⟨_, rfl, p, rfl, D1, fun x H2 x0 x1 f2 D2 => ⟨(by show 2 ≤ sizeLine; decide), fun l hl => ?_⟩⟩
  have sl := same_new hl (o := .lst [V.int 3, V.int 5])
  refine ⟨_, rfl, p, rfl, D2.keep sl, fun y H3 y0 y1 f3 D3 => ⟨_, _, rfl, rfl, (by show (0 : Int) < 2; decide), ?_⟩⟩
  have hl3 := f3 l _ (D2.ne hl) upd_same
  obtain ⟨m, hm, m0, m5⟩ : ∃ m : Int, atI [V.int 3, V.int 5] (y % 2) = some (V.int m) ∧ 0 < m ∧ m ≤ 5 := by
    rcases (by omega : y % 2 = 0 ∨ y % 2 = 1) with e | e <;> rw [e]
    · exact ⟨3, at_of (j := 0) rfl rfl, by decide, by decide⟩
    · exact ⟨5, at_of (j := 1) rfl rfl, by decide, by decide⟩
  refine ⟨l, _, y % 2, V.int m, rfl, rfl, SqL.of hl3, hm, _, _, rfl, rfl, m0, ?_⟩
  have F3 : Fr p H1 H3 := (f2.trans (Fr.same sl)).trans f3
  have r0 : 0 ≤ x % m := Int.emod_nonneg _ (by omega)
  have r1 : x % m < m := Int.emod_lt_of_pos _ m0
  obtain ⟨few0, hf0, hf4⟩ : ∃ few0 : Nat, x % m = (few0 : Int) ∧ few0 ≤ 4 := ⟨(x % m).toNat, by omega, by omega⟩
  show gName 5 (.int (x % m)) _ _ _
  rw [hf0]
  clear r0 r1 hf0 x0 x1 hm m0 m5 y0 y1 hl3 D2 f2 f3 sl
  refine ⟨_, rfl, p, rfl, D3, fun x H4 x0 x1 f4 D4 => ⟨(by show 2 ≤ sizeLine; decide), fun l hl => ?_⟩⟩
  have sl := same_new hl (o := .lst [V.int 2, V.int 4])
  refine ⟨_, rfl, p, rfl, D4.keep sl, fun y H5 y0 y1 f5 D5 => ⟨_, _, rfl, rfl, (by show (0 : Int) < 2; decide), ?_⟩⟩
  have hl3 := f5 l _ (D4.ne hl) upd_same
  obtain ⟨m, hm, m0, m5⟩ : ∃ m : Int, atI [V.int 2, V.int 4] (y % 2) = some (V.int m) ∧ 0 < m ∧ m ≤ 4 := by
    rcases (by omega : y % 2 = 0 ∨ y % 2 = 1) with e | e <;> rw [e]
    · exact ⟨2, at_of (j := 0) rfl rfl, by decide, by decide⟩
    · exact ⟨4, at_of (j := 1) rfl rfl, by decide, by decide⟩
  refine ⟨l, _, y % 2, V.int m, rfl, rfl, SqL.of hl3, hm, _, _, rfl, rfl, m0, 1, _, rfl, rfl, ?_⟩
  have F5 : Fr p H H5 := ((f1.trans F3).trans ((f4.trans (Fr.same sl)).trans f5))
  have r0 : 0 ≤ x % m := Int.emod_nonneg _ (by omega)
  have r1 : x % m < m := Int.emod_lt_of_pos _ m0
  obtain ⟨turn0, ht0, ht1, ht4⟩ : ∃ turn0 : Nat, 1 + x % m = (turn0 : Int) ∧ 1 ≤ turn0 ∧ turn0 ≤ 4 := ⟨(1 + x % m).toNat, by omega, by omega, by omega⟩
  show gName 6 (.int (1 + x % m)) _ _ _
  rw [ht0]
  clear r0 r1 ht0 x0 x1 hm m0 m5 y0 y1 hl3 D4 f4 f5 sl F3 f1 D1
  refine ⟨fun m σ H' => ∃ (a b c : Int) (n few turn : Nat), a = (n : Int) ∧ b = (few : Int) ∧ c = (turn : Int) ∧ σ = [some (.ref p), some (.str L), some (nI most), some (nI room), some (.int a), some (.int b), some (.int c), none, none, none, none, none, none, none, none, none, none, none, none, none, none, none] ∧ 1 ≤ n ∧ n ≤ most ∧ few ≤ 4 ∧ 1 ≤ turn ∧ turn ≤ 4 ∧ m = n + few + turn ∧ H' = H5, ⟨_, _, _, _, n0, few0, turn0, rfl, rfl, rfl, rfl, n01, n0m, hf4, ht1, ht4, rfl, rfl⟩, ?_⟩
  rintro _ σ H6 ⟨_, _, _, n, few, turn, rfl, rfl, rfl, rfl, n1, nm, f4, t1, t4, rfl, rfl⟩
  refine ⟨_, rfl, _, rfl, _, rfl, _, rfl, _, _, rfl, rfl, L, n, few + turn, rfl, hL.2.1, by omega, by omega, ?_⟩
  refine ⟨_, rfl, _, _, rfl, rfl, _, rfl, ?_⟩
  by_cases big : room < L.length * (few + turn) ^ n
  · have next : ∀ (n2 few2 turn2 : Nat) (a b c : Int), a = (n2 : Int) → b = (few2 : Int) → c = (turn2 : Int) → 1 ≤ n2 → n2 ≤ n → few2 ≤ few → 1 ≤ turn2 → turn2 ≤ turn → n2 + few2 + turn2 < n + few + turn → ∃ m', m' < n + few + turn ∧ ∃ (a' b' c' : Int) (n few turn : Nat), a' = (n : Int) ∧ b' = (few : Int) ∧ c' = (turn : Int) ∧ [some (V.ref p), some (.str L), some (nI most), some (nI room), some (.int a), some (.int b), some (.int c), none, none, none, none, none, none, none, none, none, none, none, none, none, none, none] = [some (.ref p), some (.str L), some (nI most), some (nI room), some (.int a'), some (.int b'), some (.int c'), none, none, none, none, none, none, none, none, none, none, none, none, none, none, none] ∧ 1 ≤ n ∧ n ≤ most ∧ few ≤ 4 ∧ 1 ≤ turn ∧ turn ≤ 4 ∧ m' = n + few + turn ∧ H6 = H6 :=
      fun n2 few2 turn2 a b c ha hb hc h1 h2 h3 h4 h5 h6 => ⟨n2 + few2 + turn2, h6, a, b, c, n2, few2, turn2, ha, hb, hc, rfl, h1, by omega, by omega, h4, by omega, rfl, rfl⟩
    refine dT (by omega) ⟨fun σ2 H2 => ∃ m', m' < n + few + turn ∧ ∃ (a' b' c' : Int) (n few turn : Nat), a' = (n : Int) ∧ b' = (few : Int) ∧ c' = (turn : Int) ∧ σ2 = [some (.ref p), some (.str L), some (nI most), some (nI room), some (.int a'), some (.int b'), some (.int c'), none, none, none, none, none, none, none, none, none, none, none, none, none, none, none] ∧ 1 ≤ n ∧ n ≤ most ∧ few ≤ 4 ∧ 1 ≤ turn ∧ turn ≤ 4 ∧ m' = n + few + turn ∧ H2 = H6, fun σ2 H2 h => h, ?_⟩
    refine ⟨_, rfl, _, _, rfl, rfl, _, rfl, ?_⟩
    by_cases c1 : 1 < n
    · refine dT (by omega) ⟨_, rfl, _, _, rfl, rfl, ?_⟩
      exact next (n - 1) few turn _ _ _ (by omega) rfl rfl (by omega) (by omega) (by omega) (by omega) (by omega) (by omega)
    · refine dF (by omega) ⟨_, rfl, _, _, rfl, rfl, _, rfl, ?_⟩
      by_cases c2 : 0 < few
      · refine dT (by omega) ⟨_, rfl, _, _, rfl, rfl, ?_⟩
        exact next n (few - 1) turn _ _ _ rfl (by omega) rfl (by omega) (by omega) (by omega) (by omega) (by omega) (by omega)
      · have e1 : n = 1 := by omega
        have e2 : few = 0 := by omega
        have c3 : 2 ≤ turn := by
          rcases Nat.lt_or_ge turn 2 with z | z
          · have e3 : turn = 1 := by omega
            rw [e1, e2, e3] at big
            simp at big
            omega
          · exact z
        refine dF (by omega) ⟨_, rfl, _, _, rfl, rfl, ?_⟩
        exact next n few (turn - 1) _ _ _ rfl rfl (by omega) (by omega) (by omega) (by omega) (by omega) (by omega) (by omega)
  refine dF (by omega) ?_
  have hfit : L.length * (few + turn) ^ n ≤ room := by omega
  clear big n0 n01 n0m few0 hf4 turn0 ht1 ht4
  have k600 : (few + turn) ^ n ≤ 600 := Nat.le_trans (Nat.le_trans (Nat.le_mul_of_pos_left _ l1) hfit) hr6
  refine ⟨_, rfl, p, rfl, D5, fun x H7 x0 x1 f7 D7 => ⟨_, _, rfl, rfl, (by show (0 : Int) < 4; decide), ?_⟩⟩
  have w0 : 0 ≤ x % 4 := Int.emod_nonneg _ (by decide)
  have w1 : x % 4 < 4 := Int.emod_lt_of_pos _ (by decide)
  show gName 7 (.int (x % 4)) _ _ _
  generalize x % 4 = way at *
  clear x0 x1
  refine ⟨_, rfl, p, rfl, D7, fun seed H8 sd0 sd1 f8 D8 => ?_⟩
  refine ⟨_, rfl, n, rfl, by omega, by omega, fun D hD => ?_⟩
  have nD : D ≠ p := D8.ne hD
  refine lc_range (lo := 0) (n := n) (fun i H9 => ∃ ws : List Int, H9 D = some (.lst (ws.map V.int)) ∧ ws.length = i ∧ (∀ x ∈ ws, 0 ≤ x ∧ x < 3) ∧ Fr p H8 H9 ∧ Dn H9 p) ⟨[], upd_same, rfl, (fun _ h => by cases h), (Fr.refl p H8).new hD, D8.keep (same_new hD)⟩ ?_ ?_
  · rintro i H9 hi ⟨ws, g1, g2, g3, g4, g5⟩
    refine ⟨rfl, _, rfl, p, rfl, g5, fun x H10 x0 x1 f10 D10 => ⟨_, _, rfl, rfl, (by show (0 : Int) < 3; decide), _, f10 _ _ nD g1, ?_, ws ++ [x % 3], ?_, by rw [List.length_append, g2]; rfl, ?_, (g4.trans f10).new hD, D10.upd nD⟩⟩
    · rw [List.length_map]
      exact Nat.lt_of_le_of_lt (show _ ≤ 1000000 by omega) (by decide)
    · rw [upd_same, List.map_append]
      rfl
    · intro y hy
      rcases List.mem_append.mp hy with hy | hy
      · exact g3 y hy
      · rw [List.mem_singleton.mp hy]
        exact ⟨Int.emod_nonneg _ (by decide), Int.emod_lt_of_pos _ (by decide)⟩
  rintro H9 ⟨ws, gD, lw, hws, f9, D9⟩
  refine fun dl hdl => ?_
  have s10 := same_new hdl (o := DictN P w dl [])
  have kd0 := upd_same (H := H9) (a := dl) (o := DictN P w dl [])
  have F10 : Fr p H (upd H9 dl (DictN P w dl [])) := (((F5.trans f7).trans f8).trans f9).trans (Fr.same s10)
  have gD10 := s10 _ _ gD
  have D10 := D9.keep s10
  have ndl : dl ≠ p := D9.ne hdl
  have hdl0 : H dl = none := (((F5.trans f7).trans f8).trans f9).free D9.some hdl
  refine ⟨_, rfl, _, rfl, _, rfl, _, _, rfl, rfl, n, few + turn, rfl, by omega, by omega, by omega, k600, fun r as H11 s11 hr0 hr1 hrows => ?_⟩
  have s11 : Same (upd H9 dl (DictN P w dl [])) H11 := s11
  have hr0 : upd H9 dl (DictN P w dl []) r = none := hr0
  generalize upd H9 dl (DictN P w dl []) = H10 at *
  have la : as.length = (few + turn) ^ n := by rw [Paired.length hrows, rowsTo_len]
  have gD11 := s11 _ _ gD10
  have D11 := D10.keep s11
  have F11 := F10.trans (Fr.same s11)
  have nrp : r ≠ p := D10.ne hr0
  have ndr : dl ≠ r := ne_of_none kd0 hr0
  refine ⟨r, rfl, ⟨_, SqL.of hr1⟩, for_list (xs := as.map V.ref) (fun i σ H' => ∃ (xs : List NRow) (y11 y12 y13 y14 y15 : Option V), σ = [some (.ref p), some (.str L), some (nI most), some (nI room), some (nI n), some (nI few), some (nI turn), some (.int way), some (.int seed), some (.ref D), some (.ref dl), y11, y12, y13, y14, y15, none, none, none, none, none, none] ∧ H' dl = some (DictN P w dl xs) ∧ RowsN H' xs ∧ RowsB n xs (((rowsTo n (few + turn)).take i).flatMap fun r => L.cps.toList.map fun c => (c, r)) ∧ FrD dl H11 H') ⟨[], _, _, _, _, _, rfl, s11 _ _ kd0, (fun x h => by cases h), .nil, fun b o _ e => e⟩ (fun i σ H' _ ⟨_, _, _, _, _, _, _, _, _, _, f⟩ => SqL.of (f _ _ ndr.symm hr1)) ?_ ?_⟩
  · rintro i x σ H12 hx ⟨xs, y11, y12, y13, y14, y15, rfl, kd, krn, krb, fd⟩
    rw [List.getElem?_map] at hx
    cases haj : as[i]? with
    | none => rw [haj] at hx; cases hx
    | some aj =>
    rw [haj] at hx
    cases hx
    obtain ⟨row, hrow, kaj⟩ := prd_at hrows haj
    obtain ⟨hlen, hlt⟩ := rowsTo_mem (List.mem_of_getElem? hrow)
    have naj : aj ≠ dl := fun e => by rw [e, s11 _ _ kd0] at kaj; unfold DictN at kaj; cases kaj
    have nDd : D ≠ dl := fun e => by rw [e, s11 _ _ kd0] at gD11; unfold DictN at gD11; cases gD11
    have kaj2 := fd _ _ naj kaj
    have gD12 := fd _ _ nDd gD11
    have hi := (List.getElem?_eq_some_iff.mp haj).1
    have hwl : ws.length = row.length := by omega
    refine ⟨_, rfl, _, rfl, D, aj, _, _, rfl, SqL.of gD12, SqT.of kaj2, fun E hE => ?_⟩
    refine lc_zipM (xs := ws.map V.int) (ys := row.map nI) (by rw [List.length_map, List.length_map, hwl]) (fun j H' => ∃ ts : List Int, H' E = some (.lst (ts.map V.int)) ∧ ts.length = j ∧ Same H12 H') ⟨[], upd_same, rfl, same_new hE⟩ (fun j H' _ ⟨_, _, _, s⟩ => ⟨SqL.of (s _ _ gD12), SqT.of (s _ _ kaj2)⟩) ?_ ?_
    · rintro j x y Tt H13 hx hy ⟨ts, g1, g2, g3⟩ hT
      rw [List.getElem?_map] at hx hy
      cases hc : ws[j]? with
      | none => rw [hc] at hx; cases hx
      | some x1 =>
      cases hc2 : row[j]? with
      | none => rw [hc2] at hy; cases hy
      | some y1 =>
      rw [hc] at hx
      rw [hc2] at hy
      cases hx
      cases hy
      have hj := (List.getElem?_eq_some_iff.mp hc).1
      have b3 := hws x1 (List.mem_of_getElem? hc)
      have sT := same_new hT (o := .tup [V.int x1, nI y1])
      refine ⟨_, _, rfl, SqT.of upd_same, rfl, _, _, rfl, _, _, rfl, rfl, rfl, _, rfl, _, rfl, _, _, rfl, rfl, .inl ⟨by omega, by omega⟩, _, sT _ _ g1, ?_, ts ++ [x1 * (y1 : Int)], ?_, by rw [List.length_append, g2]; rfl, same_add (g3.trans sT) hE⟩
      · rw [List.length_map]
        exact Nat.lt_of_le_of_lt (show _ ≤ 1000000 by omega) (by decide)
      · rw [upd_same, List.map_append]
        rfl
    rintro H13 ⟨ts, g1, g2, g3⟩
    refine ⟨E, ts, rfl, .inl (.inl g1), ?_⟩
    have t1 : 1 ≤ few + turn := by omega
    have keysl : ∀ l : List (List Nat), (l.flatMap fun r => L.cps.toList.map fun c => (c, r)).length = l.length * L.cps.toList.length := by
      intro l
      induction l with
      | nil => simp
      | cons a t ih => rw [List.flatMap_cons, List.length_append, List.length_map, ih, List.length_cons, Nat.succ_mul, Nat.add_comm]
    have l26 : L.cps.toList.length ≤ 26 := by rw [Array.length_toList]; exact hL.2.1
    have total := keysl ((rowsTo n (few + turn)).take i)
    rw [List.length_take, rowsTo_len] at total
    have tb : min i ((few + turn) ^ n) * L.cps.toList.length ≤ 600 * 26 := Nat.mul_le_mul (Nat.le_trans (Nat.min_le_right _ _) k600) l26
    have fd13 : FrD dl H11 H13 := fun b o n e => g3 _ _ (fd b o n e)
    refine ⟨_, rfl, L, rfl, for_it (walk_enumS (x := L)) (fun j σ H' => ∃ (xs : List NRow) (y13 y14 y15 : Option V), σ = [some (.ref p), some (.str L), some (nI most), some (nI room), some (nI n), some (nI few), some (nI turn), some (.int way), some (.int seed), some (.ref D), some (.ref dl), some (.ref aj), some (.int ts.sum), y13, y14, y15, none, none, none, none, none, none] ∧ H' dl = some (DictN P w dl xs) ∧ RowsN H' xs ∧ RowsB n xs ((((rowsTo n (few + turn)).take i).flatMap fun r => L.cps.toList.map fun c => (c, r)) ++ (L.cps.toList.take j).map fun c => (c, row)) ∧ FrD dl H11 H') ⟨xs, _, _, _, rfl, g3 _ _ kd, krn.keep fun b ys e => g3 _ _ e, by simpa using krb, fd13⟩ (fun _ _ _ _ _ => trivial) ?_ ?_⟩
    · rintro j x σ H14 H15 hj ⟨xs, y13, y14, y15, rfl, kd, krn, krb, fd⟩ ⟨Tt, c, rfl, hT, rfl, hc⟩
      have hc2 : L.cps.toList[j]? = some c := by rw [Array.getElem?_toList]; exact hc
      have sT := same_new hT (o := .tup [.int (j : Nat), .str (ch c)])
      refine ⟨_, _, rfl, SqT.of upd_same, rfl, _, _, rfl, _, _, rfl, rfl, ?_⟩
      have kd := sT _ _ kd
      have krn := krn.keep fun b ys e => sT b _ e
      have fd : FrD dl H11 (upd H14 Tt (.tup [.int (j : Nat), .str (ch c)])) := fun b o n e => sT _ _ (fd b o n e)
      generalize upd H14 Tt (.tup [.int (j : Nat), .str (ch c)]) = H16 at *
      have lx := keys_len krb
      rw [List.length_append, total, List.length_map, List.length_take] at lx
      have lx2 : xs.length ≤ 16000 := by omega
      refine ⟨_, rfl, _, rfl, dl, xs, rfl, kd, krn, seed, _, rfl, by omega, by omega, fun nb nb0 nb1 => ?_⟩
      refine ⟨_, rfl, _, rfl, _, rfl, _, rfl, _, _, rfl, rfl, _, rfl, _, _, rfl, rfl, _, rfl, _, rfl, _, _, rfl, rfl, _, _, rfl, (by show 4 ≤ sizeLine; decide), fun l hl => ?_⟩
      have sl := same_new hl (o := .lst [V.int nb, V.int nb, V.int (ts.sum + (j : Nat) + seed), V.int (if ts.sum + (j : Nat) > 5 then 5 else ts.sum + (j : Nat))])
      obtain ⟨z, hz⟩ : ∃ z : Int, atI [V.int nb, V.int nb, V.int (ts.sum + (j : Nat) + seed), V.int (if ts.sum + (j : Nat) > 5 then 5 else ts.sum + (j : Nat))] way = some (V.int z) := by
        rcases (by omega : way = 0 ∨ way = 1 ∨ way = 2 ∨ way = 3) with rfl | rfl | rfl | rfl
        · exact ⟨_, at_of (j := 0) rfl rfl⟩
        · exact ⟨_, at_of (j := 1) rfl rfl⟩
        · exact ⟨_, at_of (j := 2) rfl rfl⟩
        · exact ⟨_, at_of (j := 3) rfl rfl⟩
      refine ⟨_, rfl, l, _, way, V.int z, rfl, rfl, SqL.of upd_same, hz, _, rfl, _, _, rfl, rfl, (by omega), ?_⟩
      have z0 : 0 ≤ z % (n : Int) := Int.emod_nonneg _ (by omega)
      have z1 : z % (n : Int) < (n : Int) := Int.emod_lt_of_pos _ (by omega)
      obtain ⟨v, hv, vn⟩ : ∃ v : Nat, z % (n : Int) = (v : Int) ∧ v < n := ⟨(z % (n : Int)).toNat, by omega, by omega⟩
      have kd := sl _ _ kd
      have krn := krn.keep fun b ys e => sl b _ e
      have fd : FrD dl H11 (upd H16 l (.lst [V.int nb, V.int nb, V.int (ts.sum + (j : Nat) + seed), V.int (if ts.sum + (j : Nat) > 5 then 5 else ts.sum + (j : Nat))])) := fun b o n e => sl _ _ (fd b o n e)
      generalize upd H16 l (.lst [V.int nb, V.int nb, V.int (ts.sum + (j : Nat) + seed), V.int (if ts.sum + (j : Nat) > 5 then 5 else ts.sum + (j : Nat))]) = H17 at *
      refine ⟨_, rfl, _, rfl, _, rfl, (by show 2 ≤ sizeLine; decide), fun b2 hb2 => ?_⟩
      have s2 := same_new hb2 (o := .tup [.str (ch c), V.ref aj])
      have kb2 := upd_same (H := H17) (a := b2) (o := .tup [.str (ch c), V.ref aj])
      have kd := s2 _ _ kd
      have krn := krn.keep fun b ys e => s2 b _ e
      have kaj7 := s2 _ _ (fd _ _ naj kaj)
      have fd : FrD dl H11 (upd H17 b2 (.tup [.str (ch c), V.ref aj])) := fun b o n e => s2 _ _ (fd b o n e)
      generalize upd H17 b2 (.tup [.str (ch c), V.ref aj]) = H18 at *
      have fresh : ∀ x ∈ xs, x.1 ≠ keyN c row := fun x hx e => by
        obtain ⟨key, hm, e1, _⟩ := prd_mem krb hx
        rw [e1] at e
        obtain ⟨e2, e3⟩ := keyN_inj e
        rcases List.mem_append.mp hm with hm | hm
        · simp only [List.mem_flatMap, List.mem_map] at hm
          obtain ⟨r0, hr0, c0, _, rfl⟩ := hm
          exact ahead_ne (rowsTo_nd (few + turn) n) hrow r0 hr0 e3
        · simp only [List.mem_map] at hm
          obtain ⟨c0, hc0, rfl⟩ := hm
          exact ahead_ne (hri.imp fun h => Nat.ne_of_lt h) hc2 c0 hc0 e2
      have tk := fun b ys e => upd_tupN (o := DictN P w dl (storedN xs (keyN c row) b2 (V.int (z % (n : Int))))) kd b ys e
      refine ⟨dl, b2, xs, keyN c row, rfl, rfl, kd, krn, nk_key kb2 kaj7, keyN_depth c row, Nat.lt_of_le_of_lt (show _ ≤ 1000000 by omega) (by decide), ?_⟩
      rw [storedN_new fresh] at tk ⊢
      refine ⟨_, _, _, _, rfl, upd_same, ?_, ?_, fun b o n e => by rw [upd_ne n]; exact fd b o n e⟩
      · intro x hx
        rcases List.mem_append.mp hx with hx | hx
        · exact (krn.keep tk) x hx
        · rw [List.mem_singleton.mp hx]
          exact ⟨nk_key (tk _ _ kb2) (tk _ _ kaj7), keyN_depth c row⟩
      · rw [take_succ_of hc2, List.map_append, ← List.append_assoc]
        exact prd_app krb (.cons ⟨rfl, v, vn, by show V.int (z % (n : Int)) = nI v; rw [hv]⟩ .nil)
    · rintro σ H14 ⟨xs, y13, y14, y15, rfl, kd, krn, krb, fd⟩
      have whole : L.cps.toList.take L.cps.size = L.cps.toList := by rw [← Array.length_toList, List.take_length]
      rw [whole] at krb
      refine ⟨xs, _, _, _, _, _, rfl, kd, krn, ?_, fd⟩
      rw [flat_take _ hrow]
      exact krb
  rintro σ H12 ⟨xs, y11, y12, y13, y14, y15, rfl, kd, krn, krb, fd⟩
  rw [List.length_map, la, ← rowsTo_len (few + turn) n, List.take_length] at krb
  have krb : RowsB n xs (keysC L n (few + turn)) := krb
  have F12 : Fr p H H12 := fun b o n e => by
    by_cases hb : b = dl
    · rw [hb, hdl0] at e; cases e
    · exact fd b o hb (F11 b o n e)
  have D12 : Dn H12 p := by
    obtain ⟨ys, e, r⟩ := D11
    exact ⟨ys, fd _ _ ndl.symm e, r⟩
  have klen : (keysC L n (few + turn)).length = L.length * (few + turn) ^ n := by
    rw [(keysC_perm hri n (few + turn)).length_eq, keysOf_len]
  have knd := keysC_nd hri n (few + turn)
  have k600' : (keysC L n (few + turn)).length ≤ 600 := by omega
  refine ⟨fun σ' H' => ∃ (xs : List NRow) (y11 y12 y13 y14 y15 y16 : Option V), σ' = [some (.ref p), some (.str L), some (nI most), some (nI room), some (nI n), some (nI few), some (nI turn), some (.int way), some (.int seed), some (.ref D), some (.ref dl), y11, y12, y13, y14, y15, y16, none, none, none, none, none] ∧ H' dl = some (DictN P w dl xs) ∧ RowsN H' xs ∧ RowsB n xs (keysC L n (few + turn)) ∧ Fr p H H' ∧ Dn H' p, ?_, ?_⟩
  · have lx := keys_len krb
    refine ⟨_, rfl, dl, xs, rfl, kd, krn, _, _, rfl, rfl, _, rfl, ite2 (fun hh => ?_) (fun hh => ⟨xs, _, _, _, _, _, _, rfl, kd, krn, krb, F12, D12⟩)⟩
    refine ⟨_, rfl, dl, xs, rfl, kd, fun ql hql => ?_⟩
    have sq := same_new hql (o := .lst (xs.map fun x => V.ref x.2.1))
    have kq := upd_same (H := H12) (a := ql) (o := .lst (xs.map fun x => V.ref x.2.1))
    have nqd : ql ≠ dl := fun e => by rw [e, kd] at hql; cases hql
    have nqp : ql ≠ p := D12.ne hql
    have D13 := D12.keep sq
    have F13 := F12.trans (Fr.same sq)
    have kd13 := sq _ _ kd
    have krn13 := krn.keep fun b ys e => sq b _ e
    generalize upd H12 ql (.lst (xs.map fun x => V.ref x.2.1)) = H13 at *
    refine ⟨ql, rfl, ⟨_, SqL.of kq⟩, for_list (xs := xs.map fun x => V.ref x.2.1) (fun i σ H' => ∃ (zs : List NRow) (y16 : Option V), σ = [some (.ref p), some (.str L), some (nI most), some (nI room), some (nI n), some (nI few), some (nI turn), some (.int way), some (.int seed), some (.ref D), some (.ref dl), y11, y12, y13, y14, y15, y16, none, none, none, none, none] ∧ H' dl = some (DictN P w dl zs) ∧ RowsN H' zs ∧ RowsB n zs (keysC L n (few + turn)) ∧ (zs.map fun x => x.2.1) = (xs.map fun x => x.2.1) ∧ (∀ b o, b ≠ p → b ≠ dl → H13 b = some o → H' b = some o) ∧ Dn H' p) ⟨xs, _, rfl, kd13, krn13, krb, rfl, fun b o _ _ e => e, D13⟩ (fun i σ H' _ ⟨_, _, _, _, _, _, _, f, _⟩ => SqL.of (f _ _ nqp nqd kq)) ?_ ?_⟩
    · rintro i x σ H14 hx ⟨zs, y16, rfl, gd, grn, grb, gmap, gf, gp⟩
      have e1 : (zs.map fun x => V.ref x.2.1)[i]? = some x := by
        have : (zs.map fun x => V.ref x.2.1) = (zs.map fun x => x.2.1).map V.ref := by rw [List.map_map]; rfl
        rw [this, gmap, List.map_map]
        exact hx
      rw [List.getElem?_map] at e1
      cases hz : zs[i]? with
      | none => rw [hz] at e1; cases e1
      | some row =>
      rw [hz] at e1
      cases e1
      obtain ⟨⟨c, rw0⟩, hkey, k1, v, vn, k2⟩ := prd_at grb hz
      have hm := List.mem_of_getElem? hkey
      obtain ⟨v0, vn0, hat⟩ := atN_isb grb hm
      obtain ⟨hn1, _⟩ := grn row (List.mem_of_getElem? hz)
      rw [k1] at hn1
      have lz := keys_len grb
      refine ⟨_, rfl, _, rfl, dl, row.2.1, zs, keyN c rw0, nI v0, rfl, rfl, gd, grn, hn1, keyN_depth c rw0, hat, _, rfl, p, rfl, gp, fun y H15 y0 y1 f15 D15 => ?_⟩
      have nd2 : ∀ (b : Addr) (ys : List V), H14 b = some (.tup ys) → b ≠ p := fun b ys e z => by
        obtain ⟨zs, e2, _⟩ := gp
        rw [z, e2] at e
        cases e
      have gd15 := f15 _ _ ndl gd
      have grn15 := grn.keep fun b ys e => f15 _ _ (nd2 _ _ e) e
      have hn15 := NK.keep (fun b ys e => f15 _ _ (nd2 _ _ e) e) hn1
      refine ⟨_, _, rfl, rfl, _, rfl, _, _, rfl, rfl, (by omega), ?_⟩
      have z0 : 0 ≤ ((v0 : Int) + y) % (n : Int) := Int.emod_nonneg _ (by omega)
      have z1 : ((v0 : Int) + y) % (n : Int) < (n : Int) := Int.emod_lt_of_pos _ (by omega)
      obtain ⟨v2, hv2, vn2⟩ : ∃ v : Nat, ((v0 : Int) + y) % (n : Int) = (v : Int) ∧ v < n := ⟨(((v0 : Int) + y) % (n : Int)).toNat, by omega, by omega⟩
      obtain ⟨b1, b2⟩ := storedN_old (b := row.2.1) vn2 grb hm
      have ev : V.int (((v0 : Int) + y) % (n : Int)) = nI v2 := by rw [hv2]
      refine ⟨_, rfl, _, rfl, dl, row.2.1, zs, keyN c rw0, rfl, rfl, gd15, grn15, hn15, keyN_depth c rw0, Nat.lt_of_le_of_lt (show _ ≤ 1000000 by omega) (by decide), ?_⟩
      show ∃ (zs1 : List NRow) (y16 : Option V), _ ∧ (upd H15 dl (DictN P w dl (storedN zs (keyN c rw0) row.2.1 (V.int (((v0 : Int) + y) % (n : Int)))))) dl = some (DictN P w dl zs1) ∧ _
      have tk := fun b ys e => upd_tupN (o := DictN P w dl (storedN zs (keyN c rw0) row.2.1 (V.int (((v0 : Int) + y) % (n : Int))))) gd15 b ys e
      refine ⟨_, _, rfl, upd_same, ?_, ?_, ?_, ?_, D15.upd ndl⟩
      · intro x hx
        rw [ev] at hx
        have hx1 : x.2.1 ∈ (storedN zs (keyN c rw0) row.2.1 (nI v2)).map fun x => x.2.1 := List.mem_map.mpr ⟨x, hx, rfl⟩
        obtain ⟨j, hj⟩ := List.getElem?_of_mem hx
        obtain ⟨key1, hk1, g1, _⟩ := prd_at b1 hj
        have hjm : (zs.map fun x => x.2.1)[j]? = some x.2.1 := by rw [← b2, List.getElem?_map, hj]; rfl
        rw [List.getElem?_map] at hjm
        cases hzj : zs[j]? with
        | none => rw [hzj] at hjm; cases hjm
        | some x0 =>
          rw [hzj] at hjm
          have ex : x0.2.1 = x.2.1 := Option.some.inj hjm
          obtain ⟨key0, hk0, g0, _⟩ := prd_at grb hzj
          have := Option.some.inj (hk0.symm.trans hk1)
          subst this
          obtain ⟨a1, a2⟩ := (grn15.keep tk) x0 (List.mem_of_getElem? hzj)
          rw [g1, ← g0, ← ex]
          exact ⟨a1, a2⟩
      · rw [ev]
        exact b1
      · rw [ev, b2]
        exact gmap
      · intro b o h1 h2 e
        rw [upd_ne h2]
        exact f15 _ _ h1 (gf b o h1 h2 e)
    · rintro σ H14 ⟨zs, y16, rfl, gd, grn, grb, gmap, gf, gp⟩
      refine ⟨zs, _, _, _, _, _, _, rfl, gd, grn, grb, fun b o n e => ?_, gp⟩
      by_cases hb : b = dl
      · rw [hb, hdl0] at e; cases e
      · exact gf b o n hb (F13 b o n e)
  rintro σ' H12 ⟨xs, y11, y12, y13, y14, y15, y16, rfl, kd, krn, krb, F12, D12⟩
  have lx := keys_len krb
  refine ⟨_, rfl, dl, xs, rfl, kd, fun ql hql => ?_⟩
  have sq := same_new hql (o := .lst (xs.map fun x => V.ref x.2.1))
  have kq := upd_same (H := H12) (a := ql) (o := .lst (xs.map fun x => V.ref x.2.1))
  have nqp : ql ≠ p := D12.ne hql
  have D13 := D12.keep sq
  have F13 := F12.trans (Fr.same sq)
  have kd13 := sq _ _ kd
  have krn13 := krn.keep fun b ys e => sq b _ e
  generalize upd H12 ql (.lst (xs.map fun x => V.ref x.2.1)) = H13 at *
  refine ⟨_, rfl, p, rfl, D13, fun x H14 x0 x1 f14 D14 => ?_⟩
  have kq14 := f14 _ _ nqp kq
  have xpos : 1 ≤ xs.length := by
    rw [lx, klen]
    exact Nat.mul_pos l1 (Nat.pow_pos (by omega))
  refine ⟨_, rfl, ql, _, rfl, .inl (SqL.of kq14), _, _, rfl, rfl, (by rw [List.length_map]; omega), ?_⟩
  rw [List.length_map]
  have a0 : 0 ≤ x % (xs.length : Int) := Int.emod_nonneg _ (by omega)
  have a1 : x % (xs.length : Int) < (xs.length : Int) := Int.emod_lt_of_pos _ (by omega)
  obtain ⟨at0, hat0, atl⟩ : ∃ a : Nat, x % (xs.length : Int) = (a : Int) ∧ a < xs.length := ⟨(x % (xs.length : Int)).toNat, by omega, by omega⟩
  show gName 18 (.int (x % (xs.length : Int))) _ _ _
  rw [hat0]
  clear a0 a1 hat0 x0 x1
  have lq : (xs.map fun x => V.ref x.2.1).length = xs.length := List.length_map _
  have la0 : at0 ≤ (xs.map fun x => V.ref x.2.1).length := by rw [lq]; omega
  refine ⟨_, rfl, _, rfl, _, rfl, ql, _, rfl, SqL.of kq14, fun c1 hc1 => ?_⟩
  rw [cut_lo la0]
  have s1 := same_new hc1 (o := .lst ((xs.map fun x => V.ref x.2.1).drop at0))
  have k1 := upd_same (H := H14) (a := c1) (o := .lst ((xs.map fun x => V.ref x.2.1).drop at0))
  generalize upd H14 c1 (.lst ((xs.map fun x => V.ref x.2.1).drop at0)) = H15 at *
  refine ⟨_, rfl, _, rfl, _, rfl, ql, _, rfl, SqL.of (s1 _ _ kq14), fun c2 hc2 => ?_⟩
  rw [cut_hi la0]
  have s2 := same_new hc2 (o := .lst ((xs.map fun x => V.ref x.2.1).take at0))
  have k2 := upd_same (H := H15) (a := c2) (o := .lst ((xs.map fun x => V.ref x.2.1).take at0))
  generalize upd H15 c2 (.lst ((xs.map fun x => V.ref x.2.1).take at0)) = H16 at *
  refine ⟨c1, c2, _, _, rfl, rfl, s2 _ _ k1, k2, ?_, fun c3 hc3 => ?_⟩
  · rw [List.length_drop, List.length_take, lq]
    exact Nat.le_of_lt (Nat.lt_of_le_of_lt (show _ ≤ 1000000 by omega) (by decide))
  rw [← List.map_drop, ← List.map_take, ← List.map_append]
  have s3 := same_new hc3 (o := .lst ((xs.drop at0 ++ xs.take at0).map fun x => V.ref x.2.1))
  have k3 := upd_same (H := H16) (a := c3) (o := .lst ((xs.drop at0 ++ xs.take at0).map fun x => V.ref x.2.1))
  generalize upd H16 c3 (.lst ((xs.drop at0 ++ xs.take at0).map fun x => V.ref x.2.1)) = H17 at *
  have S17 := (s1.trans s2).trans s3
  have D17 := D14.keep S17
  refine ⟨1, rfl, (by show 2 ≤ sizeLine; decide), fun l hl => ?_⟩
  have sl := same_new hl (o := .lst [V.int 1, V.int (-1)])
  refine ⟨_, rfl, p, rfl, D17.keep sl, fun y H18 y0 y1 f18 D18 => ⟨_, _, rfl, rfl, (by show (0 : Int) < 2; decide), ?_⟩⟩
  have hl18 := f18 l _ (D17.ne hl) upd_same
  have nc3 : c3 ≠ p := (D14.keep (s1.trans s2)).ne hc3
  have k18 := f18 _ _ nc3 (sl _ _ k3)
  obtain ⟨back, hm⟩ : ∃ back : Bool, atI [V.int 1, V.int (-1)] (y % 2) = some (V.int (if back then -1 else 1)) := by
    rcases (by omega : y % 2 = 0 ∨ y % 2 = 1) with e | e <;> rw [e]
    · exact ⟨false, at_of (j := 0) rfl rfl⟩
    · exact ⟨true, at_of (j := 1) rfl rfl⟩
  refine ⟨l, _, y % 2, _, rfl, rfl, SqL.of hl18, hm, _, rfl, c3, _, back, rfl, rfl, SqL.of k18, fun q2 hq2 => ?_⟩
  obtain ⟨zs, ez, pz⟩ : ∃ zs : List NRow, (if back then ((xs.drop at0 ++ xs.take at0).map fun x => V.ref x.2.1).reverse else ((xs.drop at0 ++ xs.take at0).map fun x => V.ref x.2.1)) = zs.map (fun x => V.ref x.2.1) ∧ xs.Perm zs := by
    have rot : xs.Perm (xs.drop at0 ++ xs.take at0) := by
      have := List.perm_append_comm (l₁ := xs.take at0) (l₂ := xs.drop at0)
      rwa [List.take_append_drop] at this
    cases back with
    | true => exact ⟨(xs.drop at0 ++ xs.take at0).reverse, by rw [if_pos rfl, List.map_reverse], rot.trans (List.reverse_perm _).symm⟩
    | false => exact ⟨xs.drop at0 ++ xs.take at0, by rw [if_neg (by decide)], rot⟩
  rw [ez]
  have F18 : Fr p H13 H18 := ((f14.trans (Fr.same S17)).trans (Fr.same sl)).trans f18
  have nd2 : ∀ (b : Addr) (ys : List V), H13 b = some (.tup ys) → b ≠ p := fun b ys e z => by
    obtain ⟨zs, e2, _⟩ := D13
    rw [z, e2] at e
    cases e
  have kd18 := F18 _ _ ndl kd13
  have krn18 := krn13.keep fun b ys e => F18 _ _ (nd2 _ _ e) e
  have nq2p : q2 ≠ p := D18.ne hq2
  have s19 := same_new hq2 (o := .lst (zs.map fun x => V.ref x.2.1))
  have kq2 := upd_same (H := H18) (a := q2) (o := .lst (zs.map fun x => V.ref x.2.1))
  have D19 := D18.keep s19
  have F19 : Fr p H (upd H18 q2 (.lst (zs.map fun x => V.ref x.2.1))) := (F13.trans F18).trans (Fr.same s19)
  have kd19 := s19 _ _ kd18
  have krn19 := krn18.keep fun b ys e => s19 b _ e
  generalize upd H18 q2 (.lst (zs.map fun x => V.ref x.2.1)) = H19 at *
  clear s1 s2 s3 k1 k2 k3 S17 D17 hl18 k18 hm sl hq2 kd18 krn18 F18 D18 f18 hl kq14 D14 f14 hc1 hc2 hc3 kd13 krn13 D13 F13 nd2 kq sq nqp D12 F12 kd krn ez
  have xnd := rowsB_nd krb knd
  have lzs : zs.length = xs.length := pz.length_eq.symm
  refine ⟨_, rfl, q2, rfl, ⟨_, SqL.of kq2⟩, fun D2 hD2 => ?_⟩
  refine lc_list (xs := zs.map fun x => V.ref x.2.1) (fun i H' => ∃ bs : List Addr, H' D2 = some (.lst (bs.map V.ref)) ∧ Paired (fun (b : Addr) (r : NRow) => H' b = some (.tup [.ref r.2.1, r.2.2])) bs (zs.take i) ∧ Same H19 H') ⟨[], upd_same, .nil, same_new hD2⟩ (fun i H' _ ⟨_, _, _, s⟩ => SqL.of (s _ _ kq2)) ?_ ?_
  · rintro i x H20 hx ⟨bs, g1, g2, g3⟩
    rw [List.getElem?_map] at hx
    cases hz : zs[i]? with
    | none => rw [hz] at hx; cases hx
    | some row =>
    rw [hz] at hx
    cases hx
    have hm := pz.mem_iff.mpr (List.mem_of_getElem? hz)
    obtain ⟨hn1, hn2⟩ := krn19 row hm
    have lb := Paired.length g2
    rw [List.length_take] at lb
    refine ⟨rfl, _, rfl, _, rfl, _, rfl, dl, row.2.1, xs, row.1, row.2.2, rfl, rfl, g3 _ _ kd19, krn19.keep (fun b ys e => g3 b _ e), NK.keep (fun b ys e => g3 b _ e) hn1, hn2, atN_self xnd hm, (by show 2 ≤ sizeLine; decide), fun t ht => ?_⟩
    have st := same_new ht (o := .tup [.ref row.2.1, row.2.2])
    have kt := upd_same (H := H20) (a := t) (o := .tup [.ref row.2.1, row.2.2])
    have kD := st _ _ g1
    have tk := upd_tup (o := .lst (bs.map V.ref ++ [V.ref t])) kD
    refine ⟨_, kD, ?_, bs ++ [t], by rw [upd_same, List.map_append]; rfl, ?_, same_add (g3.trans st) hD2⟩
    · rw [List.length_map]
      exact Nat.lt_of_le_of_lt (show _ ≤ 1000000 by omega) (by decide)
    · rw [take_succ_of hz]
      exact prd_app (Paired.mapP g2 fun _ _ e => tk _ _ (st _ _ e)) (.cons (tk _ _ kt) .nil)
  rintro H20 ⟨bs, g1, g2, g3⟩
  rw [List.length_map, List.take_length] at g2
  have znd : (zs.map (·.1)).Nodup := (pz.map _).nodup_iff.mp xnd
  refine ⟨D2, bs, zs, rfl, g1, g2, (fun r hr => (krn19.keep fun b ys e => g3 b _ e) r (pz.mem_iff.mpr hr)), znd, Nat.le_of_lt (Nat.lt_of_le_of_lt (show _ ≤ 1000000 by omega) (by decide)), fun d2 hd2 => ?_⟩
  have s21 := same_new hd2 (o := DictN P w d2 zs)
  have kd2 := upd_same (H := H20) (a := d2) (o := DictN P w d2 zs)
  have D21 : Dn (upd H20 d2 (DictN P w d2 zs)) p := (D19.keep g3).keep s21
  have F21 : Fr p H (upd H20 d2 (DictN P w d2 zs)) := F19.trans (Fr.same (g3.trans s21))
  have krn21 : RowsN (upd H20 d2 (DictN P w d2 zs)) zs := fun r hr => (krn19.keep fun b ys e => (g3.trans s21) b _ e) r (pz.mem_iff.mpr hr)
  have nd2p : d2 ≠ p := (D19.keep g3).ne hd2
  refine ⟨_, rfl, _, rfl, _, rfl, _, rfl, _, rfl, _, rfl, n, rfl, by omega, by omega, fun D3 hD3 => ?_⟩
  have hD3 : upd H20 d2 (DictN P w d2 zs) D3 = none := hD3
  have nD3 : D3 ≠ p := D21.ne hD3
  refine lc_range (lo := 0) (n := n) (fun i H' => ∃ gs : List Nat, H' D3 = some (.lst (gs.map nI)) ∧ gs.Pairwise (· < ·) ∧ (∀ g ∈ gs, g < i) ∧ gs.length ≤ i ∧ Fr p (upd H20 d2 (DictN P w d2 zs)) H' ∧ Dn H' p) ⟨[], upd_same, .nil, (fun _ h => by cases h), Nat.le_refl _, (Fr.refl p _).new hD3, D21.keep (same_new hD3)⟩ ?_ ?_
  · rintro i H22 hi ⟨gs, k1, k2, k3, k4, k5, k6⟩
    refine ⟨rfl, _, rfl, p, rfl, k6, fun y H23 y0 y1 f23 D23 => ⟨_, _, rfl, rfl, (by show (0 : Int) < 2; decide), rfl, _, rfl, ite2 (fun hh => ?_) (fun hh => ?_)⟩⟩
    · have e0 : V.int (0 + (i : Int)) = nI i := by rw [Int.zero_add]
      refine ⟨_, rfl, _, f23 _ _ nD3 k1, ?_, gs ++ [i], ?_, ?_, ?_, by rw [List.length_append]; simp; omega, (k5.trans f23).new hD3, D23.upd nD3⟩
      · rw [List.length_map]
        exact Nat.lt_of_le_of_lt (show _ ≤ 1000000 by omega) (by decide)
      · rw [upd_same, e0, List.map_append]
        rfl
      · rw [List.pairwise_append]
        refine ⟨k2, List.pairwise_singleton _ _, fun a ha b hb => ?_⟩
        rw [List.mem_singleton.mp hb]
        exact k3 a ha
      · intro g hg
        rcases List.mem_append.mp hg with hg | hg
        · have := k3 g hg; omega
        · rw [List.mem_singleton.mp hg]; omega
    · exact ⟨gs, f23 _ _ nD3 k1, k2, fun g hg => by have := k3 g hg; omega, by omega, k5.trans f23, D23⟩
  rintro H22 ⟨gs, k1, k2, k3, k4, k5, k6⟩
  refine ⟨(by show 6 ≤ sizeLine; decide), fun j hj => ?_⟩
  have sj := same_new hj (o := .tup [.str L, nI n, nI few, nI turn, .ref d2, .ref D3])
  have kj := upd_same (H := H22) (a := j) (o := .tup [.str L, nI n, nI few, nI turn, .ref d2, .ref D3])
  obtain ⟨ds, pd, rb⟩ := prd_perm pz krb
  have dnd : ds.Nodup := pd.nodup_iff.mp knd
  obtain ⟨fs, rj, hlt⟩ := rows_fun rb dnd
  have pk : ds.Perm (keysOf L n (few + turn)) := pd.symm.trans (keysC_perm hri n (few + turn))
  have nd3 : ∀ (b : Addr) (ys : List V), upd H20 d2 (DictN P w d2 zs) b = some (.tup ys) → b ≠ p := fun b ys e z => by
    obtain ⟨zs, e2, _⟩ := D21
    rw [z, e2] at e
    cases e
  refine q (.ref j) ⟨L, n, few, turn, fs, gs⟩ (upd H22 j (.tup [.str L, nI n, nI few, nI turn, .ref d2, .ref D3])) ((F21.trans k5).trans (Fr.same sj)) (k6.keep sj) rfl ⟨hL, n1, by show n ≤ 6; omega, f4, t1, t4, by show L.length * (few + turn) ^ n ≤ 600; omega, fun key hk => hlt key (pk.mem_iff.mpr hk), by show gs.length ≤ 6; omega, k3⟩ nm hfit k2 ?_
  exact ⟨j, d2, D3, zs, ds, rfl, kj, sj _ _ (k5 _ _ nd2p kd2), (krn21.keep fun b ys e => k5 _ _ (nd3 _ _ e) e).keep fun b ys e => sj b _ e, rj, pk, sj _ _ k1, nD3, F21.free D21.some hD3⟩
end

theorem depth_pos1 : ∀ t : Tr, 1 ≤ t.depth
  | .node c ks => by simp only [Tr.depth]; omega
theorem cnts_len (n : Nat) (xs : List Nat) : (cnts n xs).length = n := by unfold cnts; rw [List.length_map, List.length_range]
theorem cnts_nil (n : Nat) : cnts n [] = List.replicate n 0 := by
  unfold cnts
  refine List.ext_getElem (by simp) fun i h1 h2 => by simp
theorem cnts_at {n s : Nat} (xs : List Nat) (h : s < n) : (cnts n xs)[s]? = some (xs.count s) := by
  unfold cnts
  rw [List.getElem?_map, List.getElem?_range h]
  rfl
theorem cnts_set {n s : Nat} (xs : List Nat) (h : s < n) : (cnts n xs).set s (xs.count s + 1) = cnts n (xs ++ [s]) := by
  refine List.ext_getElem? fun j => ?_
  rw [List.getElem?_set]
  by_cases hj : j < n
  · rw [cnts_at _ hj]
    by_cases e : s = j
    · subst e
      rw [if_pos rfl, if_pos (by rw [cnts_len]; exact hj), cnts_at _ hj, List.count_append]
      simp
    · rw [if_neg e, cnts_at _ hj, List.count_append, List.count_singleton]
      have : (s == j) = false := by simpa using e
      simp [this]
  · have o1 : (cnts n xs)[j]? = none := List.getElem?_eq_none (by rw [cnts_len]; omega)
    have o2 : (cnts n (xs ++ [s]))[j]? = none := List.getElem?_eq_none (by rw [cnts_len]; omega)
    rw [o1, o2]
    split
    · rw [if_neg (by rw [cnts_len]; omega)]
    · rfl
theorem set_nI {xs : List Nat} {i x : Nat} : (xs.map nI).set i (nI x) = (xs.set i x).map nI := by
  rw [List.map_set]

theorem St_ltJ {J : JD} (hok : J.ok) : ∀ t : Tr, t.lets (fun c => c ∈ J.L.cps.toList) → St J.sf J.n t < J.n
  | .node c ks, h => by
    simp only [Tr.lets] at h
    simp only [St]
    exact hok.sf_lt h.1 (cnts_len _ _)


def sp_is_whole : Sp := fun vs H Q _ => ∃ i : Int, vs = [.int i] ∧ Q (.bl true) H
def sp__is_heap_row : Sp := fun vs H Q _ => ∃ e : V × Tr × Nat, vs = [e.1] ∧ HeIn H e ∧ 1 ≤ e.2.2 ∧ e.2.1.size ≤ 1000000 ∧ ∀ H', Same H H' → Q (.bl true) H'
section
variable {P : Program} {w : World} {K : PySem.W.Frag} {mg : Str → Option Value} {base : Heap}
theorem ok_is_whole (T : Txt K mg) : FnOk P w K mg base CX0 1 T.f_is_whole T.d_is_whole ["thing"] sp_is_whole := by
  refine T.F_is_whole.ok sc_is_whole (fun vs H Q E h => ?_) (fun cdv A outer s H vs Q E hr h => ?_)
  · obtain ⟨i, rfl, _⟩ := h
    rfl
  obtain ⟨i, rfl, q⟩ := h
  refine ⟨_, (pss_one (ps_ret (pe_and (pe_callB call_isi (by rfl) T.z_isinstance (by decide +kernel) (pa_cons (pv 0) (pa_cons (pe_bltn (v := .ty "int") (by rfl) T.z_int (by decide +kernel) rfl) pa_nil))) (pe_one (pe_not (pe_callB call_isi (by rfl) T.z_isinstance (by decide +kernel) (pa_cons (pv 0) (pa_cons (pe_bltn (v := .ty "bool") (by rfl) T.z_bool (by decide +kernel) rfl) pa_nil)))))))), ?_⟩
  refine ⟨_, rfl, _, _, _, _, true, rfl, .ty "int", .base (.int i), kit_ty (by decide +kernel), _, rfl, iteT ?_⟩
  exact ⟨_, rfl, _, _, _, _, false, rfl, .ty "bool", .base (.int i), kit_ty (by decide +kernel), _, rfl, q⟩
theorem ok__is_heap_row (T : Txt K mg) : FnOk P w K mg base CX0 4 T.f__is_heap_row T.d__is_heap_row ["thing"] sp__is_heap_row := by
  have G_is_tree : FnOk P w K mg base CX0 3 T.f_is_tree T.d_is_tree ["thing"] sp_is_tree := ok_is_tree T
  have G_is_whole : FnOk P w K mg base CX0 1 T.f_is_whole T.d_is_whole ["thing"] sp_is_whole := ok_is_whole T
  refine T.F__is_heap_row.ok sc__is_heap_row (fun vs H Q E h => ?_) (fun cdv A outer s H vs Q E hr h => ?_)
  · obtain ⟨e, rfl, _⟩ := h
    rfl
  obtain ⟨e, rfl, he, h1, hz, q⟩ := h
  refine ⟨_, (pss_cons (ps_if (PW.pt (pw_or (pt_not (pt_val (pe_callB call_isi (by rfl) T.z_isinstance (by decide +kernel) (pa_cons (pv 0) (pa_cons (pe_bltn (v := .ty "tuple") (by rfl) T.z_tuple (by decide +kernel) rfl) pa_nil))))) (pw_or1 (pt_cmpR op_ne (pe_callB call_len_seq (by rfl) T.z_len PySem.boot_len (pa_cons (pv 0) pa_nil)) pe_int (nomark _))))) (pss_one (ps_ret pe_bl)) pss_nil) (pss_one (ps_ret (pe_and (pe_call G_is_tree (hr.mono (by omega)) (by rfl) T.m_is_tree T.F_is_tree.kp T.b_is_tree .nil pass0 (pa_cons (pe_ix ix_tup (pv 0) pe_int (fun _ _ => rfl)) pa_nil)) (pe_and (pe_call G_is_whole (hr.mono (by omega)) (by rfl) T.m_is_whole T.F_is_whole.kp T.b_is_whole .nil pass0 (pa_cons (pe_ix ix_tup (pv 0) pe_int (fun _ _ => rfl)) pa_nil)) (pe_one (pe_cmpR op_ge (pe_ix ix_tup (pv 0) pe_int (fun _ _ => rfl)) pe_int (nomark _)))))))), ?_⟩
  obtain ⟨v, t, n⟩ := e
  obtain ⟨p, x, rfl, g1, g2⟩ := he
  dsimp only at h1 hz g1 g2
  refine ⟨_, rfl, _, _, _, _, true, rfl, .ty "tuple", .base (.tup g1), kit_ty (by decide +kernel), _, rfl, iteF ?_⟩
  refine ⟨_, rfl, _, _, rfl, .inr (SqT.of g1), rfl, _, rfl, iteF ?_⟩
  refine ⟨_, rfl, _, _, 0, _, rfl, rfl, SqT.of g1, atI_nat (j := 0) rfl, x, t, rfl, g2, hz, fun H' s' => ⟨_, rfl, iteT ?_⟩⟩
  have g1' := s' _ _ g1
  refine ⟨_, rfl, _, _, 1, _, rfl, rfl, SqT.of g1', atI_nat (j := 1) rfl, _, rfl, _, rfl, iteT ?_⟩
  refine ⟨_, rfl, _, _, 1, _, rfl, rfl, SqT.of g1', atI_nat (j := 1) rfl, _, 1, rfl, rfl, ?_⟩
  have e : decide ((1 : Int) ≤ (n : Int)) = true := decide_eq_true (by omega)
  show Q (.bl (decide ((1 : Int) ≤ (n : Int)))) H'
  rw [e]
  exact q _ s'
theorem lc_rng {lo : Int} {n : Nat} {Bd : V → Hp → (Hp → Prop) → Prop} {Qd : Hp → Prop} {H0 : Hp} (Pv : Nat → Hp → Prop) (h0 : Pv 0 H0)
    (hs : ∀ (i : Nat) H, i < n → Pv i H → Bd (.int (lo + i)) H (Pv (i + 1))) (hd : ∀ H, Pv n H → Qd H) :
    ∃ W : Nat → Nat → Hp → Prop, (∃ m, W 0 m H0) ∧ ∀ i m H, W i m H → ((Itr lo n).stop i H ∧ Qd H) ∨ ((Itr lo n).go i H ∧ ∃ Nx : Hp → Prop, (∀ H', Nx H' → ∃ m', m' < m ∧ W (i + 1) m' H') ∧ ∀ x H', (Itr lo n).yld i H x H' → Bd x H' Nx) := by
  refine ⟨fun i m H => m = n - i ∧ i ≤ n ∧ Pv i H, ⟨n, by simp, Nat.zero_le _, h0⟩, ?_⟩
  rintro i m H ⟨rfl, hi, p⟩
  by_cases hlt : i < n
  · refine .inr ⟨hlt, Pv (i + 1), fun H' p' => ⟨n - (i + 1), by omega, rfl, hlt, p'⟩, fun x H' y => ?_⟩
    obtain ⟨rfl, rfl⟩ := y
    exact hs i _ hlt p
  · have e : i = n := by omega
    subst e
    exact .inl ⟨Nat.le_refl _, hd H p⟩
theorem expand_take {es : List (Tr × Nat)} {i : Nat} {e : Tr × Nat} (h : es[i]? = some e) : expand (es.take (i + 1)) = expand (es.take i) ++ List.replicate e.2 e.1 := by
  rw [take_succ_of h, expand_append]
  simp [expand]
theorem sizes_take (l : List (Tr × Nat)) (i : Nat) : sizes (expand (l.take i)) ≤ sizes (expand l) := by
  have := congrArg sizes (congrArg expand (List.take_append_drop i l))
  rw [expand_append, sizes_append] at this
  omega
def sp_from_heap (P1 : Addr) (q1 : Str) : Sp := fun vs H Q _ => ∃ (c : Nat) (h : Addr) (es : List (V × Tr × Nat)), vs = [.str (ch c), .ref h] ∧ 97 ≤ c ∧ c ≤ 122 ∧ H h = some (.lst (es.map (·.1))) ∧ (∀ e ∈ es, HeIn H e ∧ 1 ≤ e.2.2) ∧ sizes (expand (es.map (·.2))) ≤ 100000 ∧ es.length ≤ 100000 ∧ LamX.TabS H P1 q1 ∧
  ∀ x as H', Fr P1 H H' → LamX.TabS H' P1 q1 → as.Nodup → TrO (fun b => H b = none) H' x (Tr.node c (expand (es.map (·.2)))).told as → Q x H'
theorem ok_from_heap (T : Txt K mg) (B : Tbs T base) : FnOk P w K mg base CX0 10 T.f_from_heap T.d_from_heap ["letter", "heap"] (sp_from_heap T.P__joined q__joined) := by
  have G_is_letter : FnOk P w K mg base CX0 1 T.f_is_letter T.d_is_letter ["thing"] sp_is_letter := ok_is_letter T
  have G__is_heap_row : FnOk P w K mg base CX0 4 T.f__is_heap_row T.d__is_heap_row ["thing"] sp__is_heap_row := ok__is_heap_row T
  have G_told_form : FnOk P w K mg base CX0 9 T.f_told_form T.d_told_form ["tree"] (sp_told_form T.P__joined q__joined) := ok_told_form T B
  refine T.F_from_heap.ok sc_from_heap (fun vs H Q E h => ?_) (fun cdv A outer s H vs Q E hr h => ?_)
  · obtain ⟨c, h, es, rfl, _⟩ := h
    rfl
  obtain ⟨c, h, es, rfl, c1, c2, hh, he, hz, hl, hT, q⟩ := h
  refine ⟨_, (pss_cons (ps_if (pt_not (pt_val (pe_call G_is_letter (hr.mono (by omega)) (by rfl) T.m_is_letter T.F_is_letter.kp T.b_is_letter .nil pass0 (pa_cons (pv 0) pa_nil)))) (pss_one ps_never) pss_nil) (pss_cons (ps_if (PW.pt (pw_or (pt_not (pt_val (pe_callB call_isi (by rfl) T.z_isinstance (by decide +kernel) (pa_cons (pv 1) (pa_cons (pe_bltn (v := .ty "list") (by rfl) T.z_list (by decide +kernel) rfl) pa_nil))))) (pw_or1 (pt_not (pt_val (pe_callB (cr_all rfl) (by rfl) T.z_all (by decide +kernel) (pa_cons (pe_lc (own := [("row", 2)]) (g := gName 2) (tt := tYes) rfl sc_from_heap.nd (pi_list (pv 1)) (blkOk_by (own := [("row", 2)]) (N := ["letter", "heap", "row", "child", "many", "_"]) (sc := (defScope s_from_heap)) (by decide +kernel)) (fun _ _ _ _ _ => (pg_name (i := 2) sc_from_heap.nd rfl (Or.inl rfl))) (fun _ _ _ _ _ => pts_nil) (fun _ _ _ _ _ => (pe_call G__is_heap_row (hr.mono (by omega)) (by rfl) T.m__is_heap_row T.F__is_heap_row.kp T.b__is_heap_row .nil pass0 (pa_cons (pv 2) pa_nil)))) pa_nil))))))) (pss_one ps_never) pss_nil) (pss_one (ps_ret (pe_call G_told_form (hr.mono (by omega)) (by rfl) T.m_told_form T.F_told_form.kp T.b_told_form .nil pass0 (pa_cons (pe_tup (pa_cons (pv 0) (pa_cons (pe_lc2 (own := [("child", 3), ("many", 4), ("_", 5)]) (vs1 := [5]) (g := gTup K 2 (gCons (gName 3) (gCons (gName 4) gNil))) (g1 := gName 5) (tt := tYes) (tt1 := tYes) rfl sc_from_heap.nd (pi_list (pv 1)) (blkOk_by (own := [("child", 3), ("many", 4), ("_", 5)]) (N := ["letter", "heap", "row", "child", "many", "_"]) (sc := (defScope s_from_heap)) (by decide +kernel)) (by decide) (fun _ _ _ _ _ => (pg_tup rfl (pgs_cons (pg_name (i := 3) sc_from_heap.nd rfl (Or.inl rfl)) (pgs_cons (pg_name (i := 4) sc_from_heap.nd rfl (Or.inl rfl)) pgs_nil)))) (fun _ _ _ _ _ => pts_nil) (fun _ _ _ _ _ => (pi_range1 (by rfl) T.z_range (pa_cons (pv 4) pa_nil))) (fun _ _ _ _ _ => (pg_name (i := 5) sc_from_heap.nd rfl (Or.inl rfl))) (fun _ _ _ _ _ => pts_nil) (fun _ _ _ _ _ => (pv 3))) pa_nil))) pa_nil)))))), ?_⟩
  refine ⟨_, rfl, c, rfl, c1, c2, _, rfl, iteF ?_⟩
  refine ⟨_, rfl, _, _, _, _, true, rfl, .ty "list", .base (.lst hh), kit_ty (by decide +kernel), _, rfl, iteF ?_⟩
  have hszt : ∀ e ∈ es, e.2.1.size ≤ 100000 := by
    intro e hm
    have hin : e.2.1 ∈ expand (es.map (·.2)) := by
      simp only [expand, List.mem_flatten, List.mem_map]
      refine ⟨List.replicate e.2.2 e.2.1, ⟨e.2, ⟨e, hm, rfl⟩, rfl⟩, ?_⟩
      rw [List.mem_replicate]
      exact ⟨by have := (he e hm).2; omega, rfl⟩
    have := sizes_mem hin
    omega
  refine ⟨_, rfl, h, rfl, ⟨_, SqL.of hh⟩, fun D hD => ?_⟩
  refine lc_list (xs := es.map (·.1)) (fun i H2 => H2 D = some (.lst ((List.replicate (min i es.length) true).map V.bl)) ∧ Same H H2) ⟨by simp [upd_same], same_new hD⟩ (fun i H2 _ ⟨_, s⟩ => SqL.of (s _ _ hh)) ?_ ?_
  · rintro i x H2 hx ⟨g1, g2⟩
    rw [List.getElem?_map] at hx
    cases hc : es[i]? with
    | none => rw [hc] at hx; cases hx
    | some e =>
    rw [hc] at hx
    cases hx
    have hm := List.mem_of_getElem? hc
    have hil := (List.getElem?_eq_some_iff.mp hc).1
    obtain ⟨⟨p, x, r1, r2, r3⟩, hn⟩ := he e hm
    refine ⟨rfl, _, rfl, e, rfl, ⟨p, x, r1, g2 _ _ r2, r3.same g2⟩, hn, by have := hszt e hm; omega, fun H3 s3 => ⟨_, s3 _ _ g1, ?_, ?_, same_add (g2.trans s3) hD⟩⟩
    · rw [List.length_map, List.length_replicate]
      exact Nat.lt_of_le_of_lt (show _ ≤ 1000000 by omega) (by decide)
    · rw [upd_same, Nat.min_eq_left (by omega), Nat.min_eq_left (by omega), List.replicate_succ', List.map_append]
      rfl
  rintro H2 ⟨g1, g2⟩
  refine ⟨D, _, rfl, SqL.of g1, _, rfl, ?_⟩
  have eall : (List.replicate (min (es.map (·.1)).length es.length) true).all id = true := by
    rw [List.all_eq_true]
    intro b hb
    rw [List.mem_replicate] at hb
    exact hb.2
  rw [eall]
  refine iteF ?_
  have hT2 := hT.ext g2
  have hh2 := g2 _ _ hh
  refine ⟨_, rfl, _, rfl, h, rfl, ⟨_, SqL.of hh2⟩, fun D2 hD2 => ?_⟩
  have hD20 := g2.free hD2
  refine lc_outer (xs := es.map (·.1)) (fun i H3 => ∃ acc, H3 D2 = some (.lst acc) ∧ TrsAt (fun b => b ≠ D2) H3 acc (expand ((es.map (·.2)).take i)) ∧ Same H2 H3) ⟨[], upd_same, .nil, same_new hD2⟩ (fun i H3 _ ⟨_, _, _, s⟩ => SqL.of (s _ _ hh2)) ?_ ?_
  · rintro i x H3 hx ⟨acc, q1, q2, q3⟩
    rw [List.getElem?_map] at hx
    cases hc : es[i]? with
    | none => rw [hc] at hx; cases hx
    | some e =>
    rw [hc] at hx
    cases hx
    have hm := List.mem_of_getElem? hc
    obtain ⟨v, t, n⟩ := e
    obtain ⟨⟨p, x, r1, r2, r3⟩, hn⟩ := he _ hm
    dsimp only at r1 r2 r3 hn
    subst r1
    have s03 := g2.trans q3
    have hbig : (expand ((es.map (·.2)).take i)).length + n ≤ 100000 := by
      have a1 := len_sizes (expand ((es.map (·.2)).take (i + 1)))
      have a2 := sizes_take (es.map (·.2)) (i + 1)
      have a3 := congrArg List.length (expand_take (es := es.map (·.2)) (i := i) (e := (t, n)) (by rw [List.getElem?_map, hc]; rfl))
      rw [List.length_append, List.length_replicate] at a3
      omega
    refine ⟨_, _, rfl, SqT.of (s03 _ _ r2), rfl, _, _, rfl, _, _, rfl, rfl, rfl, _, rfl, (n : Int), rfl, ?_, ?_, ?_⟩
    · omega
    · omega
    refine lc_rng (lo := 0) (n := ((n : Int)).toNat) (fun j H4 => ∃ acc, H4 D2 = some (.lst acc) ∧ TrsAt (fun b => b ≠ D2) H4 acc (expand ((es.map (·.2)).take i) ++ List.replicate j t) ∧ Same H2 H4) ⟨acc, q1, by simpa using q2, q3⟩ ?_ ?_
    · rintro j H4 hj ⟨acc4, u1, u2, u3⟩
      have hla := u2.len
      refine ⟨rfl, _, rfl, acc4, u1, ?_, acc4 ++ [x], upd_same, ?_, same_add u3 hD2⟩
      · rw [List.length_append, List.length_replicate] at hla
        exact Nat.lt_of_le_of_lt (show _ ≤ 1000000 by omega) (by decide)
      · rw [List.replicate_succ', ← List.append_assoc]
        have rx := ((r3.off hD20).same (g2.trans u3)).weak (ok' := fun b => b ≠ D2) fun b h => h.2
        exact (u2.append (.cons rx .nil)).keep (upd_keep fun b h => h)
    · rintro H4 ⟨acc4, u1, u2, u3⟩
      refine ⟨acc4, u1, ?_, u3⟩
      rw [expand_take (e := (t, n)) (by rw [List.getElem?_map, hc]; rfl)]
      rw [Int.toNat_natCast] at u2
      exact u2
  · rintro H3 ⟨acc, q1, q2, q3⟩
    rw [List.length_map, List.take_of_length_le (by rw [List.length_map]; exact Nat.le_refl _)] at q2
    refine ⟨(by show 2 ≤ sizeLine; decide), fun a ha => ?_⟩
    have na : ∀ b o, H3 b = some o → (upd H3 a (.tup [.str (ch c), .ref D2])) b = some o := fun b o e => by rw [upd_ne (ne_of_none e ha)]; exact e
    have hT3 := (hT2.ext q3).ext na
    refine ⟨_, _, rfl, .node (ok := fun _ => True) upd_same (na _ _ q1) trivial trivial c1 c2 ((q2.same na).weak fun _ _ => trivial), by simp only [Tr.size]; omega, hT3, fun x as H' f T' nd O => q x as H' (((Fr.same (g2.trans q3)).trans (Fr.same na)).trans f) T' nd (O.weak fun b h => ?_)⟩
    cases e : H b with
    | none => rfl
    | some o => rw [na _ _ (q3 _ _ (g2 _ _ e))] at h; cases h
end

section
variable {X : Cx}
def rInK (neg : Bool) : R2 := fun x y H Q => ∃ (a : Addr) (kvs : List (Key × V)) (k : Key), x = kV k ∧ y = .ref a ∧ Rd H a (.dK kvs) ∧ Q (.bl (if neg then !(valV kvs k).isSome else (valV kvs k).isSome)) H
theorem op_inK (hu : X.A.units + 1 < cLine) : OpR X (compareOp .In) (rInK false) := by
  intro pins s σ H x y v u Q I rx ry q
  obtain ⟨a, kvs, k, rfl, rfl, hk, q⟩ := q
  obtain rfl : u = Value.ref a := ry
  exact d_in hu I (.inl ⟨kvs, k, hk, rfl, rfl⟩) rx fun s3 I3 => ⟨.bl _, H, I3, rfl, q⟩
theorem op_notInK (hu : X.A.units + 1 < cLine) : OpR X (compareOp .NotIn) (rInK true) := by
  intro pins s σ H x y v u Q I rx ry q
  obtain ⟨a, kvs, k, rfl, rfl, hk, q⟩ := q
  obtain rfl : u = Value.ref a := ry
  exact d_notIn hu I (.inl ⟨kvs, k, hk, rfl, rfl⟩) rx fun s3 I3 => ⟨.bl _, H, I3, rfl, q⟩
def rMinDef (K : PySem.W.Frag) : List V → List V → Hp → VK → Prop := fun vs ws H Q => ∃ (a : Addr) (d : V) (bs : List (V × PyData)), vs = [.ref a] ∧ ws = [d] ∧ H a = some (.lst (bs.map Prod.fst)) ∧ DpAll K H (bs.map Prod.fst) (bs.map Prod.snd) ∧ PySem.W.AlikeAll (bs.map Prod.snd) ∧ PyData.depthAll (bs.map Prod.snd) ≤ 100 ∧
  (bs = [] → Q d H) ∧ ∀ y ys b, bs.map Prod.snd = y :: ys → b ∈ bs → b.2 = PySem.W.minD y ys → Q b.1 H
end
theorem roomM {k : Nat} {A : Around} (r : Room k A) : A.units + 200 < cLine := by have := r.un; omega
section
variable {X : Cx}
theorem dps_keep {K : PySem.W.Frag} {H : Hp} : ∀ {vs : List V} {ds : List PyData}, DpAll K H vs ds → vs.length = ds.length
  | _, _, .nil => rfl
  | _, _, .cons _ b => by simp only [List.length_cons, dps_keep b]
theorem dpAll_get {K : PySem.W.Frag} {H : Hp} : ∀ {bs : List (V × PyData)} {i : Nat} {b : V × PyData}, DpAll K H (bs.map Prod.fst) (bs.map Prod.snd) → bs[i]? = some b → Dp K H b.1 b.2
  | [], i, b, _, e => by simp at e
  | x :: r, 0, b, .cons h _, e => by simp at e; subst e; exact h
  | x :: r, i + 1, b, .cons _ h, e => dpAll_get h (by simpa using e)
theorem vals_get {vs : List V} {us : List Value} (r : Vals vs us) {i : Nat} {u : Value} (h : us[i]? = some u) : ∃ v, vs[i]? = some v ∧ RelV v u := by
  induction r generalizing i with
  | nil => simp at h
  | cons a b ih =>
    cases i with
    | zero => simp at h; subst h; exact ⟨_, rfl, a⟩
    | succ i =>
      obtain ⟨v, h1, h2⟩ := ih (i := i) (by simpa using h)
      exact ⟨v, by simpa using h1, h2⟩
theorem cr_minDef (hu : X.A.units + 200 < cLine) (hc : X.calm = true) : CallRK X (.builtin "min") ["default"] (rMinDef X.K) := by
  intro pins s σ H xs zs us ws Q I hv hw h
  obtain ⟨a, d, bs, rfl, rfl, ha, hdp, hal, hdep, q0, q1⟩ := h
  cases hv with
  | cons g1 g2 =>
  cases g2
  cases hw with
  | cons g3 g4 =>
  cases g4
  cases g1
  obtain ⟨oz, its, n, hits, hao⟩ := I.hok _ _ ha
  obtain ⟨as, hra⟩ := Dp.readsAll I _ _ _ hdp hits
  have hl := hits.length
  refine PySem.W.min_list_default (vs := its.toArray) (I.ok.hd hc) ⟨_, hao, rfl, n, rfl⟩ (by simpa using hra) hal (by show X.A.units + 1 + _ < _; omega) (fun e0 h' tk hk => ?_) (fun y ys i v h' tk cs e1 hi hrd hk => ?_)
  · have eb : bs = [] := by
      cases bs with
      | nil => rfl
      | cons _ _ => cases e0
    exact ⟨d, H, I.kept (t' := tk) hk, g3, q0 eb⟩
  · rw [List.getElem?_toArray] at hi
    obtain ⟨x, hx, rx⟩ := vals_get hits hi
    rw [List.getElem?_map] at hx
    cases hb : bs[i]? with
    | none => rw [hb] at hx; cases hx
    | some b =>
    rw [hb] at hx
    cases hx
    refine ⟨b.1, H, I.kept (t' := tk) hk, rx, q1 y ys b e1 (List.mem_of_getElem? hb) ?_⟩
    obtain ⟨as2, r2⟩ := Dp.reads I b.2 b.1 v (dpAll_get hdp hb) rx
    exact (Reads.unique (Reads.keeps hk r2) _ _ hrd).1
end
theorem lt_first {m n : Int} {xs ys : List PyData} : (PySem.W.dataLt (.tuple (.int m :: xs)) (.tuple (.int n :: ys)) = true → m ≤ n) ∧ (PySem.W.dataLt (.tuple (.int m :: xs)) (.tuple (.int n :: ys)) = false → n ≤ m) := by
  unfold PySem.W.dataLt
  simp only [PySem.W.keyToks, PySem.W.keyToksAll]
  rw [show (Sum.inl 1 : Int ⊕ List Nat) :: ([Sum.inl m] ++ PySem.W.keyToksAll xs) = [Sum.inl 1] ++ (Sum.inl m :: PySem.W.keyToksAll xs) from rfl, show (Sum.inl 1 : Int ⊕ List Nat) :: ([Sum.inl n] ++ PySem.W.keyToksAll ys) = [Sum.inl 1] ++ (Sum.inl n :: PySem.W.keyToksAll ys) from rfl, PySem.W.lex_pre]
  by_cases e : m = n
  · exact ⟨fun _ => Int.le_of_eq e, fun _ => Int.le_of_eq e.symm⟩
  · have hne : (Sum.inl m : Int ⊕ List Nat) ≠ Sum.inl n := fun h => e (Sum.inl.inj h)
    rw [lex_diff (O := itemOrd) hne]
    show (decide (m < n) = true → _) ∧ (decide (m < n) = false → _)
    exact ⟨fun h => Int.le_of_lt (of_decide_eq_true h), fun h => Int.not_lt.mp (of_decide_eq_false h)⟩
theorem minD_first {f : PyData → Int} {P : PyData → Prop} (h1 : ∀ x y, P x → P y → PySem.W.dataLt x y = true → f x ≤ f y) (h2 : ∀ x y, P x → P y → PySem.W.dataLt x y = false → f y ≤ f x) : ∀ (ys : List PyData) (y : PyData), P y → (∀ z ∈ ys, P z) → f (PySem.W.minD y ys) ≤ f y ∧ ∀ z ∈ ys, f (PySem.W.minD y ys) ≤ f z
  | [], y, _, _ => ⟨Int.le_refl _, fun _ h => by cases h⟩
  | z :: r, y, py, pz => by
    have pz0 := pz z List.mem_cons_self
    unfold PySem.W.minD
    rw [List.foldl_cons]
    cases e : PySem.W.dataLt z y with
    | true =>
      have ih := minD_first h1 h2 r z pz0 fun w hw => pz w (List.mem_cons_of_mem _ hw)
      unfold PySem.W.minD at ih
      rw [if_pos rfl]
      have a := h1 _ _ pz0 py e
      refine ⟨Int.le_trans ih.1 a, fun w hw => ?_⟩
      rcases List.mem_cons.mp hw with h | h
      · rw [h]; exact ih.1
      · exact ih.2 w h
    | false =>
      have ih := minD_first h1 h2 r y py fun w hw => pz w (List.mem_cons_of_mem _ hw)
      unfold PySem.W.minD at ih
      rw [if_neg (by decide)]
      have a := h2 _ _ pz0 py e
      refine ⟨ih.1, fun w hw => ?_⟩
      rcases List.mem_cons.mp hw with h | h
      · rw [h]; exact Int.le_trans ih.1 a
      · exact ih.2 w h

def onlyOf (S : List Nat) (row : List Nat) : Prop := ∀ i x, row[i]? = some x → x ≠ 0 → i ∈ S
def szOf (zs : List (Nat × Nat)) (i : Nat) : Nat := ((zs.find? fun p => decide (p.1 = i)).map (·.2)).getD 0
def wtL (f : Nat → Nat) : Nat → List Nat → Nat
  | _, [] => 0
  | k, x :: r => x * f k + wtL f (k + 1) r
def wt (zs : List (Nat × Nat)) (row : List Nat) : Nat := 1 + wtL (szOf zs) 0 row
def stsOf (zs : List (Nat × Nat)) : List Nat := zs.map (·.1)
theorem szOf_old {zs : List (Nat × Nat)} {p : Nat × Nat} {i : Nat} (h : i ∈ stsOf zs) : szOf (zs ++ [p]) i = szOf zs i := by
  unfold szOf
  rw [List.find?_append]
  obtain ⟨q, hq, rfl⟩ := List.mem_map.mp h
  cases e : zs.find? fun p => decide (p.1 = q.1) with
  | none => exact absurd (List.find?_eq_none.mp e q hq) (by simp)
  | some x => rfl
theorem szOf_new {zs : List (Nat × Nat)} {s m : Nat} (h : s ∉ stsOf zs) : szOf (zs ++ [(s, m)]) s = m := by
  unfold szOf
  rw [List.find?_append]
  have : zs.find? (fun p => decide (p.1 = s)) = none := List.find?_eq_none.mpr fun x hx e => h (List.mem_map.mpr ⟨x, hx, by simpa using e⟩)
  rw [this]
  simp
theorem szOf_mem {zs : List (Nat × Nat)} {i : Nat} (h : i ∈ stsOf zs) : (i, szOf zs i) ∈ zs := by
  unfold szOf
  obtain ⟨q, hq, rfl⟩ := List.mem_map.mp h
  cases e : zs.find? fun p => decide (p.1 = q.1) with
  | none => exact absurd (List.find?_eq_none.mp e q hq) (by simp)
  | some x =>
    have h1 := List.mem_of_find?_eq_some e
    have h2 := List.find?_some e
    have h3 : x.1 = q.1 := by simpa using h2
    show (q.1, x.2) ∈ zs
    rw [← h3]
    exact h1
theorem szOf_out {zs : List (Nat × Nat)} {i : Nat} (h : i ∉ stsOf zs) : szOf zs i = 0 := by
  unfold szOf
  have : zs.find? (fun p => decide (p.1 = i)) = none := List.find?_eq_none.mpr fun x hx e => h (List.mem_map.mpr ⟨x, hx, by simpa using e⟩)
  rw [this]
  rfl
theorem wtL_congr {f g : Nat → Nat} : ∀ (row : List Nat) (k : Nat), (∀ i x, row[i]? = some x → x ≠ 0 → f (k + i) = g (k + i)) → wtL f k row = wtL g k row
  | [], _, _ => rfl
  | x :: r, k, h => by
    simp only [wtL]
    rw [wtL_congr (f := f) (g := g) r (k + 1) fun i y hy hn => by have := h (i + 1) y (by simpa using hy) hn; rw [show k + 1 + i = k + (i + 1) by omega]; exact this]
    by_cases hx : x = 0
    · simp only [hx, Nat.zero_mul]
    · have := h 0 x rfl hx
      simp only [Nat.add_zero] at this
      simp only [this]
theorem wtL_ge {f : Nat → Nat} : ∀ (row : List Nat) (k i x : Nat), row[i]? = some x → x ≠ 0 → f (k + i) ≤ wtL f k row
  | [], _, i, x, h, _ => by simp at h
  | y :: r, k, 0, x, h, hn => by
    simp at h
    subst h
    simp only [wtL, Nat.add_zero]
    have : f k ≤ y * f k := Nat.le_mul_of_pos_left _ (by omega)
    omega
  | y :: r, k, i + 1, x, h, hn => by
    have := wtL_ge (f := f) r (k + 1) i x (by simpa using h) hn
    simp only [wtL]
    rw [show k + (i + 1) = k + 1 + i by omega]
    omega
theorem wtL_mono {f g : Nat → Nat} (h : ∀ i, f i ≤ g i) : ∀ (row : List Nat) (k : Nat), wtL f k row ≤ wtL g k row
  | [], _ => Nat.le_refl _
  | x :: r, k => by
    have a := wtL_mono h r (k + 1)
    have b := Nat.mul_le_mul_left x (h k)
    simp only [wtL]
    omega
theorem wtL_add (f g : Nat → Nat) : ∀ (row : List Nat) (k : Nat), wtL (fun i => f i + g i) k row = wtL f k row + wtL g k row
  | [], _ => rfl
  | x :: r, k => by
    simp only [wtL, wtL_add f g r (k + 1), Nat.mul_add]
    omega
theorem wtL_one {s m b : Nat} : ∀ (row : List Nat) (k : Nat), (∀ x ∈ row, x ≤ b) → wtL (fun i => if s = i then m else 0) k row ≤ b * m
  | [], _, _ => Nat.zero_le _
  | x :: r, k, h => by
    have ih := wtL_one (s := s) (m := m) r (k + 1) fun y hy => h y (List.mem_cons_of_mem _ hy)
    have hx := h x List.mem_cons_self
    simp only [wtL]
    by_cases e : s = k
    · have z : ∀ (r : List Nat) (j : Nat), s < j → wtL (fun i => if s = i then m else 0) j r = 0 := by
        intro r
        induction r with
        | nil => intro j _; rfl
        | cons y t ih =>
          intro j hj
          simp only [wtL]
          rw [ih (j + 1) (by omega), if_neg (by omega), Nat.mul_zero]
      rw [if_pos e, z r (k + 1) (by omega)]
      exact Nat.mul_le_mul_right m hx
    · rw [if_neg e, Nat.mul_zero, Nat.zero_add]
      exact ih
theorem wtL_bound {b : Nat} {row : List Nat} (h : ∀ x ∈ row, x ≤ b) : ∀ zs : List (Nat × Nat), wtL (szOf zs) 0 row ≤ b * (zs.map (·.2)).sum
  | [] => by
    have z : ∀ (r : List Nat) (j : Nat), wtL (szOf []) j r = 0 := by
      intro r
      induction r with
      | nil => intro j; rfl
      | cons y t ih =>
        intro j
        simp only [wtL]
        rw [ih]
        rfl
    rw [z]
    exact Nat.zero_le _
  | (s, m) :: zs => by
    have ih := wtL_bound h zs
    have a : wtL (szOf ((s, m) :: zs)) 0 row ≤ wtL (fun i => (if s = i then m else 0) + szOf zs i) 0 row := wtL_mono (fun i => by
      unfold szOf
      by_cases e : s = i
      · simp [e]
      · simp [e]) _ _
    rw [wtL_add] at a
    have c := wtL_one (s := s) (m := m) row 0 h
    rw [List.map_cons, List.sum_cons, Nat.mul_add]
    show _ ≤ b * m + _
    omega
structure LInv (J : JD) (zs : List (Nat × Nat)) (M : Nat) : Prop where
  nd : (stsOf zs).Nodup
  lt : ∀ p ∈ zs, p.1 < J.n
  le : ∀ p ∈ zs, p.2 ≤ M
  pos : ∀ p ∈ zs, 1 ≤ p.2
  T : 7 * (zs.map (·.2)).sum + 1 ≤ 8 ^ zs.length
  A : ∀ key ∈ J.keys, onlyOf (stsOf zs) key.2 → J.fs key.1 key.2 ∈ stsOf zs → szOf zs (J.fs key.1 key.2) ≤ wt zs key.2
  C : ∀ key ∈ J.keys, onlyOf (stsOf zs) key.2 → J.fs key.1 key.2 ∉ stsOf zs → M ≤ wt zs key.2
theorem LInv.nil (J : JD) : LInv J [] 0 := ⟨.nil, (fun _ h => by cases h), (fun _ h => by cases h), (fun _ h => by cases h), by decide, (fun _ _ _ h => by cases h), fun _ _ _ _ => Nat.zero_le _⟩
theorem wt_bound {J : JD} (hok : J.ok) {zs : List (Nat × Nat)} {M : Nat} (h : LInv J zs M) {key : Nat × List Nat} (hk : key ∈ J.keys) : wt zs key.2 ≤ 8 ^ zs.length := by
  have hr := (keysOf_mem hk).2.2
  have := wtL_bound (b := 7) (row := key.2) (fun x hx => by have := hr x hx; have := hok.f4; have := hok.t4; omega) zs
  have := h.T
  unfold wt
  omega
theorem stsOf_app (zs : List (Nat × Nat)) (p : Nat × Nat) : stsOf (zs ++ [p]) = stsOf zs ++ [p.1] := by unfold stsOf; rw [List.map_append]; rfl
theorem LInv.step {J : JD} (hok : J.ok) {zs : List (Nat × Nat)} {M : Nat} (h : LInv J zs M) {key : Nat × List Nat} (hk : key ∈ J.keys) (ho : onlyOf (stsOf zs) key.2) (hn : J.fs key.1 key.2 ∉ stsOf zs)
    (hmin : ∀ k2 ∈ J.keys, onlyOf (stsOf zs) k2.2 → J.fs k2.1 k2.2 ∉ stsOf zs → wt zs key.2 ≤ wt zs k2.2) : LInv J (zs ++ [(J.fs key.1 key.2, wt zs key.2)]) (wt zs key.2) := by
  have hM := h.C key hk ho hn
  have hwt := wt_bound hok h hk
  have hT := h.T
  have hle : ∀ p ∈ zs ++ [(J.fs key.1 key.2, wt zs key.2)], p.2 ≤ wt zs key.2 := fun p hp => by
    rcases List.mem_append.mp hp with hp | hp
    · have := h.le p hp; omega
    · rw [List.mem_singleton.mp hp]; exact Nat.le_refl _
  have old : ∀ row, onlyOf (stsOf zs) row → wt (zs ++ [(J.fs key.1 key.2, wt zs key.2)]) row = wt zs row := fun row hr => by
    unfold wt
    rw [wtL_congr row 0 fun i x hi hx => szOf_old (by rw [Nat.zero_add]; exact hr i x hi hx)]
  have new : ∀ row, onlyOf (stsOf (zs ++ [(J.fs key.1 key.2, wt zs key.2)])) row → ¬ onlyOf (stsOf zs) row → 1 + wt zs key.2 ≤ wt (zs ++ [(J.fs key.1 key.2, wt zs key.2)]) row := fun row hr hr2 => by
    have : ∃ i x, row[i]? = some x ∧ x ≠ 0 ∧ i ∉ stsOf zs := by
      refine Classical.byContradiction fun hc => hr2 fun i x hi hx => Classical.byContradiction fun hm => hc ⟨i, x, hi, hx, hm⟩
    obtain ⟨i, x, hi, hx, hm⟩ := this
    have hi2 := hr i x hi hx
    rw [stsOf_app] at hi2
    rcases List.mem_append.mp hi2 with h2 | h2
    · exact absurd h2 hm
    have e := List.mem_singleton.mp h2
    have g := wtL_ge (f := szOf (zs ++ [(J.fs key.1 key.2, wt zs key.2)])) row 0 i x hi hx
    rw [Nat.zero_add, e] at g
    have g2 := szOf_new (m := wt zs key.2) hn
    rw [g2] at g
    show 1 + wt zs key.2 ≤ 1 + _
    omega
  refine ⟨?_, ?_, hle, ?_, ?_, ?_, ?_⟩
  · rw [stsOf_app, List.nodup_append]
    exact ⟨h.nd, by simp, fun a ha b hb e => by rw [e, List.mem_singleton.mp hb] at ha; exact hn ha⟩
  · intro p hp
    rcases List.mem_append.mp hp with hp | hp
    · exact h.lt p hp
    · rw [List.mem_singleton.mp hp]; exact hok.lt key hk
  · intro p hp
    rcases List.mem_append.mp hp with hp | hp
    · exact h.pos p hp
    · rw [List.mem_singleton.mp hp]
      show 1 ≤ 1 + _
      omega
  · rw [List.map_append, List.sum_append, List.length_append, List.length_singleton, Nat.pow_succ]
    simp only [List.map_cons, List.map_nil, List.sum_cons, List.sum_nil]
    have b := wtL_bound (b := 7) (row := key.2) (fun x hx => by have := (keysOf_mem hk).2.2 x hx; have := hok.f4; have := hok.t4; omega) zs
    have : wt zs key.2 ≤ 1 + 7 * (zs.map (·.2)).sum := by unfold wt; omega
    omega
  · intro k2 hk2 ho2 hm
    by_cases hold : onlyOf (stsOf zs) k2.2
    · rw [old _ hold]
      rw [stsOf_app] at hm
      by_cases hin : J.fs k2.1 k2.2 ∈ stsOf zs
      · rw [szOf_old hin]
        exact h.A k2 hk2 hold hin
      · rcases List.mem_append.mp hm with h2 | h2
        · exact absurd h2 hin
        rw [List.mem_singleton.mp h2, szOf_new hn]
        exact hmin k2 hk2 hold hin
    · have := new _ ho2 hold
      have hm2 := szOf_mem hm
      have := hle _ hm2
      dsimp only at this
      omega
  · intro k2 hk2 ho2 hm
    rw [stsOf_app] at hm
    by_cases hold : onlyOf (stsOf zs) k2.2
    · rw [old _ hold]
      exact hmin k2 hk2 hold fun hin => hm (List.mem_append_left _ hin)
    · have := new _ ho2 hold
      omega
def Closed (J : JD) (S : List Nat) : Prop := ∀ key ∈ J.keys, onlyOf S key.2 → J.fs key.1 key.2 ∈ S
theorem clsN_le {few turn x : Nat} (t : 1 ≤ turn) : clsN few turn x ≤ x := by
  unfold clsN
  split
  · exact Nat.le_refl _
  · have := Nat.mod_le (x - few) turn
    omega
theorem wtL_cls {few turn : Nat} (t : 1 ≤ turn) (f : Nat → Nat) : ∀ (row : List Nat) (k : Nat), wtL f k (row.map (clsN few turn)) ≤ wtL f k row
  | [], _ => Nat.le_refl _
  | x :: r, k => by
    have a := wtL_cls (few := few) t f r (k + 1)
    have b := Nat.mul_le_mul_right (f k) (clsN_le (few := few) (x := x) t)
    simp only [List.map_cons, wtL]
    omega
theorem wtL_set {f : Nat → Nat} : ∀ (row : List Nat) (k i x : Nat), row[i]? = some x → wtL f k (row.set i (x + 1)) = wtL f k row + f (k + i)
  | [], _, i, x, h => by simp at h
  | y :: r, k, 0, x, h => by
    simp at h
    subst h
    simp only [List.set_cons_zero, wtL, Nat.add_zero, Nat.succ_mul]
    omega
  | y :: r, k, i + 1, x, h => by
    have := wtL_set (f := f) r (k + 1) i x (by simpa using h)
    simp only [List.set_cons_succ, wtL]
    rw [this, show k + (i + 1) = k + 1 + i by omega]
    omega
theorem wtL_zero (f : Nat → Nat) : ∀ (n k : Nat), wtL f k (List.replicate n 0) = 0
  | 0, _ => rfl
  | n + 1, k => by rw [List.replicate_succ, wtL, wtL_zero f n, Nat.zero_mul]
theorem wtL_cnts {f : Nat → Nat} {n : Nat} {xs : List Nat} (h : ∀ s ∈ xs, s < n) : wtL f 0 (cnts n xs) = (xs.map f).sum := by
  have : ∀ ys : List Nat, (∀ s ∈ ys, s < n) → wtL f 0 (cnts n ys.reverse) = (ys.map f).sum := by
    intro ys
    induction ys with
    | nil => intro _; rw [List.reverse_nil, cnts_nil, wtL_zero]; rfl
    | cons y r ih =>
      intro hy
      have hyn := hy y List.mem_cons_self
      rw [List.reverse_cons, ← cnts_set _ hyn, wtL_set _ 0 y _ (cnts_at _ hyn), ih fun s hs => hy s (List.mem_cons_of_mem _ hs), List.map_cons, List.sum_cons, Nat.zero_add]
      omega
  have e := this xs.reverse fun s hs => h s (List.mem_reverse.mp hs)
  rw [List.reverse_reverse] at e
  rw [e, List.map_reverse, List.sum_reverse]
theorem only_cnts {J : JD} {S : List Nat} {xs : List Nat} (h : ∀ s ∈ xs, s ∈ S) : onlyOf S ((cnts J.n xs).map (clsN J.few J.turn)) := by
  intro i x hi hx
  rw [List.getElem?_map] at hi
  cases e : (cnts J.n xs)[i]? with
  | none => rw [e] at hi; cases hi
  | some y =>
  rw [e] at hi
  have hil : i < J.n := by
    have := (List.getElem?_eq_some_iff.mp e).1
    rwa [cnts_len] at this
  rw [cnts_at _ hil] at e
  cases e
  refine h i (List.count_pos_iff.mp (Nat.pos_of_ne_zero fun z => ?_))
  rw [z] at hi
  have : clsN J.few J.turn 0 = 0 ∨ clsN J.few J.turn 0 ≠ 0 := Classical.em _
  have h0 : x = clsN J.few J.turn 0 := (Option.some.inj hi).symm
  rw [h0] at hx
  unfold clsN at hx
  split at hx
  · exact hx rfl
  · rename_i hnot
    rw [show 0 - J.few = 0 by omega, Nat.zero_mod] at hx
    omega
theorem mem_Sts {fs : Nat → List Nat → Nat} {n s : Nat} {ks : List Tr} (h : s ∈ Sts fs n ks) : ∃ t ∈ ks, s = St fs n t := by
  rw [Sts_map] at h
  obtain ⟨t, h1, h2⟩ := List.mem_map.mp h
  exact ⟨t, h1, h2.symm⟩
mutual
theorem closed_all {J : JD} (hok : J.ok) {S : List Nat} (hc : Closed J S) : ∀ t : Tr, t.lets (fun c => c ∈ J.L.cps.toList) → St J.sf J.n t ∈ S
  | .node c ks, h => by
    simp only [Tr.lets] at h
    have ih := closed_alls hok hc ks h.2
    simp only [St]
    exact hc _ (hok.key h.1 (cnts_len _ _)) (only_cnts fun s hs => by obtain ⟨t, h1, rfl⟩ := mem_Sts hs; exact ih t h1)
theorem closed_alls {J : JD} (hok : J.ok) {S : List Nat} (hc : Closed J S) : ∀ ts : List Tr, letss (fun c => c ∈ J.L.cps.toList) ts → ∀ t ∈ ts, St J.sf J.n t ∈ S
  | [], _, t, h => by cases h
  | u :: r, hl, t, h => by
    simp only [letss] at hl
    rcases List.mem_cons.mp h with e | h
    · rw [e]; exact closed_all hok hc u hl.1
    · exact closed_alls hok hc r hl.2 t h
end
mutual
theorem least_all {J : JD} (hok : J.ok) {zs : List (Nat × Nat)} {M : Nat} (h : LInv J zs M) (hc : Closed J (stsOf zs)) : ∀ t : Tr, t.lets (fun c => c ∈ J.L.cps.toList) → szOf zs (St J.sf J.n t) ≤ t.size
  | .node c ks, hl => by
    have hin := closed_all hok hc (.node c ks) hl
    simp only [Tr.lets] at hl
    have ih := least_alls hok h hc ks hl.2
    simp only [St] at hin ⊢
    have o := only_cnts (J := J) (S := stsOf zs) (xs := Sts J.sf J.n ks) fun s hs => by obtain ⟨t, h1, rfl⟩ := mem_Sts hs; exact closed_all hok hc t (letss_mem hl.2 h1)
    have a := h.A _ (hok.key hl.1 (cnts_len J.n (Sts J.sf J.n ks))) o hin
    have b := wtL_cls (few := J.few) hok.t1 (szOf zs) (cnts J.n (Sts J.sf J.n ks)) 0
    rw [wtL_cnts (fun s hs => by obtain ⟨t, h1, rfl⟩ := mem_Sts hs; exact St_ltJ hok t (letss_mem hl.2 h1))] at b
    simp only [Tr.size]
    unfold wt at a
    dsimp only at a
    have a : szOf zs (J.sf c (cnts J.n (Sts J.sf J.n ks))) ≤ _ := a
    omega
theorem least_alls {J : JD} (hok : J.ok) {zs : List (Nat × Nat)} {M : Nat} (h : LInv J zs M) (hc : Closed J (stsOf zs)) : ∀ ts : List Tr, letss (fun c => c ∈ J.L.cps.toList) ts → ((Sts J.sf J.n ts).map (szOf zs)).sum ≤ sizes ts
  | [], _ => Nat.le_refl _
  | u :: r, hl => by
    simp only [letss] at hl
    have a := least_all hok h hc u hl.1
    have b := least_alls hok h hc r hl.2
    simp only [Sts, List.map_cons, List.sum_cons, sizes]
    omega
end

section
open AutoSeq1 (wpAny_loadPart')
theorem meets_enumT (t : Addr) (vs : Array Value) (m : Nat) (od : Option Addr) (os : Array (Option Value)) :
    Meets (Builtin.«enumerate.__new__» ⟨[.type "enumerate", .ref t], []⟩) (fun _ R s => s.heap.get? t = some { cls := .type "tuple", dict := od, data := .seq vs m, slots := os } ∧
      R (.ok (.ret (.ref (s.heap.push { cls := .type "tuple_iterator", data := .fields #[.ref t, .int 0 0] }).objs.size)))
        { s with heap := (s.heap.push { cls := .type "tuple_iterator", data := .fields #[.ref t, .int 0 0] }).push { cls := .type "enumerate", data := .fields #[.none, .bool false, .ref s.heap.objs.size, rawInt 0, .none, .none] } }) :=
  .of_wp fun prog w A R s both => by
    obtain ⟨h0, h1, h2, h3, h4⟩ := s
    obtain ⟨here, fin⟩ := both
    have kin := sub_enumerate
    have isT : Heap.IsTuple (Shared.heap ⟨h0, h1, h2, h3, h4⟩) t vs := ⟨_, here, rfl, m, rfl⟩
    wp_walk using wpAny_loadPart' here
    refine wpAny_stack_any fun top => wpAny_pure ?_
    split
    · rename_i c1 _ _ _ _ _
      cases (c1 == Value.type "enumerate") <;> (wp_walk using wpAny_loadPart' here, wpAny_pyIter_tuple isT; exact ⟨_, rfl, fin⟩)
    · wp_walk using wpAny_loadPart' here, wpAny_pyIter_tuple isT
      exact ⟨_, rfl, fin⟩
end
theorem call_enumT {prog : Program} {w : World} {A : Around} {E : Value → Shared → Prop} {s : Shared} {t : Addr} {vs : Array Value} {Q : Value → Shared → Prop} (isT : s.heap.IsTuple t vs)
    (go : ∀ h2, IsEnum h2 (s.heap.objs.size + 1) s.heap.objs.size 0 .none → h2.IsTupleIter s.heap.objs.size t 0 → (∀ b o, s.heap.get? b = some o → h2.get? b = some o) → Q (.ref (s.heap.objs.size + 1)) { s with heap := h2 }) :
    wpAny (model prog w) A (call (.type "enumerate") [.ref t]) Q E s := by
  obtain ⟨⟨kl, dd, da, sl⟩, here, e1, m, e2⟩ := isT
  dsimp only at e1 e2
  subst e1 e2
  refine callType_new F.called_enumerate (by decide) (F.typeCall_enumerate_1 _) (F.newCall_enumerate_1 _) (fun obj => F.args_object_init_2 obj _) F.entry_enumerate_new (meets_enumT t vs m dd sl) ⟨here, ?_⟩
  have sz : (s.heap.push { cls := .type "tuple_iterator", data := .fields #[.ref t, .int 0 0] }).objs.size = s.heap.objs.size + 1 := Heap.size_push ..
  have at_ := Heap.get?_push_size (s.heap.push { cls := .type "tuple_iterator", data := .fields #[.ref t, .int 0 0] })
    (o := { cls := .type "enumerate", data := .fields #[.none, .bool false, .ref s.heap.objs.size, rawInt 0, .none, .none] }) rfl
  rw [sz] at at_
  show _ ∧ _
  rw [sz]
  exact ⟨⟨_, at_, rfl⟩, go _ at_ ⟨_, Heap.get?_push_of_some _ (Heap.get?_push_size _ rfl), rfl, rfl⟩ fun b o e => Heap.get?_push_of_some _ (Heap.get?_push_of_some _ e)⟩
def IteT (K : PySem.W.Frag) (a : Addr) : It := ⟨fun i H => ∃ xs : List V, SqT K H a xs ∧ i < xs.length, fun i H v H' => ∃ (T : Addr) (x : V), v = .ref T ∧ H T = none ∧ H' = upd H T (.tup [.int (i : Nat), x]) ∧ ∀ xs, SqT K H a xs → xs[i]? = some x, fun i H => ∃ xs : List V, SqT K H a xs ∧ xs.length = i⟩
theorem enum_off {h : Heap} {en it a : Addr} {n : Int} {old : Value} {vs : Array Value} (x : IsEnum h en it n old) (y : h.IsTuple a vs) : en ≠ a := fun e => by
  obtain ⟨o, h1, h2, _⟩ := y
  have x : h.get? en = some _ := x
  rw [e, h1] at x
  cases x
  exact absurd (Value.type.inj h2) (by decide)
theorem turn_enumT {P : Program} {w : World} {K : PySem.W.Frag} {elts : List PySem.Expr} {kk : Nat} {tpos : Pos} (a en it : Addr) (na : a ≠ it) :
    Turn P w K (.Tuple elts kk tpos) (IteT K a) [en, it] en (fun i h => (∃ old, IsEnum h en it ((i : Nat) : Int) old) ∧ h.IsTupleIter it a i ∧ en ≠ it) where
  mem := by simp
  obj := fun i h st b hb => by
    obtain ⟨⟨old, h1⟩, ⟨o, ho, _, hd⟩, _⟩ := st
    rcases (by simpa using hb : b = en ∨ b = it) with z | z
    · subst z; exact ⟨_, h1, fun v q => nomatch q⟩
    · subst z; exact ⟨o, ho, fun v q => by rw [hd] at q; cases q⟩
  keep := fun i h h' st k => by
    obtain ⟨⟨old, h1⟩, ⟨o, ho, r⟩, ne⟩ := st
    exact ⟨⟨old, k en (by simp) _ h1⟩, ⟨o, k it (by simp) _ ho, r⟩, ne⟩
  item := by
    intro X e1 e2 e3 hc i pins s σ H E I hf st hg
    subst e1 e2 e3
    obtain ⟨⟨old, h1⟩, h2, ne⟩ := st
    obtain ⟨xs, hq, lt⟩ := hg
    obtain ⟨its, rv, p, _⟩ := I.tuple hq
    have D := Draws.tuple (prog := X.prog) (w := X.w) (A := X.A.in1) (I.ok.hd hc) it a na its.toArray
    have hel : en < s.heap.objs.size := Heap.lt_size h1
    have hil : it < s.heap.objs.size := by obtain ⟨_, q, _⟩ := h2; exact Heap.lt_size q
    have nea := enum_off h1 p
    refine wpAny_pyNext_enum_itemD D h1 ⟨h2, p⟩ (by rw [List.size_toArray, ← rv.length]; exact lt) ne (fun z => by
      rcases (by simpa using z : en = it ∨ en = a) with z | z
      · exact ne z
      · exact nea z) fun u h' tk hP ho hit' hT hsz hk => ?_
    have hx : xs[i]? = some xs[i] := List.getElem?_eq_getElem lt
    obtain ⟨u2, eu, ru⟩ := rv.get hx
    rw [List.getElem?_toArray] at hP
    rw [eu] at hP
    cases hP
    refine ⟨_, rfl, wpAny_letOwnedTupleGo_enum (s := { s with heap := h', toks := tk + 1 }) ho fun h'' he' sb => ?_⟩
    have hT2 : h''.get? s.heap.objs.size = some { cls := .type "tuple", data := .seq #[.int i tk, u] } := (sb.2 _ (Nat.ne_of_gt hel)).trans hT
    have nw : ObjOk X.prog X.w (upd H s.heap.objs.size (.tup [.int (i : Nat), xs[i]])) h'' s.heap.objs.size (.tup [.int (i : Nat), xs[i]]) :=
      ⟨(show 2 ≤ sizeLine by decide), [.int i tk, u], .cons ⟨_, rfl⟩ (.cons ru .nil), _, hT2, rfl, _, rfl⟩
    have I1 : Inv X pins σ (upd H s.heap.objs.size (.tup [.int (i : Nat), xs[i]])) { s with heap := h'', toks := tk + 1 } :=
      I.turnedNew (ch := [en, it]) (fun b ob hb q => (sb.2 b (fun z => hb (by simp [z]))).trans (hk b ob (fun z => hb (by simp [z])) (fun z => hb (by simp [z])) q)) hf (Nat.le_refl _) nw
    refine ⟨.ref s.heap.objs.size, _, I1, rfl, ⟨_, xs[i], rfl, I.hok.fresh (Nat.le_refl _), rfl, fun ys hy => by rw [I.tuple_inj hy hq]; exact hx⟩, ⟨⟨u, ?_⟩, (D.frame (i + 1) h' h'' hit' (fun b hb o q => (sb.2 b (fun z => ?_)).trans q)).1, ne⟩, fun b hb => ?_⟩
    · have e9 : ((i + 1 : Nat) : Int) = (i : Int) + 1 := by omega
      rw [e9]; exact he'
    · rcases (by simpa using hb : b = it ∨ b = a) with y | y
      · exact ne (by rw [← z, y])
      · exact nea (by rw [← z, y])
    · have low : b ≠ s.heap.objs.size := by
        rcases (by simpa using hb : b = en ∨ b = it) with z | z
        · rw [z]; exact Nat.ne_of_lt hel
        · rw [z]; exact Nat.ne_of_lt hil
      rw [upd_ne low]
      exact (hf b hb).1
  done := by
    intro X e1 e2 e3 hc i pins s σ H E I hf st hg
    subst e1 e2 e3
    obtain ⟨⟨old, h1⟩, h2, ne⟩ := st
    obtain ⟨xs, hq, lt⟩ := hg
    obtain ⟨its, rv, p, _⟩ := I.tuple hq
    obtain ⟨z0, z1, _, z3, z4, z5⟩ := hf it (by simp)
    have D := Draws.tuple (prog := X.prog) (w := X.w) (A := X.A.in1) (I.ok.hd hc) it a na its.toArray
    have hg' : its.toArray.size = i := by rw [List.size_toArray, ← rv.length]; exact lt
    subst hg'
    exact wpAny_pyNext_enum_endD D h1 ⟨h2, p⟩ fun h' eb => ⟨rfl, I.turned (t' := s.toks) (fun b o hb q => eb b o hb q) z0 z1 z3 z4 z5⟩
  self := fun A i s Q E st h => let ⟨⟨_, h1⟩, _⟩ := st; wpAny_pyIter_enum h1 h
def iEnumT (K : PySem.W.Frag) (ta : TA) : TI := fun σ H R => ta σ H fun vs H1 => ∃ a xs, vs = [.ref a] ∧ SqT K H1 a xs ∧ R (IteT K a) H1
theorem pi_enumT {X : Cx} {e : PySem.Expr} {ta : TA} {p pos tpos : Pos} {elts : List PySem.Expr} {kk : Nat} (hg : Gl X "enumerate") (hm : X.mg "enumerate" = none) (ha : PA X [e] ta) (hs : starEach [e] X.env = [(false, eval e X.env)] := by rfl) :
    PI X (.Tuple elts kk tpos) (.Call (.Name "enumerate" p) [e] [] pos) (iEnumT X.K ta) := by
  constructor
  intro pins s σ H R I h
  refine Call_ (ld_blt I hg hm boot_enumerate (PyProof.Rows.callWith_type1 (thn (ha.run pos pins s σ H _ I h) fun us t1 got => ?_) hs rfl))
  obtain ⟨vs, H1, J, r1, a, xs, rfl, hq, q⟩ := got
  obtain ⟨u, rfl, ru⟩ := r1.one
  cases ru
  obtain ⟨its, rv, p2, _⟩ := J.tuple hq
  have la : a < t1.heap.objs.size := p2.lt
  refine call_enumT p2 fun h2 isE isI stays => wpAny_pyIter_enum isE ?_
  refine ⟨t1.heap.objs.size + 1, [t1.heap.objs.size + 1, t1.heap.objs.size], _, _, H1, rfl, J.kept (t' := t1.toks) stays, turn_enumT a (t1.heap.objs.size + 1) t1.heap.objs.size (Nat.ne_of_lt la), ⟨⟨.none, isE⟩, isI, Nat.succ_ne_self _⟩, fun b hb => ?_, q⟩
  have far : t1.heap.objs.size ≤ b := by
    have two : b = t1.heap.objs.size + 1 ∨ b = t1.heap.objs.size := by simpa using hb
    rcases two with rfl | rfl
    · exact Nat.le_succ _
    · exact Nat.le_refl _
  exact J.fpOk far (J.hok.fresh far)
theorem walk_enumT {K : PySem.W.Frag} {a : Addr} {xs : List V} : Walk (IteT K a) xs.length (fun H => SqT K H a xs) (fun i H v H' => ∃ (T : Addr) (x : V), v = .ref T ∧ H T = none ∧ H' = upd H T (.tup [.int (i : Nat), x]) ∧ xs[i]? = some x) :=
  ⟨fun _ _ hi q => ⟨xs, q, hi⟩, fun _ q => ⟨xs, q, rfl⟩, fun _ _ _ _ _ q ⟨T, x, h1, h2, h3, h4⟩ => ⟨T, x, h1, h2, h3, h4 xs q⟩⟩


def kvZ (zs : List (Nat × Nat)) : List (Key × V) := zs.map fun p => (Sum.inl (p.1 : Int), nI p.2)
theorem valZ (zs : List (Nat × Nat)) (i : Nat) : valV (kvZ zs) (Sum.inl (i : Int)) = if i ∈ stsOf zs then some (nI (szOf zs i)) else none := by
  induction zs with
  | nil => simp [valV, kvZ, stsOf]
  | cons p r ih =>
    by_cases e : p.1 = i
    · subst e
      simp [valV, kvZ, stsOf, szOf]
    · have e2 : ¬ (i = p.1) := fun h => e h.symm
      have e3 : ¬ ((Sum.inl (p.1 : Int) : Key) = Sum.inl (i : Int)) := fun h => e (by have := Sum.inl.inj h; omega)
      have h1 : valV (kvZ (p :: r)) (Sum.inl (i : Int)) = valV (kvZ r) (Sum.inl (i : Int)) := by
        unfold valV kvZ
        rw [List.map_cons, List.find?_cons]
        simp only [e3, decide_false]
      have h2 : szOf (p :: r) i = szOf r i := by
        unfold szOf
        rw [List.find?_cons]
        simp only [e, decide_false]
      have h3 : (i ∈ stsOf (p :: r)) ↔ i ∈ stsOf r := by
        unfold stsOf
        rw [List.map_cons, List.mem_cons]
        simp [e2]
      rw [h1, ih, h2]
      simp only [h3]
def onlyB (S : List Nat) (row : List Nat) : Bool := (row.zipIdx 0).all fun p => decide (p.1 = 0) || decide (p.2 ∈ S)
theorem onlyB_iff {S row : List Nat} : onlyB S row = true ↔ onlyOf S row := by
  unfold onlyB onlyOf
  rw [List.all_eq_true]
  constructor
  · intro h i x hi hx
    have := h (x, i) (List.mem_iff_getElem?.mpr ⟨i, by rw [List.getElem?_zipIdx, hi]; simp⟩)
    simpa [hx] using this
  · intro h p hp
    obtain ⟨j, hj⟩ := List.mem_iff_getElem?.mp hp
    rw [List.getElem?_zipIdx] at hj
    cases e : row[j]? with
    | none => rw [e] at hj; cases hj
    | some x =>
      rw [e] at hj
      cases hj
      by_cases hx : x = 0
      · simp [hx]
      · have := h j x e hx
        simp [this]
theorem all_map_id {α : Type} (f : α → Bool) : ∀ l : List α, (l.map f).all id = l.all f
  | [] => rfl
  | a :: r => by simp only [List.map_cons, List.all_cons, id, all_map_id f r]
theorem wtL_zip (f : Nat → Nat) : ∀ (row : List Nat) (k : Nat), (((row.zipIdx k).filter fun p => decide (0 < p.1)).map fun p => p.1 * f p.2).sum = wtL f k row
  | [], _ => rfl
  | x :: r, k => by
    have ih := wtL_zip f r (k + 1)
    rw [List.zipIdx_cons, List.filter_cons]
    by_cases hx : 0 < x
    · rw [if_pos (decide_eq_true hx), List.map_cons, List.sum_cons, ih]
      rfl
    · rw [if_neg (by simpa using hx), ih]
      simp only [wtL]
      rw [show x = 0 by omega, Nat.zero_mul, Nat.zero_add]
theorem sum_castn (l : List Nat) : (l.map fun x : Nat => (x : Int)).sum = ((l.sum : Nat) : Int) := by
  induction l with
  | nil => rfl
  | cons a t ih =>
    rw [List.map_cons, List.sum_cons, List.sum_cons, ih]
    push_cast
    rfl
def sp_are_only_of_d : Sp := fun vs H Q _ => ∃ (a d : Addr) (row : List Nat) (zs : List (Nat × Nat)), vs = [.ref a, .ref d] ∧ H a = some (.tup (row.map nI)) ∧ H d = some (.dK (kvZ zs)) ∧ row.length ≤ 6 ∧ ∀ H', Same H H' → Q (.bl (onlyB (stsOf zs) row)) H'
def sp__least_size : Sp := fun vs H Q _ => ∃ (a d : Addr) (row : List Nat) (zs : List (Nat × Nat)), vs = [.ref a, .ref d] ∧ H a = some (.tup (row.map nI)) ∧ H d = some (.dK (kvZ zs)) ∧ row.length ≤ 6 ∧ (∀ x ∈ row, x ≤ 7) ∧ onlyOf (stsOf zs) row ∧ (∀ p ∈ zs, p.2 ≤ 1000000) ∧ ∀ H', Same H H' → Q (nI (wt zs row)) H'
section
variable {P : Program} {w : World} {K : PySem.W.Frag} {mg : Str → Option Value} {base : Heap}
theorem ok_are_only_of_d (T : Txt K mg) : FnOk P w K mg base CX0 1 T.f_are_only_of T.d_are_only_of ["classes", "states"] sp_are_only_of_d := by
  refine T.F_are_only_of.ok sc_are_only_of (fun vs H Q E h => ?_) (fun cdv A outer s H vs Q E hr h => ?_)
  · obtain ⟨a, d, row, zs, rfl, _⟩ := h
    rfl
  obtain ⟨a, d, row, zs, rfl, ha, hd, h6, q⟩ := h
  refine ⟨_, (pss_one (ps_ret (pe_callB (cr_all rfl) (by rfl) T.z_all (by decide +kernel) (pa_cons (pe_lc (own := [("state", 2), ("many", 3)]) (g := gTup K 2 (gCons (gName 2) (gCons (gName 3) gNil))) (te := tOrV (tOp rEq (tVar 3) (tC (.int 0))) (tOp (rInK false) (tVar 2) (tVar 1))) (tt := tYes) rfl sc_are_only_of.nd (pi_enumT (by rfl) T.z_enumerate (pa_cons (pv 0) pa_nil)) (blkOk_by (own := [("state", 2), ("many", 3)]) (N := ["classes", "states", "state", "many"]) (sc := (defScope s_are_only_of)) (by decide +kernel)) (fun _ _ _ _ _ => (pg_tup rfl (pgs_cons (pg_name (i := 2) sc_are_only_of.nd rfl (Or.inl rfl)) (pgs_cons (pg_name (i := 3) sc_are_only_of.nd rfl (Or.inl rfl)) pgs_nil)))) (fun _ _ _ _ _ => pts_nil) (fun _ _ _ _ _ => (pe_or (pe_cmpR op_eq (pv 3) pe_int (nomark _)) (pe_one (pe_cmpR (op_inK (hu_of hr)) (pv 2) (pv 1) (by rfl)))))) pa_nil)))), ?_⟩
  refine ⟨_, rfl, a, _, rfl, SqT.of ha, fun D hD => ?_⟩
  refine lc_walk (len := (row.map nI).length) walk_enumT (fun i H2 => H2 D = some (.lst ((((row.zipIdx 0).map fun p => decide (p.1 = 0) || decide (p.2 ∈ stsOf zs)).take i).map V.bl)) ∧ Same H H2) ⟨upd_same, same_new hD⟩ (fun i H2 _ h => SqT.of (h.2 _ _ ha)) ?_ ?_
  · rintro i x H2 H3 hi ⟨g1, g2⟩ ⟨Tt, x1, rfl, hT, rfl, hx⟩
    rw [List.length_map] at hi
    rw [List.getElem?_map, List.getElem?_eq_getElem hi] at hx
    cases hx
    have sT := same_new hT (o := .tup [.int (i : Nat), nI row[i]])
    have hz : ((row.zipIdx 0).map fun p => decide (p.1 = 0) || decide (p.2 ∈ stsOf zs))[i]? = some (decide (row[i] = 0) || decide (i ∈ stsOf zs)) := by
      rw [List.getElem?_map, List.getElem?_zipIdx, List.getElem?_eq_getElem hi]
      simp
    have lt : ((((row.zipIdx 0).map fun p => decide (p.1 = 0) || decide (p.2 ∈ stsOf zs)).take i).map V.bl).length < sizeLine := by
      rw [List.length_map, List.length_take]
      exact Nat.lt_of_le_of_lt (show _ ≤ 1000000 by omega) (by decide)
    have kD := sT _ _ g1
    have sD := same_add (o := .lst ((((row.zipIdx 0).map fun p => decide (p.1 = 0) || decide (p.2 ∈ stsOf zs)).take i).map V.bl ++ [V.bl (decide (row[i] = 0) || decide (i ∈ stsOf zs))])) (g2.trans sT) hD
    have hd3 := (g2.trans sT) _ _ hd
    refine ⟨_, _, rfl, SqT.of upd_same, rfl, _, _, rfl, _, _, rfl, rfl, rfl, _, rfl, rfl, _, rfl, ?_⟩
    by_cases h0 : row[i] = 0
    · refine eqT (congrArg nI h0) ⟨_, kD, lt, ?_, ?_⟩
      · rw [upd_same, take_succ_of hz, List.map_append]
        simp [h0]
      · simpa [h0] using sD
    · refine eqF (fun e => h0 (by have := V.int.inj e; omega)) ⟨_, rfl, _, rfl, d, _, Sum.inl (i : Int), rfl, rfl, .inl hd3, _, kD, lt, ?_, ?_⟩
      · rw [upd_same, take_succ_of hz, List.map_append, valZ]
        by_cases hm : i ∈ stsOf zs
        · simp [h0, hm]
        · simp [h0, hm]
      · rw [valZ]
        by_cases hm : i ∈ stsOf zs
        · simpa [h0, hm] using sD
        · simpa [h0, hm] using sD
  rintro H2 ⟨g1, g2⟩
  rw [List.take_of_length_le (by rw [List.length_map, List.length_zipIdx, List.length_map]; exact Nat.le_refl _)] at g1
  refine ⟨D, _, rfl, SqL.of g1, ?_⟩
  rw [all_map_id]
  exact q H2 g2
end

section
variable {P : Program} {w : World} {K : PySem.W.Frag} {mg : Str → Option Value} {base : Heap}
theorem ok__least_size (T : Txt K mg) : FnOk P w K mg base CX0 1 T.f__least_size T.d__least_size ["classes", "sizes"] sp__least_size := by
  refine T.F__least_size.ok sc__least_size (fun vs H Q E h => ?_) (fun cdv A outer s H vs Q E hr h => ?_)
  · obtain ⟨a, d, row, zs, rfl, _⟩ := h
    rfl
  obtain ⟨a, d, row, zs, rfl, ha, hd, h6, h7, ho, hz, q⟩ := h
  refine ⟨_, (pss_one (ps_ret (pe_op op_add pe_int (pe_callB (cr_sum rfl) (by rfl) T.z_sum (by decide +kernel) (pa_cons (pe_lc (own := [("state", 2), ("many", 3)]) (g := gTup K 2 (gCons (gName 2) (gCons (gName 3) gNil))) (te := tOp _ (tVar 3) (tDGet (tVar 1) (tVar 2))) (tt := tTest (tOp _ (tVar 3) (tC (.int 0)))) rfl sc__least_size.nd (pi_enumT (by rfl) T.z_enumerate (pa_cons (pv 0) pa_nil)) (blkOk_by (own := [("state", 2), ("many", 3)]) (N := ["classes", "sizes", "state", "many"]) (sc := (defScope s__least_size)) (by decide +kernel)) (fun _ _ _ _ _ => (pg_tup rfl (pgs_cons (pg_name (i := 2) sc__least_size.nd rfl (Or.inl rfl)) (pgs_cons (pg_name (i := 3) sc__least_size.nd rfl (Or.inl rfl)) pgs_nil)))) (fun _ _ _ _ _ => pts_one (pt_cmpR op_gt (pv 3) pe_int (nomark _))) (fun _ _ _ _ _ => (pe_op op_mul (pv 3) (pe_dget (hu_of hr) (pv 1) (pv 2) (fun _ _ => rfl))))) pa_nil))))), ?_⟩
  refine ⟨_, rfl, a, _, rfl, SqT.of ha, fun D hD => ?_⟩
  refine lc_walk (len := (row.map nI).length) walk_enumT (fun i H2 => H2 D = some (.lst (((((row.zipIdx 0).take i).filter fun p => decide (0 < p.1)).map fun p => p.1 * szOf zs p.2).map nI)) ∧ Same H H2) ⟨upd_same, same_new hD⟩ (fun i H2 _ h => SqT.of (h.2 _ _ ha)) ?_ ?_
  · rintro i x H2 H3 hi ⟨g1, g2⟩ ⟨Tt, x1, rfl, hT, rfl, hx⟩
    rw [List.length_map] at hi
    rw [List.getElem?_map, List.getElem?_eq_getElem hi] at hx
    cases hx
    have sT := same_new hT (o := .tup [.int (i : Nat), nI row[i]])
    have hzi : (row.zipIdx 0)[i]? = some (row[i], i) := by
      rw [List.getElem?_zipIdx, List.getElem?_eq_getElem hi]
      simp
    have lt : (((((row.zipIdx 0).take i).filter fun p => decide (0 < p.1)).map fun p => p.1 * szOf zs p.2).map nI).length < sizeLine := by
      rw [List.length_map, List.length_map]
      have := List.length_filter_le (fun p : Nat × Nat => decide (0 < p.1)) ((row.zipIdx 0).take i)
      rw [List.length_take] at this
      exact Nat.lt_of_le_of_lt (show _ ≤ 1000000 by omega) (by decide)
    have kD := sT _ _ g1
    have hd3 := (g2.trans sT) _ _ hd
    refine ⟨_, _, rfl, SqT.of upd_same, rfl, _, _, rfl, _, _, rfl, rfl, rfl, _, rfl, _, _, rfl, rfl, _, rfl, ?_⟩
    by_cases h0 : 0 < row[i]
    · have hin := ho i row[i] (List.getElem?_eq_getElem hi) (by omega)
      have r7 := h7 row[i] (List.getElem_mem hi)
      have sz : szOf zs i ≤ 1000000 := hz _ (szOf_mem hin)
      refine dT (by omega) ⟨_, rfl, _, rfl, _, rfl, d, nI (szOf zs i), rfl, .inl ⟨kvZ zs, Sum.inl (i : Int), .inl hd3, rfl, by rw [valZ, if_pos hin]⟩, _, _, rfl, rfl, .inl ⟨by omega, by omega⟩, _, kD, lt, ?_, same_add (g2.trans sT) hD⟩
      rw [upd_same, take_succ_of hzi, List.filter_append, List.map_append, List.map_append]
      simp only [List.filter_cons, h0, decide_true, if_true, List.filter_nil, List.map_cons, List.map_nil]
      have e : (row[i] : Int) * ((szOf zs i : Nat) : Int) = ((row[i] * szOf zs i : Nat) : Int) := by push_cast; rfl
      rw [e]
    · refine dF (by omega) ⟨?_, g2.trans sT⟩
      rw [take_succ_of hzi, List.filter_append]
      simp only [List.filter_cons, h0, decide_false, Bool.false_eq_true, if_false, List.filter_nil, List.append_nil]
      exact kD
  rintro H2 ⟨g1, g2⟩
  rw [List.take_of_length_le (by rw [List.length_zipIdx, List.length_map]; exact Nat.le_refl _), nI_map] at g1
  refine ⟨D, _, rfl, .inl (.inl g1), _, _, rfl, rfl, ?_⟩
  have e : (1 : Int) + (((((row.zipIdx 0).filter fun p => decide (0 < p.1)).map fun p => p.1 * szOf zs p.2)).map fun n : Nat => (n : Int)).sum = ((wt zs row : Nat) : Int) := by
    rw [sum_castn, wtL_zip]
    unfold wt
    push_cast
    rfl
  show Q (V.int _) _
  rw [e]
  exact q _ g2
end

def LR4 (H : Hp) (v : V) (m : Nat) (key : Nat × List Nat) (s : Nat) : Prop := ∃ b a : Addr, v = .ref b ∧ H b = some (.tup [nI m, .str (ch key.1), .ref a, nI s]) ∧ H a = some (.tup (key.2.map nI))
theorem LR4.same {H H' : Hp} {v : V} {m : Nat} {key : Nat × List Nat} {s : Nat} (x : LR4 H v m key s) (f : ∀ b xs, H b = some (.tup xs) → H' b = some (.tup xs)) : LR4 H' v m key s := by
  obtain ⟨b, a, rfl, h1, h2⟩ := x
  exact ⟨b, a, rfl, f _ _ h1, f _ _ h2⟩
def rowD (J : JD) (zs : List (Nat × Nat)) (key : Nat × List Nat) : PyData := .tuple [.int (wt zs key.2), .str (ch key.1), .tuple (key.2.map fun x : Nat => .int (x : Int)), .int (J.fs key.1 key.2)]
theorem alike_ints : ∀ xs ys : List Nat, PySem.W.alikeAll (xs.map fun x : Nat => PyData.int (x : Int)) (ys.map fun x : Nat => PyData.int (x : Int)) = true
  | [], _ => by simp only [List.map_nil, PySem.W.alikeAll]
  | _ :: _, [] => by simp only [List.map_cons, List.map_nil, PySem.W.alikeAll]
  | x :: r, y :: t => by simp only [List.map_cons, PySem.W.alikeAll, PySem.W.alike, alike_ints r t, Bool.and_self]
theorem alike_rowD (J : JD) (zs : List (Nat × Nat)) (k l : Nat × List Nat) : PySem.W.alike (rowD J zs k) (rowD J zs l) = true := by
  simp only [rowD, PySem.W.alike, PySem.W.alikeAll, alike_ints, Bool.and_self]
theorem depth_nats : ∀ xs : List Nat, PyData.depthAll (xs.map fun x : Nat => PyData.int (x : Int)) ≤ 1
  | [] => by simp only [List.map_nil, PyData.depthAll]; omega
  | x :: r => by
    have := depth_nats r
    simp only [List.map_cons, PyData.depthAll, PyData.depth]
    omega
theorem depth_rows (J : JD) (zs : List (Nat × Nat)) : ∀ ks : List (Nat × List Nat), PyData.depthAll (ks.map (rowD J zs)) ≤ 5
  | [] => by simp only [List.map_nil, PyData.depthAll]; omega
  | k :: r => by
    have a := depth_rows J zs r
    have b := depth_nats k.2
    simp only [List.map_cons, PyData.depthAll, rowD, PyData.depth]
    omega
theorem dp_nats {K : PySem.W.Frag} {H : Hp} : ∀ xs : List Nat, DpAll K H (xs.map nI) (xs.map fun x : Nat => PyData.int (x : Int))
  | [] => .nil
  | x :: r => .cons (.int _) (dp_nats r)
theorem dp_row {K : PySem.W.Frag} {H : Hp} {J : JD} {zs : List (Nat × Nat)} {v : V} {key : Nat × List Nat} (x : LR4 H v (wt zs key.2) key (J.fs key.1 key.2)) : Dp K H v (rowD J zs key) := by
  obtain ⟨b, a, rfl, h1, h2⟩ := x
  exact .tup (SqT.of h1) (.cons (.int _) (.cons (.str _) (.cons (.tup (SqT.of h2) (dp_nats _)) (.cons (.int _) .nil))))
theorem dp_rows {K : PySem.W.Frag} {H : Hp} {J : JD} {zs : List (Nat × Nat)} : ∀ ps : List (V × (Nat × List Nat)), (∀ p ∈ ps, LR4 H p.1 (wt zs p.2.2) p.2 (J.fs p.2.1 p.2.2)) → DpAll K H (ps.map (·.1)) ((ps.map (·.2)).map (rowD J zs))
  | [], _ => .nil
  | p :: r, h => .cons (dp_row (h p List.mem_cons_self)) (dp_rows r fun q hq => h q (List.mem_cons_of_mem _ hq))
def candB (J : JD) (zs : List (Nat × Nat)) (key : Nat × List Nat) : Bool := !decide (J.fs key.1 key.2 ∈ stsOf zs) && onlyB (stsOf zs) key.2
def sp__next_least_row (P : Program) (w : World) : Sp := fun vs H Q _ => ∃ (v : V) (J : JD) (d : Addr) (zs : List (Nat × Nat)) (M : Nat), vs = [v, .ref d] ∧ JAt P w H v J ∧ J.ok ∧ H d = some (.dK (kvZ zs)) ∧ LInv J zs M ∧ zs.length ≤ 6 ∧
  (∀ H', Same H H' → Closed J (stsOf zs) → Q .non H') ∧ ∀ u key H', Same H H' → key ∈ J.keys → onlyOf (stsOf zs) key.2 → J.fs key.1 key.2 ∉ stsOf zs → (∀ k2 ∈ J.keys, onlyOf (stsOf zs) k2.2 → J.fs k2.1 k2.2 ∉ stsOf zs → wt zs key.2 ≤ wt zs k2.2) → LR4 H' u (wt zs key.2) key (J.fs key.1 key.2) → Q u H'
theorem LInv.small {J : JD} {zs : List (Nat × Nat)} {M : Nat} (h : LInv J zs M) (hn : J.n ≤ 6) : zs.length ≤ J.n ∧ ∀ p ∈ zs, p.2 ≤ 100000 := by
  have l1 : (stsOf zs).length ≤ J.n := by
    have nd2 : ((List.range J.n).filter fun x => decide (x ∈ stsOf zs)).Nodup := List.Nodup.sublist List.filter_sublist List.nodup_range
    have pp := perm_nodup h.nd nd2 fun a => by
      rw [List.mem_filter, List.mem_range, decide_eq_true_eq]
      refine ⟨fun ha => ⟨?_, ha⟩, fun ha => ha.2⟩
      obtain ⟨p, hp, rfl⟩ := List.mem_map.mp ha
      exact h.lt p hp
    rw [pp.length_eq]
    have := List.length_filter_le (fun x => decide (x ∈ stsOf zs)) (List.range J.n)
    rwa [List.length_range] at this
  unfold stsOf at l1
  rw [List.length_map] at l1
  refine ⟨l1, fun p hp => ?_⟩
  have hT := h.T
  have h8 : 8 ^ zs.length ≤ 8 ^ 6 := Nat.pow_le_pow_right (by decide) (by omega)
  have : p.2 ≤ (zs.map (·.2)).sum := by
    have : ∀ l : List (Nat × Nat), p ∈ l → p.2 ≤ (l.map (·.2)).sum := by
      intro l
      induction l with
      | nil => intro h; cases h
      | cons a r ih =>
        intro h
        rw [List.map_cons, List.sum_cons]
        rcases List.mem_cons.mp h with e | h
        · rw [e]; omega
        · have := ih h; omega
    exact this zs hp
  have e : (8 : Nat) ^ 6 = 262144 := by decide
  omega
section
variable {P : Program} {w : World} {K : PySem.W.Frag} {mg : Str → Option Value} {base : Heap}
theorem ok__next_least_row (T : Txt K mg) : FnOk P w K mg base CX0 2 T.f__next_least_row T.d__next_least_row ["judge", "sizes"] (sp__next_least_row P w) := by
  have G_are_only_of : FnOk P w K mg base CX0 1 T.f_are_only_of T.d_are_only_of ["classes", "states"] sp_are_only_of_d := ok_are_only_of_d T
  have G__least_size : FnOk P w K mg base CX0 1 T.f__least_size T.d__least_size ["classes", "sizes"] sp__least_size := ok__least_size T
  refine T.F__next_least_row.ok sc__next_least_row (fun vs H Q E h => ?_) (fun cdv A outer s H vs Q E hr h => ?_)
  · obtain ⟨v, J, d, zs, M, rfl, _⟩ := h
    rfl
  obtain ⟨v, J, dz, zs, M, rfl, hJ, hok, hdz, hL, hz6, q0, q1⟩ := h
  refine ⟨_, (pss_cons (ps_lock (ps_setLc (i := 2) (own := [("letter", 3), ("classes", 4), ("state", 5)]) (g := gTup K 2 (gCons (gTup K 2 (gCons (gName 3) (gCons (gName 4) gNil))) (gCons (gName 5) gNil))) (te := tTup (tCons (tCall sp__least_size [] E0 (tCons (tVar 4) (tCons (tVar 1) tNil))) (tCons (tVar 3) (tCons (tVar 4) (tCons (tVar 5) tNil))))) (tt := tAnd (tTest (tOp (rInK true) (tVar 5) (tVar 1))) (tB (tCall sp_are_only_of_d [] E0 (tCons (tVar 4) (tCons (tVar 1) tNil))))) rfl sc__next_least_row.nd rfl rfl (sw_true rfl rfl rfl (by decide +kernel)) (pi_itemsN (pe_ix ix_tup (pv 0) pe_int (fun _ _ => rfl))) (blkOk_by (own := [("letter", 3), ("classes", 4), ("state", 5)]) (N := ["judge", "sizes", "rows", "letter", "classes", "state"]) (sc := (defScope s__next_least_row)) (by decide +kernel)) (fun _ _ _ _ _ => (pg_tup rfl (pgs_cons (pg_tup rfl (pgs_cons (pg_name (i := 3) sc__next_least_row.nd rfl (Or.inl rfl)) (pgs_cons (pg_name (i := 4) sc__next_least_row.nd rfl (Or.inl rfl)) pgs_nil))) (pgs_cons (pg_name (i := 5) sc__next_least_row.nd rfl (Or.inl rfl)) pgs_nil)))) (fun _ _ _ _ _ => pts_one (PW.pt (pw_and (pt_cmpR (op_notInK (hu_of hr)) (pv 5) (pv 1) (by rfl)) (pw_and1 (pt_val (pe_call G_are_only_of (hr.mono (by omega)) (by rfl) T.m_are_only_of T.F_are_only_of.kp T.b_are_only_of .nil pass0 (pa_cons (pv 4) (pa_cons (pv 1) pa_nil)))))))) (fun _ _ _ _ _ => (pe_tup (pa_cons (pe_call G__least_size (hr.mono (by omega)) (by rfl) T.m__least_size T.F__least_size.kp T.b__least_size .nil pass0 (pa_cons (pv 4) (pa_cons (pv 1) pa_nil))) (pa_cons (pv 3) (pa_cons (pv 4) (pa_cons (pv 5) pa_nil)))))))) (pss_one (ps_ret (pe_callBK (cr_minDef (roomM hr) rfl) (by rfl) T.z_min (by decide +kernel) (pa_cons (pv 2) pa_nil) (pk_cons pe_non pk_nil))))), ?_⟩
  obtain ⟨j, d, g, xs, keys, rfl, hj, hd, hrn, hrj, hper, hg⟩ := hJ
  have n6 := hok.n6
  have hsm := (hL.small n6).2
  have lk : xs.length ≤ 600 := by
    rw [Paired.length hrj, hper.length_eq]
    unfold JD.keys
    rw [keysOf_len]
    exact hok.h600
  have ndz : dz ≠ d := fun e => by rw [e, hd] at hdz; unfold DictN at hdz; cases hdz
  have ndj : j ≠ d := fun e => by rw [e, hd] at hj; unfold DictN at hj; cases hj
  refine ⟨d, _, hd, trivial, fun od => ?_⟩
  refine ⟨_, rfl, j, _, 4, _, rfl, rfl, SqT.of (by rw [upd_ne ndj]; exact hj), atI_nat (j := 4) rfl, d, od, xs, rfl, upd_same, fun D hD => ?_⟩
  have nDd : D ≠ d := fun e => by rw [e, upd_same] at hD; cases hD
  have hD0 : H D = none := by rw [upd_ne nDd] at hD; exact hD
  refine lc_walk (len := xs.length) walk_itemsN (fun i H' => (∃ ps : List (V × (Nat × List Nat)), H' D = some (.lst (ps.map (·.1))) ∧ (∀ p ∈ ps, LR4 H' p.1 (wt zs p.2.2) p.2 (J.fs p.2.1 p.2.2)) ∧ ps.map (·.2) = (keys.take i).filter (candB J zs)) ∧ H' d = some (.frz od (DictN P w d xs)) ∧ FrD d H H') ⟨⟨[], upd_same, (fun _ h => by cases h), rfl⟩, by rw [upd_ne nDd.symm, upd_same], fun b o n e => by rw [upd_ne (ne_of_none e hD0), upd_ne n]; exact e⟩ (fun i H' _ h => h.2.1) ?_ ?_
  · rintro i x H2 H3 hi ⟨⟨ps, k0, k1, k2⟩, k3, k4⟩ ⟨p, row, hrow, rfl, hp, rfl⟩
    obtain ⟨⟨c, rw0⟩, hkey, e1, e2⟩ := prd_at hrj hrow
    have hm := hper.mem_iff.mp (List.mem_of_getElem? hkey)
    obtain ⟨hc, hlen, hkk⟩ := keysOf_mem hm
    dsimp only at hlen hkk hc
    obtain ⟨hn1, _⟩ := hrn row (List.mem_of_getElem? hrow)
    rw [e1] at hn1
    obtain ⟨a, kb, ka⟩ := nk_inv hn1
    have ntup : ∀ (q : Addr) (ys : List V), H q = some (.tup ys) → q ≠ d := fun q ys e z => by rw [z, hd] at e; unfold DictN at e; cases e
    have sp := same_new (o := .tup [.ref row.2.1, row.2.2]) hp
    have kp := upd_same (H := H2) (a := p) (o := .tup [.ref row.2.1, row.2.2])
    have k0' := sp _ _ k0
    have k3' := sp _ _ k3
    have k4' : FrD d H (upd H2 p (.tup [.ref row.2.1, row.2.2])) := fun b o ne e => sp _ _ (k4 b o ne e)
    have k1' : ∀ q ∈ ps, LR4 (upd H2 p (.tup [.ref row.2.1, row.2.2])) q.1 (wt zs q.2.2) q.2 (J.fs q.2.1 q.2.2) := fun q hq => (k1 q hq).same fun b ys e => sp _ _ e
    generalize upd H2 p (.tup [.ref row.2.1, row.2.2]) = H4 at *
    rw [e2] at kp
    have kb4 := k4' _ _ (ntup _ _ kb) kb
    have ka4 := k4' _ _ (ntup _ _ ka) ka
    have kz4 := k4' _ _ ndz hdz
    have lps : (ps.map (·.1)).length < sizeLine := by
      rw [List.length_map]
      have l1 := congrArg List.length k2
      have l2 := List.length_filter_le (candB J zs) (keys.take i)
      rw [List.length_map] at l1
      rw [List.length_take] at l2
      exact Nat.lt_of_le_of_lt (show _ ≤ 1000000 by omega) (by decide)
    refine ⟨p, _, rfl, SqT.of kp, rfl, _, _, rfl, row.2.1, _, rfl, SqT.of kb4, rfl, _, _, rfl, _, _, rfl, rfl, _, _, rfl, rfl, rfl, ?_⟩
    refine ⟨_, rfl, _, rfl, dz, kvZ zs, Sum.inl (J.fs c rw0 : Int), rfl, rfl, .inl kz4, ?_⟩
    refine ⟨_, rfl, ?_⟩
    have hrow7 : ∀ x ∈ rw0, x ≤ 7 := fun x hx => by have := hkk x hx; have := hok.f4; have := hok.t4; omega
    by_cases hin : J.fs c rw0 ∈ stsOf zs
    · rw [valZ, if_pos hin]
      refine iteF (iteF ⟨⟨ps, k0', k1', ?_⟩, k3', k4'⟩)
      rw [take_succ_of hkey, List.filter_append, k2]
      simp [candB, hin]
    rw [valZ, if_neg hin]
    refine iteT ⟨_, rfl, _, rfl, a, dz, rw0, zs, rfl, ka4, kz4, by omega, fun H5 s5 => ⟨_, rfl, ?_⟩⟩
    cases hb : onlyB (stsOf zs) rw0 with
    | false =>
      refine iteF ⟨⟨ps, s5 _ _ k0', fun q hq => (k1' q hq).same fun b ys e => s5 _ _ e, ?_⟩, s5 _ _ k3', fun b o n e => s5 _ _ (k4' b o n e)⟩
      rw [take_succ_of hkey, List.filter_append, k2]
      simp [candB, hb]
    | true =>
      have ho := onlyB_iff.mp hb
      refine iteT ⟨_, rfl, _, rfl, a, dz, rw0, zs, rfl, s5 _ _ ka4, s5 _ _ kz4, by omega, hrow7, ho, fun p hp => by have := hsm p hp; omega, fun H6 s6 => ⟨_, rfl, _, rfl, _, rfl, (by show 4 ≤ sizeLine; decide), fun q hq => ?_⟩⟩
      have s56 := s5.trans s6
      have sq := same_new hq (o := .tup [nI (wt zs rw0), .str (ch c), .ref a, nI (J.fs c rw0)])
      have kq := upd_same (H := H6) (a := q) (o := .tup [nI (wt zs rw0), .str (ch c), .ref a, nI (J.fs c rw0)])
      have kD6 := sq _ _ (s56 _ _ k0')
      have S6 := s56.trans sq
      refine ⟨_, kD6, lps, ⟨ps ++ [(.ref q, (c, rw0))], by rw [upd_same, List.map_append]; rfl, ?_, ?_⟩, ?_, fun b o n e => ?_⟩
      · have tk := upd_tup (o := .lst (ps.map (·.1) ++ [V.ref q])) kD6
        intro x hx
        rcases List.mem_append.mp hx with hx | hx
        · exact (k1' x hx).same fun b ys e => tk _ _ (S6 _ _ e)
        · rw [List.mem_singleton.mp hx]
          exact ⟨q, a, rfl, tk _ _ kq, tk _ _ (S6 _ _ ka4)⟩
      · rw [take_succ_of hkey, List.filter_append, List.map_append, k2]
        simp [candB, hin, hb]
      · have : d ≠ D := nDd.symm
        rw [upd_ne this]
        exact S6 _ _ k3'
      · rw [upd_ne (ne_of_none e hD0)]
        exact S6 _ _ (k4' b o n e)
  rintro H2 ⟨⟨ps, k0, k1, k2⟩, k3, k4⟩
  rw [show keys.take xs.length = keys from List.take_of_length_le (by rw [← Paired.length hrj]; exact Nat.le_refl _)] at k2
  refine ⟨k3, ?_⟩
  have S2 : Same H (upd H2 d (DictN P w d xs)) := fun b o e => by
    by_cases hb : b = d
    · rw [hb, upd_same, ← e, hb]; exact hd.symm
    · rw [upd_ne hb]; exact k4 b o hb e
  have kD2 : (upd H2 d (DictN P w d xs)) D = some (.lst (ps.map (·.1))) := by rw [upd_ne nDd]; exact k0
  have tup2 : ∀ b ys, H2 b = some (.tup ys) → (upd H2 d (DictN P w d xs)) b = some (.tup ys) := fun b ys e => by
    rw [upd_ne (fun z => by rw [z, k3] at e; cases e)]
    exact e
  have k1' : ∀ q ∈ ps, LR4 (upd H2 d (DictN P w d xs)) q.1 (wt zs q.2.2) q.2 (J.fs q.2.1 q.2.2) := fun q hq => (k1 q hq).same tup2
  have cand : ∀ key, key ∈ ps.map (·.2) ↔ key ∈ J.keys ∧ onlyOf (stsOf zs) key.2 ∧ J.fs key.1 key.2 ∉ stsOf zs := fun key => by
    rw [k2, List.mem_filter, hper.mem_iff]
    unfold candB
    rw [Bool.and_eq_true, onlyB_iff]
    simp only [Bool.not_eq_true', decide_eq_false_iff_not]
    exact ⟨fun ⟨a, b, c⟩ => ⟨a, c, b⟩, fun ⟨a, b, c⟩ => ⟨a, c, b⟩⟩
  refine ⟨_, rfl, D, .non, ps.map (fun p => (p.1, rowD J zs p.2)), rfl, rfl, ?_, ?_, ⟨?_, ?_⟩, ?_, fun e => ?_, fun y ys b e hb hmin => ?_⟩
  · rw [List.map_map]
    exact kD2
  · have := dp_rows (K := K) ps k1'
    rw [List.map_map] at this ⊢
    rw [List.map_map]
    exact this
  · intro x hx y hy
    rw [List.map_map] at hx hy
    obtain ⟨p, _, rfl⟩ := List.mem_map.mp hx
    obtain ⟨p2, _, rfl⟩ := List.mem_map.mp hy
    exact alike_rowD J zs p.2 p2.2
  · intro x hx e
    rw [List.map_map] at hx
    obtain ⟨p, _, rfl⟩ := List.mem_map.mp hx
    cases e
  · have := depth_rows J zs (ps.map (·.2))
    rw [List.map_map] at this ⊢
    exact Nat.le_trans this (by decide)
  · have ep : ps = [] := by
      cases ps with
      | nil => rfl
      | cons _ _ => cases e
    refine q0 _ S2 fun key hk ho => Classical.byContradiction fun hn => ?_
    have := (cand key).mpr ⟨hk, ho, hn⟩
    rw [ep] at this
    cases this
  · obtain ⟨p, hp, rfl⟩ := List.mem_map.mp hb
    dsimp only at hmin
    obtain ⟨c1, c2, c3⟩ := (cand p.2).mp (List.mem_map.mpr ⟨p, hp, rfl⟩)
    refine q1 p.1 p.2 _ S2 c1 c2 c3 (fun k2 a1 a2 a3 => ?_) (k1' p hp)
    obtain ⟨p2, hp2, rfl⟩ := List.mem_map.mp ((cand k2).mpr ⟨a1, a2, a3⟩)
    have key := minD_first (f := fun x => match x with | .tuple (.int m :: _) => m | _ => 0) (P := fun x => ∃ k, x = rowD J zs k) (fun x y ⟨k, ex⟩ ⟨l, ey⟩ hlt => by subst ex ey; exact lt_first.1 hlt) (fun x y ⟨k, ex⟩ ⟨l, ey⟩ hlt => by subst ex ey; exact lt_first.2 hlt) ys y
    rw [List.map_map] at e
    have hall : ∀ z ∈ y :: ys, ∃ k, z = rowD J zs k := fun z hz => by
      rw [← e] at hz
      obtain ⟨p3, _, rfl⟩ := List.mem_map.mp hz
      exact ⟨p3.2, rfl⟩
    have kk := key (hall y List.mem_cons_self) fun z hz => hall z (List.mem_cons_of_mem _ hz)
    rw [← hmin] at kk
    have hin2 : rowD J zs p2.2 ∈ y :: ys := by rw [← e]; exact List.mem_map.mpr ⟨p2, hp2, rfl⟩
    have : ((wt zs p.2.2 : Nat) : Int) ≤ ((wt zs p2.2.2 : Nat) : Int) := by
      rcases List.mem_cons.mp hin2 with h | h
      · have := kk.1
        rw [← h] at this
        exact this
      · exact kk.2 _ h
    omega
end


def zsOf (J : JD) (es : List (Nat × (Nat × List Nat))) : List (Nat × Nat) := es.map fun e => (J.fs e.2.1 e.2.2, e.1)
def Ahead (J : JD) (es : List (Nat × (Nat × List Nat))) : Prop := ∀ pre e post, es = pre ++ e :: post → e.2 ∈ J.keys ∧ onlyOf (stsOf (zsOf J pre)) e.2.2 ∧ J.fs e.2.1 e.2.2 ∉ stsOf (zsOf J pre) ∧ e.1 = wt (zsOf J pre) e.2.2
theorem zsOf_app (J : JD) (es : List (Nat × (Nat × List Nat))) (e : Nat × (Nat × List Nat)) : zsOf J (es ++ [e]) = zsOf J es ++ [(J.fs e.2.1 e.2.2, e.1)] := by unfold zsOf; rw [List.map_append]; rfl
theorem Ahead.nil (J : JD) : Ahead J [] := fun pre e post h => by cases pre <;> cases h
theorem Ahead.snoc {J : JD} {es : List (Nat × (Nat × List Nat))} (h : Ahead J es) {e : Nat × (Nat × List Nat)} (hk : e.2 ∈ J.keys) (ho : onlyOf (stsOf (zsOf J es)) e.2.2) (hn : J.fs e.2.1 e.2.2 ∉ stsOf (zsOf J es)) (hw : e.1 = wt (zsOf J es) e.2.2) : Ahead J (es ++ [e]) := by
  intro pre x post hx
  rcases List.eq_nil_or_concat post with rfl | ⟨p2, y, rfl⟩
  · obtain ⟨h1, h2⟩ := List.append_inj' hx rfl
    cases h2
    subst h1
    exact ⟨hk, ho, hn, hw⟩
  · rw [List.concat_eq_append, ← List.cons_append, ← List.append_assoc] at hx
    obtain ⟨h1, h2⟩ := List.append_inj' hx rfl
    exact h pre x p2 h1
def RowsZ (H : Hp) (J : JD) (vs : List V) (es : List (Nat × (Nat × List Nat))) : Prop := Paired (fun v (e : Nat × (Nat × List Nat)) => LR4 H v e.1 e.2 (J.fs e.2.1 e.2.2)) vs es
theorem RowsZ.keep {H H' : Hp} {J : JD} {vs : List V} {es : List (Nat × (Nat × List Nat))} (x : RowsZ H J vs es) (f : ∀ b xs, H b = some (.tup xs) → H' b = some (.tup xs)) : RowsZ H' J vs es := Paired.mapP x fun _ _ h => LR4.same h f
def sp__least_rows (P : Program) (w : World) : Sp := fun vs H Q _ => ∃ (v : V) (J : JD), vs = [v] ∧ JAt P w H v J ∧ J.ok ∧ ∀ r vs es M H', Same H H' → H r = none → H' r = some (.lst vs) → RowsZ H' J vs es → Ahead J es → LInv J (zsOf J es) M → Closed J (stsOf (zsOf J es)) → Q (.ref r) H'
section
variable {P : Program} {w : World} {K : PySem.W.Frag} {mg : Str → Option Value} {base : Heap}
theorem putZ {zs : List (Nat × Nat)} {s m : Nat} (h : s ∉ stsOf zs) : putK (kvZ zs) (Sum.inl (s : Int)) (nI m) = kvZ (zs ++ [(s, m)]) := by
  unfold putK
  have : ((kvZ zs).any fun kv => decide (kv.1 = Sum.inl (s : Int))) = false := by
    rw [List.any_eq_false]
    intro kv hkv
    obtain ⟨p, hp, rfl⟩ := List.mem_map.mp hkv
    have : ¬ ((Sum.inl (p.1 : Int) : Key) = Sum.inl (s : Int)) := fun e => h (List.mem_map.mpr ⟨p, hp, by have := Sum.inl.inj e; omega⟩)
    simpa using this
  rw [this, if_neg (by decide)]
  unfold kvZ
  rw [List.map_append]
  rfl
theorem ok__least_rows (T : Txt K mg) : FnOk P w K mg base CX0 3 T.f__least_rows T.d__least_rows ["judge"] (sp__least_rows P w) := by
  have G__next_least_row : FnOk P w K mg base CX0 2 T.f__next_least_row T.d__next_least_row ["judge", "sizes"] (sp__next_least_row P w) := ok__next_least_row T
  refine T.F__least_rows.ok sc__least_rows (fun vs H Q E h => ?_) (fun cdv A outer s H vs Q E hr h => ?_)
  · obtain ⟨v, J, rfl, _⟩ := h
    rfl
  obtain ⟨v, J, rfl, hJ, hok, q⟩ := h
  refine ⟨_, (pss_cons (ps_set (i := 1) sc__least_rows.nd rfl (Or.inl rfl) pe_dnewK) (pss_cons (ps_set (i := 2) sc__least_rows.nd rfl (Or.inl rfl) (pe_lst pa_nil)) (C8.pss_cut (ps_set (i := 3) sc__least_rows.nd rfl (Or.inl rfl) (pe_call G__next_least_row (hr.mono (by omega)) (by rfl) T.m__next_least_row T.F__next_least_row.kp T.b__next_least_row .nil pass0 (pa_cons (pv 0) (pa_cons (pv 1) pa_nil)))) (pss_cons (ps_while PassesOwn.never (pt_cmpR op_notN (pv 3) pe_non (nomark _)) (pss_cons (ps_expr (pe_bm PySem.F.plainAttrs_list PySem.F.slot_list_append PySem.F.type_list_append mt_append (pv 2) (pa_cons (pv 3) pa_nil))) (pss_cons (ps_dput (hu_of hr) (pv 1) (pe_ix ix_tup (pv 3) pe_int (fun _ _ => rfl)) (pe_ix ix_tup (pv 3) pe_int (fun _ _ => rfl)) rfl) (pss_one (ps_set (i := 3) sc__least_rows.nd rfl (Or.inl rfl) (pe_call G__next_least_row (hr.mono (by omega)) (by rfl) T.m__next_least_row T.F__next_least_row.kp T.b__next_least_row .nil pass0 (pa_cons (pv 0) (pa_cons (pv 1) pa_nil)))))))) (pss_one (ps_ret (pv 2))))))), ?_⟩
  refine fun dz hdz => ⟨(by show 0 ≤ sizeLine; decide), fun r hr => ?_⟩
  have s1 := same_new hdz (o := .dK [])
  have k1 := upd_same (H := H) (a := dz) (o := .dK [])
  have s2 := same_new hr (o := .lst [])
  have k2 := upd_same (H := upd H dz (.dK [])) (a := r) (o := .lst [])
  have kdz := s2 _ _ k1
  have S2 := s1.trans s2
  have r0 : H r = none := s1.free hr
  have nrd : r ≠ dz := fun e => by rw [e, upd_same] at hr; cases hr
  generalize hINV : (fun (σ : List (Option V)) (H' : Hp) (es : List (Nat × (Nat × List Nat))) => ∃ (vs : List V) (M : Nat) (row : V), σ = [some v, some (.ref dz), some (.ref r), some row] ∧ H' dz = some (.dK (kvZ (zsOf J es))) ∧ H' r = some (.lst vs) ∧ RowsZ H' J vs es ∧ Ahead J es ∧ LInv J (zsOf J es) M ∧ Same H H' ∧ ((row = .non ∧ Closed J (stsOf (zsOf J es))) ∨ ∃ key, key ∈ J.keys ∧ onlyOf (stsOf (zsOf J es)) key.2 ∧ J.fs key.1 key.2 ∉ stsOf (zsOf J es) ∧ (∀ k2 ∈ J.keys, onlyOf (stsOf (zsOf J es)) k2.2 → J.fs k2.1 k2.2 ∉ stsOf (zsOf J es) → wt (zsOf J es) key.2 ≤ wt (zsOf J es) k2.2) ∧ LR4 H' row (wt (zsOf J es) key.2) key (J.fs key.1 key.2))) = INV
  have hI : ∀ (σ : List (Option V)) (H' : Hp) (es : List (Nat × (Nat × List Nat))), INV σ H' es ↔ ∃ (vs : List V) (M : Nat) (row : V), σ = [some v, some (.ref dz), some (.ref r), some row] ∧ H' dz = some (.dK (kvZ (zsOf J es))) ∧ H' r = some (.lst vs) ∧ RowsZ H' J vs es ∧ Ahead J es ∧ LInv J (zsOf J es) M ∧ Same H H' ∧ ((row = .non ∧ Closed J (stsOf (zsOf J es))) ∨ ∃ key, key ∈ J.keys ∧ onlyOf (stsOf (zsOf J es)) key.2 ∧ J.fs key.1 key.2 ∉ stsOf (zsOf J es) ∧ (∀ k2 ∈ J.keys, onlyOf (stsOf (zsOf J es)) k2.2 → J.fs k2.1 k2.2 ∉ stsOf (zsOf J es) → wt (zsOf J es) key.2 ≤ wt (zsOf J es) k2.2) ∧ LR4 H' row (wt (zsOf J es) key.2) key (J.fs key.1 key.2)) := by
    intro σ H' es
    rw [← hINV]
  refine ⟨fun σ H' => INV σ H' [], ?_, ?_⟩
  · refine ⟨_, rfl, _, rfl, v, J, dz, [], 0, rfl, hJ.same S2, hok, kdz, LInv.nil J, by decide, fun H3 s3 hc => ?_, fun u key H3 s3 a1 a2 a3 a4 a5 => ?_⟩
    · exact (hI _ _ _).mpr ⟨[], 0, .non, rfl, s3 _ _ kdz, s3 _ _ k2, .nil, Ahead.nil J, LInv.nil J, S2.trans s3, .inl ⟨rfl, hc⟩⟩
    · exact (hI _ _ _).mpr ⟨[], 0, u, rfl, s3 _ _ kdz, s3 _ _ k2, .nil, Ahead.nil J, LInv.nil J, S2.trans s3, .inr ⟨key, a1, a2, a3, a4, a5⟩⟩
  rintro σ0 H0 hinv0
  refine ⟨fun m σ H' => ∃ es, INV σ H' es ∧ m = 7 - es.length, ⟨_, [], hinv0, rfl⟩, ?_⟩
  rintro m σ H4 ⟨es, hinv, hm⟩
  obtain ⟨vs, M, row, rfl, g1, g2, g3, g4, g5, g6, g7⟩ := (hI _ _ _).mp hinv
  rcases g7 with ⟨rfl, hc⟩ | ⟨key, a1, a2, a3, a4, a5⟩
  · refine ⟨_, rfl, rfl, _, rfl, iteF ?_⟩
    exact ⟨_, rfl, q r vs es M H4 g6 r0 g2 g3 g4 g5 hc⟩
  have st := g5.step hok a1 a2 a3 a4
  have ezs : zsOf J (es ++ [(wt (zsOf J es) key.2, key)]) = zsOf J es ++ [(J.fs key.1 key.2, wt (zsOf J es) key.2)] := zsOf_app J es _
  have les : es.length + 1 ≤ 6 := by
    have := (st.small hok.n6).1
    rw [List.length_append, List.length_singleton] at this
    unfold zsOf at this
    rw [List.length_map] at this
    have := hok.n6
    omega
  have lvs : vs.length = es.length := Paired.length g3
  obtain ⟨b, a, rfl, h1, h2⟩ := a5
  refine ⟨_, rfl, rfl, _, rfl, iteT ?_⟩
  refine ⟨fun σ2 H2 => ∃ es', INV σ2 H2 es' ∧ 7 - es'.length < m, fun σ2 H2 ⟨es', e1, e2⟩ => ⟨_, e2, es', e1, rfl⟩, ?_⟩
  refine ⟨_, rfl, .inl ⟨rfl, _, SqL.of g2⟩, _, rfl, r, vs, .ref b, rfl, rfl, g2, Nat.lt_of_le_of_lt (show _ ≤ 1000000 by omega) (by decide), ?_⟩
  have tk := upd_tup (o := .lst (vs ++ [V.ref b])) g2
  have kz5 : (upd H4 r (.lst (vs ++ [V.ref b]))) dz = some (.dK (kvZ (zsOf J es))) := by rw [upd_ne nrd.symm]; exact g1
  have S5 : Same H (upd H4 r (.lst (vs ++ [V.ref b]))) := same_add g6 r0
  have k5 := upd_same (H := H4) (a := r) (o := .lst (vs ++ [V.ref b]))
  have b5 := tk _ _ h1
  have a5 := tk _ _ h2
  have g35 := g3.keep tk
  refine ⟨_, rfl, b, _, 0, _, rfl, rfl, SqT.of b5, atI_nat (j := 0) rfl, _, rfl, _, rfl, b, _, 3, _, rfl, rfl, SqT.of b5, atI_nat (j := 3) rfl, dz, _, rfl, .inl ⟨kvZ (zsOf J es), Sum.inl (J.fs key.1 key.2 : Int), kz5, rfl, ?_, rfl⟩, ?_⟩
  · have := (st.small hok.n6).1
    rw [List.length_append] at this
    unfold kvZ
    rw [List.length_map]
    have := hok.n6
    exact Nat.lt_of_le_of_lt (show _ ≤ 1000000 by omega) (by decide)
  rw [putZ a3]
  have S6 : Same H (upd (upd H4 r (.lst (vs ++ [V.ref b]))) dz (.dK (kvZ (zsOf J es ++ [(J.fs key.1 key.2, wt (zsOf J es) key.2)])))) := same_add S5 hdz
  have tk6 : ∀ (q : Addr) (ys : List V), (upd H4 r (.lst (vs ++ [V.ref b]))) q = some (.tup ys) → (upd (upd H4 r (.lst (vs ++ [V.ref b]))) dz (.dK (kvZ (zsOf J es ++ [(J.fs key.1 key.2, wt (zsOf J es) key.2)])))) q = some (.tup ys) := fun q ys e => by
    rw [upd_ne (fun z => by rw [z, kz5] at e; cases e)]
    exact e
  have k6 : (upd (upd H4 r (.lst (vs ++ [V.ref b]))) dz (.dK (kvZ (zsOf J es ++ [(J.fs key.1 key.2, wt (zsOf J es) key.2)])))) r = some (.lst (vs ++ [V.ref b])) := by rw [upd_ne nrd]; exact k5
  have kz6 : (upd (upd H4 r (.lst (vs ++ [V.ref b]))) dz (.dK (kvZ (zsOf J es ++ [(J.fs key.1 key.2, wt (zsOf J es) key.2)])))) dz = some (.dK (kvZ (zsOf J es ++ [(J.fs key.1 key.2, wt (zsOf J es) key.2)]))) := upd_same
  have rows6 : RowsZ (upd (upd H4 r (.lst (vs ++ [V.ref b]))) dz (.dK (kvZ (zsOf J es ++ [(J.fs key.1 key.2, wt (zsOf J es) key.2)])))) J (vs ++ [V.ref b]) (es ++ [(wt (zsOf J es) key.2, key)]) := prd_app (g35.keep tk6) (.cons ⟨b, a, rfl, tk6 _ _ b5, tk6 _ _ a5⟩ .nil)
  have ah6 := g4.snoc (e := (wt (zsOf J es) key.2, key)) a1 a2 a3 rfl
  refine ⟨_, rfl, _, rfl, v, J, dz, _, _, rfl, hJ.same S6, hok, kz6, st, ?_, fun H7 s7 hc => ?_, fun u key2 H7 s7 b1 b2 b3 b4 b5 => ?_⟩
  · have := (st.small hok.n6).1
    have := hok.n6
    omega
  · refine ⟨es ++ [(wt (zsOf J es) key.2, key)], (hI _ _ _).mpr ⟨vs ++ [.ref b], _, .non, rfl, by rw [ezs]; exact s7 _ _ kz6, s7 _ _ k6, rows6.keep fun q ys e => s7 _ _ e, ah6, by rw [ezs]; exact st, S6.trans s7, .inl ⟨rfl, by rw [ezs]; exact hc⟩⟩, ?_⟩
    rw [List.length_append, List.length_singleton]
    omega
  · refine ⟨es ++ [(wt (zsOf J es) key.2, key)], (hI _ _ _).mpr ⟨vs ++ [.ref b], _, u, rfl, by rw [ezs]; exact s7 _ _ kz6, s7 _ _ k6, rows6.keep fun q ys e => s7 _ _ e, ah6, by rw [ezs]; exact st, S6.trans s7, .inr ⟨key2, b1, by rw [ezs]; exact b2, by rw [ezs]; exact b3, by rw [ezs]; exact b4, by rw [ezs]; exact b5⟩⟩, ?_⟩
    rw [List.length_append, List.length_singleton]
    omega
end

theorem count_perm {a b : List Nat} (p : a.Perm b) (n : Nat) : cnts n a = cnts n b := by
  unfold cnts
  exact List.map_congr_left fun s _ => p.count_eq s
mutual
theorem Sh.st {fs : Nat → List Nat → Nat} {n : Nat} : ∀ {t u : Tr}, Sh t u → St fs n t = St fs n u
  | _, _, .node (ks := ks) (us := us) (ls := ls) p h => by
    have e := Shs.st (fs := fs) (n := n) h
    have q : (Sts fs n ks).Perm (Sts fs n us) := by rw [Sts_map, Sts_map]; exact p.map _
    simp only [St]
    rw [count_perm q, e]
theorem Shs.st {fs : Nat → List Nat → Nat} {n : Nat} : ∀ {ts us : List Tr}, Shs ts us → Sts fs n ts = Sts fs n us
  | _, _, .nil => rfl
  | _, _, .cons a b => by simp only [Sts, Sh.st a, Shs.st b]
end
theorem posts_flat : ∀ ks : List Tr, posts ks = ks.flatMap Tr.post
  | [] => rfl
  | t :: r => by rw [posts, List.flatMap_cons, posts_flat r]
mutual
theorem Sh.post_perm {fs : Nat → List Nat → Nat} {n : Nat} : ∀ {t u : Tr}, Sh t u → (t.post.map (St fs n)).Perm (u.post.map (St fs n))
  | _, _, .node (c := c) (ks := ks) (us := us) (ls := ls) p h => by
    have e := Shs.post_perm (fs := fs) (n := n) h
    have s : St fs n (.node c ks) = St fs n (.node c ls) := Sh.st (.node p h)
    simp only [Tr.post, List.map_append, List.map_cons, List.map_nil]
    rw [s]
    refine List.Perm.append_right _ (List.Perm.trans ?_ e)
    rw [posts_flat, posts_flat]
    exact (p.flatMap_right _).map _
theorem Shs.post_perm {fs : Nat → List Nat → Nat} {n : Nat} : ∀ {ts us : List Tr}, Shs ts us → ((posts ts).map (St fs n)).Perm ((posts us).map (St fs n))
  | _, _, .nil => .refl _
  | _, _, .cons a b => by
    simp only [posts, List.map_append]
    exact (Sh.post_perm a).append (Shs.post_perm b)
end
theorem Shs.perm {xs ls : List Tr} (p : xs.Perm ls) : ∀ {ts : List Tr}, Shs ts xs → ∃ us, ts.Perm us ∧ Shs us ls := by
  induction p with
  | nil => intro ts h; exact ⟨ts, .refl _, h⟩
  | cons x _ ih =>
    intro ts h
    cases h with
    | cons a b =>
      obtain ⟨us, p1, h1⟩ := ih b
      exact ⟨_ :: us, p1.cons _, .cons a h1⟩
  | swap x y l =>
    intro ts h
    cases h with
    | cons a b =>
      cases b with
      | cons c d => exact ⟨_, .swap _ _ _, .cons c (.cons a d)⟩
  | trans _ _ ih1 ih2 =>
    intro ts h
    obtain ⟨us, p1, h1⟩ := ih1 h
    obtain ⟨ws, p2, h2⟩ := ih2 h1
    exact ⟨ws, p1.trans p2, h2⟩
mutual
theorem Sh.toTold : ∀ t : Tr, Sh t t.told
  | .node c ks => by
    obtain ⟨us, h1, h2⟩ := Shs.perm (List.mergeSort_perm (tolds ks) leW).symm (Shs.toTold ks)
    simp only [Tr.told]
    exact .node h1 h2
theorem Shs.toTold : ∀ ts : List Tr, Shs ts (tolds ts)
  | [] => .nil
  | t :: r => .cons (Sh.toTold t) (Shs.toTold r)
end

def Comes (J : JD) (s : Nat) : Prop := ∃ t : Tr, t.lets (fun c => c ∈ J.L.cps.toList) ∧ St J.sf J.n t = s
def rowH (tr : Nat → Tr) (k : Nat) (row : List Nat) : List (Tr × Nat) := ((row.zipIdx k).filter fun p => decide (0 < p.1)).map fun p => (tr p.2, p.1)
def mkT (c : Nat) (row : List Nat) (tr : Nat → Tr) : Tr := (Tr.node c (expand (rowH tr 0 row))).told
theorem rowH_cons (tr : Nat → Tr) (k x : Nat) (r : List Nat) : expand (rowH tr k (x :: r)) = List.replicate x (tr k) ++ expand (rowH tr (k + 1) r) := by
  unfold rowH
  rw [List.zipIdx_cons, List.filter_cons]
  by_cases hx : 0 < x
  · rw [if_pos (decide_eq_true hx), List.map_cons]
    simp [expand]
  · rw [if_neg (by simpa using hx), show x = 0 by omega]
    rfl
theorem rowH_cnt {fs : Nat → List Nat → Nat} {n : Nat} {tr : Nat → Tr} : ∀ (row : List Nat) (k i : Nat), (∀ j x, row[j]? = some x → x ≠ 0 → St fs n (tr (k + j)) = k + j) → (Sts fs n (expand (rowH tr k row))).count i = if k ≤ i then (row[i - k]?).getD 0 else 0
  | [], k, i, _ => by simp [rowH, expand, Sts]
  | x :: r, k, i, h => by
    have ih := rowH_cnt (fs := fs) (n := n) (tr := tr) r (k + 1) i fun j y hy hn => by
      have := h (j + 1) y (by simpa using hy) hn
      rw [show k + 1 + j = k + (j + 1) by omega]
      exact this
    rw [rowH_cons, Sts_map, List.map_append, List.count_append, ← Sts_map, ← Sts_map, ih]
    have e1 : (Sts fs n (List.replicate x (tr k))).count i = if k = i then x else 0 := by
      rw [Sts_map, List.map_replicate, List.count_replicate]
      by_cases hx : x = 0
      · subst hx; simp
      · have := h 0 x rfl hx
        rw [Nat.add_zero] at this
        rw [this]
        by_cases e : k = i
        · simp [e]
        · simp [e]
    rw [e1]
    by_cases h1 : k ≤ i
    · by_cases h2 : k = i
      · subst h2
        rw [if_pos rfl, if_neg (by omega), if_pos (Nat.le_refl _), Nat.sub_self]
        simp
      · rw [if_neg h2, if_pos (by omega), if_pos h1]
        have e : i - k = (i - (k + 1)) + 1 := by omega
        rw [e, List.getElem?_cons_succ]
        simp
    · rw [if_neg (by omega), if_neg (by omega), if_neg h1]
theorem rowH_sizes {tr : Nat → Tr} {f : Nat → Nat} : ∀ (row : List Nat) (k : Nat), (∀ j x, row[j]? = some x → x ≠ 0 → (tr (k + j)).size = f (k + j)) → sizes (expand (rowH tr k row)) = wtL f k row
  | [], _, _ => rfl
  | x :: r, k, h => by
    have ih := rowH_sizes (f := f) r (k + 1) fun j y hy hn => by
      have := h (j + 1) y (by simpa using hy) hn
      rw [show k + 1 + j = k + (j + 1) by omega]
      exact this
    have rep : ∀ m, sizes (List.replicate m (tr k)) = m * (tr k).size := by
      intro m
      induction m with
      | zero => simp [sizes]
      | succ m ih => rw [List.replicate_succ, sizes, ih, Nat.succ_mul, Nat.add_comm]
    rw [rowH_cons, sizes_append, ih, rep]
    simp only [wtL]
    by_cases hx : x = 0
    · simp [hx]
    · have := h 0 x rfl hx
      rw [Nat.add_zero] at this
      rw [this]
theorem rowH_mem {tr : Nat → Tr} {t : Tr} : ∀ (row : List Nat) (k : Nat), t ∈ expand (rowH tr k row) → ∃ j x, row[j]? = some x ∧ x ≠ 0 ∧ t = tr (k + j)
  | [], k, h => by simp [rowH, expand] at h
  | x :: r, k, h => by
    rw [rowH_cons] at h
    rcases List.mem_append.mp h with h | h
    · rw [List.mem_replicate] at h
      exact ⟨0, x, rfl, h.1, by rw [Nat.add_zero]; exact h.2⟩
    · obtain ⟨j, y, h1, h2, h3⟩ := rowH_mem r (k + 1) h
      exact ⟨j + 1, y, by simpa using h1, h2, by rw [h3, show k + 1 + j = k + (j + 1) by omega]⟩
theorem letss_all {p : Nat → Prop} : ∀ {ts : List Tr}, (∀ t ∈ ts, t.lets p) → letss p ts
  | [], _ => trivial
  | t :: r, h => ⟨h t List.mem_cons_self, letss_all fun u hu => h u (List.mem_cons_of_mem _ hu)⟩
theorem depths_all {d : Nat} : ∀ {ts : List Tr}, (∀ t ∈ ts, t.depth ≤ d) → depths ts ≤ d
  | [], _ => by simp [depths]
  | t :: r, h => by
    have a := h t List.mem_cons_self
    have b := depths_all fun u hu => h u (List.mem_cons_of_mem _ hu)
    simp only [depths]
    omega
structure LT (J : JD) (zs : List (Nat × Nat)) (s : Nat) (t : Tr) : Prop where
  l : t.lets (fun c => c ∈ J.L.cps.toList)
  st : St J.sf J.n t = s
  sz : t.size = szOf zs s
  dp : t.depth ≤ zs.length
theorem mkT_ok {J : JD} (hok : J.ok) {zs : List (Nat × Nat)} {key : Nat × List Nat} {tr : Nat → Tr} (hk : key ∈ J.keys) (ho : onlyOf (stsOf zs) key.2) (hn : J.fs key.1 key.2 ∉ stsOf zs) (htr : ∀ i ∈ stsOf zs, LT J zs i (tr i)) : LT J (zs ++ [(J.fs key.1 key.2, wt zs key.2)]) (J.fs key.1 key.2) (mkT key.1 key.2 tr) := by
  obtain ⟨hc, hlen, hkk⟩ := keysOf_mem hk
  have hmem : ∀ t ∈ expand (rowH tr 0 key.2), t.lets (fun c => c ∈ J.L.cps.toList) ∧ t.depth ≤ zs.length := fun t ht => by
    obtain ⟨j, x, h1, h2, rfl⟩ := rowH_mem _ _ ht
    rw [Nat.zero_add]
    have := htr j (ho j x h1 h2)
    exact ⟨this.l, this.dp⟩
  refine ⟨told_lets _ ⟨hc, letss_all fun t ht => (hmem t ht).1⟩, ?_, ?_, ?_⟩
  · unfold mkT
    rw [← Sh.st (Sh.toTold _)]
    simp only [St]
    show J.fs key.1 ((cnts J.n (Sts J.sf J.n (expand (rowH tr 0 key.2)))).map (clsN J.few J.turn)) = _
    congr 1
    refine List.ext_getElem? fun i => ?_
    rw [List.getElem?_map]
    by_cases hi : i < J.n
    · rw [cnts_at _ hi, rowH_cnt (fs := J.sf) (n := J.n) key.2 0 i fun j x h1 h2 => by rw [Nat.zero_add]; exact (htr j (ho j x h1 h2)).st]
      rw [if_pos (Nat.zero_le _), Nat.sub_zero, List.getElem?_eq_getElem (by rw [hlen]; exact hi)]
      show some (clsN J.few J.turn key.2[i]) = some key.2[i]
      rw [clsN_low (hkk _ (List.getElem_mem _))]
    · rw [List.getElem?_eq_none (by rw [cnts_len]; omega), List.getElem?_eq_none (by rw [hlen]; omega)]
      rfl
  · unfold mkT
    rw [told_size, szOf_new hn]
    simp only [Tr.size]
    rw [rowH_sizes (f := szOf zs) key.2 0 fun j x h1 h2 => by rw [Nat.zero_add]; exact (htr j (ho j x h1 h2)).sz]
    rfl
  · unfold mkT
    rw [told_depth, List.length_append, List.length_singleton]
    simp only [Tr.depth]
    have := depths_all fun t ht => (hmem t ht).2
    omega
theorem LT.old {J : JD} {zs : List (Nat × Nat)} {p : Nat × Nat} {s : Nat} {t : Tr} (h : LT J zs s t) (hs : s ∈ stsOf zs) : LT J (zs ++ [p]) s t := ⟨h.l, h.st, by rw [szOf_old hs]; exact h.sz, by rw [List.length_append]; have := h.dp; omega⟩
theorem ahead_take {J : JD} {es : List (Nat × (Nat × List Nat))} {i : Nat} {e : Nat × (Nat × List Nat)} (h : Ahead J es) (he : es[i]? = some e) : e.2 ∈ J.keys ∧ onlyOf (stsOf (zsOf J (es.take i))) e.2.2 ∧ J.fs e.2.1 e.2.2 ∉ stsOf (zsOf J (es.take i)) ∧ e.1 = wt (zsOf J (es.take i)) e.2.2 := by
  obtain ⟨hlt, h1⟩ := List.getElem?_eq_some_iff.mp he
  refine h (es.take i) e (es.drop (i + 1)) ?_
  rw [← h1, ← List.drop_eq_getElem_cons hlt, List.take_append_drop]
theorem ahead_trees {J : JD} (hok : J.ok) {es : List (Nat × (Nat × List Nat))} (h : Ahead J es) : ∀ i, i ≤ es.length → ∃ tr : Nat → Tr, ∀ s ∈ stsOf (zsOf J (es.take i)), LT J (zsOf J (es.take i)) s (tr s)
  | 0, _ => ⟨fun _ => .node 97 [], fun s hs => by cases hs⟩
  | i + 1, hi => by
    obtain ⟨tr, htr⟩ := ahead_trees hok h i (by omega)
    have he : es[i]? = some es[i] := List.getElem?_eq_getElem (by omega)
    obtain ⟨a1, a2, a3, a4⟩ := ahead_take h he
    refine ⟨fun s => if s = J.fs es[i].2.1 es[i].2.2 then mkT es[i].2.1 es[i].2.2 tr else tr s, fun s hs => ?_⟩
    rw [take_succ_of he, zsOf_app, a4] at hs ⊢
    rw [stsOf_app] at hs
    rcases List.mem_append.mp hs with hs | hs
    · have : ¬ s = J.fs es[i].2.1 es[i].2.2 := fun e => a3 (e ▸ hs)
      dsimp only
      rw [if_neg this]
      exact (htr s hs).old hs
    · rw [List.mem_singleton.mp hs]
      dsimp only
      rw [if_pos rfl]
      exact mkT_ok hok a1 a2 a3 htr
theorem comes_iff {J : JD} (hok : J.ok) {es : List (Nat × (Nat × List Nat))} (h : Ahead J es) (hc : Closed J (stsOf (zsOf J es))) (s : Nat) : s ∈ stsOf (zsOf J es) ↔ Comes J s := by
  constructor
  · intro hs
    obtain ⟨tr, htr⟩ := ahead_trees hok h es.length (Nat.le_refl _)
    rw [List.take_length] at htr
    exact ⟨tr s, (htr s hs).l, (htr s hs).st⟩
  · rintro ⟨t, hl, rfl⟩
    exact closed_all hok hc t hl


def ComeL (J : JD) (S : List Nat) : Prop := S.Pairwise (· < ·) ∧ ∀ s, s ∈ S ↔ Comes J s
def sp_states_that_come (P : Program) (w : World) : Sp := fun vs H Q _ => ∃ (v : V) (J : JD), vs = [v] ∧ JAt P w H v J ∧ J.ok ∧ ∀ r S H', Same H H' → H r = none → H' r = some (.lst (S.map nI)) → ComeL J S → Q (.ref r) H'
def sp__has_good (P : Program) (w : World) : Sp := fun vs H Q _ => ∃ (v : V) (J : JD) (r : Addr) (S : List Nat), vs = [v, .ref r] ∧ JAt P w H v J ∧ J.ok ∧ H r = some (.lst (S.map nI)) ∧ ∀ H', Same H H' → Q (.bl (J.good.any fun s => decide (s ∈ S))) H'
def sp_none_paper (P : Program) (w : World) : Sp := fun vs H Q _ => ∃ (v : V) (J : JD), vs = [v] ∧ JAt P w H v J ∧ J.ok ∧ (∀ H', Same H H' → (∃ s ∈ J.good, Comes J s) → Q .non H') ∧ ∀ r S H', Same H H' → H r = none → H' r = some (.lst (S.map nI)) → ComeL J S → (∀ s ∈ J.good, ¬ Comes J s) → Q (.ref r) H'
section
variable {P : Program} {w : World} {K : PySem.W.Frag} {mg : Str → Option Value} {base : Heap}
theorem rise_of {xs : List Int} {S : List Nat} (h1 : xs.Perm (S.map fun n : Nat => (n : Int))) (h2 : xs.Pairwise (· ≤ ·)) (nd : S.Nodup) : ∃ S' : List Nat, xs = S'.map (fun n : Nat => (n : Int)) ∧ S'.Perm S ∧ S'.Pairwise (· < ·) := by
  have hx : ∀ ys : List Int, (∀ y ∈ ys, 0 ≤ y) → ys = (ys.map Int.toNat).map (fun n : Nat => (n : Int)) := by
    intro ys
    induction ys with
    | nil => intro _; rfl
    | cons y r ih =>
      intro h
      have a := h y List.mem_cons_self
      rw [List.map_cons, List.map_cons, ← ih fun z hz => h z (List.mem_cons_of_mem _ hz)]
      congr 1
      omega
  have pos : ∀ y ∈ xs, 0 ≤ y := fun y hy => by
    obtain ⟨n, _, rfl⟩ := List.mem_map.mp (h1.mem_iff.mp hy)
    omega
  have e := hx xs pos
  have p2 : (xs.map Int.toNat).Perm S := by
    have := h1.map Int.toNat
    rw [List.map_map] at this
    have id : S.map (Int.toNat ∘ fun n : Nat => (n : Int)) = S := by
      have : (Int.toNat ∘ fun n : Nat => (n : Int)) = id := by funext n; simp
      rw [this, List.map_id]
    rwa [id] at this
  refine ⟨xs.map Int.toNat, e, p2, ?_⟩
  have nd2 := p2.nodup_iff.mpr nd
  rw [List.pairwise_map]
  rw [List.Nodup, List.pairwise_map] at nd2
  refine (h2.and nd2).imp_of_mem fun {a b} ha hb h => ?_
  have := pos a ha
  have := pos b hb
  have := h.1
  have := h.2
  omega
theorem ok_states_that_come (T : Txt K mg) : FnOk P w K mg base CX0 4 T.f_states_that_come T.d_states_that_come ["judge"] (sp_states_that_come P w) := by
  have G__least_rows : FnOk P w K mg base CX0 3 T.f__least_rows T.d__least_rows ["judge"] (sp__least_rows P w) := ok__least_rows T
  refine T.F_states_that_come.ok sc_states_that_come (fun vs H Q E h => ?_) (fun cdv A outer s H vs Q E hr h => ?_)
  · obtain ⟨v, J, rfl, _⟩ := h
    rfl
  obtain ⟨v, J, rfl, hJ, hok, q⟩ := h
  refine ⟨_, (pss_one (ps_ret (pe_callB cr_sortedI (by rfl) T.z_sorted (by decide +kernel) (pa_cons (pe_lc (own := [("row", 1)]) (g := gName 1) (te := tOp (rIxT K) (tVar 1) (tC (.int 3))) (tt := tYes) rfl sc_states_that_come.nd (pi_list (pe_call G__least_rows (hr.mono (by omega)) (by rfl) T.m__least_rows T.F__least_rows.kp T.b__least_rows .nil pass0 (pa_cons (pv 0) pa_nil))) (blkOk_by (own := [("row", 1)]) (N := ["judge", "row"]) (sc := (defScope s_states_that_come)) (by decide +kernel)) (fun _ _ _ _ _ => (pg_name (i := 1) sc_states_that_come.nd rfl (Or.inl rfl))) (fun _ _ _ _ _ => pts_nil) (fun _ _ _ _ _ => (pe_ix ix_tup (pv 1) pe_int (fun _ _ => rfl)))) pa_nil)))), ?_⟩
  refine ⟨_, rfl, v, J, rfl, hJ, hok, fun r vs es M H1 s1 hr0 hr1 hrows hah hL hC => ⟨r, rfl, ⟨_, SqL.of hr1⟩, fun D hD => ?_⟩⟩
  have lvs : vs.length = es.length := Paired.length hrows
  have l6 := (hL.small hok.n6).1
  unfold zsOf at l6
  rw [List.length_map] at l6
  have n6 := hok.n6
  refine lc_list (xs := vs) (fun i H2 => H2 D = some (.lst (((stsOf (zsOf J es)).take i).map nI)) ∧ Same H1 H2) ⟨upd_same, same_new hD⟩ (fun i H2 _ ⟨_, s⟩ => SqL.of (s _ _ hr1)) ?_ ?_
  · rintro i x H2 hx ⟨g1, g2⟩
    obtain ⟨e, he, b, a, rfl, h1, h2⟩ := prd_at hrows hx
    have hz : (stsOf (zsOf J es))[i]? = some (J.fs e.2.1 e.2.2) := by
      unfold stsOf zsOf
      rw [List.map_map, List.getElem?_map, he]
      rfl
    refine ⟨rfl, _, rfl, b, _, 3, _, rfl, rfl, SqT.of (g2 _ _ h1), atI_nat (j := 3) rfl, _, g1, ?_, ?_, same_add g2 hD⟩
    · rw [List.length_map, List.length_take]
      unfold stsOf zsOf
      rw [List.length_map, List.length_map]
      exact Nat.lt_of_le_of_lt (show _ ≤ 1000000 by omega) (by decide)
    · rw [upd_same, take_succ_of hz, List.map_append]
      rfl
  rintro H2 ⟨g1, g2⟩
  rw [List.take_of_length_le (by unfold stsOf zsOf; rw [List.length_map, List.length_map]; omega), nI_map] at g1
  refine ⟨D, _, rfl, SqL.of g1, fun ns p pm so hp => ?_⟩
  obtain ⟨S, rfl, pS, rS⟩ := rise_of pm so hL.nd
  have sp := same_new hp (o := .lst ((S.map fun n : Nat => (n : Int)).map V.int))
  have kp := upd_same (H := H2) (a := p) (o := .lst ((S.map fun n : Nat => (n : Int)).map V.int))
  have S3 := (s1.trans g2).trans sp
  exact q p S _ S3 ((s1.trans g2).free hp) (by rw [upd_same, ← nI_map]) ⟨rS, fun s => (pS.mem_iff).trans (comes_iff hok hah hC s)⟩
theorem ok__has_good (T : Txt K mg) : FnOk P w K mg base CX0 1 T.f__has_good T.d__has_good ["judge", "states"] (sp__has_good P w) := by
  refine T.F__has_good.ok sc__has_good (fun vs H Q E h => ?_) (fun cdv A outer s H vs Q E hr h => ?_)
  · obtain ⟨v, J, r, S, rfl, _⟩ := h
    rfl
  obtain ⟨v, J, r, S, rfl, hJ, hok, hr, q⟩ := h
  refine ⟨_, (pss_one (ps_ret (pe_callB (cr_any rfl) (by rfl) T.z_any (by decide +kernel) (pa_cons (pe_lc (own := [("state", 2)]) (g := gName 2) (te := tOp (rIn K false) (tVar 2) (tVar 1)) (tt := tYes) rfl sc__has_good.nd (pi_list (pe_ix ix_tup (pv 0) pe_int (fun _ _ => rfl))) (blkOk_by (own := [("state", 2)]) (N := ["judge", "states", "state"]) (sc := (defScope s__has_good)) (by decide +kernel)) (fun _ _ _ _ _ => (pg_name (i := 2) sc__has_good.nd rfl (Or.inl rfl))) (fun _ _ _ _ _ => pts_nil) (fun _ _ _ _ _ => (pe_cmpR op_in_seq (pv 2) (pv 1) (by rfl)))) pa_nil)))), ?_⟩
  obtain ⟨j, d, g, xs, keys, rfl, hj, hd, hrn, hrj, hper, hg⟩ := hJ
  have g6 := hok.g6
  refine ⟨_, rfl, j, _, 5, _, rfl, rfl, SqT.of hj, atI_nat (j := 5) rfl, g, rfl, ⟨_, SqL.of hg⟩, fun D hD => ?_⟩
  refine lc_list (xs := J.good.map nI) (fun i H2 => H2 D = some (.lst (((J.good.take i).map fun s => decide (s ∈ S)).map V.bl)) ∧ Same H H2) ⟨upd_same, same_new hD⟩ (fun i H2 _ ⟨_, s⟩ => SqL.of (s _ _ hg)) ?_ ?_
  · rintro i x H2 hx ⟨g1, g2⟩
    rw [List.getElem?_map] at hx
    cases hz : J.good[i]? with
    | none => rw [hz] at hx; cases hx
    | some z =>
    rw [hz] at hx
    cases hx
    refine ⟨rfl, _, rfl, _, rfl, r, _, rfl, .inl (SqL.of (g2 _ _ hr)), rfl, flat_nI _, _, g1, ?_, ?_, same_add g2 hD⟩
    · rw [List.length_map, List.length_map, List.length_take]
      exact Nat.lt_of_le_of_lt (show _ ≤ 1000000 by omega) (by decide)
    · rw [upd_same, take_succ_of hz, List.map_append, List.map_append, if_neg (by decide), inV_nI]
      rfl
  rintro H2 ⟨g1, g2⟩
  rw [List.length_map, List.take_length] at g1
  refine ⟨D, _, rfl, SqL.of g1, ?_⟩
  have e : ∀ l : List Nat, (l.map fun s => decide (s ∈ S)).any id = l.any fun s => decide (s ∈ S) := fun l => by
    induction l with
    | nil => rfl
    | cons a t ih => simp only [List.map_cons, List.any_cons, id, ih]
  rw [e]
  exact q H2 g2
theorem ok_none_paper (T : Txt K mg) : FnOk P w K mg base CX0 5 T.f_none_paper T.d_none_paper ["judge"] (sp_none_paper P w) := by
  have G_states_that_come : FnOk P w K mg base CX0 4 T.f_states_that_come T.d_states_that_come ["judge"] (sp_states_that_come P w) := ok_states_that_come T
  have G__has_good : FnOk P w K mg base CX0 1 T.f__has_good T.d__has_good ["judge", "states"] (sp__has_good P w) := ok__has_good T
  refine T.F_none_paper.ok sc_none_paper (fun vs H Q E h => ?_) (fun cdv A outer s H vs Q E hr h => ?_)
  · obtain ⟨v, J, rfl, _⟩ := h
    rfl
  obtain ⟨v, J, rfl, hJ, hok, q0, q1⟩ := h
  refine ⟨_, (pss_cons (ps_set (i := 1) sc_none_paper.nd rfl (Or.inl rfl) (pe_call G_states_that_come (hr.mono (by omega)) (by rfl) T.m_states_that_come T.F_states_that_come.kp T.b_states_that_come .nil pass0 (pa_cons (pv 0) pa_nil))) (pss_one (ps_ret (pe_ifExp (pt_val (pe_call G__has_good (hr.mono (by omega)) (by rfl) T.m__has_good T.F__has_good.kp T.b__has_good .nil pass0 (pa_cons (pv 0) (pa_cons (pv 1) pa_nil)))) pe_non (pv 1))))), ?_⟩
  refine ⟨_, rfl, v, J, rfl, hJ, hok, fun r S H1 s1 r0 kr hS => ?_⟩
  refine ⟨_, rfl, _, rfl, v, J, r, S, rfl, hJ.same s1, hok, kr, fun H2 s2 => ⟨_, rfl, ?_⟩⟩
  cases hb : J.good.any fun s => decide (s ∈ S) with
  | true =>
    obtain ⟨s, h1, h2⟩ := List.any_eq_true.mp hb
    exact iteT (q0 H2 (s1.trans s2) ⟨s, h1, (hS.2 s).mp (of_decide_eq_true h2)⟩)
  | false =>
    refine iteF ⟨_, rfl, q1 r S H2 (s1.trans s2) r0 (s2 _ _ kr) hS fun s hs hc => ?_⟩
    have := List.any_eq_false.mp hb s hs
    exact this (decide_eq_true ((hS.2 s).mpr hc))
end


def kvT (us : List (Nat × V × Tr)) : List (Key × V) := us.map fun u => (Sum.inl (u.1 : Int), u.2.1)
def trU (us : List (Nat × V × Tr)) (i : Nat) : Tr := match us.find? fun u => decide (u.1 = i) with | some u => u.2.2 | none => .node 97 []
theorem findU {i : Nat} : ∀ {us : List (Nat × V × Tr)}, i ∈ us.map (·.1) → ∃ u ∈ us, u.1 = i ∧ valV (kvT us) (Sum.inl (i : Int)) = some u.2.1 ∧ trU us i = u.2.2
  | [], h => by cases h
  | u :: r, h => by
    by_cases e : u.1 = i
    · refine ⟨u, List.mem_cons_self, e, ?_, ?_⟩
      · simp [valV, kvT, e]
      · simp [trU, e]
    · have h2 : i ∈ r.map (·.1) := by
        rw [List.map_cons] at h
        rcases List.mem_cons.mp h with h | h
        · exact absurd h.symm e
        · exact h
      obtain ⟨w, h3, h4, h5, h6⟩ := findU h2
      have e3 : ¬ ((Sum.inl (u.1 : Int) : Key) = Sum.inl (i : Int)) := fun h => e (by have := Sum.inl.inj h; omega)
      refine ⟨w, List.mem_cons_of_mem _ h3, h4, ?_, ?_⟩
      · rw [← h5]
        unfold valV kvT
        rw [List.map_cons, List.find?_cons]
        simp only [e3, decide_false]
      · rw [← h6]
        unfold trU
        rw [List.find?_cons]
        simp only [e, decide_false]
theorem putT {us : List (Nat × V × Tr)} {s : Nat} {x : V} {t : Tr} (h : s ∉ us.map (·.1)) : putK (kvT us) (Sum.inl (s : Int)) x = kvT (us ++ [(s, x, t)]) := by
  unfold putK
  have : ((kvT us).any fun kv => decide (kv.1 = Sum.inl (s : Int))) = false := by
    rw [List.any_eq_false]
    intro kv hkv
    obtain ⟨p, hp, rfl⟩ := List.mem_map.mp hkv
    have : ¬ ((Sum.inl (p.1 : Int) : Key) = Sum.inl (s : Int)) := fun e => h (List.mem_map.mpr ⟨p, hp, by have := Sum.inl.inj e; omega⟩)
    simpa using this
  rw [this, if_neg (by decide)]
  unfold kvT
  rw [List.map_append]
  rfl
def HeZ (ok : Addr → Prop) (H : Hp) (e : V × Tr × Nat) : Prop := ∃ p x, e.1 = .ref p ∧ H p = some (.tup [x, .int e.2.2]) ∧ ok p ∧ TrAt ok H x e.2.1
theorem HeZ.keep {ok : Addr → Prop} {H H' : Hp} {e : V × Tr × Nat} (x : HeZ ok H e) (h : ∀ b o, ok b → H b = some o → H' b = some o) : HeZ ok H' e := by
  obtain ⟨p, x, e1, e2, e3, e4⟩ := x
  exact ⟨p, x, e1, h _ _ e3 e2, e3, e4.keep h⟩
theorem HeZ.isIn {ok : Addr → Prop} {H : Hp} {e : V × Tr × Nat} (x : HeZ ok H e) : HeIn H e := by
  obtain ⟨p, x, e1, e2, e3, e4⟩ := x
  exact ⟨p, x, e1, e2, e4.weak fun _ _ => trivial⟩
theorem TabS.keepO {H : Hp} {P dt : Addr} {q : Str} {o o' : HO} (h : LamX.TabS H P q) (n : dt ≠ P) (hd : H dt = some o) (hc : ∀ c q2, o ≠ LamX.CodeO c q2 := by intro c q2 e; unfold LamX.CodeO at e; cases e) : LamX.TabS (upd H dt o') P q := by
  obtain ⟨ps, h1, h2, h3⟩ := h
  refine ⟨ps, by rw [upd_ne n.symm]; exact h1, h2, fun pos cv hcv => ?_⟩
  obtain ⟨c, e, h4⟩ := h3 pos cv hcv
  refine ⟨c, e, ?_⟩
  rw [upd_ne (fun z => by rw [z, hd] at h4; exact hc _ _ (Option.some.inj h4))]
  exact h4
structure Least (J : JD) (s : Nat) (t : Tr) : Prop where
  l : t.lets (fun c => c ∈ J.L.cps.toList)
  st : St J.sf J.n t = s
  least : ∀ t2 : Tr, t2.lets (fun c => c ∈ J.L.cps.toList) → St J.sf J.n t2 = s → t.size ≤ t2.size
  dp : t.depth ≤ 6
  sz : t.size ≤ 100000
theorem LT.least {J : JD} (hok : J.ok) {zs : List (Nat × Nat)} {M s : Nat} {t : Tr} (h : LT J zs s t) (hL : LInv J zs M) (hc : Closed J (stsOf zs)) (hs : s ∈ stsOf zs) : Least J s t := by
  have sm := hL.small hok.n6
  have n6 := hok.n6
  refine ⟨h.l, h.st, fun t2 l2 e2 => ?_, by have := h.dp; omega, ?_⟩
  · have := least_all hok hL hc t2 l2
    rw [e2] at this
    rw [h.sz]
    exact this
  · rw [h.sz]
    exact sm.2 _ (szOf_mem hs)
def LeastsAt (ok : Addr → Prop) (H : Hp) (J : JD) (us : List (Nat × V × Tr)) : Prop := ∀ u ∈ us, TrAt ok H u.2.1 u.2.2 ∧ Least J u.1 u.2.2
def sp_least_trees (P : Program) (w : World) (P1 : Addr) (q1 : Str) : Sp := fun vs H Q _ => ∃ (v : V) (J : JD), vs = [v] ∧ JAt P w H v J ∧ J.ok ∧ LamX.TabS H P1 q1 ∧
  ∀ r us H', Fr P1 H H' → LamX.TabS H' P1 q1 → H r = none → H' r = some (.dK (kvT us)) → LeastsAt (fun b => H b = none) H' J us → ComeL J (us.map (·.1)) → Q (.ref r) H'
section
variable {P : Program} {w : World} {K : PySem.W.Frag} {mg : Str → Option Value} {base : Heap}
theorem ok_least_trees (T : Txt K mg) (B : Tbs T base) : FnOk P w K mg base CX0 11 T.f_least_trees T.d_least_trees ["judge"] (sp_least_trees P w T.P__joined q__joined) := by
  have G__least_rows : FnOk P w K mg base CX0 3 T.f__least_rows T.d__least_rows ["judge"] (sp__least_rows P w) := ok__least_rows T
  have G_from_heap : FnOk P w K mg base CX0 10 T.f_from_heap T.d_from_heap ["letter", "heap"] (sp_from_heap T.P__joined q__joined) := ok_from_heap T B
  refine T.F_least_trees.ok sc_least_trees (fun vs H Q E h => ?_) (fun cdv A outer s H vs Q E hr h => ?_)
  · obtain ⟨v, J, rfl, _⟩ := h
    rfl
  obtain ⟨v, J, rfl, hJ, hok, hT, q⟩ := h
  generalize hP1 : T.P__joined = P1 at *
  refine ⟨_, (pss_cons (ps_set (i := 1) sc_least_trees.nd rfl (Or.inr rfl) pe_dnewK) (pss_cons (ps_for PassesOwn.never rfl (pi_list (pe_call G__least_rows (hr.mono (by omega)) (by rfl) T.m__least_rows T.F__least_rows.kp T.b__least_rows .nil pass0 (pa_cons (pv 0) pa_nil))) (pg_tup rfl (pgs_cons (pg_name (i := 2) sc_least_trees.nd rfl (Or.inl rfl)) (pgs_cons (pg_name (i := 3) sc_least_trees.nd rfl (Or.inl rfl)) (pgs_cons (pg_name (i := 4) sc_least_trees.nd rfl (Or.inl rfl)) (pgs_cons (pg_name (i := 5) sc_least_trees.nd rfl (Or.inl rfl)) pgs_nil))))) (pss_cons (ps_setLc (i := 6) (own := [("below", 7), ("many", 8)]) (g := gTup K 2 (gCons (gName 7) (gCons (gName 8) gNil))) (te := tTup (tCons (tDGet (tVar 1) (tVar 7)) (tCons (tVar 8) tNil))) (tt := tTest (tOp _ (tVar 8) (tC (.int 0)))) rfl sc_least_trees.nd rfl rfl (sw_true rfl rfl rfl (by decide +kernel)) (pi_enumT (by rfl) T.z_enumerate (pa_cons (pv 4) pa_nil)) (blkOk_by (own := [("below", 7), ("many", 8)]) (N := ["judge", "trees", "_", "letter", "classes", "state", "heap", "below", "many"]) (sc := (defScope s_least_trees)) (by decide +kernel)) (fun _ _ _ _ _ => (pg_tup rfl (pgs_cons (pg_name (i := 7) sc_least_trees.nd rfl (Or.inl rfl)) (pgs_cons (pg_name (i := 8) sc_least_trees.nd rfl (Or.inl rfl)) pgs_nil)))) (fun _ _ _ _ _ => pts_one (pt_cmpR op_gt (pv 8) pe_int (nomark _))) (fun _ _ _ _ _ => (pe_tup (pa_cons (pe_dget (hu_of hr) (pv 1) (pv 7) (fun _ _ => rfl)) (pa_cons (pv 8) pa_nil))))) (pss_one (ps_dput (hu_of hr) (pv 1) (pv 5) (pe_call G_from_heap (hr.mono (by omega)) (by rfl) T.m_from_heap T.F_from_heap.kp T.b_from_heap .nil pass0 (pa_cons (pv 3) (pa_cons (pv 6) pa_nil))) rfl)))) (pss_one (ps_ret (pe_dc (own := [("state", 5)]) (tt := tYes) (g := (gName 5)) (tk := tVar 5) (tv := tDGet (tVar 1) (tVar 5)) rfl sc_least_trees.nd (pi_list (pe_callB (call_sortedDI rfl) (by rfl) T.z_sorted (by decide +kernel) (pa_cons (pv 1) pa_nil))) (blkOk_by (own := [("state", 5)]) (N := ["judge", "trees", "_", "letter", "classes", "state", "heap", "below", "many"]) (sc := (defScope s_least_trees)) (by decide +kernel)) (fun _ _ _ _ _ => (pg_name (i := 5) sc_least_trees.nd rfl (Or.inl rfl))) (fun _ _ _ _ _ => pts_nil) (fun _ _ _ _ _ => (pv 5)) (fun _ _ _ _ _ => (pe_dget (hu_of hr) (pv 1) (pv 5) (fun _ _ => rfl)))))))), ?_⟩
  obtain ⟨ps0, hP0, _⟩ := id hT
  refine fun dt hdt => ?_
  have s0 := same_new hdt (o := .dK [])
  have k0 := upd_same (H := H) (a := dt) (o := .dK [])
  have ndP : dt ≠ P1 := fun e => by rw [e, hP0] at hdt; cases hdt
  refine ⟨_, rfl, v, J, rfl, hJ.same s0, hok, fun r vs es M H1 s1 hr0 hr1 hrows hah hL hC => ?_⟩
  have k1 := s1 _ _ k0
  have S1 := s0.trans s1
  have n6 := hok.n6
  have sm := hL.small n6
  have lvs : vs.length = es.length := Paired.length hrows
  have hP1' := S1 _ _ hP0
  refine ⟨r, rfl, ⟨_, SqL.of hr1⟩, for_list (xs := vs) (fun i σ H' => ∃ (us : List (Nat × V × Tr)) (y2 y3 y4 y5 y6 : Option V), σ = [some v, some (.ref dt), y2, y3, y4, y5, y6, none, none] ∧ H' dt = some (.dK (kvT us)) ∧ us.map (·.1) = stsOf (zsOf J (es.take i)) ∧ (∀ u ∈ us, TrAt (fun b => H b = none ∧ b ≠ dt) H' u.2.1 u.2.2 ∧ LT J (zsOf J (es.take i)) u.1 u.2.2) ∧ (∀ b o, b ≠ P1 → b ≠ dt → H1 b = some o → H' b = some o) ∧ LamX.TabS H' P1 q__joined) ⟨[], _, _, _, _, _, rfl, k1, rfl, (fun _ h => by cases h), fun b o _ _ e => e, hT.ext S1⟩ (fun i σ H' _ ⟨_, _, _, _, _, _, _, _, _, _, f, _⟩ => SqL.of (f _ _ (fun e => by rw [e, hP1'] at hr1; cases hr1) (fun e => by rw [e, k1] at hr1; cases hr1) hr1)) ?_ ?_⟩
  · rintro i x σ H2 hx ⟨us, y2, y3, y4, y5, y6, rfl, g1, g2, g3, g4, g5⟩
    obtain ⟨e, he, b, a, rfl, h1, h2⟩ := prd_at hrows hx
    obtain ⟨m, c, row⟩ := e
    obtain ⟨a1, a2, a3, a4⟩ := ahead_take hah he
    dsimp only at a1 a2 a3 a4 h1 h2
    obtain ⟨hc, hlen, hkk⟩ := keysOf_mem a1
    dsimp only at hc hlen hkk
    have hcl := hok.L.2.2 c hc
    have nt : ∀ (q : Addr) (ys : List V), H1 q = some (.tup ys) → q ≠ P1 ∧ q ≠ dt := fun q ys e => ⟨(fun z => by rw [z, hP1'] at e; cases e), (fun z => by rw [z, k1] at e; cases e)⟩
    have b2 := g4 _ _ (nt _ _ h1).1 (nt _ _ h1).2 h1
    have c2 := g4 _ _ (nt _ _ h2).1 (nt _ _ h2).2 h2
    refine ⟨b, _, rfl, SqT.of b2, rfl, _, _, rfl, _, _, rfl, _, _, rfl, _, _, rfl, rfl, ?_⟩
    refine ⟨_, rfl, a, _, rfl, SqT.of c2, fun D hD => ?_⟩
    refine lc_walk (len := (row.map nI).length) walk_enumT (fun i H3 => (∃ hs : List (V × Tr × Nat), H3 D = some (.lst (hs.map (·.1))) ∧ (∀ e ∈ hs, HeZ (fun b => b ≠ D) H3 e ∧ 1 ≤ e.2.2) ∧ hs.map (·.2) = (((row.zipIdx 0).take i).filter fun p => decide (0 < p.1)).map fun p => (trU us p.2, p.1)) ∧ Same H2 H3) ⟨⟨[], upd_same, (fun _ h => by cases h), rfl⟩, same_new hD⟩ (fun i H3 _ h => SqT.of (h.2 _ _ c2)) ?_ ?_
    · rintro i2 x H3 H4 hi ⟨⟨hs, f1, f2, f3⟩, f4⟩ ⟨Tt, x1, rfl, hT, rfl, hx1⟩
      rw [List.length_map] at hi
      rw [List.getElem?_map, List.getElem?_eq_getElem hi] at hx1
      cases hx1
      have sT := same_new hT (o := .tup [.int (i2 : Nat), nI row[i2]])
      have hzi : (row.zipIdx 0)[i2]? = some (row[i2], i2) := by
        rw [List.getElem?_zipIdx, List.getElem?_eq_getElem hi]
        simp
      have kD := sT _ _ f1
      have lhs : (hs.map (·.1)).length < sizeLine := by
        have l1 := congrArg List.length f3
        rw [List.length_map, List.length_map] at l1
        have l2 := List.length_filter_le (fun p : Nat × Nat => decide (0 < p.1)) ((row.zipIdx 0).take i2)
        rw [List.length_take] at l2
        rw [List.length_map]
        exact Nat.lt_of_le_of_lt (show _ ≤ 1000000 by omega) (by decide)
      have dt3 := (f4.trans sT) _ _ g1
      refine ⟨_, _, rfl, SqT.of upd_same, rfl, _, _, rfl, _, _, rfl, rfl, rfl, _, rfl, _, _, rfl, rfl, _, rfl, ?_⟩
      by_cases h0 : 0 < row[i2]
      · have hin := a2 i2 row[i2] (List.getElem?_eq_getElem hi) (by omega)
        rw [← g2] at hin
        obtain ⟨u, hu1, hu2, hu3, hu4⟩ := findU hin
        refine dT (by omega) ⟨_, rfl, _, rfl, dt, u.2.1, rfl, .inl ⟨kvT us, Sum.inl (i2 : Int), .inl dt3, rfl, hu3.symm⟩, _, rfl, (by show 2 ≤ sizeLine; decide), fun q hq => ?_⟩
        have sq := same_new hq (o := .tup [u.2.1, nI row[i2]])
        have kq := upd_same (H := upd H3 Tt (.tup [.int (i2 : Nat), nI row[i2]])) (a := q) (o := .tup [u.2.1, nI row[i2]])
        have kD2 := sq _ _ kD
        have tk := upd_tup (o := .lst (hs.map (·.1) ++ [V.ref q])) kD2
        have Sx := (f4.trans sT).trans sq
        have S5 := same_add (o := .lst (hs.map (·.1) ++ [V.ref q])) Sx hD
        have nqD : q ≠ D := fun e => by rw [e, kD] at hq; cases hq
        refine ⟨_, kD2, lhs, ⟨hs ++ [(.ref q, u.2.2, row[i2])], by rw [upd_same, List.map_append]; rfl, ?_, ?_⟩, S5⟩
        · intro e hee
          rcases List.mem_append.mp hee with hee | hee
          · refine ⟨((f2 e hee).1.keep fun b o n z => ?_), (f2 e hee).2⟩
            rw [upd_ne n]
            exact sq _ _ (sT _ _ z)
          · rw [List.mem_singleton.mp hee]
            exact ⟨⟨q, _, rfl, by rw [upd_ne nqD]; exact kq, nqD, ((((g3 u hu1).1.off hD).same S5).weak fun _ h => h.2)⟩, h0⟩
        · rw [take_succ_of hzi, List.filter_append, List.map_append, List.map_append, f3]
          simp only [List.filter_cons, h0, decide_true, if_true, List.filter_nil, List.map_cons, List.map_nil, hu4]
      · refine dF (by omega) ⟨⟨hs, kD, fun e he => ⟨(f2 e he).1.keep fun b o _ z => sT _ _ z, (f2 e he).2⟩, ?_⟩, f4.trans sT⟩
        rw [take_succ_of hzi, List.filter_append, f3]
        simp only [List.filter_cons, h0, decide_false, Bool.false_eq_true, if_false, List.filter_nil, List.append_nil]
    rintro H3 ⟨⟨hs, f1, f2, f3⟩, f4⟩
    rw [List.take_of_length_le (by rw [List.length_zipIdx, List.length_map]; exact Nat.le_refl _)] at f3
    have f3 : hs.map (·.2) = rowH (trU us) 0 row := f3
    have htr : ∀ s2 ∈ stsOf (zsOf J (es.take i)), LT J (zsOf J (es.take i)) s2 (trU us s2) := fun s2 hi => by
      rw [← g2] at hi
      obtain ⟨u, hu1, hu2, hu3, hu4⟩ := findU hi
      rw [hu4, ← hu2]
      exact (g3 u hu1).2
    have ok2 := mkT_ok hok a1 a2 a3 htr
    have szs : sizes (expand (hs.map (·.2))) ≤ 100000 := by
      rw [f3, rowH_sizes (f := szOf (zsOf J (es.take i))) row 0 fun j x h1 h2 => by rw [Nat.zero_add]; exact (htr j (a2 j x h1 h2)).sz]
      have hin : (J.fs c row, m) ∈ zsOf J es := List.mem_map.mpr ⟨_, List.mem_of_getElem? he, rfl⟩
      have := sm.2 _ hin
      dsimp only at this
      rw [a4] at this
      unfold wt at this
      omega
    have lhs : hs.length ≤ 100000 := by
      have l1 := congrArg List.length f3
      unfold rowH at l1
      rw [List.length_map, List.length_map] at l1
      have l2 := List.length_filter_le (fun p : Nat × Nat => decide (0 < p.1)) (row.zipIdx 0)
      rw [List.length_zipIdx] at l2
      omega
    have hP3 : ∀ b o, b ≠ P1 → H2 b = some o → H3 b = some o := fun b o _ e => f4 _ _ e
    refine ⟨_, rfl, _, rfl, c, D, hs, rfl, hcl.1, hcl.2, f1, fun e he => ⟨(f2 e he).1.isIn, (f2 e he).2⟩, szs, lhs, g5.ext f4, fun x as H4 f5 T5 nd5 O5 => ?_⟩
    have dt4 := f5 _ _ ndP (f4 _ _ g1)
    have hnotin : J.fs c row ∉ us.map (·.1) := by rw [g2]; exact a3
    refine ⟨_, rfl, _, rfl, dt, _, rfl, .inl ⟨kvT us, Sum.inl (J.fs c row : Int), dt4, rfl, ?_, rfl⟩, ?_⟩
    · have l1 := congrArg List.length g2
      unfold stsOf zsOf at l1
      rw [List.length_map, List.length_map, List.length_map, List.length_take] at l1
      have := sm.1
      unfold zsOf at this
      rw [List.length_map] at this
      unfold kvT
      rw [List.length_map]
      exact Nat.lt_of_le_of_lt (show _ ≤ 1000000 by omega) (by decide)
    rw [putT (t := mkT c row (trU us)) hnotin]
    have hzs : zsOf J (es.take (i + 1)) = zsOf J (es.take i) ++ [(J.fs c row, wt (zsOf J (es.take i)) row)] := by
      rw [take_succ_of he, zsOf_app]
      dsimp only
      rw [← a4]
    have keepU : ∀ b o, b ≠ dt → H4 b = some o → (upd H4 dt (.dK (kvT (us ++ [(J.fs c row, x, mkT c row (trU us))])))) b = some o := fun b o n e => by rw [upd_ne n]; exact e
    have noneP : ∀ b, H b = none → b ≠ P1 := fun b h e => by rw [e, hP0] at h; cases h
    obtain ⟨ps3, hP3', _⟩ := id (g5.ext f4)
    have back : ∀ b, H3 b = none → H b = none ∧ b ≠ dt := fun b h => by
      have hdt3 : H3 dt ≠ none := by rw [f4 _ _ g1]; simp
      have nbd : b ≠ dt := fun e => hdt3 (e ▸ h)
      have nbP : b ≠ P1 := fun e => by rw [e, hP3'] at h; cases h
      refine ⟨?_, nbd⟩
      cases eb : H b with
      | none => rfl
      | some o =>
        have := f4 _ _ (g4 _ _ nbP nbd (S1 _ _ eb))
        rw [h] at this
        cases this
    refine ⟨us ++ [(J.fs c row, x, mkT c row (trU us))], _, _, _, _, _, rfl, upd_same, ?_, ?_, ?_, ?_⟩
    · rw [List.map_append, g2, hzs, stsOf_app]
      rfl
    · intro u hu
      rw [hzs]
      rcases List.mem_append.mp hu with hu | hu
      · refine ⟨?_, (g3 u hu).2.old (by rw [← g2]; exact List.mem_map.mpr ⟨u, hu, rfl⟩)⟩
        refine (((g3 u hu).1.same f4).keep fun b o n e => f5 _ _ (noneP b n.1) e).keep fun b o n e => keepU b o n.2 e
      · rw [List.mem_singleton.mp hu]
        refine ⟨?_, ok2⟩
        have O6 := (TrO.at _ _ _ O5).weak fun b h => back b h
        have : (Tr.node c (expand (hs.map (·.2)))).told = mkT c row (trU us) := by rw [f3]; rfl
        rw [this] at O6
        exact O6.keep fun b o n e => keepU b o n.2 e
    · intro b o n1 n2 e
      exact keepU b o n2 (f5 _ _ n1 (f4 _ _ (g4 b o n1 n2 e)))
    · exact TabS.keepO T5 ndP dt4
  rintro σ H2 ⟨us, y2, y3, y4, y5, y6, rfl, g1, g2, g3, g4, g5⟩
  rw [lvs, List.take_length] at g2 g3
  have lus : us.length ≤ 6 := by
    have l1 := congrArg List.length g2
    unfold stsOf zsOf at l1
    rw [List.length_map, List.length_map, List.length_map] at l1
    have := sm.1
    unfold zsOf at this
    rw [List.length_map] at this
    omega
  have ndu : (us.map (·.1)).Nodup := by rw [g2]; exact hL.nd
  refine ⟨_, rfl, dt, kvT us, us.map (fun u => (u.1 : Int)), rfl, Rd.of g1, ?_, by rw [List.length_map]; omega, fun ys p py so hp => ⟨p, rfl, ⟨_, SqL.of upd_same⟩, fun D2 hD2 => ?_⟩⟩
  · unfold kvT
    rw [List.map_map, List.map_map]
    rfl
  have py2 : ys.Perm ((us.map (·.1)).map fun n : Nat => (n : Int)) := by rw [List.map_map]; exact py
  obtain ⟨S, rfl, pS, rS⟩ := rise_of py2 so ndu
  have lS := pS.length_eq
  rw [List.length_map] at lS
  have s3 := same_new hp (o := .lst ((S.map fun n : Nat => (n : Int)).map V.int))
  have kp := upd_same (H := H2) (a := p) (o := .lst ((S.map fun n : Nat => (n : Int)).map V.int))
  generalize upd H2 p (.lst ((S.map fun n : Nat => (n : Int)).map V.int)) = H3 at *
  have dt3 := s3 _ _ g1
  obtain ⟨pick, hpick⟩ : ∃ pick : Nat → Nat × V × Tr, ∀ s2 ∈ S, pick s2 ∈ us ∧ (pick s2).1 = s2 ∧ valV (kvT us) (Sum.inl (s2 : Int)) = some (pick s2).2.1 := by
    have : ∀ s2 : Nat, ∃ u : Nat × V × Tr, s2 ∈ S → u ∈ us ∧ u.1 = s2 ∧ valV (kvT us) (Sum.inl (s2 : Int)) = some u.2.1 := fun s2 => by
      by_cases hs : s2 ∈ S
      · obtain ⟨u, h1, h2, h3, _⟩ := findU (pS.mem_iff.mp hs)
        exact ⟨u, fun _ => ⟨h1, h2, h3⟩⟩
      · exact ⟨(0, .non, .node 97 []), fun h => absurd h hs⟩
    exact ⟨fun s2 => Classical.choose (this s2), fun s2 hs => Classical.choose_spec (this s2) hs⟩
  have nDP : ∀ ps, H3 D2 ≠ some (.tbl ps) := fun ps e => by rw [hD2] at e; cases e
  refine lc_outer (xs := (S.map fun n : Nat => (n : Int)).map V.int) (fun i H' => H' D2 = some (.dK (kvT ((S.take i).map pick))) ∧ Same H3 H') ⟨upd_same, same_new hD2⟩ (fun i H' _ ⟨_, s⟩ => SqL.of (s _ _ kp)) ?_ ?_
  · rintro i x H4 hx ⟨f1, f2⟩
    rw [List.map_map, List.getElem?_map] at hx
    cases hz : S[i]? with
    | none => rw [hz] at hx; cases hx
    | some z =>
    rw [hz] at hx
    cases hx
    have hzm := List.mem_of_getElem? hz
    obtain ⟨p1, p2, p3⟩ := hpick z hzm
    refine ⟨rfl, _, rfl, _, rfl, _, rfl, dt, _, rfl, .inl ⟨kvT us, Sum.inl (z : Int), .inl (f2 _ _ dt3), rfl, p3.symm⟩, _, Sum.inl (z : Int), rfl, f1, ?_, ?_, same_add f2 hD2⟩
    · unfold kvT
      rw [List.length_map, List.length_map, List.length_take]
      exact Nat.lt_of_le_of_lt (show _ ≤ 1000000 by omega) (by decide)
    · rw [upd_same]
      have hn : z ∉ ((S.take i).map pick).map (·.1) := fun h => by
        obtain ⟨u, h1, h2⟩ := List.mem_map.mp h
        obtain ⟨y, h3, rfl⟩ := List.mem_map.mp h1
        have hy := hpick y (List.mem_of_mem_take h3)
        rw [hy.2.1] at h2
        obtain ⟨j, hj⟩ := List.mem_iff_getElem?.mp h3
        have hjl := (List.getElem?_eq_some_iff.mp hj).1
        rw [List.length_take] at hjl
        rw [List.getElem?_take_of_lt (by omega)] at hj
        have a1 := (List.getElem?_eq_some_iff.mp hj)
        have a2 := (List.getElem?_eq_some_iff.mp hz)
        obtain ⟨b1, b2⟩ := a1
        obtain ⟨c1, c2⟩ := a2
        have := List.pairwise_iff_getElem.mp rS j i b1 c1 (by omega)
        omega
      have pe : pick z = (z, (pick z).2.1, (pick z).2.2) := Prod.ext p2 rfl
      rw [putT (t := (pick z).2.2) hn, take_succ_of hz, List.map_append, ← pe]
      rfl
  rintro H4 ⟨f1, f2⟩
  rw [List.length_map, List.length_map, List.take_length] at f1
  have hD20 : H D2 = none := by
    cases e : H D2 with
    | none => rfl
    | some o =>
      have nP : D2 ≠ P1 := fun z => by
        obtain ⟨ps5, h5, _⟩ := g5
        rw [z, s3 _ _ h5] at hD2
        cases hD2
      have nd : D2 ≠ dt := fun z => by rw [z, dt3] at hD2; cases hD2
      have := s3 _ _ (g4 _ _ nP nd (S1 _ _ e))
      rw [hD2] at this
      cases this
  refine q D2 (S.map pick) H4 (fun b o n e => ?_) ((g5.ext s3).ext f2) hD20 f1 (fun u hu => ?_) ?_
  · have nd : b ≠ dt := fun z => by rw [z, hdt] at e; cases e
    exact f2 _ _ (s3 _ _ (g4 _ _ n nd (S1 _ _ e)))
  · obtain ⟨z, hz, rfl⟩ := List.mem_map.mp hu
    obtain ⟨p1, p2, p3⟩ := hpick z hz
    obtain ⟨c1, c2⟩ := g3 _ p1
    exact ⟨((c1.same s3).same f2).weak fun b h => h.1, c2.least hok hL hC (by rw [← g2]; exact List.mem_map.mpr ⟨_, p1, rfl⟩)⟩
  · have e : (S.map pick).map (·.1) = S := by
      rw [List.map_map]
      exact (List.map_congr_left fun z hz => (hpick z hz).2.1).trans (List.map_id _)
    rw [e]
    refine ⟨rS, fun s2 => ?_⟩
    rw [pS.mem_iff, g2]
    exact comes_iff hok hah hC s2
end


def sp_is_whole_within : Sp := fun vs H Q _ => ∃ i lo hi : Int, vs = [.int i, .int lo, .int hi] ∧ lo ≤ i ∧ i ≤ hi ∧ Q (.bl true) H
def sp__rises_lst (K : PySem.W.Frag) : Sp := fun vs H Q _ => ∃ (a : Addr) (g : List Nat), vs = [.ref a] ∧ H a = some (.lst (g.map nI)) ∧ g.Pairwise (· < ·) ∧ g.length ≤ 100 ∧ ∀ H', Same H H' → Q (.bl true) H'
def sp_are_rising_states : Sp := fun vs H Q _ => ∃ (a : Addr) (g : List Nat) (n : Nat), vs = [.ref a, nI n] ∧ H a = some (.lst (g.map nI)) ∧ g.Pairwise (· < ·) ∧ g.length ≤ 100 ∧ (∀ x ∈ g, x < n) ∧ ∀ H', Same H H' → Q (.bl true) H'
theorem rep_succ {α : Type} (n : Nat) (x : α) : List.replicate (n + 1) x = List.replicate n x ++ [x] := by
  rw [List.replicate_succ']
theorem all_rep (n : Nat) : (List.replicate n true).all id = true := by
  rw [List.all_eq_true]
  intro x hx
  rw [List.eq_of_mem_replicate hx]
  rfl
section
variable {P : Program} {w : World} {K : PySem.W.Frag} {mg : Str → Option Value} {base : Heap}
theorem ok_is_whole_within (T : Txt K mg) : FnOk P w K mg base CX0 2 T.f_is_whole_within T.d_is_whole_within ["thing", "low", "high"] sp_is_whole_within := by
  have G_is_whole : FnOk P w K mg base CX0 1 T.f_is_whole T.d_is_whole ["thing"] sp_is_whole := ok_is_whole T
  refine T.F_is_whole_within.ok sc_is_whole_within (fun vs H Q E h => ?_) (fun cdv A outer s H vs Q E hr h => ?_)
  · obtain ⟨i, lo, hi, rfl, _⟩ := h
    rfl
  obtain ⟨i, lo, hi, rfl, h1, h2, q⟩ := h
  refine ⟨_, (pss_one (ps_ret (pe_and (pe_call G_is_whole (hr.mono (by omega)) (by rfl) T.m_is_whole T.F_is_whole.kp T.b_is_whole .nil pass0 (pa_cons (pv 0) pa_nil)) (pe_one (pe_chain op_le op_le (pv 1) (pv 0) (pv 2)))))), ?_⟩
  refine ⟨_, rfl, i, rfl, _, rfl, iteT ?_⟩
  refine ⟨_, rfl, _, rfl, _, _, rfl, rfl, _, rfl, dT h1 ?_⟩
  refine ⟨_, rfl, _, _, rfl, rfl, ?_⟩
  show Q (V.bl (decide (i ≤ hi))) H
  rw [decide_eq_true h2]
  exact q
theorem ok__rises_lst (T : Txt K mg) : FnOk P w K mg base CX0 1 T.f__rises T.d__rises ["row"] (sp__rises_lst K) := by
  refine T.F__rises.ok sc__rises (fun vs H Q E h => ?_) (fun cdv A outer s H vs Q E hr h => ?_)
  · obtain ⟨a, g, rfl, _⟩ := h
    rfl
  obtain ⟨a, g, rfl, ha, hR, h100, q⟩ := h
  refine ⟨_, (pss_one (ps_ret (pe_callB (cr_all rfl) (by rfl) T.z_all (by decide +kernel) (pa_cons (pe_lc (own := [("low", 1), ("high", 2)]) (g := gTup K 2 (gCons (gName 1) (gCons (gName 2) gNil))) (tt := tYes) rfl sc__rises.nd (pi_zip (by rfl) T.z_zip (pa_cons (pv 0) (pa_cons (pe_slice sl_list (pv 0) (po_some pe_int) po_none) pa_nil))) (blkOk_by (own := [("low", 1), ("high", 2)]) (N := ["row", "low", "high"]) (sc := (defScope s__rises)) (by decide +kernel)) (fun _ _ _ _ _ => (pg_tup rfl (pgs_cons (pg_name (i := 1) sc__rises.nd rfl (Or.inl rfl)) (pgs_cons (pg_name (i := 2) sc__rises.nd rfl (Or.inl rfl)) pgs_nil)))) (fun _ _ _ _ _ => pts_nil) (fun _ _ _ _ _ => (pe_cmpR op_lt (pv 1) (pv 2) (nomark _)))) pa_nil)))), ?_⟩
  have hcut : cutV (g.map nI) (some 1) none = (g.drop 1).map nI := by
    cases g with
    | nil => rfl
    | cons x r => rw [List.map_cons, cut1]; rfl
  refine ⟨_, rfl, _, rfl, 1, rfl, a, _, rfl, SqL.of ha, fun p hp => ?_⟩
  rw [hcut]
  have sp := same_new (o := .lst ((g.drop 1).map nI)) hp
  have kp := upd_same (H := H) (a := p) (o := .lst ((g.drop 1).map nI))
  have ka := sp _ _ ha
  generalize upd H p (.lst ((g.drop 1).map nI)) = H1 at *
  refine ⟨a, p, _, _, rfl, SqL.of ka, SqL.of kp, fun D hD => ?_⟩
  refine lc_it (n := g.length - 1) (walk_zip (K := K) (a := a) (b := p) (xs := g.map nI) (ys := (g.drop 1).map nI) (by rw [List.length_map, List.length_map, List.length_drop]; omega)) (fun i H2 => H2 D = some (.lst ((List.replicate i true).map V.bl)) ∧ Same H1 H2) ⟨upd_same, same_new hD⟩ (fun i H2 _ h => ⟨SqL.of (h.2 _ _ ka), SqL.of (h.2 _ _ kp)⟩) ?_ ?_
  · rintro i x H2 H3 hi ⟨g1, g2⟩ ⟨T, u, v, rfl, hT, rfl, hu, hv⟩
    dsimp only at hu hv
    rw [List.getElem?_map] at hu hv
    rw [List.getElem?_drop] at hv
    cases hc : g[i]? with
    | none => rw [hc] at hu; cases hu
    | some c =>
    cases hd : g[1 + i]? with
    | none => rw [hd] at hv; cases hv
    | some d =>
    rw [hc] at hu
    rw [hd] at hv
    cases hu
    cases hv
    have lt : c < d := by
      have h1 := List.getElem?_eq_some_iff.mp hc
      have h2 := List.getElem?_eq_some_iff.mp hd
      have := (List.pairwise_iff_getElem.mp hR) i (1 + i) h1.1 h2.1 (by omega)
      simpa [h1.2, h2.2] using this
    have sT := same_new (o := .tup [nI c, nI d]) hT
    have kT := upd_same (H := H2) (a := T) (o := .tup [nI c, nI d])
    generalize upd H2 T (.tup [nI c, nI d]) = H4 at *
    refine ⟨T, _, rfl, SqT.of kT, rfl, _, _, rfl, _, _, rfl, rfl, rfl, _, rfl, _, rfl, _, _, rfl, rfl, ?_⟩
    have e : decide ((c : Int) < (d : Int)) = true := decide_eq_true (by omega)
    refine ⟨_, sT _ _ g1, ?_, ?_, same_add (g2.trans sT) hD⟩
    · rw [List.length_map, List.length_replicate]
      exact Nat.lt_of_le_of_lt (show _ ≤ 1000000 by omega) (by decide)
    · show (upd H4 D (.lst ((List.replicate i true).map V.bl ++ [V.bl (decide ((c : Int) < (d : Int)))]))) D = _
      rw [upd_same, e, rep_succ, List.map_append]
      rfl
  · rintro H2 ⟨g1, g2⟩
    refine ⟨D, _, rfl, SqL.of g1, ?_⟩
    rw [all_rep]
    exact q H2 (sp.trans g2)
theorem ok_are_rising_states (T : Txt K mg) : FnOk P w K mg base CX0 3 T.f_are_rising_states T.d_are_rising_states ["thing", "states"] sp_are_rising_states := by
  have G_is_whole_within : FnOk P w K mg base CX0 2 T.f_is_whole_within T.d_is_whole_within ["thing", "low", "high"] sp_is_whole_within := ok_is_whole_within T
  have G__rises : FnOk P w K mg base CX0 1 T.f__rises T.d__rises ["row"] (sp__rises_lst K) := ok__rises_lst T
  refine T.F_are_rising_states.ok sc_are_rising_states (fun vs H Q E h => ?_) (fun cdv A outer s H vs Q E hr h => ?_)
  · obtain ⟨a, g, n, rfl, _⟩ := h
    rfl
  obtain ⟨a, g, n, rfl, ha, hR, h100, hn, q⟩ := h
  refine ⟨_, (pss_cons (ps_if (pt_not (pt_val (pe_callB call_isi (by rfl) T.z_isinstance (by decide +kernel) (pa_cons (pv 0) (pa_cons (pe_bltn (v := .ty "list") (by rfl) T.z_list (by decide +kernel) rfl) pa_nil))))) (pss_one (ps_ret pe_bl)) pss_nil) (pss_one (ps_ret (pe_and (pe_callB (cr_all rfl) (by rfl) T.z_all (by decide +kernel) (pa_cons (pe_lc (own := [("state", 2)]) (g := gName 2) (tt := tYes) rfl sc_are_rising_states.nd (pi_list (pv 0)) (blkOk_by (own := [("state", 2)]) (N := ["thing", "states", "state"]) (sc := (defScope s_are_rising_states)) (by decide +kernel)) (fun _ _ _ _ _ => (pg_name (i := 2) sc_are_rising_states.nd rfl (Or.inl rfl))) (fun _ _ _ _ _ => pts_nil) (fun _ _ _ _ _ => (pe_call G_is_whole_within (hr.mono (by omega)) (by rfl) T.m_is_whole_within T.F_is_whole_within.kp T.b_is_whole_within .nil pass0 (pa_cons (pv 2) (pa_cons pe_int (pa_cons (pe_op op_sub (pv 1) pe_int) pa_nil)))))) pa_nil)) (pe_one (pe_call G__rises (hr.mono (by omega)) (by rfl) T.m__rises T.F__rises.kp T.b__rises .nil pass0 (pa_cons (pv 0) pa_nil))))))), ?_⟩
  refine ⟨_, rfl, _, _, _, _, true, rfl, .ty "list", .base (.lst ha), kit_ty (by decide +kernel), _, rfl, iteF ?_⟩
  refine ⟨_, rfl, a, rfl, ⟨_, SqL.of ha⟩, fun D hD => ?_⟩
  refine lc_list (xs := g.map nI) (fun i H2 => H2 D = some (.lst ((List.replicate i true).map V.bl)) ∧ Same H H2) ⟨upd_same, same_new hD⟩ (fun i H2 _ ⟨_, s⟩ => SqL.of (s _ _ ha)) ?_ ?_
  · rintro i x H2 hx ⟨g1, g2⟩
    rw [List.getElem?_map] at hx
    cases hc : g[i]? with
    | none => rw [hc] at hx; cases hx
    | some z =>
    rw [hc] at hx
    cases hx
    have hz := hn z (List.mem_of_getElem? hc)
    have hi := (List.getElem?_eq_some_iff.mp hc).1
    refine ⟨rfl, _, rfl, _, rfl, _, _, rfl, rfl, z, 0, n - 1, rfl, by omega, by omega, _, g1, ?_, ?_, same_add g2 hD⟩
    · rw [List.length_map, List.length_replicate]
      exact Nat.lt_of_le_of_lt (show _ ≤ 1000000 by omega) (by decide)
    · rw [upd_same, rep_succ, List.map_append]
      rfl
  · rintro H2 ⟨g1, g2⟩
    refine ⟨D, _, rfl, SqL.of g1, ?_⟩
    rw [all_rep]
    exact ⟨_, rfl, iteT ⟨_, rfl, a, g, rfl, g2 _ _ ha, hR, h100, fun H3 s3 => q H3 (g2.trans s3)⟩⟩
end


theorem row_st {J : JD} {S : List Nat} {key : Nat × List Nat} {tr : Nat → Tr} (hk : key ∈ J.keys) (ho : onlyOf S key.2) (htr : ∀ i ∈ S, (tr i).lets (fun c => c ∈ J.L.cps.toList) ∧ St J.sf J.n (tr i) = i) : (Tr.node key.1 (expand (rowH tr 0 key.2))).lets (fun c => c ∈ J.L.cps.toList) ∧ St J.sf J.n (.node key.1 (expand (rowH tr 0 key.2))) = J.fs key.1 key.2 := by
  obtain ⟨hc, hlen, hkk⟩ := keysOf_mem hk
  refine ⟨⟨hc, letss_all fun t ht => ?_⟩, ?_⟩
  · obtain ⟨j, x, h1, h2, rfl⟩ := rowH_mem _ _ ht
    rw [Nat.zero_add]
    exact (htr j (ho j x h1 h2)).1
  · simp only [St]
    show J.fs key.1 ((cnts J.n (Sts J.sf J.n (expand (rowH tr 0 key.2)))).map (clsN J.few J.turn)) = _
    congr 1
    refine List.ext_getElem? fun i => ?_
    rw [List.getElem?_map]
    by_cases hi : i < J.n
    · rw [cnts_at _ hi, rowH_cnt (fs := J.sf) (n := J.n) key.2 0 i fun j x h1 h2 => by rw [Nat.zero_add]; exact (htr j (ho j x h1 h2)).2]
      rw [if_pos (Nat.zero_le _), Nat.sub_zero, List.getElem?_eq_getElem (by rw [hlen]; exact hi)]
      show some (clsN J.few J.turn key.2[i]) = some key.2[i]
      rw [clsN_low (hkk _ (List.getElem_mem _))]
    · rw [List.getElem?_eq_none (by rw [cnts_len]; omega), List.getElem?_eq_none (by rw [hlen]; omega)]
      rfl
theorem ComeL.closed {J : JD} {S : List Nat} (h : ComeL J S) : Closed J S := by
  intro key hk ho
  have : ∀ s : Nat, ∃ t : Tr, s ∈ S → t.lets (fun c => c ∈ J.L.cps.toList) ∧ St J.sf J.n t = s := fun s => by
    by_cases hs : s ∈ S
    · obtain ⟨t, h1, h2⟩ := (h.2 s).mp hs
      exact ⟨t, fun _ => ⟨h1, h2⟩⟩
    · exact ⟨.node 97 [], fun h => absurd h hs⟩
  obtain ⟨h1, h2⟩ := row_st (tr := fun s => Classical.choose (this s)) hk ho fun i hi => Classical.choose_spec (this i) hi
  exact (h.2 _).mpr ⟨_, h1, h2⟩
theorem ComeL.lt {J : JD} (hok : J.ok) {S : List Nat} (h : ComeL J S) : ∀ s ∈ S, s < J.n := fun s hs => by
  obtain ⟨t, h1, rfl⟩ := (h.2 s).mp hs
  exact St_ltJ hok t h1
theorem rise_len {n : Nat} {S : List Nat} (h : S.Pairwise (· < ·)) (hn : ∀ s ∈ S, s < n) : S.length ≤ n := by
  have nd2 : ((List.range n).filter fun x => decide (x ∈ S)).Nodup := List.Nodup.sublist List.filter_sublist List.nodup_range
  have nd1 : S.Nodup := h.imp fun h => Nat.ne_of_lt h
  have pp := perm_nodup nd1 nd2 fun a => by
    rw [List.mem_filter, List.mem_range, decide_eq_true_eq]
    exact ⟨fun ha => ⟨hn a ha, ha⟩, fun ha => ha.2⟩
  rw [pp.length_eq]
  have := List.length_filter_le (fun x => decide (x ∈ S)) (List.range n)
  rwa [List.length_range] at this
def sp_are_only_of_l : Sp := fun vs H Q _ => ∃ (a r : Addr) (row S : List Nat), vs = [.ref a, .ref r] ∧ H a = some (.tup (row.map nI)) ∧ H r = some (.lst (S.map nI)) ∧ row.length ≤ 6 ∧ ∀ H', Same H H' → Q (.bl (onlyB S row)) H'
def sp_none_shows (P : Program) (w : World) : Sp := fun vs H Q _ => ∃ (v : V) (J : JD) (r : Addr) (S : List Nat), vs = [v, .ref r] ∧ JAt P w H v J ∧ J.ok ∧ H r = some (.lst (S.map nI)) ∧ ComeL J S ∧ (∀ s ∈ J.good, ¬ Comes J s) ∧ ∀ H', Same H H' → Q (.bl true) H'
section
variable {P : Program} {w : World} {K : PySem.W.Frag} {mg : Str → Option Value} {base : Heap}
theorem ok_are_only_of_l (T : Txt K mg) : FnOk P w K mg base CX0 1 T.f_are_only_of T.d_are_only_of ["classes", "states"] sp_are_only_of_l := by
  refine T.F_are_only_of.ok sc_are_only_of (fun vs H Q E h => ?_) (fun cdv A outer s H vs Q E hr h => ?_)
  · obtain ⟨a, d, row, zs, rfl, _⟩ := h
    rfl
  obtain ⟨a, d, row, S, rfl, ha, hd, h6, q⟩ := h
  refine ⟨_, (pss_one (ps_ret (pe_callB (cr_all rfl) (by rfl) T.z_all (by decide +kernel) (pa_cons (pe_lc (own := [("state", 2), ("many", 3)]) (g := gTup K 2 (gCons (gName 2) (gCons (gName 3) gNil))) (te := tOrV (tOp rEq (tVar 3) (tC (.int 0))) (tOp (rIn K false) (tVar 2) (tVar 1))) (tt := tYes) rfl sc_are_only_of.nd (pi_enumT (by rfl) T.z_enumerate (pa_cons (pv 0) pa_nil)) (blkOk_by (own := [("state", 2), ("many", 3)]) (N := ["classes", "states", "state", "many"]) (sc := (defScope s_are_only_of)) (by decide +kernel)) (fun _ _ _ _ _ => (pg_tup rfl (pgs_cons (pg_name (i := 2) sc_are_only_of.nd rfl (Or.inl rfl)) (pgs_cons (pg_name (i := 3) sc_are_only_of.nd rfl (Or.inl rfl)) pgs_nil)))) (fun _ _ _ _ _ => pts_nil) (fun _ _ _ _ _ => (pe_or (pe_cmpR op_eq (pv 3) pe_int (nomark _)) (pe_one (pe_cmpR op_in_seq (pv 2) (pv 1) (by rfl)))))) pa_nil)))), ?_⟩
  refine ⟨_, rfl, a, _, rfl, SqT.of ha, fun D hD => ?_⟩
  refine lc_walk (len := (row.map nI).length) walk_enumT (fun i H2 => H2 D = some (.lst ((((row.zipIdx 0).map fun p => decide (p.1 = 0) || decide (p.2 ∈ S)).take i).map V.bl)) ∧ Same H H2) ⟨upd_same, same_new hD⟩ (fun i H2 _ h => SqT.of (h.2 _ _ ha)) ?_ ?_
  · rintro i x H2 H3 hi ⟨g1, g2⟩ ⟨Tt, x1, rfl, hT, rfl, hx⟩
    rw [List.length_map] at hi
    rw [List.getElem?_map, List.getElem?_eq_getElem hi] at hx
    cases hx
    have sT := same_new hT (o := .tup [.int (i : Nat), nI row[i]])
    have hz : ((row.zipIdx 0).map fun p => decide (p.1 = 0) || decide (p.2 ∈ S))[i]? = some (decide (row[i] = 0) || decide (i ∈ S)) := by
      rw [List.getElem?_map, List.getElem?_zipIdx, List.getElem?_eq_getElem hi]
      simp
    have lt : ((((row.zipIdx 0).map fun p => decide (p.1 = 0) || decide (p.2 ∈ S)).take i).map V.bl).length < sizeLine := by
      rw [List.length_map, List.length_take]
      exact Nat.lt_of_le_of_lt (show _ ≤ 1000000 by omega) (by decide)
    have kD := sT _ _ g1
    have sD := same_add (o := .lst ((((row.zipIdx 0).map fun p => decide (p.1 = 0) || decide (p.2 ∈ S)).take i).map V.bl ++ [V.bl (decide (row[i] = 0) || decide (i ∈ S))])) (g2.trans sT) hD
    have hd3 := (g2.trans sT) _ _ hd
    refine ⟨_, _, rfl, SqT.of upd_same, rfl, _, _, rfl, _, _, rfl, rfl, rfl, _, rfl, rfl, _, rfl, ?_⟩
    by_cases h0 : row[i] = 0
    · refine eqT (congrArg nI h0) ⟨_, kD, lt, ?_, ?_⟩
      · rw [upd_same, take_succ_of hz, List.map_append]
        simp [h0]
      · simpa [h0] using sD
    · refine eqF (fun e => h0 (by have := V.int.inj e; omega)) ⟨_, rfl, _, rfl, d, _, rfl, .inl (SqL.of hd3), rfl, flat_nI _, ?_⟩
      have e0 : V.int ((i : Nat) : Int) = nI i := rfl
      rw [if_neg (by decide), e0, inV_nI]
      refine ⟨_, kD, lt, ?_, ?_⟩
      · rw [upd_same, take_succ_of hz, List.map_append]
        simp [h0]
      · simpa [h0] using sD
  rintro H2 ⟨g1, g2⟩
  rw [List.take_of_length_le (by rw [List.length_map, List.length_zipIdx, List.length_map]; exact Nat.le_refl _)] at g1
  refine ⟨D, _, rfl, SqL.of g1, ?_⟩
  rw [all_map_id]
  exact q H2 g2
theorem ok_none_shows (T : Txt K mg) : FnOk P w K mg base CX0 4 T.f_none_shows T.d_none_shows ["judge", "paper"] (sp_none_shows P w) := by
  have G_are_rising_states : FnOk P w K mg base CX0 3 T.f_are_rising_states T.d_are_rising_states ["thing", "states"] sp_are_rising_states := ok_are_rising_states T
  have G__has_good : FnOk P w K mg base CX0 1 T.f__has_good T.d__has_good ["judge", "states"] (sp__has_good P w) := ok__has_good T
  have G_are_only_of : FnOk P w K mg base CX0 1 T.f_are_only_of T.d_are_only_of ["classes", "states"] sp_are_only_of_l := ok_are_only_of_l T
  refine T.F_none_shows.ok sc_none_shows (fun vs H Q E h => ?_) (fun cdv A outer s H vs Q E hr h => ?_)
  · obtain ⟨v, J, r, S, rfl, _⟩ := h
    rfl
  obtain ⟨v, J, r, S, rfl, hJ, hok, krS, hS, hng, q⟩ := h
  refine ⟨_, (pss_cons (ps_if (PW.pt (pw_or (pt_not (pt_val (pe_call G_are_rising_states (hr.mono (by omega)) (by rfl) T.m_are_rising_states T.F_are_rising_states.kp T.b_are_rising_states .nil pass0 (pa_cons (pv 1) (pa_cons (pe_ix ix_tup (pv 0) pe_int (fun _ _ => rfl)) pa_nil))))) (pw_or1 (pt_val (pe_call G__has_good (hr.mono (by omega)) (by rfl) T.m__has_good T.F__has_good.kp T.b__has_good .nil pass0 (pa_cons (pv 0) (pa_cons (pv 1) pa_nil))))))) (pss_one (ps_ret pe_bl)) pss_nil) (pss_one (ps_ret (pe_callB (cr_all rfl) (by rfl) T.z_all (by decide +kernel) (pa_cons (pe_lock (pe_lc (own := [("_", 2), ("classes", 3), ("state", 4)]) (g := gTup K 2 (gCons (gTup K 2 (gCons (gName 2) (gCons (gName 3) gNil))) (gCons (gName 4) gNil))) (te := tOp (rIn K false) (tVar 4) (tVar 1)) (tt := tB (tCall sp_are_only_of_l [] E0 (tCons (tVar 3) (tCons (tVar 1) tNil)))) rfl sc_none_shows.nd (pi_itemsN (pe_ix ix_tup (pv 0) pe_int (fun _ _ => rfl))) (blkOk_by (own := [("_", 2), ("classes", 3), ("state", 4)]) (N := ["judge", "paper", "_", "classes", "state"]) (sc := (defScope s_none_shows)) (by decide +kernel)) (fun _ _ _ _ _ => (pg_tup rfl (pgs_cons (pg_tup rfl (pgs_cons (pg_name (i := 2) sc_none_shows.nd rfl (Or.inl rfl)) (pgs_cons (pg_name (i := 3) sc_none_shows.nd rfl (Or.inl rfl)) pgs_nil))) (pgs_cons (pg_name (i := 4) sc_none_shows.nd rfl (Or.inl rfl)) pgs_nil)))) (fun _ _ _ _ _ => pts_one (pt_val (pe_call G_are_only_of (hr.mono (by omega)) (by rfl) T.m_are_only_of T.F_are_only_of.kp T.b_are_only_of .nil pass0 (pa_cons (pv 3) (pa_cons (pv 1) pa_nil))))) (fun _ _ _ _ _ => (pe_cmpR op_in_seq (pv 4) (pv 1) (by rfl))))) pa_nil))))), ?_⟩
  have hJ0 := hJ
  obtain ⟨j, d, g, xs, keys, rfl, hj, hd, hrn, hrj, hper, hg⟩ := hJ0
  have n6 := hok.n6
  have n1 := hok.n1
  have slt := hS.lt hok
  have sl := rise_len hS.1 slt
  have lk : xs.length ≤ 600 := by
    rw [Paired.length hrj, hper.length_eq]
    unfold JD.keys
    rw [keysOf_len]
    exact hok.h600
  refine ⟨_, rfl, _, rfl, j, _, 1, _, rfl, rfl, SqT.of hj, atI_nat (j := 1) rfl, r, S, J.n, rfl, krS, hS.1, by omega, slt, fun H1 s1 => ⟨_, rfl, iteF ?_⟩⟩
  refine ⟨_, rfl, _, rfl, .ref j, J, r, S, rfl, hJ.same s1, hok, s1 _ _ krS, fun H2 s2 => ⟨_, rfl, ?_⟩⟩
  have hno : (J.good.any fun s => decide (s ∈ S)) = false := by
    rw [List.any_eq_false]
    intro s hs
    simpa using fun h => hng s hs ((hS.2 s).mp h)
  rw [hno]
  refine iteF ?_
  have S2 := s1.trans s2
  have hd2 := S2 _ _ hd
  have hj2 := S2 _ _ hj
  have kr2 := S2 _ _ krS
  have hrn2 := hrn.keep fun b ys e => S2 _ _ e
  have ndj : j ≠ d := fun e => by rw [e, hd] at hj; unfold DictN at hj; cases hj
  have ndr : r ≠ d := fun e => by rw [e, hd] at krS; unfold DictN at krS; cases krS
  refine ⟨d, _, hd2, trivial, fun od => ?_⟩
  refine ⟨_, rfl, j, _, 4, _, rfl, rfl, SqT.of (by rw [upd_ne ndj]; exact hj2), atI_nat (j := 4) rfl, d, od, xs, rfl, upd_same, fun D hD => ?_⟩
  have nDd : D ≠ d := fun e => by rw [e, upd_same] at hD; cases hD
  have hD0 : H2 D = none := by rw [upd_ne nDd] at hD; exact hD
  refine lc_walk (len := xs.length) walk_itemsN (fun i H' => H' D = some (.lst ((((keys.take i).filter fun key => onlyB S key.2).map fun key => decide (J.fs key.1 key.2 ∈ S)).map V.bl)) ∧ H' d = some (.frz od (DictN P w d xs)) ∧ FrD d H2 H') ⟨upd_same, by rw [upd_ne nDd.symm, upd_same], fun b o n e => by rw [upd_ne (ne_of_none e hD0), upd_ne n]; exact e⟩ (fun i H' _ h => h.2.1) ?_ ?_
  · rintro i x H3 H4 hi ⟨k0, k3, k4⟩ ⟨p, row, hrow, rfl, hp, rfl⟩
    obtain ⟨⟨c, rw0⟩, hkey, e1, e2⟩ := prd_at hrj hrow
    have hm := hper.mem_iff.mp (List.mem_of_getElem? hkey)
    obtain ⟨hc, hlen, hkk⟩ := keysOf_mem hm
    dsimp only at hlen hkk hc
    obtain ⟨hn1, _⟩ := hrn2 row (List.mem_of_getElem? hrow)
    rw [e1] at hn1
    obtain ⟨a, kb, ka⟩ := nk_inv hn1
    have ntup : ∀ (q : Addr) (ys : List V), H2 q = some (.tup ys) → q ≠ d := fun q ys e z => by rw [z, hd2] at e; unfold DictN at e; cases e
    have sp := same_new (o := .tup [.ref row.2.1, row.2.2]) hp
    have kp := upd_same (H := H3) (a := p) (o := .tup [.ref row.2.1, row.2.2])
    have k0' := sp _ _ k0
    have k3' := sp _ _ k3
    have k4' : FrD d H2 (upd H3 p (.tup [.ref row.2.1, row.2.2])) := fun b o ne e => sp _ _ (k4 b o ne e)
    generalize upd H3 p (.tup [.ref row.2.1, row.2.2]) = H5 at *
    rw [e2] at kp
    have kb4 := k4' _ _ (ntup _ _ kb) kb
    have ka4 := k4' _ _ (ntup _ _ ka) ka
    have kr4 := k4' _ _ ndr kr2
    have lps : ((((keys.take i).filter fun key => onlyB S key.2).map fun key => decide (J.fs key.1 key.2 ∈ S)).map V.bl).length < sizeLine := by
      rw [List.length_map, List.length_map]
      have l2 := List.length_filter_le (fun key : Nat × List Nat => onlyB S key.2) (keys.take i)
      rw [List.length_take] at l2
      exact Nat.lt_of_le_of_lt (show _ ≤ 1000000 by omega) (by decide)
    refine ⟨p, _, rfl, SqT.of kp, rfl, _, _, rfl, row.2.1, _, rfl, SqT.of kb4, rfl, _, _, rfl, _, _, rfl, rfl, _, _, rfl, rfl, rfl, ?_⟩
    refine ⟨_, rfl, _, rfl, a, r, rw0, S, rfl, ka4, kr4, by omega, fun H6 s6 => ⟨_, rfl, ?_⟩⟩
    cases hb : onlyB S rw0 with
    | false =>
      refine iteF ⟨?_, s6 _ _ k3', fun b o n e => s6 _ _ (k4' b o n e)⟩
      rw [take_succ_of hkey, List.filter_append]
      simp only [List.filter_cons, hb, Bool.false_eq_true, if_false, List.filter_nil, List.append_nil]
      exact s6 _ _ k0'
    | true =>
      refine iteT ⟨_, rfl, _, rfl, r, _, rfl, .inl (SqL.of (s6 _ _ kr4)), rfl, flat_nI _, _, s6 _ _ k0', lps, ?_, by rw [upd_ne nDd.symm]; exact s6 _ _ k3', fun b o n e => by rw [upd_ne (ne_of_none e hD0)]; exact s6 _ _ (k4' b o n e)⟩
      rw [upd_same, take_succ_of hkey, List.filter_append, if_neg (by decide), inV_nI]
      simp only [List.filter_cons, hb, if_true, List.filter_nil, List.map_append, List.map_cons, List.map_nil]
  rintro H3 ⟨k0, k3, k4⟩
  rw [show keys.take xs.length = keys from List.take_of_length_le (by rw [← Paired.length hrj]; exact Nat.le_refl _)] at k0
  have S3 : Same H2 (upd H3 d (DictN P w d xs)) := fun b o e => by
    by_cases hb : b = d
    · rw [hb, upd_same, ← e, hb]; exact hd2.symm
    · rw [upd_ne hb]; exact k4 b o hb e
  have kD3 : (upd H3 d (DictN P w d xs)) D = some (.lst ((((keys).filter fun key => onlyB S key.2).map fun key => decide (J.fs key.1 key.2 ∈ S)).map V.bl)) := by rw [upd_ne nDd]; exact k0
  refine ⟨k3, D, _, rfl, SqL.of kD3, ?_⟩
  have e : ((keys.filter fun key => onlyB S key.2).map fun key => decide (J.fs key.1 key.2 ∈ S)).all id = true := by
    rw [List.all_eq_true]
    intro x hx
    obtain ⟨key, hkey, rfl⟩ := List.mem_map.mp hx
    obtain ⟨h1, h2⟩ := List.mem_filter.mp hkey
    exact decide_eq_true (hS.closed key (hper.mem_iff.mp h1) (onlyB_iff.mp h2))
  rw [e]
  exact q _ (S2.trans S3)
end

mutual
def Tr.mapL (f : Nat → Nat) : Tr → Tr
  | .node c ks => .node (f c) (mapLs f ks)
def mapLs (f : Nat → Nat) : List Tr → List Tr
  | [] => []
  | t :: r => t.mapL f :: mapLs f r
end
mutual
theorem mapL_size (f : Nat → Nat) : ∀ t : Tr, (t.mapL f).size = t.size
  | .node c ks => by simp only [Tr.mapL, Tr.size, mapLs_sizes f ks]
theorem mapLs_sizes (f : Nat → Nat) : ∀ ts : List Tr, sizes (mapLs f ts) = sizes ts
  | [] => rfl
  | t :: r => by simp only [mapLs, sizes, mapL_size f t, mapLs_sizes f r]
end
mutual
theorem mapL_lets {f : Nat → Nat} {p q : Nat → Prop} (h : ∀ c, p c → q (f c)) : ∀ t : Tr, t.lets p → (t.mapL f).lets q
  | .node c ks, a => by
    simp only [Tr.mapL, Tr.lets] at a ⊢
    exact ⟨h _ a.1, mapLs_lets h ks a.2⟩
theorem mapLs_lets {f : Nat → Nat} {p q : Nat → Prop} (h : ∀ c, p c → q (f c)) : ∀ ts : List Tr, letss p ts → letss q (mapLs f ts)
  | [], _ => trivial
  | t :: r, a => by
    simp only [mapLs, letss] at a ⊢
    exact ⟨mapL_lets h t a.1, mapLs_lets h r a.2⟩
end
mutual
theorem mapL_back {f g : Nat → Nat} {q : Nat → Prop} (h : ∀ c, q c → f (g c) = c) : ∀ t : Tr, t.lets q → (t.mapL g).mapL f = t
  | .node c ks, a => by
    simp only [Tr.lets] at a
    simp only [Tr.mapL, h c a.1, mapLs_back h ks a.2]
theorem mapLs_back {f g : Nat → Nat} {q : Nat → Prop} (h : ∀ c, q c → f (g c) = c) : ∀ ts : List Tr, letss q ts → mapLs f (mapLs g ts) = ts
  | [], _ => rfl
  | t :: r, a => by
    simp only [letss] at a
    simp only [mapLs, mapL_back h t a.1, mapLs_back h r a.2]
end
structure Iso (J J2 : JD) (f π : Nat → Nat) : Prop where
  n : J2.n = J.n
  few : J2.few = J.few
  turn : J2.turn = J.turn
  pl : ∀ s, s < J.n → π s < J.n
  pi : ∀ s t, s < J.n → t < J.n → π s = π t → s = t
  fl : ∀ c ∈ J.L.cps.toList, f c ∈ J2.L.cps.toList
  fsur : ∀ c2 ∈ J2.L.cps.toList, ∃ c ∈ J.L.cps.toList, f c = c2
  st : ∀ key ∈ J.keys, ∀ row2 : List Nat, row2.length = J.n → (∀ s, s < J.n → row2[π s]? = key.2[s]?) → J2.fs (f key.1) row2 = π (J.fs key.1 key.2)
theorem count_map_inj {π : Nat → Nat} {n s : Nat} (pi : ∀ s t, s < n → t < n → π s = π t → s = t) (hs : s < n) : ∀ xs : List Nat, (∀ x ∈ xs, x < n) → (xs.map π).count (π s) = xs.count s
  | [], _ => rfl
  | x :: r, h => by
    rw [List.map_cons, List.count_cons, List.count_cons, count_map_inj pi hs r fun y hy => h y (List.mem_cons_of_mem _ hy)]
    have hx := h x List.mem_cons_self
    by_cases e : x = s
    · subst e; simp
    · have : ¬ π x = π s := fun z => e (pi x s hx hs z)
      simp [e, this]
theorem Sts_lt {J : JD} (hok : J.ok) {ks : List Tr} (h : letss (fun c => c ∈ J.L.cps.toList) ks) : ∀ x ∈ Sts J.sf J.n ks, x < J.n := fun x hx => by
  obtain ⟨t, h1, rfl⟩ := mem_Sts hx
  exact St_ltJ hok t (letss_mem h h1)
mutual
theorem Iso.tell {J J2 : JD} {f π : Nat → Nat} (I : Iso J J2 f π) (hok : J.ok) : ∀ t : Tr, t.lets (fun c => c ∈ J.L.cps.toList) → St J2.sf J2.n (t.mapL f) = π (St J.sf J.n t)
  | .node c ks, hl => by
    simp only [Tr.lets] at hl
    have ih := Iso.tells I hok ks hl.2
    have hlt := Sts_lt hok hl.2
    simp only [Tr.mapL, St]
    show J2.fs (f c) ((cnts J2.n (Sts J2.sf J2.n (mapLs f ks))).map (clsN J2.few J2.turn)) = π (J.fs c ((cnts J.n (Sts J.sf J.n ks)).map (clsN J.few J.turn)))
    rw [ih]
    refine I.st (c, (cnts J.n (Sts J.sf J.n ks)).map (clsN J.few J.turn)) (hok.key hl.1 (cnts_len _ _)) _ ?_ fun s hs => ?_
    · rw [List.length_map, cnts_len, I.n]
    · rw [List.getElem?_map, List.getElem?_map, I.n, cnts_at _ (I.pl s hs), cnts_at _ hs, count_map_inj I.pi hs _ hlt, I.few, I.turn]
theorem Iso.tells {J J2 : JD} {f π : Nat → Nat} (I : Iso J J2 f π) (hok : J.ok) : ∀ ts : List Tr, letss (fun c => c ∈ J.L.cps.toList) ts → Sts J2.sf J2.n (mapLs f ts) = (Sts J.sf J.n ts).map π
  | [], _ => rfl
  | t :: r, hl => by
    simp only [letss] at hl
    simp only [mapLs, Sts, List.map_cons, Iso.tell I hok t hl.1, Iso.tells I hok r hl.2]
end
theorem Iso.back {J J2 : JD} {f π : Nat → Nat} (I : Iso J J2 f π) (hok : J.ok) {t2 : Tr} (h : t2.lets (fun c => c ∈ J2.L.cps.toList)) : ∃ t : Tr, t.lets (fun c => c ∈ J.L.cps.toList) ∧ t.size = t2.size ∧ St J2.sf J2.n t2 = π (St J.sf J.n t) := by
  have : ∀ c2 : Nat, ∃ c : Nat, c2 ∈ J2.L.cps.toList → c ∈ J.L.cps.toList ∧ f c = c2 := fun c2 => by
    by_cases hc : c2 ∈ J2.L.cps.toList
    · obtain ⟨c, h1, h2⟩ := I.fsur c2 hc
      exact ⟨c, fun _ => ⟨h1, h2⟩⟩
    · exact ⟨0, fun h => absurd h hc⟩
  have hl : (t2.mapL fun c2 => Classical.choose (this c2)).lets (fun c => c ∈ J.L.cps.toList) := mapL_lets (fun c hc => (Classical.choose_spec (this c) hc).1) t2 h
  refine ⟨_, hl, mapL_size _ t2, ?_⟩
  have e := mapL_back (f := f) (fun c hc => (Classical.choose_spec (this c) hc).2) t2 h
  have := I.tell hok _ hl
  rw [e] at this
  exact this
theorem Iso.comes {J J2 : JD} {f π : Nat → Nat} (I : Iso J J2 f π) (hok : J.ok) (s2 : Nat) : Comes J2 s2 ↔ ∃ s, Comes J s ∧ π s = s2 := by
  constructor
  · rintro ⟨t2, h1, rfl⟩
    obtain ⟨t, h2, _, h3⟩ := I.back hok h1
    exact ⟨_, ⟨t, h2, rfl⟩, h3.symm⟩
  · rintro ⟨s, ⟨t, h1, rfl⟩, rfl⟩
    exact ⟨t.mapL f, mapL_lets I.fl t h1, I.tell hok t h1⟩
theorem Comes.lt {J : JD} (hok : J.ok) {s : Nat} (h : Comes J s) : s < J.n := by
  obtain ⟨t, h1, rfl⟩ := h
  exact St_ltJ hok t h1
theorem Iso.least {J J2 : JD} {f π : Nat → Nat} (I : Iso J J2 f π) (hok : J.ok) {s : Nat} {t t2 : Tr} (h : Least J s t) (h2 : Least J2 (π s) t2) : t2.size = t.size := by
  have a := h2.least (t.mapL f) (mapL_lets I.fl t h.l) (by rw [I.tell hok t h.l, h.st])
  rw [mapL_size] at a
  obtain ⟨t3, l3, z3, e3⟩ := I.back hok h2.l
  rw [h2.st] at e3
  have es : St J.sf J.n t3 = s := (I.pi _ _ (St_ltJ hok t3 l3) (Comes.lt hok ⟨t, h.l, h.st⟩) e3.symm)
  have b := h.least t3 l3 es
  omega
structure Wide (J J3 : JD) : Prop where
  L : J3.L = J.L
  n : J3.n = J.n + 1
  few : J3.few = J.few
  turn : J3.turn = J.turn
  st : ∀ key ∈ J.keys, ∀ x, x < J.few + J.turn → J3.fs key.1 (key.2 ++ [x]) = J.fs key.1 key.2
theorem cnts_succ (n : Nat) (xs : List Nat) : cnts (n + 1) xs = cnts n xs ++ [xs.count n] := by
  unfold cnts
  rw [List.range_succ, List.map_append]
  rfl
mutual
theorem Wide.tell {J J3 : JD} (W : Wide J J3) (hok : J.ok) : ∀ t : Tr, t.lets (fun c => c ∈ J.L.cps.toList) → St J3.sf J3.n t = St J.sf J.n t
  | .node c ks, hl => by
    simp only [Tr.lets] at hl
    have ih := Wide.tells W hok ks hl.2
    simp only [St]
    show J3.fs c ((cnts J3.n (Sts J3.sf J3.n ks)).map (clsN J3.few J3.turn)) = J.fs c ((cnts J.n (Sts J.sf J.n ks)).map (clsN J.few J.turn))
    rw [ih, W.n, W.few, W.turn, cnts_succ, List.map_append]
    exact W.st (c, (cnts J.n (Sts J.sf J.n ks)).map (clsN J.few J.turn)) (hok.key hl.1 (cnts_len _ _)) _ (clsN_lt hok.t1 _)
theorem Wide.tells {J J3 : JD} (W : Wide J J3) (hok : J.ok) : ∀ ts : List Tr, letss (fun c => c ∈ J.L.cps.toList) ts → Sts J3.sf J3.n ts = Sts J.sf J.n ts
  | [], _ => rfl
  | t :: r, hl => by
    simp only [letss] at hl
    simp only [Sts, Wide.tell W hok t hl.1, Wide.tells W hok r hl.2]
end
theorem Wide.comes {J J3 : JD} (W : Wide J J3) (hok : J.ok) (s : Nat) : Comes J3 s ↔ Comes J s := by
  unfold Comes
  rw [W.L]
  exact ⟨fun ⟨t, h1, h2⟩ => ⟨t, h1, by rw [← W.tell hok t h1]; exact h2⟩, fun ⟨t, h1, h2⟩ => ⟨t, h1, by rw [W.tell hok t h1]; exact h2⟩⟩
theorem Wide.least {J J3 : JD} (W : Wide J J3) (hok : J.ok) {s : Nat} {t t3 : Tr} (h : Least J s t) (h3 : Least J3 s t3) : t3.size = t.size := by
  have l3 : t3.lets (fun c => c ∈ J.L.cps.toList) := by rw [← W.L]; exact h3.l
  have a := h3.least t (by rw [W.L]; exact h.l) (by rw [W.tell hok t h.l, h.st])
  have b := h.least t3 l3 (by rw [← W.tell hok t3 l3, h3.st])
  omega
def tDGetNF (P : Program) (w : World) (td ty : TE) : TE := fun σ H Q => td σ H fun x H1 => ty σ H1 fun y H2 => ∃ (a b : Addr) (xs : List NRow) (k : NestedKey) (v : V), x = .ref a ∧ y = .ref b ∧ Rd H2 a (DictN P w a xs) ∧ RowsN H2 xs ∧ NK H2 k (.ref b) ∧ k.depth ≤ 8 ∧ atN xs k = some v ∧ Q v H2
section
variable {X : Cx} {pins : List (Addr × Obj)} {σ : L2.St} {H : Hp} {s : Shared} {a : Addr} {xs : List NRow}
theorem dictN_ofR (I : Inv X pins σ H s) (h : Rd H a (DictN X.prog X.w a xs)) (hk : RowsN H xs) : (a == sysModules) = false ∧ ∃ us : List (NestedKey × Addr × Value), Paired (fun (p : NRow) (q : NestedKey × Addr × Value) => p.1 = q.1 ∧ p.2.1 = q.2.1 ∧ RelV p.2.2 q.2.2) xs us ∧ s.heap.DictOfH (nestedKind X.prog X.w) a us := by
  obtain ⟨⟨h1, h2, us, h3, o, es, ep, e1, e2, e3, e4, e5⟩, _, _⟩ := h.ok I.hok
  refine ⟨h1, us, h3, o, es, ep, e1, e2, e3, e4, fun u hu => ?_, e5⟩
  have : ∀ (xs : List NRow) (us : List (NestedKey × Addr × Value)), Paired (fun (p : NRow) (q : NestedKey × Addr × Value) => p.1 = q.1 ∧ p.2.1 = q.2.1 ∧ RelV p.2.2 q.2.2) xs us → RowsN H xs → ∀ u ∈ us, (nestedKind X.prog X.w).is s.heap u.1 u.2.1 := by
    intro xs us p
    induction p with
    | nil => intro _ u hu; cases hu
    | cons r t ih =>
      intro hk u hu
      rcases List.mem_cons.mp hu with rfl | hu
      · obtain ⟨n1, n2⟩ := hk _ List.mem_cons_self
        refine ⟨?_, ?_⟩
        · rw [← r.1, ← r.2.1]
          exact NK.is I n1 rfl
        · rw [← r.1]
          exact n2
      · exact ih (fun x hx => hk x (List.mem_cons_of_mem _ hx)) u hu
  exact this _ _ h3 hk u hu
theorem pe_dgetNF {o i : PySem.Expr} {td ty : TE} {pos : Pos} (hu : X.A.units + 9 < cLine) (ho : PE X o td) (hi : PE X i ty) (hs : NoSl i) : PE X (.Subscript o i pos) (tDGetNF X.prog X.w td ty) := by
  refine ⟨fun pins s σ H Q I h => ?_⟩
  refine subD_of PySem.F.slot_dict_getitem.lookup hs (thn (ho.run pins s σ H _ I h) fun u s1 ⟨x, H1, I1, rx, q1⟩ => thn (hi.run pins s1 σ H1 _ I1 q1) fun iv s2 ⟨y, H2, I2, ry, a, b, xs, k, v, ex, ey, g, gr, gk, gd, ga, q2⟩ => ?_)
  subst ex ey
  cases rx
  cases ry
  obtain ⟨ha, us, hp, hm⟩ := dictN_ofR I2 g gr
  rcases atN_pairs (k := k) hp with ⟨v', uv, e1, e2, rv⟩ | ⟨e1, _⟩
  · have ev := Option.some.inj (e1.symm.trans ga)
    subst ev
    exact ⟨hm.typeIs, getItem_keyed (knd := nestedKind X.prog X.w) (show X.A.units + 1 + 8 < cLine by omega) ⟨NK.is I2 gk rfl, gd⟩ ⟨us, hm, rfl⟩ e2 ⟨_, H2, I2.tok _, rv, q2⟩⟩
  · rw [ga] at e1
    cases e1
end

theorem rises_eq : ∀ {xs ys : List Nat}, xs.Pairwise (· < ·) → ys.Pairwise (· < ·) → (∀ a, a ∈ xs ↔ a ∈ ys) → xs = ys
  | [], [], _, _, _ => rfl
  | [], y :: ys, _, _, h => absurd ((h y).mpr List.mem_cons_self) (by simp)
  | x :: xs, [], _, _, h => absurd ((h x).mp List.mem_cons_self) (by simp)
  | x :: xs, y :: ys, hx, hy, h => by
    rw [List.pairwise_cons] at hx hy
    have e : x = y := by
      rcases List.mem_cons.mp ((h x).mp List.mem_cons_self) with e | e
      · exact e
      · rcases List.mem_cons.mp ((h y).mpr List.mem_cons_self) with e2 | e2
        · exact e2.symm
        · have a := hy.1 x e
          have b := hx.1 y e2
          omega
    subst e
    rw [rises_eq hx.2 hy.2 fun a => ?_]
    constructor
    · intro ha
      rcases List.mem_cons.mp ((h a).mp (List.mem_cons_of_mem _ ha)) with e | e
      · have := hx.1 a ha; omega
      · exact e
    · intro ha
      rcases List.mem_cons.mp ((h a).mpr (List.mem_cons_of_mem _ ha)) with e | e
      · have := hy.1 a ha; omega
      · exact e

mutual
theorem TrAt.tl {ok : Addr → Prop} {H : Hp} : ∀ (t : Tr) (v : V), TrAt ok H v t → TrAt (fun b => ok b ∧ ∃ xs, H b = some (.tup xs) ∨ H b = some (.lst xs)) H v t
  | .node c ks, v, x => by
    cases x with
    | node h1 h2 k1 k2 c1 c2 r => exact .node h1 h2 ⟨k1, _, .inl h1⟩ ⟨k2, _, .inr h2⟩ c1 c2 (TrsAt.tl ks _ r)
theorem TrsAt.tl {ok : Addr → Prop} {H : Hp} : ∀ (ts : List Tr) (vs : List V), TrsAt ok H vs ts → TrsAt (fun b => ok b ∧ ∃ xs, H b = some (.tup xs) ∨ H b = some (.lst xs)) H vs ts
  | [], vs, x => by cases x; exact .nil
  | t :: r, vs, x => by
    cases x with
    | cons a b => exact .cons (TrAt.tl t _ a) (TrsAt.tl r _ b)
end
section
variable {H H' : Hp} {r : Addr} {ks : List (Key × V)} {o : HO}
theorem TrsAt.extNs {ok : Addr → Prop} {vs : List V} {ts : List Tr} (x : TrsAt ok H vs ts) (f : LamX.ExtN H H') : TrsAt ok H' vs ts :=
  ((TrsAt.tl ts vs x).keep fun b o h e => f b o e fun ps e2 => by obtain ⟨xs, h | h⟩ := h.2 <;> rw [h, e2] at e <;> cases e).weak fun b h => h.1
theorem dats_len : ∀ ts : List Tr, (dats ts).length = ts.length
  | [] => rfl
  | t :: r => by simp only [dats, List.length_cons, dats_len r]
theorem not_r {b : Addr} (hr : H r = some (.dK ks)) (h : ∃ xs, H b = some (.tup xs) ∨ H b = some (.lst xs)) : b ≠ r := fun e => by
  obtain ⟨xs, h | h⟩ := h <;> rw [e, hr] at h <;> cases h
theorem TrAt.fz {ok : Addr → Prop} {v : V} {t : Tr} (x : TrAt ok H v t) (hr : H r = some (.dK ks)) : TrAt ok (upd H r o) v t := ((TrAt.tl t v x).keep fun b o h e => by rw [upd_ne (not_r hr h.2)]; exact e).weak fun b h => h.1
theorem JAt.fz {P : Program} {w : World} {v : V} {J : JD} (x : JAt P w H v J) (hr : H r = some (.dK ks)) : JAt P w (upd H r o) v J := by
  obtain ⟨j, d, g, xs, keys, rfl, h1, h2, h3, h4, h5, h6⟩ := x
  exact ⟨j, d, g, xs, keys, rfl, by rw [upd_ne (not_r hr ⟨_, .inl h1⟩)]; exact h1, by rw [upd_ne (fun e => by rw [e, hr] at h2; unfold DictN at h2; cases h2)]; exact h2, h3.keep fun b ys e => by rw [upd_ne (not_r hr ⟨_, .inl e⟩)]; exact e, h4, h5, by rw [upd_ne (not_r hr ⟨_, .inr h6⟩)]; exact h6⟩
theorem tabsN_upd {TT : List NdefX.NTab} {u : HO} (h : NdefX.TabsN TT H) (hr : H r = some u) (n1 : ∀ ps, u ≠ .tbl ps) (n2 : ∀ c q, u ≠ LamX.CodeO c q) : NdefX.TabsN TT (upd H r o) := fun z hz => by
  obtain ⟨ps, h1, h2, h3⟩ := h z hz
  refine ⟨ps, by rw [upd_ne (fun e => by rw [e, hr] at h1; exact n1 _ (Option.some.inj h1))]; exact h1, h2, fun pos cv hc => ?_⟩
  obtain ⟨c, e1, h4⟩ := h3 pos cv hc
  exact ⟨c, e1, by rw [upd_ne (fun e => by rw [e, hr] at h4; exact n2 _ _ (Option.some.inj h4))]; exact h4⟩
theorem extN_lock {od : Option Addr} {f : HO} (hr : H r = some (.dK ks)) (x : LamX.ExtN (upd H r f) H') : LamX.ExtN H (upd H' r (.dK ks)) := fun b o e n => by
  by_cases hb : b = r
  · subst hb
    rw [upd_same, ← hr]
    exact e
  · rw [upd_ne hb]
    exact x b o (by rw [upd_ne hb]; exact e) n
end


def sp_size_of : Sp := fun vs H Q _ => ∃ (v : V) (t : Tr), vs = [v] ∧ TrAt (fun _ => True) H v t ∧ t.size ≤ 1000000 ∧ ∀ H', Same H H' → Q (.int t.size) H'
def szL (us : List (Nat × V × Tr)) : List (Key × V) := us.map fun u => (Sum.inl (u.1 : Int), nI u.2.2.size)
theorem mergeK_new : ∀ (kvs acc : List (Key × V)), ((acc ++ kvs).map (·.1)).Nodup → mergeK acc kvs = acc ++ kvs
  | [], acc, _ => by simp [mergeK]
  | kv :: r, acc, nd => by
    have e : putK acc kv.1 kv.2 = acc ++ [kv] := by
      unfold putK
      have : (acc.any fun x => decide (x.1 = kv.1)) = false := by
        rw [List.any_eq_false]
        intro x hx
        rw [List.map_append, List.nodup_append] at nd
        simpa using nd.2.2 x.1 (List.mem_map.mpr ⟨x, hx, rfl⟩) kv.1 (List.mem_map.mpr ⟨kv, List.mem_cons_self, rfl⟩)
      rw [this, if_neg (by decide)]
    have ih := mergeK_new r (acc ++ [kv]) (by rw [List.append_assoc]; exact nd)
    show mergeK (putK acc kv.1 kv.2) r = _
    rw [e, ih, List.append_assoc]
    rfl
section
variable {P : Program} {w : World} {K : PySem.W.Frag} {mg : Str → Option Value} {base : Heap}
theorem ok_size_of (T : Txt K mg) : FnOk P w K mg base CX0 6 T.f_size_of T.d_size_of ["tree"] sp_size_of := by
  have G_parts_upward : FnOk P w K mg base CX0 5 T.f_parts_upward T.d_parts_upward ["tree"] sp_parts_upward := ok_parts_upward T
  refine T.F_size_of.ok sc_size_of (fun vs H Q E h => ?_) (fun cdv A outer s H vs Q E hr h => ?_)
  · obtain ⟨v, t, rfl, _⟩ := h
    rfl
  obtain ⟨v, t, rfl, ht, hz, q⟩ := h
  refine ⟨_, (pss_one (ps_ret (pe_callB call_len_seq (by rfl) T.z_len PySem.boot_len (pa_cons (pe_call G_parts_upward (hr.mono (by omega)) (by rfl) T.m_parts_upward T.F_parts_upward.kp T.b_parts_upward .nil pass0 (pa_cons (pv 0) pa_nil)) pa_nil)))), ?_⟩
  refine ⟨_, rfl, v, t, _, rfl, ht, hz, fun r ws H' hs hr0 hr1 hts => ?_⟩
  refine ⟨_, _, rfl, .inl (SqL.of hr1), ?_⟩
  rw [hts.len, post_len]
  exact q _ hs
def sp__law_sizes (P : Program) (w : World) (P1 : Addr) (q1 : Str) : Sp := fun vs H Q _ => ∃ (v : V) (J : JD), vs = [v] ∧ JAt P w H v J ∧ J.ok ∧ LamX.TabS H P1 q1 ∧
  ∀ r us H', Fr P1 H H' → LamX.TabS H' P1 q1 → H r = none → H' r = some (.dK (szL us)) → ComeL J (us.map (·.1)) → (∀ u ∈ us, Least J u.1 u.2.2) → Q (.ref r) H'
theorem ok__law_sizes (T : Txt K mg) (B : Tbs T base) : FnOk P w K mg base CX0 12 T.f__law_sizes T.d__law_sizes ["judge"] (sp__law_sizes P w T.P__joined q__joined) := by
  have G_least_trees : FnOk P w K mg base CX0 11 T.f_least_trees T.d_least_trees ["judge"] (sp_least_trees P w T.P__joined q__joined) := ok_least_trees T B
  have G_size_of : FnOk P w K mg base CX0 6 T.f_size_of T.d_size_of ["tree"] sp_size_of := ok_size_of T
  refine T.F__law_sizes.ok sc__law_sizes (fun vs H Q E h => ?_) (fun cdv A outer s H vs Q E hr h => ?_)
  · obtain ⟨v, J, rfl, _⟩ := h
    rfl
  obtain ⟨v, J, rfl, hJ, hok, hT, q⟩ := h
  generalize hP1 : T.P__joined = P1 at *
  refine ⟨_, (pss_cons (ps_set (i := 1) sc__law_sizes.nd rfl (Or.inr rfl) (pe_call G_least_trees (hr.mono (by omega)) (by rfl) T.m_least_trees T.F_least_trees.kp T.b_least_trees .nil pass0 (pa_cons (pv 0) pa_nil))) (pss_one (ps_ret (pe_callTy (L2.call_dictP rfl) (by rfl) T.z_dict (by decide +kernel) (pa_cons (pe_lock (pe_lc (own := [("state", 2)]) (g := gName 2) (te := tTup (tCons (tVar 2) (tCons (tCall sp_size_of [] E0 (tCons (tDGet (tVar 1) (tVar 2)) tNil)) tNil))) (tt := tYes) rfl sc__law_sizes.nd (pi_keys (pv 1)) (blkOk_by (own := [("state", 2)]) (N := ["judge", "least", "state"]) (sc := (defScope s__law_sizes)) (by decide +kernel)) (fun _ _ _ _ _ => (pg_name (i := 2) sc__law_sizes.nd rfl (Or.inl rfl))) (fun _ _ _ _ _ => pts_nil) (fun _ _ _ _ _ => (pe_tup (pa_cons (pv 2) (pa_cons (pe_call G_size_of (hr.mono (by omega)) (by rfl) T.m_size_of T.F_size_of.kp T.b_size_of .nil pass0 (pa_cons (pe_dget (hu_of hr) (pv 1) (pv 2) (fun _ _ => rfl)) pa_nil)) pa_nil)))))) pa_nil))))), ?_⟩
  refine ⟨_, rfl, v, J, rfl, hJ, hok, hT, fun r us H1 f1 tb1 r0 kr hus hcl => ?_⟩
  have nd : (us.map (·.1)).Nodup := hcl.1.imp fun h => Nat.ne_of_lt h
  have lus : us.length ≤ 6 := by
    have := rise_len hcl.1 (hcl.lt hok)
    rw [List.length_map] at this
    have := hok.n6
    omega
  refine ⟨r, _, kr, trivial, fun od => ?_⟩
  refine ⟨_, rfl, r, od, rfl, .inl ⟨kvT us, upd_same, fun D hD => ?_⟩⟩
  have hD : upd H1 r (.frz od (.dK (kvT us))) D = none := hD
  have nDr : D ≠ r := fun e => by rw [e, upd_same] at hD; cases hD
  have hD1 : H1 D = none := by rw [upd_ne nDr] at hD; exact hD
  have uf : ∀ u ∈ us, TrAt (fun _ => True) (upd H1 r (.frz od (.dK (kvT us)))) u.2.1 u.2.2 := fun u hu => (((hus u hu).1.weak fun _ _ => trivial)).fz kr
  refine lc_walk (len := (kvT us).length) walk_keys (fun i H' => (∃ bs : List Addr, H' D = some (.lst (bs.map V.ref)) ∧ Paired (fun (b : Addr) (u : Nat × V × Tr) => H' b = some (.tup [nI u.1, nI u.2.2.size])) bs (us.take i)) ∧ H' r = some (.frz od (.dK (kvT us))) ∧ Same (upd H1 r (.frz od (.dK (kvT us)))) H') ⟨⟨[], upd_same, .nil⟩, by rw [upd_ne nDr.symm, upd_same], same_new hD⟩ (fun i H' _ h => h.2.1) ?_ ?_
  · rintro i x H4 H5 hi ⟨⟨bs, g0, g1⟩, g2, g3⟩ ⟨rfl, k, vv, hk, rfl⟩
    unfold kvT at hk
    rw [List.getElem?_map] at hk
    cases hu : us[i]? with
    | none => rw [hu] at hk; cases hk
    | some u =>
    rw [hu] at hk
    cases hk
    have hum := List.mem_of_getElem? hu
    have hv : valV (kvT us) (Sum.inl (u.1 : Int)) = some u.2.1 := by
      obtain ⟨w1, hw1, hw2, hv, _⟩ := findU (i := u.1) (List.mem_map.mpr ⟨u, hum, rfl⟩)
      rw [hv]
      have : w1 = u := by
        obtain ⟨j1, hj1⟩ := List.getElem?_of_mem hw1
        have a1 : (us.map (·.1))[j1]? = some u.1 := by rw [List.getElem?_map, hj1, ← hw2]; rfl
        have a2 : (us.map (·.1))[i]? = some u.1 := by rw [List.getElem?_map, hu]; rfl
        obtain ⟨b1, b2⟩ := List.getElem?_eq_some_iff.mp a1
        obtain ⟨c1, c2⟩ := List.getElem?_eq_some_iff.mp a2
        have e : j1 = i := (List.getElem_inj nd).mp (b2.trans c2.symm)
        subst e
        rw [hu] at hj1
        exact (Option.some.inj hj1).symm
      rw [this]
    have lb := Paired.length g1
    rw [List.length_take] at lb
    refine ⟨rfl, _, rfl, _, rfl, _, rfl, r, u.2.1, rfl, .inl ⟨kvT us, Sum.inl (u.1 : Int), .inr ⟨od, g2⟩, rfl, hv.symm⟩, u.2.1, u.2.2, rfl, (uf u hum).same g3, by have := (hus u hum).2.sz; omega, fun H6 s6 => ⟨(by show 2 ≤ sizeLine; decide), fun q2 hq2 => ?_⟩⟩
    have s7 := same_new hq2 (o := .tup [nI u.1, nI u.2.2.size])
    have k7 := upd_same (H := H6) (a := q2) (o := .tup [nI u.1, nI u.2.2.size])
    have kD7 := s7 _ _ (s6 _ _ g0)
    have tk := upd_tup (o := .lst (bs.map V.ref ++ [V.ref q2])) kD7
    refine ⟨_, kD7, ?_, ⟨bs ++ [q2], by rw [upd_same, List.map_append]; rfl, ?_⟩, by rw [upd_ne nDr.symm]; exact s7 _ _ (s6 _ _ g2), same_add ((g3.trans s6).trans s7) hD⟩
    · rw [List.length_map]
      exact Nat.lt_of_le_of_lt (show _ ≤ 1000000 by omega) (by decide)
    · rw [take_succ_of hu]
      exact prd_app (Paired.mapP g1 fun _ _ e => tk _ _ (s7 _ _ (s6 _ _ e))) (.cons (tk _ _ k7) .nil)
  rintro H4 ⟨⟨bs, g0, g1⟩, g2, g3⟩
  rw [show us.take (kvT us).length = us from List.take_of_length_le (by unfold kvT; rw [List.length_map]; exact Nat.le_refl _)] at g1
  refine ⟨g2, ?_⟩
  have S5 : Same H1 (upd H4 r (.dK (kvT us))) := fun b o e => by
    by_cases hb : b = r
    · rw [hb, upd_same, ← e, hb]; exact kr.symm
    · rw [upd_ne hb]; exact g3 b o (by rw [upd_ne hb]; exact e)
  have kD5 : (upd H4 r (.dK (kvT us))) D = some (.lst (bs.map V.ref)) := by rw [upd_ne nDr]; exact g0
  have tup5 : ∀ b ys, H4 b = some (.tup ys) → (upd H4 r (.dK (kvT us))) b = some (.tup ys) := fun b ys e => by
    rw [upd_ne (fun z => by rw [z, g2] at e; cases e)]
    exact e
  refine ⟨D, bs, szL us, rfl, SqL.of kD5, ?_, fun p hp => ?_⟩
  · have go : ∀ (bs : List Addr) (l : List (Nat × V × Tr)), Paired (fun (b : Addr) (u : Nat × V × Tr) => H4 b = some (.tup [nI u.1, nI u.2.2.size])) bs l → Paired (fun (p : Addr) (kv : Key × V) => SqT K (upd H4 r (.dK (kvT us))) p [kV kv.1, kv.2]) bs (szL l) := by
      intro bs l h
      induction h with
      | nil => exact .nil
      | cons a b ih => exact .cons (SqT.of (tup5 _ _ a)) ih
    exact go bs us g1
  have s6 := same_new hp (o := .dK (mergeK [] (szL us)))
  have k6 := upd_same (H := upd H4 r (.dK (kvT us))) (a := p) (o := .dK (mergeK [] (szL us)))
  have em : mergeK [] (szL us) = szL us := by
    have := mergeK_new (szL us) [] (by
      rw [List.nil_append]
      unfold szL
      rw [List.map_map]
      have e2 : us.map ((·.1) ∘ fun u : Nat × V × Tr => ((Sum.inl (u.1 : Int) : Key), nI u.2.2.size)) = (us.map (·.1)).map fun n : Nat => (Sum.inl (n : Int) : Key) := by rw [List.map_map]; rfl
      rw [e2]
      exact nodup_map (fun x y e => by have := Sum.inl.inj e; omega) nd)
    exact this
  have S6 := S5.trans s6
  obtain ⟨psH, hPs, _⟩ := id hT
  have hp1 : H1 p = none := S5.free hp
  have hp0 : H p = none := by
    cases e : H p with
    | none => rfl
    | some o =>
      have nP : p ≠ P1 := fun z => by
        obtain ⟨ps1, h1, _⟩ := id tb1
        rw [z, h1] at hp1
        cases hp1
      rw [f1 _ _ nP e] at hp1
      cases hp1
  exact q p us _ (fun b o n e => S6 _ _ (f1 b o n e)) (tb1.ext S6) hp0 (by rw [upd_same, em]) hcl fun u hu => (hus u hu).2
end

def keys3 (k : Nat) (l : List (Nat × List Nat)) : List (Nat × List Nat) := l.flatMap fun key => (List.range k).map fun x => (key.1, key.2 ++ [x])
theorem keys3_take {k i : Nat} {l : List (Nat × List Nat)} {key : Nat × List Nat} (h : l[i]? = some key) : keys3 k (l.take (i + 1)) = keys3 k (l.take i) ++ (List.range k).map fun x => (key.1, key.2 ++ [x]) := by
  rw [take_succ_of h]
  unfold keys3
  rw [List.flatMap_append]
  simp
theorem keys3_all (L : Str) (n k : Nat) : keys3 k (keysOf L n k) = keysOf L (n + 1) k := by
  unfold keys3 keysOf
  rw [List.flatMap_assoc]
  congr 1
  funext c
  rw [List.flatMap_map]
  show _ = ((rowsTo n k).flatMap fun r => (List.range k).map fun x => r ++ [x]).map _
  rw [List.map_flatMap]
  congr 1
  funext r
  rw [List.map_map]
  rfl
theorem keys3_perm {k : Nat} {a b : List (Nat × List Nat)} (h : a.Perm b) : (keys3 k a).Perm (keys3 k b) := h.flatMap_right _
theorem keys3_mem {k : Nat} {l : List (Nat × List Nat)} {c : Nat} {row : List Nat} {x : Nat} (h : (c, row ++ [x]) ∈ keys3 k l) : (c, row) ∈ l := by
  unfold keys3 at h
  obtain ⟨key, h1, h2⟩ := List.mem_flatMap.mp h
  obtain ⟨y, _, h3⟩ := List.mem_map.mp h2
  obtain ⟨e1, e2⟩ := Prod.mk.inj h3
  have e3 := List.append_inj' e2 rfl
  rw [← e1, ← e3.1]
  exact h1
def fs3 (J : JD) (c : Nat) (row : List Nat) : Nat := J.fs c row.dropLast
def wideJ (J : JD) : JD := ⟨J.L, J.n + 1, J.few, J.turn, fs3 J, J.good⟩
theorem wideJ_w (J : JD) : Wide J (wideJ J) := ⟨rfl, rfl, rfl, rfl, fun key _ x _ => by show J.fs key.1 (key.2 ++ [x]).dropLast = _; rw [List.dropLast_concat]⟩
theorem wideJ_ok {J : JD} (h : J.ok) (hn : J.n ≤ 5) (hz : J.L.length * (J.few + J.turn) ^ (J.n + 1) ≤ 600) : (wideJ J).ok where
  L := h.L
  n1 := by show 1 ≤ J.n + 1; omega
  n6 := by show J.n + 1 ≤ 6; omega
  f4 := h.f4
  t1 := h.t1
  t4 := h.t4
  h600 := hz
  lt := fun key hk => by
    have hk : key ∈ keysOf J.L (J.n + 1) (J.few + J.turn) := hk
    rw [← keys3_all] at hk
    unfold keys3 at hk
    obtain ⟨k0, h1, h2⟩ := List.mem_flatMap.mp hk
    obtain ⟨x, _, rfl⟩ := List.mem_map.mp h2
    have := h.lt k0 h1
    show J.fs k0.1 (k0.2 ++ [x]).dropLast < J.n + 1
    rw [List.dropLast_concat]
    omega
  g6 := h.g6
  gn := fun g hg => by have := h.gn g hg; show g < J.n + 1; omega
def sp__law_widened (P : Program) (w : World) : Sp := fun vs H Q _ => ∃ (v : V) (J : JD), vs = [v] ∧ JAt P w H v J ∧ J.ok ∧ Rises J.L ∧ J.n ≤ 5 ∧ J.L.length * (J.few + J.turn) ^ (J.n + 1) ≤ 600 ∧ ∀ v3 H', Same H H' → JAt P w H' v3 (wideJ J) → Q v3 H'
section
variable {P : Program} {w : World} {K : PySem.W.Frag} {mg : Str → Option Value} {base : Heap}
theorem ok__law_widened (T : Txt K mg) : FnOk P w K mg base CX0 1 T.f__law_widened T.d__law_widened ["judge"] (sp__law_widened P w) := by
  refine T.F__law_widened.ok sc__law_widened (fun vs H Q E h => ?_) (fun cdv A outer s H vs Q E hr h => ?_)
  · obtain ⟨v, J, rfl, _⟩ := h
    rfl
  obtain ⟨v, J, rfl, hJ, hok, hri, n5, hz, q⟩ := h
  refine ⟨_, (pss_cons (ps_asg (pv 0) (pg_tup rfl (pgs_cons (pg_name (i := 1) sc__law_widened.nd rfl (Or.inl rfl)) (pgs_cons (pg_name (i := 2) sc__law_widened.nd rfl (Or.inl rfl)) (pgs_cons (pg_name (i := 3) sc__law_widened.nd rfl (Or.inl rfl)) (pgs_cons (pg_name (i := 4) sc__law_widened.nd rfl (Or.inl rfl)) (pgs_cons (pg_name (i := 5) sc__law_widened.nd rfl (Or.inl rfl)) (pgs_cons (pg_name (i := 6) sc__law_widened.nd rfl (Or.inl rfl)) pgs_nil)))))))) (pss_cons (ps_set (i := 7) sc__law_widened.nd rfl (Or.inl rfl) pe_dnewN) (pss_cons (ps_lock (ps_for PassesOwn.never rfl (pi_keysN (pv 5)) (pg_tup rfl (pgs_cons (pg_name (i := 8) sc__law_widened.nd rfl (Or.inl rfl)) (pgs_cons (pg_name (i := 9) sc__law_widened.nd rfl (Or.inl rfl)) pgs_nil))) (pss_one (ps_for PassesOwn.never rfl (pi_range1 (by rfl) T.z_range (pa_cons (pe_op op_add (pv 3) (pv 4)) pa_nil)) (pg_name (i := 10) sc__law_widened.nd rfl (Or.inl rfl)) (pss_one (ps_dputN (roomN hr) (pv 7) (pe_tup (pa_cons (pv 8) (pa_cons (pe_op op_catA (pv 9) (pe_tup (pa_cons (pv 10) pa_nil))) pa_nil))) (pe_dgetNF (roomN hr) (pv 5) (pe_tup (pa_cons (pv 8) (pa_cons (pv 9) pa_nil))) (fun _ _ => rfl)) rfl)))))) (pss_one (ps_ret (pe_tup (pa_cons (pv 1) (pa_cons (pe_op op_add (pv 2) pe_int) (pa_cons (pv 3) (pa_cons (pv 4) (pa_cons (pv 7) (pa_cons (pe_callTy call_list_of (by rfl) T.z_list (by decide +kernel) (pa_cons (pv 6) pa_nil)) pa_nil)))))))))))), ?_⟩
  obtain ⟨j, d, g, xs, keys, rfl, hj, hd, hrn, hrj, hper, hg⟩ := hJ
  have knd := hper.nodup_iff.mpr (keysOf_nd hri J.n (J.few + J.turn))
  have t1 := hok.t1
  have t4 := hok.t4
  have f4 := hok.f4
  have lx : xs.length = keys.length := Paired.length hrj
  have lk3 : ∀ i, (keys3 (J.few + J.turn) (keys.take i)).length ≤ 600 := fun i => by
    have e := (keys3_perm (k := J.few + J.turn) hper).length_eq
    have e2 := keys3_all J.L J.n (J.few + J.turn)
    have e3 : (keys3 (J.few + J.turn) J.keys).length ≤ 600 := by
      unfold JD.keys
      rw [e2, keysOf_len]
      exact hz
    have : ∀ a b : List (Nat × List Nat), (keys3 (J.few + J.turn) a).length ≤ (keys3 (J.few + J.turn) (a ++ b)).length := fun a b => by
      unfold keys3
      rw [List.flatMap_append, List.length_append]
      omega
    have h := this (keys.take i) (keys.drop i)
    rw [List.take_append_drop] at h
    omega
  refine ⟨_, rfl, j, _, rfl, SqT.of hj, rfl, _, _, rfl, _, _, rfl, _, _, rfl, _, _, rfl, _, _, rfl, _, _, rfl, rfl, ?_⟩
  refine fun dl hdl => ?_
  have s0 := same_new hdl (o := DictN P w dl [])
  have k0 := upd_same (H := H) (a := dl) (o := DictN P w dl [])
  have hd0 := s0 _ _ hd
  have ndd : dl ≠ d := fun e => by rw [e, hd] at hdl; cases hdl
  refine ⟨d, _, hd0, trivial, fun od => ?_⟩
  have ntd : ∀ (q : Addr) (ys : List V), H q = some (.tup ys) → q ≠ d := fun q ys e z => by rw [z, hd] at e; unfold DictN at e; cases e
  have ntl : ∀ (q : Addr) (ys : List V), H q = some (.tup ys) → q ≠ dl := fun q ys e z => by rw [z, hdl] at e; cases e
  refine ⟨_, rfl, d, od, xs, rfl, upd_same, ?_⟩
  refine for_it walk_keysN (fun i σ H' => ∃ (zs : List NRow) (y8 y9 y10 : Option V), σ = [some (.ref j), some (.str J.L), some (nI J.n), some (nI J.few), some (nI J.turn), some (.ref d), some (.ref g), some (.ref dl), y8, y9, y10] ∧ H' dl = some (DictN P w dl zs) ∧ RowsN H' zs ∧ RowsJ zs (keys3 (J.few + J.turn) (keys.take i)) (fs3 J) ∧ H' d = some (.frz od (DictN P w d xs)) ∧ ∀ b o, b ≠ d → b ≠ dl → H b = some o → H' b = some o) ⟨[], none, none, none, rfl, by rw [upd_ne ndd]; exact k0, (fun x h => by cases h), .nil, upd_same, fun b o n1 n2 e => by rw [upd_ne n1]; exact s0 _ _ e⟩ (fun i σ H' _ ⟨_, _, _, _, _, _, _, _, h, _⟩ => h) ?_ ?_
  · rintro i x σ H2 H3 hi ⟨zs, y8, y9, y10, rfl, g1, g2, g3, g4, g5⟩ ⟨rfl, row, hrow, rfl⟩
    obtain ⟨⟨c, rw0⟩, hkey, e1, e2⟩ := prd_at hrj hrow
    have hmk := List.mem_of_getElem? hkey
    have hm := hper.mem_iff.mp hmk
    obtain ⟨hc, hlen, hkk⟩ := keysOf_mem hm
    dsimp only at hlen hkk hc
    obtain ⟨hn1, _⟩ := hrn row (List.mem_of_getElem? hrow)
    rw [e1] at hn1
    obtain ⟨a, kb, ka⟩ := nk_inv hn1
    have kb2 := g5 _ _ (ntd _ _ kb) (ntl _ _ kb) kb
    have ka2 := g5 _ _ (ntd _ _ ka) (ntl _ _ ka) ka
    refine ⟨row.2.1, _, rfl, SqT.of kb2, rfl, _, _, rfl, _, _, rfl, rfl, ?_⟩
    have ev : (J.few : Int) + (J.turn : Int) = ((J.few + J.turn : Nat) : Int) := by push_cast; rfl
    refine ⟨_, rfl, _, rfl, _, _, rfl, rfl, ((J.few + J.turn : Nat) : Int), congrArg (fun z => [V.int z]) ev, by omega, by omega, ?_⟩
    refine for_range (lo := 0) (n := J.few + J.turn) (fun m σ H' => ∃ (zs : List NRow) (y10 : Option V), σ = [some (.ref j), some (.str J.L), some (nI J.n), some (nI J.few), some (nI J.turn), some (.ref d), some (.ref g), some (.ref dl), some (.str (ch c)), some (.ref a), y10] ∧ H' dl = some (DictN P w dl zs) ∧ RowsN H' zs ∧ RowsJ zs (keys3 (J.few + J.turn) (keys.take i) ++ (List.range m).map fun x => (c, rw0 ++ [x])) (fs3 J) ∧ H' d = some (.frz od (DictN P w d xs)) ∧ ∀ b o, b ≠ d → b ≠ dl → H b = some o → H' b = some o) ⟨zs, y10, rfl, g1, g2, by simpa using g3, g4, g5⟩ ?_ ?_
    · rintro m σ H4 hm2 ⟨zs, y10, rfl, g1, g2, g3, g4, g5⟩
      have kb4 := g5 _ _ (ntd _ _ kb) (ntl _ _ kb) kb
      have ka4 := g5 _ _ (ntd _ _ ka) (ntl _ _ ka) ka
      have rn4 : RowsN H4 xs := hrn.keep fun b ys e => g5 _ _ (ntd _ _ e) (ntl _ _ e) e
      refine ⟨_, rfl, _, rfl, _, rfl, (by show 2 ≤ sizeLine; decide), fun b hb => ?_⟩
      have sb := same_new hb (o := .tup [.str (ch c), .ref a])
      have kbb := upd_same (H := H4) (a := b) (o := .tup [.str (ch c), .ref a])
      refine ⟨d, b, xs, keyN c rw0, nI (J.fs c rw0), rfl, rfl, .inr ⟨od, sb _ _ g4⟩, rn4.keep fun b ys e => sb b _ e, nk_key kbb (sb _ _ ka4), keyN_depth _ _, atN_rows hrj hmk, ?_⟩
      have ddl4 := sb _ _ g1
      refine ⟨_, rfl, _, rfl, _, rfl, _, rfl, (by show 1 ≤ sizeLine; decide), fun t ht => ?_⟩
      have st := same_new (o := .tup [V.int (0 + (m : Int))]) ht
      have kat := st _ _ (sb _ _ ka4)
      refine catA kat upd_same (by rw [List.length_map, hlen, List.length_singleton]; omega) fun b3 H7 s7 kb3 nb => ?_
      refine ⟨(by show 2 ≤ sizeLine; decide), fun b2 hb2 => ?_⟩
      have s2 := same_new (o := .tup [.str (ch c), V.ref b3]) hb2
      have kb2 := upd_same (H := H7) (a := b2) (o := .tup [.str (ch c), V.ref b3])
      generalize upd H7 b2 (.tup [.str (ch c), V.ref b3]) = H8 at *
      have S : Same H4 H8 := ((sb.trans st).trans s7).trans s2
      have kdl := S _ _ g1
      have kb3' := s2 _ _ kb3
      have e : rw0.map nI ++ [V.int (0 + (m : Int))] = (rw0 ++ [m]).map nI := by rw [List.map_append, Int.zero_add]; rfl
      rw [e] at kb3'
      have lz := Paired.length g3
      have lk := lk3 (i + 1)
      rw [keys3_take hkey, List.length_append, List.length_map, List.length_range] at lk
      rw [List.length_append, List.length_map, List.length_range] at lz
      have fresh : ∀ x ∈ zs, x.1 ≠ keyN c (rw0 ++ [m]) := fun x hx e => by
        obtain ⟨key, hm3, e1, _⟩ := prd_mem g3 hx
        rw [e1] at e
        obtain ⟨e2, e3⟩ := keyN_inj e
        have ek : key = (c, rw0 ++ [m]) := Prod.ext e2 e3
        subst ek
        rcases List.mem_append.mp hm3 with hm3 | hm3
        · exact ahead_ne knd hkey _ (keys3_mem hm3) rfl
        · obtain ⟨x, hx, ex⟩ := List.mem_map.mp hm3
          have := List.append_inj' (Prod.mk.inj ex).2 rfl
          have : x = m := (List.cons.inj this.2).1
          have := List.mem_range.mp hx
          omega
      have g2' := g2.keep fun b ys e => S _ _ e
      have tk := fun b ys e => upd_tupN (o := DictN P w dl (storedN zs (keyN c (rw0 ++ [m])) b2 (nI (J.fs c rw0)))) kdl b ys e
      refine ⟨dl, b2, zs, keyN c (rw0 ++ [m]), rfl, rfl, kdl, g2', nk_key kb2 kb3', keyN_depth c _, Nat.lt_of_le_of_lt (show _ ≤ 1000000 by omega) (by decide), ?_⟩
      show ∃ (zs1 : List NRow) (y10 : Option V), _ ∧ (upd H8 dl (DictN P w dl (storedN zs (keyN c (rw0 ++ [m])) b2 (nI (J.fs c rw0))))) dl = some (DictN P w dl zs1) ∧ _
      rw [storedN_new fresh] at tk ⊢
      refine ⟨_, _, rfl, upd_same, ?_, ?_, by rw [upd_ne ndd.symm]; exact S _ _ g4, fun b o n1 n2 e => by rw [upd_ne n2]; exact S _ _ (g5 b o n1 n2 e)⟩
      · intro x hx
        rcases List.mem_append.mp hx with hx | hx
        · exact (g2'.keep tk) x hx
        · rw [List.mem_singleton.mp hx]
          exact ⟨nk_key (tk _ _ kb2) (tk _ _ kb3'), keyN_depth c _⟩
      · rw [List.range_succ, List.map_append (f := fun x => (c, rw0 ++ [x])), ← List.append_assoc]
        refine prd_app g3 (.cons ⟨rfl, ?_⟩ .nil)
        show nI (J.fs c rw0) = nI (J.fs c (rw0 ++ [m]).dropLast)
        rw [List.dropLast_concat]
    · rintro σ H4 ⟨zs, y10, rfl, g1, g2, g3, g4, g5⟩
      exact ⟨zs, _, _, _, rfl, g1, g2, by rw [keys3_take hkey]; exact g3, g4, g5⟩
  rintro σ H2 ⟨zs, y8, y9, y10, rfl, g1, g2, g3, g4, g5⟩
  refine ⟨g4, ?_⟩
  have hgd : g ≠ d := fun e => by rw [e, hd] at hg; unfold DictN at hg; cases hg
  have hgl : g ≠ dl := fun e => by rw [e, hdl] at hg; cases hg
  have kg := g5 _ _ hgd hgl hg
  generalize hH3 : upd H2 d (DictN P w d xs) = H3
  have S3 : ∀ b o, H b = some o → H3 b = some o := fun b o e => by
    rw [← hH3]
    by_cases z : b = d
    · rw [z, upd_same]
      rw [z, hd] at e
      exact e
    · rw [upd_ne z]
      refine g5 b o z (fun z2 => ?_) e
      rw [z2, hdl] at e
      cases e
  have k1 : H3 dl = some (DictN P w dl zs) := by rw [← hH3, upd_ne ndd]; exact g1
  have k2 : RowsN H3 zs := g2.keep fun b ys e => by
    rw [← hH3, upd_ne (fun z => by rw [z, g4] at e; cases e)]
    exact e
  rw [List.take_of_length_le (by omega)] at g3
  have pk : (keys3 (J.few + J.turn) keys).Perm (wideJ J).keys := by
    have e := keys3_perm (k := J.few + J.turn) hper
    have e2 := keys3_all J.L J.n (J.few + J.turn)
    unfold JD.keys at e
    rw [e2] at e
    exact e
  refine ⟨_, rfl, _, rfl, _, _, rfl, rfl, _, rfl, _, rfl, _, rfl, _, rfl, g, _, rfl, .inl (SqL.of (by rw [← hH3, upd_ne hgd]; exact kg)), fun l hl => ?_⟩
  have sl := same_new (o := .lst (J.good.map nI)) hl
  refine ⟨(by show 6 ≤ sizeLine; decide), fun p hp => ?_⟩
  have sp := same_new (o := .tup [.str J.L, V.int ((J.n : Int) + 1), nI J.few, nI J.turn, .ref dl, .ref l]) hp
  have S := sl.trans sp
  have e : V.int ((J.n : Int) + 1) = nI (J.n + 1) := rfl
  refine q _ _ (fun b o e => S _ _ (S3 _ _ e)) ⟨p, dl, l, zs, _, rfl, upd_same, S _ _ k1, k2.keep fun b ys e => S _ _ e, g3, pk, sp _ _ upd_same⟩
end

theorem IxF.find {L : Str} (h : IxF L) {c i : Nat} (hc : L.cps.toList[i]? = some c) : ∃ rest, Builtin.Str.occurrences L (ch c) 0 L.length 1 = i :: rest := by
  have := List.all_eq_true.mp h (c, i) (List.mem_zipIdx_iff_getElem?.mpr hc)
  have := of_decide_eq_true this
  dsimp only at this
  cases e : Builtin.Str.occurrences L (ch c) 0 L.length 1 with
  | nil => rw [e] at this; cases this
  | cons j rest =>
    rw [e] at this
    cases this
    exact ⟨rest, rfl⟩
def plc (A B : List Nat) (c : Nat) : Nat := B.getD (A.idxOf c) 0
theorem idxOf_at {A : List Nat} (nd : A.Nodup) {i c : Nat} (h : A[i]? = some c) : A.idxOf c = i := by
  obtain ⟨hi, e⟩ := List.getElem?_eq_some_iff.mp h
  rw [← e]
  exact nd.idxOf_getElem i hi
theorem plc_at {A B : List Nat} (nd : A.Nodup) {i c c2 : Nat} (h : A[i]? = some c) (h2 : B[i]? = some c2) : plc A B c = c2 := by
  unfold plc
  rw [idxOf_at nd h, List.getD_eq_getElem?_getD, h2]
  rfl
theorem plc_of {A B : List Nat} (nd : A.Nodup) (nd2 : B.Nodup) (hl : A.length = B.length) {c : Nat} (h : c ∈ A) : plc A B c ∈ B ∧ plc B A (plc A B c) = c := by
  obtain ⟨i, hi⟩ := List.getElem?_of_mem h
  have hi2 := (List.getElem?_eq_some_iff.mp hi).1
  have hb : B[i]? = some (B[i]'(by omega)) := List.getElem?_eq_getElem _
  rw [plc_at nd hi hb]
  exact ⟨List.mem_of_getElem? hb, plc_at nd2 hb hi⟩
def pnt (ns : List Nat) (s : Nat) : Nat := ns.getD s 0
def mvR (ns row : List Nat) : List Nat := (List.range ns.length).map fun t => row.getD (ns.idxOf t) 0
def bkR (ns row2 : List Nat) : List Nat := (List.range ns.length).map fun s => row2.getD (pnt ns s) 0
section
variable {ns : List Nat} {n : Nat}
theorem pnt_at {s : Nat} (h : s < ns.length) : ns[s]? = some (pnt ns s) := by
  unfold pnt
  rw [List.getD_eq_getElem?_getD, List.getElem?_eq_getElem h]
  rfl
theorem num_len (hp : ns.Perm (List.range n)) : ns.length = n := by rw [hp.length_eq, List.length_range]
theorem num_nd (hp : ns.Perm (List.range n)) : ns.Nodup := hp.nodup_iff.mpr List.nodup_range
theorem pnt_lt (hp : ns.Perm (List.range n)) {s : Nat} (h : s < n) : pnt ns s < n :=
  List.mem_range.mp (hp.mem_iff.mp (List.mem_of_getElem? (pnt_at (by rw [num_len hp]; exact h))))
theorem pnt_inj (hp : ns.Perm (List.range n)) {s t : Nat} (h : s < n) (h2 : t < n) (e : pnt ns s = pnt ns t) : s = t := by
  have l := num_len hp
  have e1 := pnt_at (ns := ns) (s := s) (by omega)
  have e2 := pnt_at (ns := ns) (s := t) (by omega)
  rw [e] at e1
  exact (List.getElem?_inj (by omega) (num_nd hp)).mp (e1.trans e2.symm)
theorem pnt_sur (hp : ns.Perm (List.range n)) {t : Nat} (h : t < n) : ∃ s, s < n ∧ pnt ns s = t := by
  have := hp.mem_iff.mpr (List.mem_range.mpr h)
  obtain ⟨s, hs⟩ := List.getElem?_of_mem this
  have l := num_len hp
  have hl := (List.getElem?_eq_some_iff.mp hs).1
  have := pnt_at (ns := ns) (s := s) hl
  rw [hs] at this
  exact ⟨s, by omega, (Option.some.inj this).symm⟩
theorem mvR_len {row : List Nat} (hp : ns.Perm (List.range n)) : (mvR ns row).length = n := by
  unfold mvR
  rw [List.length_map, List.length_range, num_len hp]
theorem mvR_at (hp : ns.Perm (List.range n)) {row : List Nat} (hr : row.length = n) {s : Nat} (h : s < n) : (mvR ns row)[pnt ns s]? = row[s]? := by
  have l := num_len hp
  have h2 := pnt_lt hp h
  unfold mvR
  rw [List.getElem?_map, List.getElem?_range (by omega)]
  show some (row.getD (ns.idxOf (pnt ns s)) 0) = _
  rw [idxOf_at (num_nd hp) (pnt_at (by omega)), List.getD_eq_getElem?_getD, List.getElem?_eq_getElem (by omega)]
  rfl
theorem at_ext {a b : List Nat} (hp : ns.Perm (List.range n)) (ha : a.length = n) (hb : b.length = n) (h : ∀ s, s < n → a[pnt ns s]? = b[pnt ns s]?) : a = b := by
  refine List.ext_getElem? fun t => ?_
  by_cases ht : t < n
  · obtain ⟨s, h1, rfl⟩ := pnt_sur hp ht
    exact h s h1
  · rw [List.getElem?_eq_none (by omega), List.getElem?_eq_none (by omega)]
theorem bkR_of (hp : ns.Perm (List.range n)) {row row2 : List Nat} (hr : row.length = n) (h : ∀ s, s < n → row2[pnt ns s]? = row[s]?) : bkR ns row2 = row := by
  have l := num_len hp
  refine List.ext_getElem? fun s => ?_
  unfold bkR
  by_cases hs : s < n
  · rw [List.getElem?_map, List.getElem?_range (by omega)]
    show some (row2.getD (pnt ns s) 0) = _
    rw [List.getD_eq_getElem?_getD, h s hs, List.getElem?_eq_getElem (by omega)]
    rfl
  · rw [List.getElem?_eq_none (by simp; omega), List.getElem?_eq_none (by omega)]
end
def fs2 (J : JD) (ns : List Nat) (L2 : Str) (c2 : Nat) (row2 : List Nat) : Nat := pnt ns (J.fs (plc L2.cps.toList J.L.cps.toList c2) (bkR ns row2))
def renJ (J : JD) (ns : List Nat) (L2 : Str) (g2 : List Nat) : JD := ⟨L2, J.n, J.few, J.turn, fs2 J ns L2, g2⟩
def rk (J : JD) (ns : List Nat) (L2 : Str) (key : Nat × List Nat) : Nat × List Nat := (plc J.L.cps.toList L2.cps.toList key.1, mvR ns key.2)
structure Ren (J : JD) (ns : List Nat) (L2 : Str) : Prop where
  p : ns.Perm (List.range J.n)
  len : L2.length = J.L.length
  lets : Lets L2
  ris : Rises J.L
  ris2 : Rises L2
section
variable {J : JD} {ns : List Nat} {L2 : Str} {g2 : List Nat}
theorem rises_nd {L : Str} (h : Rises L) : L.cps.toList.Nodup := h.imp fun {a b} h e => by omega
theorem Ren.ll (R : Ren J ns L2) : J.L.cps.toList.length = L2.cps.toList.length := by
  have := R.len
  rw [show J.L.cps.toList.length = J.L.length from Array.length_toList, show L2.cps.toList.length = L2.length from Array.length_toList, this]
theorem Ren.fs (R : Ren J ns L2) {key : Nat × List Nat} (hk : key ∈ J.keys) {row2 : List Nat} (h : ∀ s, s < J.n → row2[pnt ns s]? = key.2[s]?) : fs2 J ns L2 (plc J.L.cps.toList L2.cps.toList key.1) row2 = pnt ns (J.fs key.1 key.2) := by
  obtain ⟨h1, h2, _⟩ := keysOf_mem hk
  unfold fs2
  rw [bkR_of R.p h2 h, (plc_of (rises_nd R.ris) (rises_nd R.ris2) R.ll h1).2]
theorem Ren.iso (R : Ren J ns L2) : Iso J (renJ J ns L2 g2) (plc J.L.cps.toList L2.cps.toList) (pnt ns) where
  n := rfl
  few := rfl
  turn := rfl
  pl := fun _ h => pnt_lt R.p h
  pi := fun _ _ h h2 e => pnt_inj R.p h h2 e
  fl := fun c hc => (plc_of (rises_nd R.ris) (rises_nd R.ris2) R.ll hc).1
  fsur := fun c2 hc => ⟨_, plc_of (rises_nd R.ris2) (rises_nd R.ris) R.ll.symm hc⟩
  st := fun key hk row2 _ h => R.fs hk h
theorem Ren.ok (R : Ren J ns L2) (hok : J.ok) (hg6 : g2.length ≤ 6) (hgn : ∀ g ∈ g2, g < J.n) : (renJ J ns L2 g2).ok where
  L := R.lets
  n1 := hok.n1
  n6 := hok.n6
  f4 := hok.f4
  t1 := hok.t1
  t4 := hok.t4
  h600 := by
    have := hok.h600
    show L2.length * _ ≤ 600
    rw [R.len]
    exact this
  lt := fun key hk => by
    obtain ⟨h1, h2, h3⟩ := keysOf_mem hk
    refine pnt_lt R.p (hok.lt (plc L2.cps.toList J.L.cps.toList key.1, bkR ns key.2) ?_)
    refine keysOf_all (plc_of (rises_nd R.ris2) (rises_nd R.ris) R.ll.symm h1).1 (by unfold bkR; rw [List.length_map, List.length_range, num_len R.p]) fun x hx => ?_
    unfold bkR at hx
    obtain ⟨s, hs, rfl⟩ := List.mem_map.mp hx
    have hs := List.mem_range.mp hs
    rw [num_len R.p] at hs
    have hl := pnt_lt R.p hs
    have h2 : key.2.length = J.n := h2
    rw [List.getD_eq_getElem?_getD, List.getElem?_eq_getElem (by omega)]
    exact h3 _ (List.getElem_mem _)
  g6 := hg6
  gn := hgn
theorem Ren.keys (R : Ren J ns L2) {keys : List (Nat × List Nat)} (h : keys.Perm J.keys) : (keys.map (rk J ns L2)).Perm (renJ J ns L2 g2).keys := by
  have A1 := rises_nd R.ris
  have A2 := rises_nd R.ris2
  have inj : ∀ a ∈ J.keys, ∀ b ∈ J.keys, rk J ns L2 a = rk J ns L2 b → a = b := by
    intro a ha b hb e
    obtain ⟨a1, a2, _⟩ := keysOf_mem ha
    obtain ⟨b1, b2, _⟩ := keysOf_mem hb
    obtain ⟨e1, e2⟩ := Prod.mk.inj e
    refine Prod.ext ?_ ?_
    · have := (plc_of A1 A2 R.ll a1).2
      rw [e1, (plc_of A1 A2 R.ll b1).2] at this
      exact this.symm
    · rw [← bkR_of R.p a2 fun s hs => mvR_at R.p a2 hs, ← bkR_of R.p b2 fun s hs => mvR_at R.p b2 hs, e2]
  refine (h.map _).trans (perm_nodup ?_ (keysOf_nd R.ris2 _ _) fun a => ⟨fun ha => ?_, fun ha => ?_⟩)
  · have nd : J.keys.Nodup := keysOf_nd R.ris _ _
    refine List.pairwise_map.mpr ?_
    refine List.Pairwise.imp_of_mem (fun {a b} ha hb hne e => hne (inj a ha b hb e)) nd
  · obtain ⟨key, hk, rfl⟩ := List.mem_map.mp ha
    obtain ⟨h1, h2, h3⟩ := keysOf_mem hk
    refine keysOf_all (plc_of A1 A2 R.ll h1).1 (mvR_len R.p) fun x hx => ?_
    obtain ⟨t, ht⟩ := List.getElem?_of_mem hx
    have htl := (List.getElem?_eq_some_iff.mp ht).1
    rw [mvR_len R.p] at htl
    obtain ⟨s, hs, rfl⟩ := pnt_sur R.p htl
    have ht : (mvR ns key.2)[pnt ns s]? = some x := ht
    rw [mvR_at R.p h2 hs] at ht
    exact h3 x (List.mem_of_getElem? ht)
  · obtain ⟨h1, h2, h3⟩ := keysOf_mem ha
    have h2 : a.2.length = J.n := h2
    have lb : (bkR ns a.2).length = J.n := by unfold bkR; rw [List.length_map, List.length_range, num_len R.p]
    have at2 : ∀ s, s < J.n → (bkR ns a.2)[s]? = a.2[pnt ns s]? := fun s hs => by
      have l := num_len R.p
      have := pnt_lt R.p hs
      unfold bkR
      rw [List.getElem?_map, List.getElem?_range (by omega), List.getElem?_eq_getElem (by omega)]
      show some (a.2.getD (pnt ns s) 0) = _
      rw [List.getD_eq_getElem?_getD, List.getElem?_eq_getElem (by omega)]
      rfl
    refine List.mem_map.mpr ⟨(plc L2.cps.toList J.L.cps.toList a.1, bkR ns a.2), ?_, ?_⟩
    · refine keysOf_all (plc_of A2 A1 R.ll.symm h1).1 lb fun x hx => ?_
      obtain ⟨s, hs⟩ := List.getElem?_of_mem hx
      have hsl := (List.getElem?_eq_some_iff.mp hs).1
      rw [lb] at hsl
      have hs : (bkR ns a.2)[s]? = some x := hs
      rw [at2 s hsl] at hs
      exact h3 x (List.mem_of_getElem? hs)
    · refine Prod.ext (plc_of A2 A1 R.ll.symm h1).2 ?_
      refine at_ext R.p (mvR_len R.p) h2 fun s hs => ?_
      show (mvR ns (bkR ns a.2))[pnt ns s]? = _
      rw [mvR_at R.p lb hs, at2 s hs]
end

def sp__law_renumbered (P : Program) (w : World) : Sp := fun vs H Q _ => ∃ (v : V) (J : JD) (p : Addr) (ns : List Nat) (L2 : Str), vs = [v, .ref p, .str L2] ∧ JAt P w H v J ∧ J.ok ∧ Ren J ns L2 ∧ IxF J.L ∧ H p = some (.lst (ns.map nI)) ∧ ∀ v2 g2 H', Same H H' → JAt P w H' v2 (renJ J ns L2 g2) → g2.Perm (J.good.map (pnt ns)) → Q v2 H'
theorem cast_perm {xs : List Int} {S : List Nat} (h1 : xs.Perm (S.map fun n : Nat => (n : Int))) : ∃ S' : List Nat, xs = S'.map (fun n : Nat => (n : Int)) ∧ S'.Perm S := by
  have hx : ∀ ys : List Int, (∀ y ∈ ys, 0 ≤ y) → ys = (ys.map Int.toNat).map (fun n : Nat => (n : Int)) := by
    intro ys
    induction ys with
    | nil => intro _; rfl
    | cons y r ih =>
      intro h
      have a := h y List.mem_cons_self
      rw [List.map_cons, List.map_cons, ← ih fun z hz => h z (List.mem_cons_of_mem _ hz)]
      congr 1
      omega
  have pos : ∀ y ∈ xs, 0 ≤ y := fun y hy => by
    obtain ⟨n, _, rfl⟩ := List.mem_map.mp (h1.mem_iff.mp hy)
    omega
  refine ⟨xs.map Int.toNat, hx xs pos, ?_⟩
  have := h1.map Int.toNat
  rw [List.map_map] at this
  have id : S.map (Int.toNat ∘ fun n : Nat => (n : Int)) = S := by
    have : (Int.toNat ∘ fun n : Nat => (n : Int)) = id := by funext n; simp
    rw [this, List.map_id]
  rwa [id] at this
theorem ixN_natk {n j : Nat} (hj : j < n) : ixN n (j : Int) = some j := by
  unfold ixN
  rw [if_pos (by omega), if_pos (by omega)]
  simp
section
variable {P : Program} {w : World} {K : PySem.W.Frag} {mg : Str → Option Value} {base : Heap}
theorem ok__law_renumbered (T : Txt K mg) : FnOk P w K mg base CX0 1 T.f__law_renumbered T.d__law_renumbered ["judge", "numbers", "letters"] (sp__law_renumbered P w) := by
  refine T.F__law_renumbered.ok sc__law_renumbered (fun vs H Q E h => ?_) (fun cdv A outer s H vs Q E hr h => ?_)
  · obtain ⟨v, J, p, ns, L2, rfl, _⟩ := h
    rfl
  obtain ⟨v, J, p, ns, L2, rfl, hJ, hok, R, hix, hp, q⟩ := h
  refine ⟨_, (pss_cons (ps_asg (pv 0) (pg_tup rfl (pgs_cons (pg_name (i := 3) sc__law_renumbered.nd rfl (Or.inl rfl)) (pgs_cons (pg_name (i := 4) sc__law_renumbered.nd rfl (Or.inl rfl)) (pgs_cons (pg_name (i := 5) sc__law_renumbered.nd rfl (Or.inl rfl)) (pgs_cons (pg_name (i := 6) sc__law_renumbered.nd rfl (Or.inl rfl)) (pgs_cons (pg_name (i := 7) sc__law_renumbered.nd rfl (Or.inl rfl)) (pgs_cons (pg_name (i := 8) sc__law_renumbered.nd rfl (Or.inl rfl)) pgs_nil)))))))) (pss_cons (ps_set (i := 9) sc__law_renumbered.nd rfl (Or.inl rfl) pe_dnewN) (pss_cons (ps_lock (ps_for PassesOwn.never rfl (pi_keysN (pv 7)) (pg_tup rfl (pgs_cons (pg_name (i := 10) sc__law_renumbered.nd rfl (Or.inl rfl)) (pgs_cons (pg_name (i := 11) sc__law_renumbered.nd rfl (Or.inl rfl)) pgs_nil))) (pss_cons (ps_set (i := 12) sc__law_renumbered.nd rfl (Or.inl rfl) (pe_op op_rep (pe_lst (pa_cons pe_int pa_nil)) (pv 4))) (pss_cons (ps_for PassesOwn.never rfl (pi_range1 (by rfl) T.z_range (pa_cons (pv 4) pa_nil)) (pg_name (i := 13) sc__law_renumbered.nd rfl (Or.inl rfl)) (pss_one (ps_asg (pe_ix ix_tup (pv 11) (pv 13) (fun _ _ => rfl)) (pg_sub (pv 12) (pe_ix ix_list (pv 1) (pv 13) (fun _ _ => rfl)) set_list)))) (pss_one (ps_dputN (roomN hr) (pv 9) (pe_tup (pa_cons (pe_ix ix_str (pv 2) (pe_bm PySem.F.plainAttrs_str PySem.F.slot_str_index PySem.F.type_str_index mt_sindex (pv 3) (pa_cons (pv 10) pa_nil)) (fun _ _ => rfl)) (pa_cons (pe_callTy call_tuple_of (by rfl) T.z_tuple (by decide +kernel) (pa_cons (pv 12) pa_nil)) pa_nil))) (pe_ix ix_list (pv 1) (pe_dgetNF (roomN hr) (pv 7) (pe_tup (pa_cons (pv 10) (pa_cons (pv 11) pa_nil))) (fun _ _ => rfl)) (fun _ _ => rfl)) rfl)))))) (pss_one (ps_ret (pe_tup (pa_cons (pv 2) (pa_cons (pv 4) (pa_cons (pv 5) (pa_cons (pv 6) (pa_cons (pv 9) (pa_cons (pe_callB cr_sortedI (by rfl) T.z_sorted (by decide +kernel) (pa_cons (pe_lc (own := [("state", 13)]) (g := gName 13) (te := tOp (rIxL K) (tVar 1) (tVar 13)) (tt := tYes) rfl sc__law_renumbered.nd (pi_list (pv 8)) (blkOk_by (own := [("state", 13)]) (N := ["judge", "numbers", "letters", "old", "states", "few", "turn", "table", "good", "found", "letter", "classes", "moved", "state"]) (sc := (defScope s__law_renumbered)) (by decide +kernel)) (fun _ _ _ _ _ => (pg_name (i := 13) sc__law_renumbered.nd rfl (Or.inl rfl))) (fun _ _ _ _ _ => pts_nil) (fun _ _ _ _ _ => (pe_ix ix_list (pv 1) (pv 13) (fun _ _ => rfl)))) pa_nil)) pa_nil)))))))))))), ?_⟩
  obtain ⟨j, d, g, xs, keys, rfl, hj, hd, hrn, hrj, hper, hg⟩ := hJ
  have knd := hper.nodup_iff.mpr (keysOf_nd R.ris J.n (J.few + J.turn))
  have n1 := hok.n1
  have n6 := hok.n6
  have lns := num_len R.p
  have lx : xs.length = keys.length := Paired.length hrj
  have lk : keys.length ≤ 600 := by
    rw [hper.length_eq]
    unfold JD.keys
    rw [keysOf_len]
    exact hok.h600
  refine ⟨_, rfl, j, _, rfl, SqT.of hj, rfl, _, _, rfl, _, _, rfl, _, _, rfl, _, _, rfl, _, _, rfl, _, _, rfl, rfl, ?_⟩
  refine fun dl hdl => ?_
  have s0 := same_new hdl (o := DictN P w dl [])
  have k0 := upd_same (H := H) (a := dl) (o := DictN P w dl [])
  have hd0 := s0 _ _ hd
  have ndd : dl ≠ d := fun e => by rw [e, hd] at hdl; cases hdl
  refine ⟨d, _, hd0, trivial, fun od => ?_⟩
  have npd : p ≠ d := fun e => by rw [e, hd] at hp; unfold DictN at hp; cases hp
  have npl : p ≠ dl := fun e => by rw [e, hdl] at hp; cases hp
  have ntd : ∀ (q : Addr) (ys : List V), H q = some (.tup ys) → q ≠ d := fun q ys e z => by rw [z, hd] at e; unfold DictN at e; cases e
  have ntl : ∀ (q : Addr) (ys : List V), H q = some (.tup ys) → q ≠ dl := fun q ys e z => by rw [z, hdl] at e; cases e
  refine ⟨_, rfl, d, od, xs, rfl, upd_same, ?_⟩
  refine for_it walk_keysN (fun i σ H' => ∃ (zs : List NRow) (y8 y9 y10 y11 : Option V), σ = [some (.ref j), some (.ref p), some (.str L2), some (.str J.L), some (nI J.n), some (nI J.few), some (nI J.turn), some (.ref d), some (.ref g), some (.ref dl), y8, y9, y10, y11] ∧ H' dl = some (DictN P w dl zs) ∧ RowsN H' zs ∧ RowsJ zs ((keys.take i).map (rk J ns L2)) (fs2 J ns L2) ∧ H' d = some (.frz od (DictN P w d xs)) ∧ ∀ b o, b ≠ d → b ≠ dl → H b = some o → H' b = some o) ⟨[], none, none, none, none, rfl, by rw [upd_ne ndd]; exact k0, (fun x h => by cases h), .nil, upd_same, fun b o n1 n2 e => by rw [upd_ne n1]; exact s0 _ _ e⟩ (fun i σ H' _ ⟨_, _, _, _, _, _, _, _, _, h, _⟩ => h) ?_ ?_
  · rintro i x σ H2 H3 hi ⟨zs, y8, y9, y10, y11, rfl, g1, g2, g3, g4, g5⟩ ⟨rfl, row, hrow, rfl⟩
    obtain ⟨⟨c, rw0⟩, hkey, e1, e2⟩ := prd_at hrj hrow
    have hmk := List.mem_of_getElem? hkey
    have hm := hper.mem_iff.mp hmk
    obtain ⟨hc, hlen, hkk⟩ := keysOf_mem hm
    dsimp only at hlen hkk hc
    obtain ⟨hn1, _⟩ := hrn row (List.mem_of_getElem? hrow)
    rw [e1] at hn1
    obtain ⟨a, kb, ka⟩ := nk_inv hn1
    have kb2 := g5 _ _ (ntd _ _ kb) (ntl _ _ kb) kb
    have ka2 := g5 _ _ (ntd _ _ ka) (ntl _ _ ka) ka
    refine ⟨row.2.1, _, rfl, SqT.of kb2, rfl, _, _, rfl, _, _, rfl, rfl, ?_⟩
    refine ⟨(by show 1 ≤ sizeLine; decide), fun l0 hl0 => ?_⟩
    have sl0 := same_new (o := .lst [V.int 0]) hl0
    refine ⟨_, rfl, l0, (J.n : Int), _, rfl, rfl, upd_same, by omega, by omega, Nat.le_trans (show _ ≤ 3000 by simp; omega) (by decide), fun M hM => ?_⟩
    have sM := same_new (o := .lst (List.replicate (J.n : Int).toNat [V.int 0]).flatten) hM
    have eM : (List.replicate (J.n : Int).toNat [V.int 0]).flatten = (List.replicate J.n 0).map nI := by
      rw [Int.toNat_natCast, List.map_replicate, List.flatten_replicate_singleton]
      rfl
    have kM := upd_same (H := upd H3 l0 (.lst [V.int 0])) (a := M) (o := .lst (List.replicate (J.n : Int).toNat [V.int 0]).flatten)
    generalize upd (upd H3 l0 (.lst [V.int 0])) M (.lst (List.replicate (J.n : Int).toNat [V.int 0]).flatten) = H4 at *
    rw [eM] at kM
    have S4 : Same H3 H4 := sl0.trans sM
    have M3 : H3 M = none := sl0.free hM
    have kd4 := S4 _ _ g4
    have kl4 := S4 _ _ g1
    have kp4 := S4 _ _ (g5 _ _ npd npl hp)
    have ndM : d ≠ M := fun z => by rw [z, M3] at g4; cases g4
    have nlM : dl ≠ M := fun z => by rw [z, M3] at g1; cases g1
    have npM : p ≠ M := fun z => by have := g5 _ _ npd npl hp; rw [z, M3] at this; cases this
    have naM : a ≠ M := fun z => by rw [z, M3] at ka2; cases ka2
    have G4 : ∀ b o, b ≠ M → H4 b = some o → H4 b = some o := fun _ _ _ e => e
    refine ⟨_, rfl, (J.n : Int), rfl, by omega, by omega, ?_⟩
    refine for_range (lo := 0) (n := J.n) (fun m σ H' => ∃ (Ms : List Nat) (y11 : Option V), σ = [some (.ref j), some (.ref p), some (.str L2), some (.str J.L), some (nI J.n), some (nI J.few), some (nI J.turn), some (.ref d), some (.ref g), some (.ref dl), some (.str (ch c)), some (.ref a), some (.ref M), y11] ∧ H' M = some (.lst (Ms.map nI)) ∧ Ms.length = J.n ∧ (∀ s, s < m → Ms[pnt ns s]? = rw0[s]?) ∧ ∀ b o, b ≠ M → H4 b = some o → H' b = some o) ⟨_, y11, rfl, kM, List.length_replicate, (fun s h => by omega), G4⟩ ?_ ?_
    · rintro m σ H5 hm2 ⟨Ms, y11, rfl, m1, m2, m3, m4⟩
      have hp5 := m4 _ _ npM kp4
      have ha5 := m4 _ _ naM (S4 _ _ ka2)
      have pl := pnt_lt R.p hm2
      refine ⟨_, rfl, _, rfl, a, _, 0 + (m : Int), _, rfl, rfl, SqT.of ha5, by rw [Int.zero_add]; exact atI_nat (show _ = some (nI (rw0[m]'(by omega))) by rw [List.getElem?_map, List.getElem?_eq_getElem]; rfl), ?_⟩
      refine ⟨_, rfl, _, rfl, _, rfl, p, _, 0 + (m : Int), _, rfl, rfl, SqL.of hp5, by rw [Int.zero_add]; exact atI_nat (show _ = some (nI (pnt ns m)) by rw [List.getElem?_map, pnt_at (by omega)]; rfl), ?_⟩
      refine ⟨M, _, (pnt ns m : Int), pnt ns m, rfl, rfl, m1, by rw [List.length_map, m2]; exact ixN_natk pl, Ms.set (pnt ns m) (rw0[m]'(by omega)), _, rfl, ?_, by rw [List.length_set]; exact m2, fun s hs => ?_, fun b o nb e => by rw [upd_ne nb]; exact m4 b o nb e⟩
      · rw [upd_same, ← List.map_set]
      · by_cases z : s = m
        · subst z
          rw [List.getElem?_set_self (by omega), List.getElem?_eq_getElem]
        · rw [List.getElem?_set_ne (fun e => z (pnt_inj R.p (by omega) hm2 e.symm))]
          exact m3 s (by omega)
    rintro σ H5 ⟨Ms, y11, rfl, m1, m2, m3, m4⟩
    have eMs : Ms = mvR ns rw0 := at_ext R.p m2 (mvR_len R.p) fun s hs => by rw [m3 s hs, mvR_at R.p hlen hs]
    subst eMs
    obtain ⟨ix, hix1⟩ := List.getElem?_of_mem hc
    obtain ⟨rest, hocc⟩ := hix.find hix1
    have hixl := (List.getElem?_eq_some_iff.mp hix1).1
    have hix2 : L2.cps.toList[ix]? = some (L2.cps.toList[ix]'(by rw [← R.ll]; exact hixl)) := List.getElem?_eq_getElem _
    have ec2 := plc_at (rises_nd R.ris) hix1 hix2
    rw [← ec2] at hix2
    generalize hc2 : plc J.L.cps.toList L2.cps.toList c = c2 at *
    have fsn := hok.lt _ hm
    dsimp only at fsn
    have kb5 := m4 _ _ (fun z => by rw [z, M3] at kb2; cases kb2) (S4 _ _ kb2)
    have ka5 := m4 _ _ naM (S4 _ _ ka2)
    have g4' := m4 _ _ ndM kd4
    have g1' := m4 _ _ nlM kl4
    have hp5 := m4 _ _ npM kp4
    have G5 : ∀ b o, H3 b = some o → H5 b = some o := fun b o e => m4 _ _ (fun z => by rw [z, M3] at e; cases e) (S4 _ _ e)
    have rn5 : RowsN H5 xs := hrn.keep fun b ys e => G5 _ _ (g5 _ _ (ntd _ _ e) (ntl _ _ e) e)
    refine ⟨_, rfl, _, rfl, _, rfl, _, rfl, (by show 2 ≤ sizeLine; decide), fun b hb => ?_⟩
    have sb := same_new hb (o := .tup [.str (ch c), .ref a])
    have kbb := upd_same (H := H5) (a := b) (o := .tup [.str (ch c), .ref a])
    refine ⟨d, b, xs, keyN c rw0, nI (J.fs c rw0), rfl, rfl, .inr ⟨od, sb _ _ g4'⟩, rn5.keep fun b ys e => sb b _ e, nk_key kbb (sb _ _ ka5), keyN_depth _ _, atN_rows hrj hmk, ?_⟩
    refine ⟨p, _, (J.fs c rw0 : Int), _, rfl, rfl, SqL.of (sb _ _ hp5), atI_nat (show _ = some (nI (pnt ns (J.fs c rw0))) by rw [List.getElem?_map, pnt_at (by omega)]; rfl), ?_⟩
    refine ⟨_, rfl, _, rfl, _, rfl, rfl, _, rfl, J.L, ch c, ix, rest, rfl, rfl, hocc, ?_⟩
    refine ⟨L2, (ix : Int), c2, rfl, rfl, ?_, atI_nat hix2, ?_⟩
    · have h6 := hok.h600
      have t1 := hok.t1
      have := Nat.le_mul_of_pos_right J.L.length (Nat.pow_pos (n := J.n) (show 0 < J.few + J.turn by omega))
      have : L2.length ≤ 600 := by have := R.len; omega
      exact Nat.le_trans this (by decide)
    refine ⟨_, rfl, M, _, rfl, .inl ⟨SqL.of (sb _ _ m1), fun t ht => ?_⟩⟩
    have st := same_new ht (o := .tup ((mvR ns rw0).map nI))
    refine ⟨(by show 2 ≤ sizeLine; decide), fun b2 hb2 => ?_⟩
    have s2 := same_new hb2 (o := .tup [.str ⟨#[c2]⟩, .ref t])
    have kt := s2 _ _ (upd_same (H := upd H5 b (.tup [.str (ch c), .ref a])) (a := t) (o := .tup ((mvR ns rw0).map nI)))
    have kb2' := upd_same (H := upd (upd H5 b (.tup [.str (ch c), .ref a])) t (.tup ((mvR ns rw0).map nI))) (a := b2) (o := .tup [.str ⟨#[c2]⟩, .ref t])
    generalize upd (upd (upd H5 b (.tup [.str (ch c), .ref a])) t (.tup ((mvR ns rw0).map nI))) b2 (.tup [.str ⟨#[c2]⟩, .ref t]) = H8 at *
    have kb2' : H8 b2 = some (.tup [.str (ch c2), .ref t]) := kb2'
    have S : Same H5 H8 := (sb.trans st).trans s2
    have kdl := S _ _ g1'
    have lz := Paired.length g3
    rw [List.length_map, List.length_take] at lz
    have inj := (R.keys (g2 := []) hper).nodup_iff.mpr (keysOf_nd R.ris2 _ _)
    have erk : rk J ns L2 (c, rw0) = (c2, mvR ns rw0) := by unfold rk; rw [hc2]
    have hkey2 : (keys.map (rk J ns L2))[i]? = some (c2, mvR ns rw0) := by rw [List.getElem?_map, hkey, ← erk]; rfl
    have fresh : ∀ x ∈ zs, x.1 ≠ keyN c2 (mvR ns rw0) := fun x hx e => by
      obtain ⟨key, hm3, e1, _⟩ := prd_mem g3 hx
      rw [e1] at e
      obtain ⟨e2, e3⟩ := keyN_inj e
      rw [List.map_take] at hm3
      exact ahead_ne inj hkey2 key hm3 (Prod.ext e2 e3)
    have g2' := g2.keep fun b ys e => S _ _ (G5 _ _ e)
    have tk := fun b ys e => upd_tupN (o := DictN P w dl (storedN zs (keyN c2 (mvR ns rw0)) b2 (nI (pnt ns (J.fs c rw0))))) kdl b ys e
    refine ⟨dl, b2, zs, keyN c2 (mvR ns rw0), rfl, rfl, kdl, g2', nk_key kb2' kt, keyN_depth c2 _, Nat.lt_of_le_of_lt (show _ ≤ 1000000 by omega) (by decide), ?_⟩
    show ∃ (zs1 : List NRow) (y8 y9 y10 y11 : Option V), _ ∧ (upd H8 dl (DictN P w dl (storedN zs (keyN c2 (mvR ns rw0)) b2 (nI (pnt ns (J.fs c rw0)))))) dl = some (DictN P w dl zs1) ∧ _
    rw [storedN_new fresh] at tk ⊢
    refine ⟨_, _, _, _, _, rfl, upd_same, ?_, ?_, by rw [upd_ne ndd.symm]; exact S _ _ g4', fun b o n1 n2 e => by rw [upd_ne n2]; exact S _ _ (G5 _ _ (g5 b o n1 n2 e))⟩
    · intro x hx
      rcases List.mem_append.mp hx with hx | hx
      · exact (g2'.keep tk) x hx
      · rw [List.mem_singleton.mp hx]
        exact ⟨nk_key (tk _ _ kb2') (tk _ _ kt), keyN_depth c2 _⟩
    · rw [take_succ_of hkey, List.map_append]
      refine prd_app g3 (.cons ⟨?_, ?_⟩ .nil)
      · show keyN c2 (mvR ns rw0) = keyN (rk J ns L2 (c, rw0)).1 (rk J ns L2 (c, rw0)).2
        rw [erk]
      · show nI (pnt ns (J.fs c rw0)) = nI (fs2 J ns L2 (plc J.L.cps.toList L2.cps.toList c) (mvR ns rw0))
        rw [R.fs (key := (c, rw0)) hm fun s hs => mvR_at R.p hlen hs]
  rintro σ H2 ⟨zs, y8, y9, y10, y11, rfl, g1, g2, g3, g4, g5⟩
  refine ⟨g4, ?_⟩
  have hgd : g ≠ d := fun e => by rw [e, hd] at hg; unfold DictN at hg; cases hg
  have hgl : g ≠ dl := fun e => by rw [e, hdl] at hg; cases hg
  generalize hH3 : upd H2 d (DictN P w d xs) = H3
  have S3 : Same H H3 := fun b o e => by
    rw [← hH3]
    by_cases z : b = d
    · rw [z, upd_same]
      rw [z, hd] at e
      exact e
    · rw [upd_ne z]
      refine g5 b o z (fun z2 => ?_) e
      rw [z2, hdl] at e
      cases e
  have k1 : H3 dl = some (DictN P w dl zs) := by rw [← hH3, upd_ne ndd]; exact g1
  have k2 : RowsN H3 zs := g2.keep fun b ys e => by
    rw [← hH3, upd_ne (fun z => by rw [z, g4] at e; cases e)]
    exact e
  rw [List.take_of_length_le (by omega)] at g3
  refine ⟨_, rfl, _, rfl, _, rfl, _, rfl, _, rfl, _, rfl, g, rfl, ⟨_, SqL.of (S3 _ _ hg)⟩, fun D hD => ?_⟩
  have hgn := hok.gn
  have hg6 := hok.g6
  refine lc_list (xs := J.good.map nI) (fun i H2 => H2 D = some (.lst (((J.good.map (pnt ns)).take i).map nI)) ∧ Same H3 H2) ⟨upd_same, same_new hD⟩ (fun i H2 _ ⟨_, s⟩ => SqL.of (s _ _ (S3 _ _ hg))) ?_ ?_
  · rintro i x H4 hx ⟨g1, g2⟩
    rw [List.getElem?_map] at hx
    cases hb : J.good[i]? with
    | none => rw [hb] at hx; cases hx
    | some s0 =>
    rw [hb] at hx
    cases hx
    have hs0 := hgn _ (List.mem_of_getElem? hb)
    refine ⟨rfl, _, rfl, _, rfl, p, _, (s0 : Int), _, rfl, rfl, SqL.of (g2 _ _ (S3 _ _ hp)), atI_nat (show _ = some (nI (pnt ns s0)) by rw [List.getElem?_map, pnt_at (by omega)]; rfl), _, g1, ?_, ?_, same_add g2 hD⟩
    · rw [List.length_map, List.length_take, List.length_map]
      exact Nat.lt_of_le_of_lt (show _ ≤ 1000000 by omega) (by decide)
    · rw [take_succ_of (show (J.good.map (pnt ns))[i]? = some (pnt ns s0) by rw [List.getElem?_map, hb]; rfl), List.map_append, upd_same]
      rfl
  rintro H4 ⟨m1, m2⟩
  rw [List.length_map, List.take_of_length_le (by rw [List.length_map]; omega)] at m1
  refine ⟨D, (J.good.map (pnt ns)).map fun n : Nat => (n : Int), rfl, SqL.of (by rw [List.map_map]; exact m1), fun ns' l pe po hl => ?_⟩
  obtain ⟨g2', rfl, pg⟩ := cast_perm pe
  rw [List.map_map]
  have sl := same_new (o := .lst (g2'.map nI)) hl
  refine ⟨(by show 6 ≤ sizeLine; decide), fun p2 hp2 => ?_⟩
  have sp := same_new (o := .tup [.str L2, nI J.n, nI J.few, nI J.turn, .ref dl, .ref l]) hp2
  have S := (m2.trans sl).trans sp
  exact q _ g2' _ (S3.trans S) ⟨p2, dl, l, zs, _, rfl, upd_same, S _ _ k1, k2.keep fun b ys e => S _ _ e, g3, R.keys hper, sp _ _ upd_same⟩ pg
end


def alph : Str := Str.ofString "abcdefghijklmnopqrstuvwxyz"
theorem alph_list : alph.cps.toList = List.range' 97 26 := by decide +kernel
theorem alph_cut {k : Nat} (h1 : 1 ≤ k) (h : k ≤ 26) : (cutS alph (some ((26 : Int) - (k : Int))) none).length = k ∧ Lets (cutS alph (some ((26 : Int) - (k : Int))) none) ∧ Rises (cutS alph (some ((26 : Int) - (k : Int))) none) := by
  have e : cutS alph (some ((26 : Int) - (k : Int))) none = ⟨((List.range' 97 26).drop (26 - k)).toArray⟩ := by
    unfold cutS
    rw [alph_list]
    have l26 : alph.length = 26 := by decide +kernel
    have e1 : HT.sIx alph.length 0 (some ((26 : Int) - (k : Int))) = 26 - k := by
      rw [l26]
      simp only [HT.sIx]
      split <;> omega
    have e2 : HT.sIx alph.length alph.length none = 26 := by rw [l26]; rfl
    rw [e1, e2]
    rw [List.take_of_length_le (by simp)]
  rw [e]
  refine ⟨?_, ⟨?_, ?_, fun c hc => ?_⟩, ?_⟩
  · show ((List.range' 97 26).drop (26 - k)).toArray.size = k
    simp
    omega
  · show 1 ≤ ((List.range' 97 26).drop (26 - k)).toArray.size
    simp
    omega
  · show ((List.range' 97 26).drop (26 - k)).toArray.size ≤ 26
    simp
  · have := List.mem_of_mem_drop (by simpa using hc : c ∈ (List.range' 97 26).drop (26 - k))
    simp [List.mem_range'] at this
    omega
  · show (((List.range' 97 26).drop (26 - k)).toArray.toList).Pairwise (· < ·)
    exact List.Pairwise.sublist (List.drop_sublist _ _) (by decide +kernel : (List.range' 97 26).Pairwise (· < ·))
def kv2 (π : Nat → Nat) (us : List (Nat × V × Tr)) : List (Key × V) := us.map fun u => (Sum.inl (π u.1 : Int), nI u.2.2.size)
theorem valV_of : ∀ {kvs : List (Key × V)} {k : Key} {v : V}, (kvs.map (·.1)).Nodup → (k, v) ∈ kvs → valV kvs k = some v
  | [], _, _, _, h => by cases h
  | p :: r, k, v, nd, h => by
    rw [List.map_cons, List.nodup_cons] at nd
    rcases List.mem_cons.mp h with h | h
    · rw [← h]; exact valV_pos rfl
    · rw [valV_neg fun e => nd.1 (List.mem_map.mpr ⟨_, h, e.symm⟩)]
      exact valV_of nd.2 h
theorem kv2_nd {π : Nat → Nat} {us : List (Nat × V × Tr)} (nd : ((us.map (·.1)).map π).Nodup) : ((kv2 π us).map (·.1)).Nodup := by
  unfold kv2
  rw [List.map_map]
  have e : us.map ((·.1) ∘ fun u : Nat × V × Tr => ((Sum.inl (π u.1 : Int) : Key), nI u.2.2.size)) = ((us.map (·.1)).map π).map fun n : Nat => (Sum.inl (n : Int) : Key) := by rw [List.map_map, List.map_map]; rfl
  rw [e]
  refine List.pairwise_map.mpr (nd.imp fun {a b} h e => h ?_)
  injection e with e
  exact Int.ofNat.inj e
theorem dict_same {us us2 : List (Nat × V × Tr)} {π : Nat → Nat} (nd2 : (us2.map (·.1)).Nodup) (nd : ((us.map (·.1)).map π).Nodup) (mem : ∀ a, a ∈ us2.map (·.1) ↔ a ∈ (us.map (·.1)).map π)
    (sz : ∀ u2 ∈ us2, ∀ u ∈ us, π u.1 = u2.1 → u2.2.2.size = u.2.2.size) : (szL us2).length = (kv2 π us).length ∧ ∀ p ∈ szL us2, valV (kv2 π us) p.1 = some p.2 ∧ flatB p.2 = true := by
  refine ⟨?_, fun p hp => ?_⟩
  · have := (perm_nodup nd2 nd mem).length_eq
    simpa [szL, kv2] using this
  · obtain ⟨u2, h2, rfl⟩ := List.mem_map.mp hp
    have := (mem u2.1).mp (List.mem_map.mpr ⟨u2, h2, rfl⟩)
    obtain ⟨s, hs, e⟩ := List.mem_map.mp this
    obtain ⟨u, hu, rfl⟩ := List.mem_map.mp hs
    refine ⟨valV_of (kv2_nd nd) (List.mem_map.mpr ⟨u, hu, ?_⟩), rfl⟩
    show (Sum.inl (π u.1 : Int), nI u.2.2.size) = (Sum.inl (u2.1 : Int), nI u2.2.2.size)
    rw [e, sz u2 h2 u hu e]
theorem ComeL.nd {J : JD} {S : List Nat} (h : ComeL J S) : S.Nodup := h.1.imp fun h => Nat.ne_of_lt h
section
variable {J J2 : JD} {f π : Nat → Nat}
theorem Iso.nd (I : Iso J J2 f π) (hok : J.ok) {S : List Nat} (h : ComeL J S) : (S.map π).Nodup := by
  refine List.pairwise_map.mpr (h.nd.imp_of_mem fun {a b} ha hb hne e => hne ?_)
  exact I.pi a b (((h.2 a).mp ha).lt hok) (((h.2 b).mp hb).lt hok) e
theorem Iso.mem (I : Iso J J2 f π) (hok : J.ok) {S S2 : List Nat} (h : ComeL J S) (h2 : ComeL J2 S2) (a : Nat) : a ∈ S2 ↔ a ∈ S.map π := by
  rw [h2.2 a, I.comes hok a, List.mem_map]
  exact ⟨fun ⟨s, h3, h4⟩ => ⟨s, (h.2 s).mpr h3, h4⟩, fun ⟨s, h3, h4⟩ => ⟨s, (h.2 s).mp h3, h4⟩⟩
theorem Iso.good (I : Iso J J2 f π) (hok : J.ok) (hg : J2.good.Perm (J.good.map π)) : (∃ s ∈ J2.good, Comes J2 s) ↔ ∃ s ∈ J.good, Comes J s := by
  constructor
  · rintro ⟨s2, h1, h2⟩
    obtain ⟨s, h3, rfl⟩ := List.mem_map.mp (hg.mem_iff.mp h1)
    obtain ⟨t, h4, h5⟩ := (I.comes hok _).mp h2
    have := I.pi t s (h4.lt hok) (hok.gn s h3) h5
    subst this
    exact ⟨t, h3, h4⟩
  · rintro ⟨s, h1, h2⟩
    exact ⟨π s, hg.mem_iff.mpr (List.mem_map.mpr ⟨s, h1, rfl⟩), (I.comes hok _).mpr ⟨s, h2, rfl⟩⟩
end
def In31 (P : Program) (w : World) (P1 : Addr) (q1 : Str) (H : Hp) (J J2 : JD) (v v2 : V) (p rs : Addr) (ns : List Nat) (us : List (Nat × V × Tr)) (H' : Hp) : Prop :=
  JAt P w H' v J ∧ JAt P w H' v2 J2 ∧ H' p = some (.lst (ns.map nI)) ∧ H' rs = some (.dK (szL us)) ∧ LamX.TabS H' P1 q1 ∧ Fr P1 H H'
theorem tab_ext {P1 : Addr} {q1 : Str} {H H' : Hp} (t : LamX.TabS H P1 q1) (f : Fr P1 H H') : LamX.ExtN H H' := fun b o e n => f b o (fun z => by
  obtain ⟨ps, h1, _⟩ := t
  rw [z, h1] at e
  cases e
  exact n _ rfl) e
section
variable {P : Program} {w : World} {P1 : Addr} {q1 : Str} {H H1 H2 : Hp} {J J2 : JD} {v v2 : V} {p rs : Addr} {ns : List Nat} {us : List (Nat × V × Tr)}
theorem In31.fr (x : In31 P w P1 q1 H J J2 v v2 p rs ns us H1) (f : Fr P1 H1 H2) (t : LamX.TabS H2 P1 q1) : In31 P w P1 q1 H J J2 v v2 p rs ns us H2 := by
  obtain ⟨a, b, c, d, e, g⟩ := x
  have E := tab_ext e f
  exact ⟨a.extN E, b.extN E, E _ _ c (fun _ z => by cases z), E _ _ d (fun _ z => by cases z), t, g.trans f⟩
theorem In31.same (x : In31 P w P1 q1 H J J2 v v2 p rs ns us H1) (f : Same H1 H2) : In31 P w P1 q1 H J J2 v v2 p rs ns us H2 := x.fr (.same f) (x.2.2.2.2.1.ext f)
end

def sp__law_right (P : Program) (w : World) (P1 : Addr) (q1 : Str) : Sp := fun vs H Q _ => ∃ (v : V) (J : JD) (p : Addr) (ns : List Nat), vs = [v, .ref p] ∧ JAt P w H v J ∧ J.ok ∧ Rises J.L ∧ IxF J.L ∧ J.n ≤ 5 ∧ ns.Perm (List.range J.n) ∧ H p = some (.lst (ns.map nI)) ∧ LamX.TabS H P1 q1 ∧ ∀ H', Fr P1 H H' → LamX.TabS H' P1 q1 → Q (.bl true) H'
section
variable {P : Program} {w : World} {K : PySem.W.Frag} {mg : Str → Option Value} {base : Heap}
theorem ok__law_right (T : Txt K mg) (B : Tbs T base) : FnOk P w K mg base CX0 13 T.f__law_right T.d__law_right ["judge", "numbers"] (sp__law_right P w T.P__joined q__joined) := by
  have G__law_renumbered : FnOk P w K mg base CX0 1 T.f__law_renumbered T.d__law_renumbered ["judge", "numbers", "letters"] (sp__law_renumbered P w) := ok__law_renumbered T
  have G__law_sizes : FnOk P w K mg base CX0 12 T.f__law_sizes T.d__law_sizes ["judge"] (sp__law_sizes P w T.P__joined q__joined) := ok__law_sizes T B
  have G_states_that_come : FnOk P w K mg base CX0 4 T.f_states_that_come T.d_states_that_come ["judge"] (sp_states_that_come P w) := ok_states_that_come T
  have G_none_paper : FnOk P w K mg base CX0 5 T.f_none_paper T.d_none_paper ["judge"] (sp_none_paper P w) := ok_none_paper T
  have G_none_shows : FnOk P w K mg base CX0 4 T.f_none_shows T.d_none_shows ["judge", "paper"] (sp_none_shows P w) := ok_none_shows T
  have G__law_room : FnOk P w K mg base CX0 1 T.f__law_room T.d__law_room ["letters", "states", "many"] sp__law_room := ok__law_room T
  have G__law_widened : FnOk P w K mg base CX0 1 T.f__law_widened T.d__law_widened ["judge"] (sp__law_widened P w) := ok__law_widened T
  refine T.F__law_right.ok sc__law_right (fun vs H Q E h => ?_) (fun cdv A outer s H vs Q E hr h => ?_)
  · obtain ⟨v, J, p, ns, rfl, _⟩ := h
    rfl
  obtain ⟨v, J, p, ns, rfl, hJ, hok, hri, hix, n5, hp, kp, hT, q⟩ := h
  generalize hP1 : T.P__joined = P1 at *
  have t1 := hok.t1
  have t4 := hok.t4
  have f4 := hok.f4
  obtain ⟨l1, l26, _⟩ := id hok.L
  obtain ⟨j, d, g, xs, keys, rfl, hj, _⟩ := id hJ
  obtain ⟨c1, c2, c3⟩ := alph_cut l1 l26
  have R : Ren J ns (cutS alph (some ((26 : Int) - (J.L.length : Int))) none) := ⟨hp, c1, c2, hri, c3⟩
  generalize hL2 : cutS alph (some ((26 : Int) - (J.L.length : Int))) none = Lb at *
  have lns := num_len hp
  refine ⟨_, (pss_cons (ps_set (i := 2) sc__law_right.nd rfl (Or.inl rfl) (pe_call G__law_renumbered (hr.mono (by omega)) (by rfl) T.m__law_renumbered T.F__law_renumbered.kp T.b__law_renumbered .nil pass0 (pa_cons (pv 0) (pa_cons (pv 1) (pa_cons (pe_slice sl_str pe_str (po_some (pe_op op_sub pe_int (pe_callB call_len_str (by rfl) T.z_len PySem.boot_len (pa_cons (pe_ix ix_tup (pv 0) pe_int (fun _ _ => rfl)) pa_nil)))) po_none) pa_nil))))) (pss_cons (ps_set (i := 3) sc__law_right.nd rfl (Or.inr rfl) (pe_call G__law_sizes (hr.mono (by omega)) (by rfl) T.m__law_sizes T.F__law_sizes.kp T.b__law_sizes .nil pass0 (pa_cons (pv 0) pa_nil))) (C8.pss_cut (ps_if (pt_cmpR (op_neD hr.units) (pe_call G_states_that_come (hr.mono (by omega)) (by rfl) T.m_states_that_come T.F_states_that_come.kp T.b_states_that_come .nil pass0 (pa_cons (pv 2) pa_nil)) (pe_callB cr_sortedI (by rfl) T.z_sorted (by decide +kernel) (pa_cons (pe_lc (own := [("state", 6)]) (g := gName 6) (te := tOp (rIxL K) (tVar 1) (tVar 6)) (tt := tYes) rfl sc__law_right.nd (pi_list (pe_call G_states_that_come (hr.mono (by omega)) (by rfl) T.m_states_that_come T.F_states_that_come.kp T.b_states_that_come .nil pass0 (pa_cons (pv 0) pa_nil))) (blkOk_by (own := [("state", 6)]) (N := ["judge", "numbers", "other", "sizes", "paper", "wide", "state"]) (sc := (defScope s__law_right)) (by decide +kernel)) (fun _ _ _ _ _ => (pg_name (i := 6) sc__law_right.nd rfl (Or.inl rfl))) (fun _ _ _ _ _ => pts_nil) (fun _ _ _ _ _ => (pe_ix ix_list (pv 1) (pv 6) (fun _ _ => rfl)))) pa_nil)) (nomark _)) (pss_one (ps_ret pe_bl)) pss_nil) (C8.pss_cut (ps_if (pt_cmpR (op_ne_dictA (Nat.lt_of_succ_lt (hu_of hr))) (pe_call G__law_sizes (hr.mono (by omega)) (by rfl) T.m__law_sizes T.F__law_sizes.kp T.b__law_sizes .nil pass0 (pa_cons (pv 2) pa_nil)) (pe_callTy (L2.call_dictP rfl) (by rfl) T.z_dict (by decide +kernel) (pa_cons (pe_lock (pe_lc (own := [("state", 6)]) (g := gName 6) (te := tTup (tCons (tOp (rIxL K) (tVar 1) (tVar 6)) (tCons (tDGet (tVar 3) (tVar 6)) tNil))) (tt := tYes) rfl sc__law_right.nd (pi_keys (pv 3)) (blkOk_by (own := [("state", 6)]) (N := ["judge", "numbers", "other", "sizes", "paper", "wide", "state"]) (sc := (defScope s__law_right)) (by decide +kernel)) (fun _ _ _ _ _ => (pg_name (i := 6) sc__law_right.nd rfl (Or.inl rfl))) (fun _ _ _ _ _ => pts_nil) (fun _ _ _ _ _ => (pe_tup (pa_cons (pe_ix ix_list (pv 1) (pv 6) (fun _ _ => rfl)) (pa_cons (pe_dget (hu_of hr) (pv 3) (pv 6) (fun _ _ => rfl)) pa_nil)))))) pa_nil)) (nomark _)) (pss_one (ps_ret pe_bl)) pss_nil) (C8.pss_cut (ps_set (i := 4) sc__law_right.nd rfl (Or.inl rfl) (pe_call G_none_paper (hr.mono (by omega)) (by rfl) T.m_none_paper T.F_none_paper.kp T.b_none_paper .nil pass0 (pa_cons (pv 0) pa_nil))) (C8.pss_cut (ps_if (pt_cmpR op_ne (pe_cmpR op_isN (pe_call G_none_paper (hr.mono (by omega)) (by rfl) T.m_none_paper T.F_none_paper.kp T.b_none_paper .nil pass0 (pa_cons (pv 2) pa_nil)) pe_non (nomark _)) (pe_cmpR op_isN (pv 4) pe_non (nomark _)) (nomark _)) (pss_one (ps_ret pe_bl)) pss_nil) (C8.pss_cut (ps_if (PW.pt (pw_and (pt_cmpR op_notN (pv 4) pe_non (nomark _)) (pw_and1 (pt_cmpR op_notBl (pe_call G_none_shows (hr.mono (by omega)) (by rfl) T.m_none_shows T.F_none_shows.kp T.b_none_shows .nil pass0 (pa_cons (pv 2) (pa_cons (pe_callB cr_sortedI (by rfl) T.z_sorted (by decide +kernel) (pa_cons (pe_lc (own := [("state", 6)]) (g := gName 6) (te := tOp (rIxL K) (tVar 1) (tVar 6)) (tt := tYes) rfl sc__law_right.nd (pi_list (pv 4)) (blkOk_by (own := [("state", 6)]) (N := ["judge", "numbers", "other", "sizes", "paper", "wide", "state"]) (sc := (defScope s__law_right)) (by decide +kernel)) (fun _ _ _ _ _ => (pg_name (i := 6) sc__law_right.nd rfl (Or.inl rfl))) (fun _ _ _ _ _ => pts_nil) (fun _ _ _ _ _ => (pe_ix ix_list (pv 1) (pv 6) (fun _ _ => rfl)))) pa_nil)) pa_nil))) pe_bl (nomark _))))) (pss_one (ps_ret pe_bl)) pss_nil) (pss_cons (ps_if (pt_cmpR op_gt (pe_call G__law_room (hr.mono (by omega)) (by rfl) T.m__law_room T.F__law_room.kp T.b__law_room .nil pass0 (pa_cons (pe_ix ix_tup (pv 0) pe_int (fun _ _ => rfl)) (pa_cons (pe_op op_add (pe_ix ix_tup (pv 0) pe_int (fun _ _ => rfl)) pe_int) (pa_cons (pe_op op_add (pe_ix ix_tup (pv 0) pe_int (fun _ _ => rfl)) (pe_ix ix_tup (pv 0) pe_int (fun _ _ => rfl))) pa_nil)))) pe_int (nomark _)) (pss_one (ps_ret pe_bl)) pss_nil) (pss_cons (ps_set (i := 5) sc__law_right.nd rfl (Or.inl rfl) (pe_call G__law_widened (hr.mono (by omega)) (by rfl) T.m__law_widened T.F__law_widened.kp T.b__law_widened .nil pass0 (pa_cons (pv 0) pa_nil))) (pss_one (ps_ret (pe_and (pe_cmpR (op_eqD hr.units) (pe_call G_states_that_come (hr.mono (by omega)) (by rfl) T.m_states_that_come T.F_states_that_come.kp T.b_states_that_come .nil pass0 (pa_cons (pv 5) pa_nil)) (pe_call G_states_that_come (hr.mono (by omega)) (by rfl) T.m_states_that_come T.F_states_that_come.kp T.b_states_that_come .nil pass0 (pa_cons (pv 0) pa_nil)) (nomark _)) (pe_one (pe_cmpR (op_eq_dictA (Nat.lt_of_succ_lt (hu_of hr))) (pe_call G__law_sizes (hr.mono (by omega)) (by rfl) T.m__law_sizes T.F__law_sizes.kp T.b__law_sizes .nil pass0 (pa_cons (pv 5) pa_nil)) (pv 3) (nomark _))))))))))))))), ?_⟩
  have n6 := hok.n6
  have eAl : alph.length = 26 := by decide +kernel
  refine ⟨_, rfl, _, rfl, _, rfl, j, _, 0, _, rfl, rfl, SqT.of hj, atI_nat (j := 0) rfl, J.L, rfl, Nat.le_trans l26 (by decide), _, _, rfl, rfl, _, rfl, alph, rfl, by rw [eAl]; decide, .ref j, J, p, ns, Lb, by rw [← hL2]; rfl, hJ, hok, R, hix, kp, fun v2 g2 H1 s1 hJ2 pg => ?_⟩
  have I := R.iso (g2 := g2)
  have ok2 : (renJ J ns Lb g2).ok := R.ok hok (by rw [pg.length_eq, List.length_map]; exact hok.g6) fun g hg => by
    obtain ⟨s, hs, rfl⟩ := List.mem_map.mp (pg.mem_iff.mp hg)
    exact pnt_lt hp (hok.gn s hs)
  have I2 : (renJ J ns Lb g2).good.Perm (J.good.map (pnt ns)) := pg
  generalize renJ J ns Lb g2 = J2 at *
  refine ⟨_, rfl, .ref j, J, rfl, hJ.same s1, hok, hT.ext s1, fun rs us H2 f2 tb2 rs0 krs hcl hle => ?_⟩
  have X : In31 P w P1 q__joined H J J2 (.ref j) v2 p rs ns us H2 := by
    have X1 := (hJ.same s1)
    have E := tab_ext (hT.ext s1) f2
    exact ⟨X1.extN E, hJ2.extN E, E _ _ (s1 _ _ kp) (fun _ z => by cases z), krs, tb2, (Fr.same s1).trans f2⟩
  have nd := hcl.nd
  have lus : us.length ≤ 6 := by
    have := rise_len hcl.1 (hcl.lt hok)
    rw [List.length_map] at this
    omega
  clear hJ hJ2 hT kp f2 tb2 s1 krs rs0
  refine ⟨fun σ' H' => In31 P w P1 q__joined H J J2 (.ref j) v2 p rs ns us H' ∧ σ' = [some (.ref j), some (.ref p), some v2, some (.ref rs), none, none, none], ?_, ?_⟩
  · refine ⟨_, rfl, v2, J2, rfl, X.2.1, ok2, fun r S2 H3 s3 r0 kr hS2 => ?_⟩
    have X3 := X.same s3
    refine ⟨_, rfl, .ref j, J, rfl, X3.1, hok, fun r4 S H4 s4 r40 kr4 hS => ⟨r4, rfl, ⟨_, SqL.of kr4⟩, fun D hD => ?_⟩⟩
    have X4 := X3.same s4
    have kp4 := X4.2.2.1
    have lS : S.length ≤ 6 := by have := rise_len hS.1 (hS.lt hok); omega
    clear X X3
    refine lc_list (xs := S.map nI) (fun i H' => H' D = some (.lst (((S.map (pnt ns)).take i).map nI)) ∧ Same H4 H') ⟨upd_same, same_new hD⟩ (fun i H' _ ⟨_, s⟩ => SqL.of (s _ _ kr4)) ?_ ?_
    · rintro i x H' hx ⟨g1, g2⟩
      rw [List.getElem?_map] at hx
      cases hb : S[i]? with
      | none => rw [hb] at hx; cases hx
      | some s0 =>
      rw [hb] at hx
      cases hx
      have hs0 := ((hS.2 _).mp (List.mem_of_getElem? hb)).lt hok
      have hl := (List.getElem?_eq_some_iff.mp hb).1
      refine ⟨rfl, _, rfl, _, rfl, p, _, (s0 : Int), _, rfl, rfl, SqL.of (g2 _ _ kp4), atI_nat (show _ = some (nI (pnt ns s0)) by rw [List.getElem?_map, pnt_at (by omega)]; rfl), _, g1, ?_, ?_, same_add g2 hD⟩
      · rw [List.length_map, List.length_take, List.length_map]
        exact Nat.lt_of_le_of_lt (show _ ≤ 1000000 by omega) (by decide)
      · rw [take_succ_of (show (S.map (pnt ns))[i]? = some (pnt ns s0) by rw [List.getElem?_map, hb]; rfl), List.map_append, upd_same]
        rfl
    rintro H' ⟨m1, m2⟩
    rw [List.length_map, List.take_of_length_le (by rw [List.length_map]; omega)] at m1
    refine ⟨D, (S.map (pnt ns)).map fun n : Nat => (n : Int), rfl, SqL.of (by rw [← nI_map]; exact m1), fun ns' l pe po hl => ?_⟩
    obtain ⟨S', rfl, pS, rS⟩ := rise_of pe po (I.nd hok hS)
    have sl := same_new hl (o := .lst ((S'.map fun n : Nat => (n : Int)).map V.int))
    have kl := upd_same (H := H') (a := l) (o := .lst ((S'.map fun n : Nat => (n : Int)).map V.int))
    generalize upd H' l (.lst ((S'.map fun n : Nat => (n : Int)).map V.int)) = Hl at *
    have eS : S2 = S' := rises_eq hS2.1 rS fun a => (I.mem hok hS hS2 a).trans pS.mem_iff.symm
    subst eS
    have kr5 := sl _ _ (m2 _ _ (s4 _ _ kr))
    rw [nI_map] at kr5
    refine ⟨_, _, dp_intsL (SqL.of kr5), dp_intsL (SqL.of kl), shaped_ints _, shaped_ints _, _, rfl, ?_⟩
    rw [eqv_self (shaped_ints _)]
    exact iteF ⟨(X4.same m2).same sl, rfl⟩
  rintro σ' H3 ⟨X3, rfl⟩
  clear X
  refine ⟨fun σ' H' => In31 P w P1 q__joined H J J2 (.ref j) v2 p rs ns us H' ∧ σ' = [some (.ref j), some (.ref p), some v2, some (.ref rs), none, none, none], ?_, ?_⟩
  · refine ⟨_, rfl, v2, J2, rfl, X3.2.1, ok2, X3.2.2.2.2.1, fun r2 us2 H4 f4 tb4 r20 kr2 hcl2 hle2 => ?_⟩
    have X4 := X3.fr f4 tb4
    have krs4 := X4.2.2.2.1
    have kp4 := X4.2.2.1
    clear X3 f4 tb4 r20
    have nr2 : r2 ≠ p := fun e => by rw [e, kp4] at kr2; cases kr2
    refine ⟨rs, _, krs4, trivial, fun od => ?_⟩
    refine ⟨_, rfl, rs, od, rfl, .inl ⟨szL us, upd_same, fun D hD => ?_⟩⟩
    have hD : upd H4 rs (.frz od (.dK (szL us))) D = none := hD
    have nDr : D ≠ rs := fun e => by rw [e, upd_same] at hD; cases hD
    have hD1 : H4 D = none := by rw [upd_ne nDr] at hD; exact hD
    have nps : p ≠ rs := fun e => by rw [e, krs4] at kp4; cases kp4
    have kpf : upd H4 rs (.frz od (.dK (szL us))) p = some (.lst (ns.map nI)) := by rw [upd_ne nps]; exact kp4
    refine lc_walk (len := (szL us).length) walk_keys (fun i H' => (∃ bs : List Addr, H' D = some (.lst (bs.map V.ref)) ∧ Paired (fun (b : Addr) (u : Nat × V × Tr) => H' b = some (.tup [nI (pnt ns u.1), nI u.2.2.size])) bs (us.take i)) ∧ H' rs = some (.frz od (.dK (szL us))) ∧ Same (upd H4 rs (.frz od (.dK (szL us)))) H') ⟨⟨[], upd_same, .nil⟩, by rw [upd_ne nDr.symm, upd_same], same_new hD⟩ (fun i H' _ h => h.2.1) ?_ ?_
    · rintro i x H5 H6 hi ⟨⟨bs, g0, g1⟩, g2, g3⟩ ⟨rfl, k, vv, hk, rfl⟩
      unfold szL at hk
      rw [List.getElem?_map] at hk
      cases hu : us[i]? with
      | none => rw [hu] at hk; cases hk
      | some u =>
      rw [hu] at hk
      cases hk
      have hum := List.mem_of_getElem? hu
      have hv : valV (szL us) (Sum.inl (u.1 : Int)) = some (nI u.2.2.size) := by
        have := kv2_nd (π := id) (us := us) (by rw [List.map_id]; exact nd)
        exact valV_of this (List.mem_map.mpr ⟨u, hum, rfl⟩)
      have hs0 := ((hcl.2 _).mp (List.mem_map.mpr ⟨u, hum, rfl⟩)).lt hok
      have lb := Paired.length g1
      rw [List.length_take] at lb
      refine ⟨rfl, _, rfl, _, rfl, p, _, (u.1 : Int), _, rfl, rfl, SqL.of (g3 _ _ kpf), atI_nat (show _ = some (nI (pnt ns u.1)) by rw [List.getElem?_map, pnt_at (by omega)]; rfl), _, rfl, _, rfl, rs, nI u.2.2.size, rfl, .inl ⟨szL us, Sum.inl (u.1 : Int), .inr ⟨od, g2⟩, rfl, hv.symm⟩, (by show 2 ≤ sizeLine; decide), fun q2 hq2 => ?_⟩
      have s7 := same_new hq2 (o := .tup [nI (pnt ns u.1), nI u.2.2.size])
      have k7 := upd_same (H := H6) (a := q2) (o := .tup [nI (pnt ns u.1), nI u.2.2.size])
      have kD7 := s7 _ _ g0
      have tk := upd_tup (o := .lst (bs.map V.ref ++ [V.ref q2])) kD7
      refine ⟨_, kD7, ?_, ⟨bs ++ [q2], by rw [upd_same, List.map_append]; rfl, ?_⟩, by rw [upd_ne nDr.symm]; exact s7 _ _ g2, same_add (g3.trans s7) hD⟩
      · rw [List.length_map]
        exact Nat.lt_of_le_of_lt (show _ ≤ 1000000 by omega) (by decide)
      · rw [take_succ_of hu]
        exact prd_app (Paired.mapP g1 fun _ _ e => tk _ _ (s7 _ _ e)) (.cons (tk _ _ k7) .nil)
    rintro H5 ⟨⟨bs, g0, g1⟩, g2, g3⟩
    rw [show us.take (szL us).length = us from List.take_of_length_le (by unfold szL; rw [List.length_map]; exact Nat.le_refl _)] at g1
    refine ⟨g2, ?_⟩
    have S5 : Same H4 (upd H5 rs (.dK (szL us))) := fun b o e => by
      by_cases hb : b = rs
      · rw [hb, upd_same, ← e, hb]; exact krs4.symm
      · rw [upd_ne hb]; exact g3 b o (by rw [upd_ne hb]; exact e)
    have kD5 : (upd H5 rs (.dK (szL us))) D = some (.lst (bs.map V.ref)) := by rw [upd_ne nDr]; exact g0
    have tup5 : ∀ b ys, H5 b = some (.tup ys) → (upd H5 rs (.dK (szL us))) b = some (.tup ys) := fun b ys e => by
      rw [upd_ne (fun z => by rw [z, g2] at e; cases e)]
      exact e
    refine ⟨D, bs, kv2 (pnt ns) us, rfl, SqL.of kD5, ?_, fun p2 hp2 => ?_⟩
    · have go : ∀ (bs : List Addr) (l : List (Nat × V × Tr)), Paired (fun (b : Addr) (u : Nat × V × Tr) => H5 b = some (.tup [nI (pnt ns u.1), nI u.2.2.size])) bs l → Paired (fun (p : Addr) (kv : Key × V) => SqT K (upd H5 rs (.dK (szL us))) p [kV kv.1, kv.2]) bs (kv2 (pnt ns) l) := by
        intro bs l h
        induction h with
        | nil => exact .nil
        | cons a b ih => exact .cons (SqT.of (tup5 _ _ a)) ih
      exact go bs us g1
    have em : mergeK [] (kv2 (pnt ns) us) = kv2 (pnt ns) us := by
      have := mergeK_new (kv2 (pnt ns) us) [] (by rw [List.nil_append]; exact kv2_nd (I.nd hok hcl))
      simpa using this
    rw [em]
    have s6 := same_new hp2 (o := .dK (kv2 (pnt ns) us))
    have k6 := upd_same (H := upd H5 rs (.dK (szL us))) (a := p2) (o := .dK (kv2 (pnt ns) us))
    generalize upd (upd H5 rs (.dK (szL us))) p2 (.dK (kv2 (pnt ns) us)) = H6 at *
    obtain ⟨d1, d2⟩ := dict_same (π := pnt ns) hcl2.nd (I.nd hok hcl) (I.mem hok hcl hcl2) fun u2 h2 u hu e => I.least hok (hle u hu) (by rw [e]; exact hle2 u2 h2)
    refine ⟨_, _, _, _, rfl, rfl, s6 _ _ (S5 _ _ kr2), k6, d1, d2, _, rfl, ?_⟩
    exact iteF ⟨(X4.same S5).same s6, rfl⟩
  rintro σ' H4 ⟨X4, rfl⟩
  clear X3
  refine ⟨fun σ' H' => In31 P w P1 q__joined H J J2 (.ref j) v2 p rs ns us H' ∧ ∃ v4, σ' = [some (.ref j), some (.ref p), some v2, some (.ref rs), some v4, none, none] ∧ ((v4 = .non ∧ ∃ s ∈ J.good, Comes J s) ∨ ∃ r4 S4, v4 = .ref r4 ∧ H' r4 = some (.lst (S4.map nI)) ∧ ComeL J S4 ∧ ∀ s ∈ J.good, ¬ Comes J s), ?_, ?_⟩
  · exact ⟨_, rfl, .ref j, J, rfl, X4.1, hok, fun H' s' hg => ⟨X4.same s', _, rfl, .inl ⟨rfl, hg⟩⟩, fun r S H' s' r0 kr hS hn => ⟨X4.same s', _, rfl, .inr ⟨r, S, rfl, kr, hS, hn⟩⟩⟩
  rintro σ' H5 ⟨X5, v4, rfl, c5⟩
  clear X4
  refine ⟨fun σ' H' => In31 P w P1 q__joined H J J2 (.ref j) v2 p rs ns us H' ∧ σ' = [some (.ref j), some (.ref p), some v2, some (.ref rs), some v4, none, none] ∧ ((v4 = .non ∧ ∃ s ∈ J.good, Comes J s) ∨ ∃ r4 S4, v4 = .ref r4 ∧ H' r4 = some (.lst (S4.map nI)) ∧ ComeL J S4 ∧ ∀ s ∈ J.good, ¬ Comes J s), ?_, ?_⟩
  · have hgd := I.good hok I2
    refine ⟨_, rfl, v2, J2, rfl, X5.2.1, ok2, fun H' s' hg => ?_, fun r S H' s' r0 kr hS hn => ?_⟩
    · rcases c5 with ⟨rfl, c5⟩ | ⟨r4, S4, rfl, _, _, hn4⟩
      · exact ⟨rfl, _, rfl, rfl, rfl, _, rfl, iteF ⟨X5.same s', rfl, .inl ⟨rfl, c5⟩⟩⟩
      · obtain ⟨s, h1, h2⟩ := hgd.mp hg
        exact absurd h2 (hn4 s h1)
    · rcases c5 with ⟨rfl, c5⟩ | ⟨r4, S4, rfl, kr4, hS4, hn4⟩
      · obtain ⟨s, h1, h2⟩ := hgd.mpr c5
        exact absurd h2 (hn s h1)
      · exact ⟨rfl, _, rfl, rfl, rfl, _, rfl, iteF ⟨X5.same s', rfl, .inr ⟨r4, S4, rfl, s' _ _ kr4, hS4, hn4⟩⟩⟩
  rintro σ' H6 ⟨X6, rfl, c6⟩
  clear X5 c5
  refine ⟨fun σ' H' => In31 P w P1 q__joined H J J2 (.ref j) v2 p rs ns us H' ∧ σ' = [some (.ref j), some (.ref p), some v2, some (.ref rs), some v4, none, none], ?_, ?_⟩
  · rcases c6 with ⟨rfl, c6⟩ | ⟨r4, S, rfl, kr4, hS, hn⟩
    · exact ⟨_, rfl, rfl, _, rfl, iteF (iteF ⟨X6, rfl⟩)⟩
    · refine ⟨_, rfl, rfl, _, rfl, iteT ?_⟩
      have hgd := I.good hok I2
      have kp4 := X6.2.2.1
      have lS : S.length ≤ 6 := by have := rise_len hS.1 (hS.lt hok); omega
      refine ⟨_, rfl, _, rfl, r4, rfl, ⟨_, SqL.of kr4⟩, fun D hD => ?_⟩
      refine lc_list (xs := S.map nI) (fun i H' => H' D = some (.lst (((S.map (pnt ns)).take i).map nI)) ∧ Same H6 H') ⟨upd_same, same_new hD⟩ (fun i H' _ ⟨_, s⟩ => SqL.of (s _ _ kr4)) ?_ ?_
      · rintro i x H' hx ⟨g1, g2⟩
        rw [List.getElem?_map] at hx
        cases hb : S[i]? with
        | none => rw [hb] at hx; cases hx
        | some s0 =>
        rw [hb] at hx
        cases hx
        have hs0 := ((hS.2 _).mp (List.mem_of_getElem? hb)).lt hok
        have hl := (List.getElem?_eq_some_iff.mp hb).1
        refine ⟨rfl, _, rfl, _, rfl, p, _, (s0 : Int), _, rfl, rfl, SqL.of (g2 _ _ kp4), atI_nat (show _ = some (nI (pnt ns s0)) by rw [List.getElem?_map, pnt_at (by omega)]; rfl), _, g1, ?_, ?_, same_add g2 hD⟩
        · rw [List.length_map, List.length_take, List.length_map]
          exact Nat.lt_of_le_of_lt (show _ ≤ 1000000 by omega) (by decide)
        · rw [take_succ_of (show (S.map (pnt ns))[i]? = some (pnt ns s0) by rw [List.getElem?_map, hb]; rfl), List.map_append, upd_same]
          rfl
      rintro H' ⟨m1, m2⟩
      rw [List.length_map, List.take_of_length_le (by rw [List.length_map]; omega)] at m1
      refine ⟨D, (S.map (pnt ns)).map fun n : Nat => (n : Int), rfl, SqL.of (by rw [← nI_map]; exact m1), fun ns' l pe po hl => ?_⟩
      obtain ⟨S', rfl, pS, rS⟩ := rise_of pe po (I.nd hok hS)
      have sl := same_new hl (o := .lst ((S'.map fun n : Nat => (n : Int)).map V.int))
      have kl := upd_same (H := H') (a := l) (o := .lst ((S'.map fun n : Nat => (n : Int)).map V.int))
      generalize upd H' l (.lst ((S'.map fun n : Nat => (n : Int)).map V.int)) = Hl at *
      refine ⟨v2, J2, l, S', rfl, ((X6.same m2).same sl).2.1, ok2, by rw [nI_map]; exact kl, ⟨rS, fun s => pS.mem_iff.trans ?_⟩, fun s hs hc => ?_, fun H' s' => ⟨true, true, rfl, rfl, _, rfl, iteF ⟨(((X6.same m2).same sl).same s'), rfl⟩⟩⟩
      · rw [I.comes hok s, List.mem_map]
        exact ⟨fun ⟨s, h3, h4⟩ => ⟨s, (hS.2 s).mp h3, h4⟩, fun ⟨s, h3, h4⟩ => ⟨s, (hS.2 s).mpr h3, h4⟩⟩
      · obtain ⟨s1, h1, h2⟩ := hgd.mp ⟨s, hs, hc⟩
        exact hn s1 h1 h2
  rintro σ' H7 ⟨X7, rfl⟩
  clear X6 c6
  obtain ⟨j', d', g', xs', keys', ej, hj7, _⟩ := id X7.1
  cases ej
  refine ⟨_, rfl, j, _, 0, _, rfl, rfl, SqT.of hj7, atI_nat (j := 0) rfl, _, rfl, j, _, 1, _, rfl, rfl, SqT.of hj7, atI_nat (j := 1) rfl, _, _, rfl, rfl, _, rfl, j, _, 2, _, rfl, rfl, SqT.of hj7, atI_nat (j := 2) rfl, _, rfl, j, _, 3, _, rfl, rfl, SqT.of hj7, atI_nat (j := 3) rfl, _, _, rfl, rfl, ?_⟩
  refine ⟨J.L, J.n + 1, J.few + J.turn, rfl, l26, by omega, by omega, ?_⟩
  refine ⟨_, _, rfl, rfl, _, rfl, ite2 (fun _ => q H7 X7.2.2.2.2.2 X7.2.2.2.2.1) (fun hz => ?_)⟩
  have hz : J.L.length * (J.few + J.turn) ^ (J.n + 1) ≤ 600 := by
    have := of_decide_eq_false (by simpa using hz : decide ((600 : Int) < ((J.L.length * (J.few + J.turn) ^ (J.n + 1) : Nat) : Int)) = false)
    omega
  have W := wideJ_w J
  have ok3 := wideJ_ok hok n5 hz
  refine ⟨_, rfl, .ref j, J, rfl, X7.1, hok, hri, n5, hz, fun v3 H8 s8 hJ3 => ?_⟩
  have X8 := X7.same s8
  generalize wideJ J = J3 at *
  refine ⟨_, rfl, v3, J3, rfl, hJ3, ok3, fun r S H9 s9 r0 kr hS => ⟨_, rfl, .ref j, J, rfl, (X8.same s9).1, hok, fun r' S' H10 s10 r0' kr' hS' => ?_⟩⟩
  have X10 := (X8.same s9).same s10
  have eS : S = S' := rises_eq hS.1 hS'.1 fun a => ((hS.2 a).trans (W.comes hok a)).trans (hS'.2 a).symm
  subst eS
  have kr10 := s10 _ _ kr
  rw [nI_map] at kr10 kr'
  refine ⟨_, _, dp_intsL (SqL.of kr10), dp_intsL (SqL.of kr'), shaped_ints _, shaped_ints _, _, rfl, ?_⟩
  rw [eqv_self (shaped_ints _)]
  refine iteT ?_
  refine ⟨_, rfl, v3, J3, rfl, (hJ3.same s9).same s10, ok3, X10.2.2.2.2.1, fun r2 us2 H11 f11 tb11 r20 kr2 hcl2 hle2 => ⟨_, rfl, r2, rs, szL us2, kv2 id us, rfl, rfl, kr2, ?_, ?_, ?_, q H11 (X10.fr f11 tb11).2.2.2.2.2 tb11⟩⟩
  · exact (X10.fr f11 tb11).2.2.2.1
  all_goals
    obtain ⟨d1, d2⟩ := dict_same (π := id) hcl2.nd (by rw [List.map_id]; exact hcl.nd) (fun a => by rw [List.map_id, hcl2.2 a, W.comes hok a, hcl.2 a]) fun u2 h2 u hu (e : u.1 = u2.1) => W.least hok (hle u hu) (by rw [e]; exact hle2 u2 h2)
  · exact d1
  · exact d2
end

def spLaw (K : PySem.W.Frag) : Sp := fun vs H Q _ => ∃ (a : Addr) (ns : List Int), vs = [.ref a] ∧ SqL K H a (ns.map V.int) ∧ ns.length ≤ 63 ∧ ∀ H', Q (.bl true) H'

def FrN (p : Addr) (H H' : Hp) : Prop := ∀ b o, b ≠ p → H b = some o → (∀ ps, o ≠ .tbl ps) → H' b = some o
theorem FrN.fr {p : Addr} {H H' : Hp} (f : Fr p H H') : FrN p H H' := fun b o n e _ => f b o n e
theorem FrN.same {p : Addr} {H H' : Hp} (s : Same H H') : FrN p H H' := fun b o _ e _ => s b o e
theorem FrN.ext {p : Addr} {H H' : Hp} (f : LamX.ExtN H H') : FrN p H H' := fun b o _ e t => f b o e t
theorem FrN.trans {p : Addr} {H H1 H2 : Hp} (f : FrN p H H1) (g : FrN p H1 H2) : FrN p H H2 := fun b o n e t => g b o n (f b o n e t) t
theorem FrN.seq {K : PySem.W.Frag} {p a : Addr} {H H' : Hp} {xs : List V} (c : FrN p H H') (hp : H p = none) (h : SqL K H a xs) : SqL K H' a xs := by
  rcases h with (h | ⟨o, h⟩) | h
  · exact .inl (.inl (c _ _ (ne_of_none h hp) h fun _ e => by cases e))
  · exact .inl (.inr ⟨o, c _ _ (ne_of_none h hp) h fun _ e => by cases e⟩)
  · exact .inr h

theorem seqN {K : PySem.W.Frag} {H H' : Hp} {a : Addr} {xs : List V} (f : LamX.ExtN H H') (h : SqL K H a xs) : SqL K H' a xs := by
  rcases h with (h | ⟨o, h⟩) | h
  · exact .inl (.inl (f _ _ h fun _ z => by cases z))
  · exact .inl (.inr ⟨o, f _ _ h fun _ z => by cases z⟩)
  · exact .inr h
theorem tabs_only : ∀ {TT : List NdefX.NTab}, (TT.map (·.1)).Nodup → ∀ (q : Addr) (f : Nat → Nat → Str), (q, f) ∈ TT → ∀ z ∈ TT, z.1 = q → z.2 = f
  | [], _, _, _, h, _, _, _ => by cases h
  | x :: r, nd, q, f, h, z, hz, e => by
    rw [List.map_cons, List.nodup_cons] at nd
    rcases List.mem_cons.mp h with h | h <;> rcases List.mem_cons.mp hz with k | k
    · rw [k, ← h]
    · exact absurd (List.mem_map.mpr ⟨z, k, by rw [e, ← h]⟩) nd.1
    · exact absurd (List.mem_map.mpr ⟨(q, f), h, by rw [← e, k]⟩) nd.1
    · exact tabs_only nd.2 q f h z k e

theorem JAtO.frn {P : Program} {w : World} {ok : Addr → Prop} {H H' : Hp} {v : V} {J : JD} {p : Addr} {ys : List V} (x : JAtO P w ok H v J) (ho : ∀ b, ok b → b ≠ p) (hp : H p = some (.lst ys)) (f : FrN p H H') : JAtO P w ok H' v J := by
  obtain ⟨j, d, g, xs, keys, rfl, h1, h2, h3, h4, h5, h6, h7⟩ := x
  exact ⟨j, d, g, xs, keys, rfl, f _ _ (fun e => by rw [e, hp] at h1; cases h1) h1 (fun _ z => by cases z), f _ _ (fun e => by rw [e, hp] at h2; unfold DictN at h2; cases h2) h2 not_tbl, h3.keep fun b zs e => f _ _ (fun z => by rw [z, hp] at e; cases e) e (fun _ z => by cases z), h4, h5, f _ _ (ho _ h7) h6 (fun _ z => by cases z), h7⟩
theorem map_erase {α β : Type} (f : α → β) : ∀ (l : List α) (k : Nat), (l.map f).eraseIdx k = (l.eraseIdx k).map f
  | [], _ => rfl
  | _ :: _, 0 => rfl
  | a :: r, k + 1 => by simp only [List.map_cons, List.eraseIdx_cons_succ, map_erase f r k]
theorem erase_perm {α : Type} : ∀ {l : List α} {k : Nat} {x : α}, l[k]? = some x → (x :: l.eraseIdx k).Perm l
  | [], k, x, h => by cases h
  | a :: r, 0, x, h => by cases h; exact .refl _
  | a :: r, k + 1, x, h => by
    rw [List.getElem?_cons_succ] at h
    exact (List.Perm.swap _ _ _).trans ((erase_perm h).cons a)
section
variable {P : Program} {w : World} {K : PySem.W.Frag} {mg : Str → Option Value} {base : Heap}
theorem ok_law (T : Txt K mg) (B : Tbs T base) : FnOk P w K mg base CX0 14 T.f_law T.d_law ["script"] (spLawT K [T.P__joined]) := by
  generalize hTTe : ([(T.P__joined, fun _ _ => q__joined)] : List NdefX.NTab) = TT
  have i3 : (T.P__joined, fun _ _ => q__joined) ∈ TT := by
    subst hTTe
    exact List.mem_cons_self
  have u3 : ∀ z ∈ TT, z.1 = T.P__joined → z.2 = fun _ _ => q__joined := by
    subst hTTe
    intro z hz _
    rw [List.mem_singleton.mp hz]
  have G__law_cell_at : FnOk P w K mg base CX0 1 T.f__law_cell_at T.d__law_cell_at ["script", "k"] (sp__law_cell_at K) := ok__law_cell_at T
  have G__law_deck : FnOk P w K mg base CX0 2 T.f__law_deck T.d__law_deck ["cell", "many"] sp__law_deck := ok__law_deck T
  have G__law_letters : FnOk P w K mg base CX0 3 T.f__law_letters T.d__law_letters ["deck"] sp__law_letters := ok__law_letters T
  have G__law_next : FnOk P w K mg base CX0 2 T.f__law_next T.d__law_next ["deck"] sp__law_next := ok__law_next T
  have G__law_judge : FnOk P w K mg base CX0 4 T.f__law_judge T.d__law_judge ["deck", "letters", "most", "room"] (sp__law_judge P w) := ok__law_judge T
  have G__law_right : FnOk P w K mg base CX0 13 T.f__law_right T.d__law_right ["judge", "numbers"] (sp__law_right P w T.P__joined q__joined) := ok__law_right T B
  refine T.F_law.ok sc_law (fun vs H Q E h => ?_) (fun cdv A outer s H vs Q E hr h => ?_)
  · obtain ⟨a, ns, rfl, _⟩ := h
    rfl
  obtain ⟨a, ns, rfl, hS, h63, hPs, qq⟩ := h
  have T0 : NdefX.TabsN TT H := by
    subst hTTe
    intro z hz
    rw [List.mem_singleton.mp hz]
    exact NdefX.TabN.nil (hPs _ (by simp))
  refine ⟨_, (pss_cons (ps_for PassesOwn.never rfl (pi_range1 (by rfl) T.z_range (pa_cons (pe_callB (call_max2 rfl) (by rfl) T.z_max (by decide +kernel) (pa_cons pe_int (pa_cons (pe_callB (call_min2 rfl) (by rfl) T.z_min (by decide +kernel) (pa_cons (pe_callB call_len_seq (by rfl) T.z_len PySem.boot_len (pa_cons (pv 0) pa_nil)) (pa_cons pe_int pa_nil))) pa_nil))) pa_nil)) (pg_name (i := 1) sc_law.nd rfl (Or.inl rfl)) (pss_cons (ps_set (i := 2) sc_law.nd rfl (Or.inr rfl) (pe_call G__law_deck (hr.mono (by omega)) (by rfl) T.m__law_deck T.F__law_deck.kp T.b__law_deck .nil pass0 (pa_cons (pe_call G__law_cell_at (hr.mono (by omega)) (by rfl) T.m__law_cell_at T.F__law_cell_at.kp T.b__law_cell_at .nil pass0 (pa_cons (pv 0) (pa_cons (pv 1) pa_nil))) (pa_cons pe_int pa_nil)))) (pss_cons (ps_set (i := 3) sc_law.nd rfl (Or.inl rfl) (pe_call G__law_judge (hr.mono (by omega)) (by rfl) T.m__law_judge T.F__law_judge.kp T.b__law_judge .nil pass0 (pa_cons (pv 2) (pa_cons (pe_call G__law_letters (hr.mono (by omega)) (by rfl) T.m__law_letters T.F__law_letters.kp T.b__law_letters .nil pass0 (pa_cons (pv 2) pa_nil)) (pa_cons pe_int (pa_cons pe_int pa_nil)))))) (pss_cons (ps_set (i := 4) sc_law.nd rfl (Or.inr rfl) (pe_listRg rfl (by rfl) T.z_list (prg_1 (by rfl) T.z_range (pe_ix ix_tup (pv 3) pe_int (fun _ _ => rfl))))) (pss_cons (ps_setLc (i := 5) (own := [("state", 6)]) (g := gName 6) (te := tBM K "list" rPopAt (tVar 4) (tCons (tOp _ (tCall sp__law_next [] E0 (tCons (tVar 2) tNil)) (tCB (fun xs H Q => ∃ p ys, xs = [V.ref p] ∧ (SqL K H p ys ∨ SqT K H p ys) ∧ Q (.int ys.length) H) (tCons (tVar 4) tNil))) tNil)) (tt := tYes) rfl sc_law.nd rfl rfl (sw_true rfl rfl rfl (by decide +kernel)) (pi_range1 (by rfl) T.z_range (pa_cons (pe_ix ix_tup (pv 3) pe_int (fun _ _ => rfl)) pa_nil)) (blkOk_by (own := [("state", 6)]) (N := ["script", "k", "deck", "judge", "left", "numbers", "state"]) (sc := (defScope s_law)) (by decide +kernel)) (fun _ _ _ _ _ => (pg_name (i := 6) sc_law.nd rfl (Or.inl rfl))) (fun _ _ _ _ _ => pts_nil) (fun _ _ _ _ _ => (by exact (pe_bm PySem.F.plainAttrs_list PySem.F.slot_list_pop PySem.F.type_list_pop mt_popAt (pv 4) (pa_cons (pe_op op_mod (pe_call G__law_next (hr.mono (by omega)) (by rfl) T.m__law_next T.F__law_next.kp T.b__law_next .nil pass0 (pa_cons (pv 2) pa_nil)) (pe_callB call_len_seq (by rfl) T.z_len PySem.boot_len (pa_cons (pv 4) pa_nil))) pa_nil))))) (pss_one (ps_if (pt_not (pt_val (pe_call G__law_right (hr.mono (by omega)) (by rfl) T.m__law_right T.F__law_right.kp T.b__law_right .nil pass0 (pa_cons (pv 3) (pa_cons (pv 5) pa_nil))))) (pss_one (ps_ret pe_bl)) pss_nil))))))) (pss_one (ps_ret pe_bl))), ?_⟩
  obtain ⟨jn, hj, hj0, hj1⟩ : ∃ j : Int, (if (if ((ns.map V.int).length : Int) > 3 then 3 else ((ns.map V.int).length : Int)) > 1 then (if ((ns.map V.int).length : Int) > 3 then 3 else ((ns.map V.int).length : Int)) else 1) = j ∧ 0 ≤ j ∧ j ≤ 12 := ⟨_, rfl, by split <;> split <;> omega, by split <;> split <;> omega⟩
  refine ⟨_, rfl, a, _, rfl, .inl hS, _, _, rfl, _, _, rfl, jn, congrArg (fun z => [V.int z]) hj, by omega, by omega, for_range (lo := 0) (n := jn.toNat) (fun i σ H' => (∃ y1 y2 y3 y4 y5, σ = [some (.ref a), y1, y2, y3, y4, y5, none]) ∧ SqL K H' a (ns.map V.int) ∧ NdefX.TabsN TT H') ⟨⟨_, _, _, _, _, rfl⟩, hS, T0⟩ ?_ ?_⟩
  · rintro i σ H0 hi ⟨⟨y1, y2, y3, y4, y5, rfl⟩, hS0, T0⟩
    refine ⟨_, rfl, _, rfl, a, ns, _, rfl, hS0, by omega, fun x => ⟨x, 60, rfl, by decide, by decide, fun p H1 s1 hp D1 => ?_⟩⟩
    refine ⟨_, rfl, _, rfl, p, rfl, D1, fun L H2 hL hri l26 hix f2 D2 => ?_⟩
    refine ⟨p, L, 5, 300, rfl, D2, hL, hri, by decide, by decide, by omega, by decide, fun jv J H3 f3 D3 hJL hok hn5 hroom hgp hJ => ?_⟩
    have F3 : FrN p H0 H3 := (FrN.same s1).trans ((FrN.fr f2).trans (.fr f3))
    have T3 := D1.tabs (T0.ext s1) (f2.trans f3)
    obtain ⟨j0, d0, g0, xs0, keys0, rfl, hj3, _⟩ := id hJ
    have n6 := hok.n6
    refine ⟨_, rfl, j0, _, 1, _, rfl, rfl, SqT.of hj3, atI_nat (j := 1) rfl, (J.n : Int), rfl, .of_le (by omega) (by omega) (by omega) (by omega), fun l hl => ?_⟩
    have nlp : l ≠ p := D3.ne hl
    have sl := same_new hl (o := .lst (rgV 0 (J.n : Int)))
    have kl := upd_same (H := H3) (a := l) (o := .lst (rgV 0 (J.n : Int)))
    have er : rgV 0 (J.n : Int) = (List.range J.n).map nI := by
      unfold rgV
      rw [Int.sub_zero, Int.toNat_natCast]
      congr 1
      funext i
      rw [Int.zero_add]
    generalize upd H3 l (.lst (rgV 0 (J.n : Int))) = H4 at *
    rw [er] at kl
    have D4 := D3.keep sl
    have hj4 := sl _ _ hj3
    refine ⟨_, rfl, j0, _, 1, _, rfl, rfl, SqT.of hj4, atI_nat (j := 1) rfl, (J.n : Int), rfl, by omega, by omega, fun D hD => ?_⟩
    have nDp : D ≠ p := D4.ne hD
    have nDl : D ≠ l := fun e => by rw [e, kl] at hD; cases hD
    have hD3 : H3 D = none := sl.free hD
    refine lc_range (lo := 0) (n := J.n) (fun i H' => ∃ (ls bs : List Nat), H' D = some (.lst (bs.map nI)) ∧ H' l = some (.lst (ls.map nI)) ∧ (bs ++ ls).Perm (List.range J.n) ∧ bs.length = i ∧ Dn H' p ∧ Fr p H3 H') ⟨List.range J.n, [], upd_same, by rw [upd_ne nDl.symm]; exact kl, .refl _, rfl, D4.keep (same_new hD), (Fr.same (sl.trans (same_new hD)))⟩ ?_ ?_
    · rintro i2 H5 hi2 ⟨ls, bs, g1, g2, g3, g4, g5, g6⟩
      have ll := g3.length_eq
      rw [List.length_append, List.length_range] at ll
      refine ⟨rfl, _, rfl, .inl ⟨rfl, _, SqL.of g2⟩, _, rfl, p, rfl, g5, fun y H6 y0 y1 f6 D6 => ?_⟩
      have kl6 := f6 _ _ nlp g2
      have kD6 := f6 _ _ nDp g1
      have lpos : 0 < ls.length := by omega
      have r0 : 0 ≤ y % (ls.length : Int) := Int.emod_nonneg _ (by omega)
      have r1 : y % (ls.length : Int) < ls.length := Int.emod_lt_of_pos _ (by omega)
      obtain ⟨k, hk, hkl⟩ : ∃ k : Nat, y % (ls.length : Int) = (k : Int) ∧ k < ls.length := ⟨(y % (ls.length : Int)).toNat, by omega, by omega⟩
      have hx : ls[k]? = some ls[k] := List.getElem?_eq_getElem hkl
      generalize ls[k] = x at hx
      refine ⟨_, rfl, l, _, rfl, .inl (SqL.of kl6), _, _, rfl, rfl, by rw [List.length_map]; omega, ?_⟩
      refine ⟨l, ls.map nI, (k : Int), k, nI x, rfl, by rw [List.length_map]; exact congrArg (fun z => [V.int z]) hk, kl6, by omega, by omega, ?_, by rw [List.getElem?_map, hx]; rfl, ?_⟩
      · rw [List.length_map]
        unfold seqIndex?
        simp
        omega
      · refine ⟨_, by rw [upd_ne nDl]; exact kD6, ?_, ls.eraseIdx k, bs ++ [x], ?_, ?_, ?_, by rw [List.length_append, List.length_singleton, g4], (D6.upd nlp).upd nDp, ?_⟩
        · rw [List.length_map]
          exact Nat.lt_of_le_of_lt (show _ ≤ 1000000 by omega) (by decide)
        · rw [upd_same, List.map_append]; rfl
        · rw [upd_ne nDl.symm, upd_same, map_erase]
        · rw [List.append_assoc]
          exact ((erase_perm hx).append_left bs).trans g3
        · exact ((g6.trans f6).new hl).new hD3
    rintro H5 ⟨ls, bs, g1, g2, g3, g4, g5, g6⟩
    have ll := g3.length_eq
    rw [List.length_append, List.length_range] at ll
    have e0 : ls = [] := List.eq_nil_of_length_eq_zero (by omega)
    subst e0
    rw [List.append_nil] at g3
    obtain ⟨zs, e3, _⟩ := id D3
    have J5 := hJ.fr (fun b h => h.1) e3 g6
    have T5 := D3.tabs T3 g6
    refine ⟨_, rfl, _, rfl, .ref j0, J, D, bs, rfl, J5.at, hok, by rw [hJL]; exact hri, by rw [hJL]; exact hix, hn5, g3, g1, NdefX.TabN.to (T5 _ i3), fun H6 f7 tb7 => ⟨_, rfl, iteF ?_⟩⟩
    exact ⟨⟨_, _, _, _, _, rfl⟩, (F3.trans ((FrN.fr g6).trans (.ext (extN_of_frP T5 i3 f7)))).seq hp hS0, tabsN_frP T5 i3 u3 f7 tb7⟩
  · rintro σ H4 _
    exact qq H4
end

theorem all_mk {l : PySem.W.OpenLaw} {w : World} {K : PySem.W.Frag} {h : Heap} {mg : Str → Option Value} {fa f0 f1 f2 f3 f4 f5 f6 f7 f8 f9 f10 f11 f12 f13 f14 f15 f16 f17 f18 f19 f20 f21 f22 f23 f24 f25 f26 f27 f28 f29 f30 f31 f32 f33 f34 f35 f36 f37 f38 : Addr} (X : K.In h) (G : h.Ns mainGlobals mg) (hfa : mg "law" = some (.ref fa))
    {od0 an0 od1 an1 od2 an2 od3 an3 od4 an4 od5 an5 od6 an6 od7 an7 od8 an8 od9 an9 od10 an10 od11 an11 od12 an12 od13 an13 od14 an14 od15 an15 od16 an16 od17 an17 od18 an18 od19 an19 od20 an20 od21 an21 od22 an22 od23 an23 od24 an24 od25 an25 od26 an26 od27 an27 od28 an28 od29 an29 od30 an30 od31 an31 od32 an32 od33 an33 od34 an34 od35 an35 od36 an36 od37 an37 od38 an38 : Option Addr} {sl0 sl1 sl2 sl3 sl4 sl5 sl6 sl7 sl8 sl9 sl10 sl11 sl12 sl13 sl14 sl15 sl16 sl17 sl18 sl19 sl20 sl21 sl22 sl23 sl24 sl25 sl26 sl27 sl28 sl29 sl30 sl31 sl32 sl33 sl34 sl35 sl36 sl37 sl38 : Array (Option Value)} {oc0 kV0 dc0 pm0 ct0 cd0 oc1 kV1 dc1 pm1 ct1 cd1 oc2 kV2 dc2 pm2 ct2 cd2 oc3 kV3 dc3 pm3 ct3 cd3 oc4 kV4 dc4 pm4 ct4 cd4 oc5 kV5 dc5 pm5 ct5 cd5 oc6 kV6 dc6 pm6 ct6 cd6 oc7 kV7 dc7 pm7 ct7 cd7 oc8 kV8 dc8 pm8 ct8 cd8 oc9 kV9 dc9 pm9 ct9 cd9 oc10 kV10 dc10 pm10 ct10 oc11 kV11 dc11 pm11 ct11 cd11 oc12 kV12 dc12 pm12 ct12 cd12 oc13 kV13 dc13 pm13 ct13 cd13 oc14 kV14 dc14 pm14 ct14 cd14 oc15 kV15 dc15 pm15 ct15 cd15 oc16 kV16 dc16 pm16 ct16 cd16 oc17 kV17 dc17 pm17 ct17 cd17 oc18 kV18 dc18 pm18 ct18 cd18 oc19 kV19 dc19 pm19 ct19 cd19 oc20 kV20 dc20 pm20 ct20 cd20 oc21 kV21 dc21 pm21 ct21 cd21 oc22 kV22 dc22 pm22 ct22 cd22 oc23 kV23 dc23 pm23 ct23 cd23 oc24 kV24 dc24 pm24 ct24 cd24 oc25 kV25 dc25 pm25 ct25 cd25 oc26 kV26 dc26 pm26 ct26 cd26 oc27 kV27 dc27 pm27 ct27 cd27 oc28 kV28 dc28 pm28 ct28 cd28 oc29 kV29 dc29 pm29 ct29 cd29 oc30 kV30 dc30 pm30 ct30 cd30 oc31 kV31 dc31 pm31 ct31 cd31 oc32 kV32 dc32 pm32 ct32 cd32 oc33 kV33 dc33 pm33 ct33 cd33 oc34 kV34 dc34 pm34 ct34 cd34 oc35 kV35 dc35 pm35 ct35 cd35 oc36 kV36 dc36 pm36 ct36 cd36 oc37 kV37 dc37 pm37 ct37 cd37 oc38 kV38 dc38 pm38 ct38 cd38 : Value} {c10 P10 : Addr}
    (a0 : PySem.W.nsIn K mainGlobals "is_whole" = some (some (.ref f0))) (l0 : K.lookup f0 = some ⟨oc0, od0, .func (PySem.W.fnOf "is_whole" "is_whole" (defArgs s_is_whole) (defBody s_is_whole) (defScope s_is_whole) .none kV0 dc0 pm0 an0 cd0 ct0), sl0⟩) (d0 : PySem.W.codeIn K cd0 "is_whole" = true) (k0 : PySem.W.keepIn K (.ref f0) = true)
    (a1 : PySem.W.nsIn K mainGlobals "is_whole_within" = some (some (.ref f1))) (l1 : K.lookup f1 = some ⟨oc1, od1, .func (PySem.W.fnOf "is_whole_within" "is_whole_within" (defArgs s_is_whole_within) (defBody s_is_whole_within) (defScope s_is_whole_within) .none kV1 dc1 pm1 an1 cd1 ct1), sl1⟩) (d1 : PySem.W.codeIn K cd1 "is_whole_within" = true) (k1 : PySem.W.keepIn K (.ref f1) = true)
    (a2 : PySem.W.nsIn K mainGlobals "is_letter" = some (some (.ref f2))) (l2 : K.lookup f2 = some ⟨oc2, od2, .func (PySem.W.fnOf "is_letter" "is_letter" (defArgs s_is_letter) (defBody s_is_letter) (defScope s_is_letter) .none kV2 dc2 pm2 an2 cd2 ct2), sl2⟩) (d2 : PySem.W.codeIn K cd2 "is_letter" = true) (k2 : PySem.W.keepIn K (.ref f2) = true)
    (a3 : PySem.W.nsIn K mainGlobals "is_tree" = some (some (.ref f3))) (l3 : K.lookup f3 = some ⟨oc3, od3, .func (PySem.W.fnOf "is_tree" "is_tree" (defArgs s_is_tree) (defBody s_is_tree) (defScope s_is_tree) .none kV3 dc3 pm3 an3 cd3 ct3), sl3⟩) (d3 : PySem.W.codeIn K cd3 "is_tree" = true) (k3 : PySem.W.keepIn K (.ref f3) = true)
    (a4 : PySem.W.nsIn K mainGlobals "_is_part" = some (some (.ref f4))) (l4 : K.lookup f4 = some ⟨oc4, od4, .func (PySem.W.fnOf "_is_part" "_is_part" (defArgs s__is_part) (defBody s__is_part) (defScope s__is_part) .none kV4 dc4 pm4 an4 cd4 ct4), sl4⟩) (d4 : PySem.W.codeIn K cd4 "_is_part" = true) (k4 : PySem.W.keepIn K (.ref f4) = true)
    (a5 : PySem.W.nsIn K mainGlobals "check_tree" = some (some (.ref f5))) (l5 : K.lookup f5 = some ⟨oc5, od5, .func (PySem.W.fnOf "check_tree" "check_tree" (defArgs s_check_tree) (defBody s_check_tree) (defScope s_check_tree) .none kV5 dc5 pm5 an5 cd5 ct5), sl5⟩) (d5 : PySem.W.codeIn K cd5 "check_tree" = true) (k5 : PySem.W.keepIn K (.ref f5) = true)
    (a6 : PySem.W.nsIn K mainGlobals "parts_upward" = some (some (.ref f6))) (l6 : K.lookup f6 = some ⟨oc6, od6, .func (PySem.W.fnOf "parts_upward" "parts_upward" (defArgs s_parts_upward) (defBody s_parts_upward) (defScope s_parts_upward) .none kV6 dc6 pm6 an6 cd6 ct6), sl6⟩) (d6 : PySem.W.codeIn K cd6 "parts_upward" = true) (k6 : PySem.W.keepIn K (.ref f6) = true)
    (a7 : PySem.W.nsIn K mainGlobals "size_of" = some (some (.ref f7))) (l7 : K.lookup f7 = some ⟨oc7, od7, .func (PySem.W.fnOf "size_of" "size_of" (defArgs s_size_of) (defBody s_size_of) (defScope s_size_of) .none kV7 dc7 pm7 an7 cd7 ct7), sl7⟩) (d7 : PySem.W.codeIn K cd7 "size_of" = true) (k7 : PySem.W.keepIn K (.ref f7) = true)
    (a8 : PySem.W.nsIn K mainGlobals "built_upward" = some (some (.ref f8))) (l8 : K.lookup f8 = some ⟨oc8, od8, .func (PySem.W.fnOf "built_upward" "built_upward" (defArgs s_built_upward) (defBody s_built_upward) (defScope s_built_upward) .none kV8 dc8 pm8 an8 cd8 ct8), sl8⟩) (d8 : PySem.W.codeIn K cd8 "built_upward" = true) (k8 : PySem.W.keepIn K (.ref f8) = true)
    (a9 : PySem.W.nsIn K mainGlobals "_written_and_told" = some (some (.ref f9))) (l9 : K.lookup f9 = some ⟨oc9, od9, .func (PySem.W.fnOf "_written_and_told" "_written_and_told" (defArgs s__written_and_told) (defBody s__written_and_told) (defScope s__written_and_told) .none kV9 dc9 pm9 an9 cd9 ct9), sl9⟩) (d9 : PySem.W.codeIn K cd9 "_written_and_told" = true) (k9 : PySem.W.keepIn K (.ref f9) = true)
    (a10 : PySem.W.nsIn K mainGlobals "_joined" = some (some (.ref f10))) (l10 : K.lookup f10 = some ⟨oc10, od10, .func (PySem.W.fnOf "_joined" "_joined" (defArgs s__joined) (defBody s__joined) (defScope s__joined) .none kV10 dc10 pm10 an10 (.ref c10) ct10), sl10⟩) (d10 : PySem.W.codeIn K (.ref c10) "_joined" = true) (k10 : PySem.W.keepIn K (.ref f10) = true)
    (a11 : PySem.W.nsIn K mainGlobals "written_part" = some (some (.ref f11))) (l11 : K.lookup f11 = some ⟨oc11, od11, .func (PySem.W.fnOf "written_part" "written_part" (defArgs s_written_part) (defBody s_written_part) (defScope s_written_part) .none kV11 dc11 pm11 an11 cd11 ct11), sl11⟩) (d11 : PySem.W.codeIn K cd11 "written_part" = true) (k11 : PySem.W.keepIn K (.ref f11) = true)
    (a12 : PySem.W.nsIn K mainGlobals "told_form" = some (some (.ref f12))) (l12 : K.lookup f12 = some ⟨oc12, od12, .func (PySem.W.fnOf "told_form" "told_form" (defArgs s_told_form) (defBody s_told_form) (defScope s_told_form) .none kV12 dc12 pm12 an12 cd12 ct12), sl12⟩) (d12 : PySem.W.codeIn K cd12 "told_form" = true) (k12 : PySem.W.keepIn K (.ref f12) = true)
    (a13 : PySem.W.nsIn K mainGlobals "from_heap" = some (some (.ref f13))) (l13 : K.lookup f13 = some ⟨oc13, od13, .func (PySem.W.fnOf "from_heap" "from_heap" (defArgs s_from_heap) (defBody s_from_heap) (defScope s_from_heap) .none kV13 dc13 pm13 an13 cd13 ct13), sl13⟩) (d13 : PySem.W.codeIn K cd13 "from_heap" = true) (k13 : PySem.W.keepIn K (.ref f13) = true)
    (a14 : PySem.W.nsIn K mainGlobals "_is_heap_row" = some (some (.ref f14))) (l14 : K.lookup f14 = some ⟨oc14, od14, .func (PySem.W.fnOf "_is_heap_row" "_is_heap_row" (defArgs s__is_heap_row) (defBody s__is_heap_row) (defScope s__is_heap_row) .none kV14 dc14 pm14 an14 cd14 ct14), sl14⟩) (d14 : PySem.W.codeIn K cd14 "_is_heap_row" = true) (k14 : PySem.W.keepIn K (.ref f14) = true)
    (a15 : PySem.W.nsIn K mainGlobals "are_rising_states" = some (some (.ref f15))) (l15 : K.lookup f15 = some ⟨oc15, od15, .func (PySem.W.fnOf "are_rising_states" "are_rising_states" (defArgs s_are_rising_states) (defBody s_are_rising_states) (defScope s_are_rising_states) .none kV15 dc15 pm15 an15 cd15 ct15), sl15⟩) (d15 : PySem.W.codeIn K cd15 "are_rising_states" = true) (k15 : PySem.W.keepIn K (.ref f15) = true)
    (a16 : PySem.W.nsIn K mainGlobals "_rises" = some (some (.ref f16))) (l16 : K.lookup f16 = some ⟨oc16, od16, .func (PySem.W.fnOf "_rises" "_rises" (defArgs s__rises) (defBody s__rises) (defScope s__rises) .none kV16 dc16 pm16 an16 cd16 ct16), sl16⟩) (d16 : PySem.W.codeIn K cd16 "_rises" = true) (k16 : PySem.W.keepIn K (.ref f16) = true)
    (a17 : PySem.W.nsIn K mainGlobals "states_that_come" = some (some (.ref f17))) (l17 : K.lookup f17 = some ⟨oc17, od17, .func (PySem.W.fnOf "states_that_come" "states_that_come" (defArgs s_states_that_come) (defBody s_states_that_come) (defScope s_states_that_come) .none kV17 dc17 pm17 an17 cd17 ct17), sl17⟩) (d17 : PySem.W.codeIn K cd17 "states_that_come" = true) (k17 : PySem.W.keepIn K (.ref f17) = true)
    (a18 : PySem.W.nsIn K mainGlobals "least_trees" = some (some (.ref f18))) (l18 : K.lookup f18 = some ⟨oc18, od18, .func (PySem.W.fnOf "least_trees" "least_trees" (defArgs s_least_trees) (defBody s_least_trees) (defScope s_least_trees) .none kV18 dc18 pm18 an18 cd18 ct18), sl18⟩) (d18 : PySem.W.codeIn K cd18 "least_trees" = true) (k18 : PySem.W.keepIn K (.ref f18) = true)
    (a19 : PySem.W.nsIn K mainGlobals "_least_rows" = some (some (.ref f19))) (l19 : K.lookup f19 = some ⟨oc19, od19, .func (PySem.W.fnOf "_least_rows" "_least_rows" (defArgs s__least_rows) (defBody s__least_rows) (defScope s__least_rows) .none kV19 dc19 pm19 an19 cd19 ct19), sl19⟩) (d19 : PySem.W.codeIn K cd19 "_least_rows" = true) (k19 : PySem.W.keepIn K (.ref f19) = true)
    (a20 : PySem.W.nsIn K mainGlobals "_next_least_row" = some (some (.ref f20))) (l20 : K.lookup f20 = some ⟨oc20, od20, .func (PySem.W.fnOf "_next_least_row" "_next_least_row" (defArgs s__next_least_row) (defBody s__next_least_row) (defScope s__next_least_row) .none kV20 dc20 pm20 an20 cd20 ct20), sl20⟩) (d20 : PySem.W.codeIn K cd20 "_next_least_row" = true) (k20 : PySem.W.keepIn K (.ref f20) = true)
    (a21 : PySem.W.nsIn K mainGlobals "_least_size" = some (some (.ref f21))) (l21 : K.lookup f21 = some ⟨oc21, od21, .func (PySem.W.fnOf "_least_size" "_least_size" (defArgs s__least_size) (defBody s__least_size) (defScope s__least_size) .none kV21 dc21 pm21 an21 cd21 ct21), sl21⟩) (d21 : PySem.W.codeIn K cd21 "_least_size" = true) (k21 : PySem.W.keepIn K (.ref f21) = true)
    (a22 : PySem.W.nsIn K mainGlobals "are_only_of" = some (some (.ref f22))) (l22 : K.lookup f22 = some ⟨oc22, od22, .func (PySem.W.fnOf "are_only_of" "are_only_of" (defArgs s_are_only_of) (defBody s_are_only_of) (defScope s_are_only_of) .none kV22 dc22 pm22 an22 cd22 ct22), sl22⟩) (d22 : PySem.W.codeIn K cd22 "are_only_of" = true) (k22 : PySem.W.keepIn K (.ref f22) = true)
    (a23 : PySem.W.nsIn K mainGlobals "none_paper" = some (some (.ref f23))) (l23 : K.lookup f23 = some ⟨oc23, od23, .func (PySem.W.fnOf "none_paper" "none_paper" (defArgs s_none_paper) (defBody s_none_paper) (defScope s_none_paper) .none kV23 dc23 pm23 an23 cd23 ct23), sl23⟩) (d23 : PySem.W.codeIn K cd23 "none_paper" = true) (k23 : PySem.W.keepIn K (.ref f23) = true)
    (a24 : PySem.W.nsIn K mainGlobals "_has_good" = some (some (.ref f24))) (l24 : K.lookup f24 = some ⟨oc24, od24, .func (PySem.W.fnOf "_has_good" "_has_good" (defArgs s__has_good) (defBody s__has_good) (defScope s__has_good) .none kV24 dc24 pm24 an24 cd24 ct24), sl24⟩) (d24 : PySem.W.codeIn K cd24 "_has_good" = true) (k24 : PySem.W.keepIn K (.ref f24) = true)
    (a25 : PySem.W.nsIn K mainGlobals "none_shows" = some (some (.ref f25))) (l25 : K.lookup f25 = some ⟨oc25, od25, .func (PySem.W.fnOf "none_shows" "none_shows" (defArgs s_none_shows) (defBody s_none_shows) (defScope s_none_shows) .none kV25 dc25 pm25 an25 cd25 ct25), sl25⟩) (d25 : PySem.W.codeIn K cd25 "none_shows" = true) (k25 : PySem.W.keepIn K (.ref f25) = true)
    (a26 : PySem.W.nsIn K mainGlobals "_law_cell_at" = some (some (.ref f26))) (l26 : K.lookup f26 = some ⟨oc26, od26, .func (PySem.W.fnOf "_law_cell_at" "_law_cell_at" (defArgs s__law_cell_at) (defBody s__law_cell_at) (defScope s__law_cell_at) .none kV26 dc26 pm26 an26 cd26 ct26), sl26⟩) (d26 : PySem.W.codeIn K cd26 "_law_cell_at" = true) (k26 : PySem.W.keepIn K (.ref f26) = true)
    (a27 : PySem.W.nsIn K mainGlobals "_law_stir" = some (some (.ref f27))) (l27 : K.lookup f27 = some ⟨oc27, od27, .func (PySem.W.fnOf "_law_stir" "_law_stir" (defArgs s__law_stir) (defBody s__law_stir) (defScope s__law_stir) .none kV27 dc27 pm27 an27 cd27 ct27), sl27⟩) (d27 : PySem.W.codeIn K cd27 "_law_stir" = true) (k27 : PySem.W.keepIn K (.ref f27) = true)
    (a28 : PySem.W.nsIn K mainGlobals "_law_deck" = some (some (.ref f28))) (l28 : K.lookup f28 = some ⟨oc28, od28, .func (PySem.W.fnOf "_law_deck" "_law_deck" (defArgs s__law_deck) (defBody s__law_deck) (defScope s__law_deck) .none kV28 dc28 pm28 an28 cd28 ct28), sl28⟩) (d28 : PySem.W.codeIn K cd28 "_law_deck" = true) (k28 : PySem.W.keepIn K (.ref f28) = true)
    (a29 : PySem.W.nsIn K mainGlobals "_law_next" = some (some (.ref f29))) (l29 : K.lookup f29 = some ⟨oc29, od29, .func (PySem.W.fnOf "_law_next" "_law_next" (defArgs s__law_next) (defBody s__law_next) (defScope s__law_next) .none kV29 dc29 pm29 an29 cd29 ct29), sl29⟩) (d29 : PySem.W.codeIn K cd29 "_law_next" = true) (k29 : PySem.W.keepIn K (.ref f29) = true)
    (a30 : PySem.W.nsIn K mainGlobals "_law_classes" = some (some (.ref f30))) (l30 : K.lookup f30 = some ⟨oc30, od30, .func (PySem.W.fnOf "_law_classes" "_law_classes" (defArgs s__law_classes) (defBody s__law_classes) (defScope s__law_classes) .none kV30 dc30 pm30 an30 cd30 ct30), sl30⟩) (d30 : PySem.W.codeIn K cd30 "_law_classes" = true) (k30 : PySem.W.keepIn K (.ref f30) = true)
    (a31 : PySem.W.nsIn K mainGlobals "_law_room" = some (some (.ref f31))) (l31 : K.lookup f31 = some ⟨oc31, od31, .func (PySem.W.fnOf "_law_room" "_law_room" (defArgs s__law_room) (defBody s__law_room) (defScope s__law_room) .none kV31 dc31 pm31 an31 cd31 ct31), sl31⟩) (d31 : PySem.W.codeIn K cd31 "_law_room" = true) (k31 : PySem.W.keepIn K (.ref f31) = true)
    (a32 : PySem.W.nsIn K mainGlobals "_law_judge" = some (some (.ref f32))) (l32 : K.lookup f32 = some ⟨oc32, od32, .func (PySem.W.fnOf "_law_judge" "_law_judge" (defArgs s__law_judge) (defBody s__law_judge) (defScope s__law_judge) .none kV32 dc32 pm32 an32 cd32 ct32), sl32⟩) (d32 : PySem.W.codeIn K cd32 "_law_judge" = true) (k32 : PySem.W.keepIn K (.ref f32) = true)
    (a33 : PySem.W.nsIn K mainGlobals "_law_letters" = some (some (.ref f33))) (l33 : K.lookup f33 = some ⟨oc33, od33, .func (PySem.W.fnOf "_law_letters" "_law_letters" (defArgs s__law_letters) (defBody s__law_letters) (defScope s__law_letters) .none kV33 dc33 pm33 an33 cd33 ct33), sl33⟩) (d33 : PySem.W.codeIn K cd33 "_law_letters" = true) (k33 : PySem.W.keepIn K (.ref f33) = true)
    (a34 : PySem.W.nsIn K mainGlobals "_law_renumbered" = some (some (.ref f34))) (l34 : K.lookup f34 = some ⟨oc34, od34, .func (PySem.W.fnOf "_law_renumbered" "_law_renumbered" (defArgs s__law_renumbered) (defBody s__law_renumbered) (defScope s__law_renumbered) .none kV34 dc34 pm34 an34 cd34 ct34), sl34⟩) (d34 : PySem.W.codeIn K cd34 "_law_renumbered" = true) (k34 : PySem.W.keepIn K (.ref f34) = true)
    (a35 : PySem.W.nsIn K mainGlobals "_law_widened" = some (some (.ref f35))) (l35 : K.lookup f35 = some ⟨oc35, od35, .func (PySem.W.fnOf "_law_widened" "_law_widened" (defArgs s__law_widened) (defBody s__law_widened) (defScope s__law_widened) .none kV35 dc35 pm35 an35 cd35 ct35), sl35⟩) (d35 : PySem.W.codeIn K cd35 "_law_widened" = true) (k35 : PySem.W.keepIn K (.ref f35) = true)
    (a36 : PySem.W.nsIn K mainGlobals "_law_sizes" = some (some (.ref f36))) (l36 : K.lookup f36 = some ⟨oc36, od36, .func (PySem.W.fnOf "_law_sizes" "_law_sizes" (defArgs s__law_sizes) (defBody s__law_sizes) (defScope s__law_sizes) .none kV36 dc36 pm36 an36 cd36 ct36), sl36⟩) (d36 : PySem.W.codeIn K cd36 "_law_sizes" = true) (k36 : PySem.W.keepIn K (.ref f36) = true)
    (a37 : PySem.W.nsIn K mainGlobals "_law_right" = some (some (.ref f37))) (l37 : K.lookup f37 = some ⟨oc37, od37, .func (PySem.W.fnOf "_law_right" "_law_right" (defArgs s__law_right) (defBody s__law_right) (defScope s__law_right) .none kV37 dc37 pm37 an37 cd37 ct37), sl37⟩) (d37 : PySem.W.codeIn K cd37 "_law_right" = true) (k37 : PySem.W.keepIn K (.ref f37) = true)
    (a38 : PySem.W.nsIn K mainGlobals "law" = some (some (.ref f38))) (l38 : K.lookup f38 = some ⟨oc38, od38, .func (PySem.W.fnOf "law" "law" (defArgs s_law) (defBody s_law) (defScope s_law) .none kV38 dc38 pm38 an38 cd38 ct38), sl38⟩) (d38 : PySem.W.codeIn K cd38 "law" = true) (k38 : PySem.W.keepIn K (.ref f38) = true)
    (t10 : PySem.W.tabIn K "_joined" = some (c10, P10)) (u10 : K.lookup P10 = none)
    (z_all : PySem.W.nsIn K mainGlobals "all" = some none)
    (z_any : PySem.W.nsIn K mainGlobals "any" = some none)
    (z_bool : PySem.W.nsIn K mainGlobals "bool" = some none)
    (z_dict : PySem.W.nsIn K mainGlobals "dict" = some none)
    (z_enumerate : PySem.W.nsIn K mainGlobals "enumerate" = some none)
    (z_int : PySem.W.nsIn K mainGlobals "int" = some none)
    (z_isinstance : PySem.W.nsIn K mainGlobals "isinstance" = some none)
    (z_len : PySem.W.nsIn K mainGlobals "len" = some none)
    (z_list : PySem.W.nsIn K mainGlobals "list" = some none)
    (z_max : PySem.W.nsIn K mainGlobals "max" = some none)
    (z_min : PySem.W.nsIn K mainGlobals "min" = some none)
    (z_range : PySem.W.nsIn K mainGlobals "range" = some none)
    (z_sorted : PySem.W.nsIn K mainGlobals "sorted" = some none)
    (z_str : PySem.W.nsIn K mainGlobals "str" = some none)
    (z_sum : PySem.W.nsIn K mainGlobals "sum" = some none)
    (z_tuple : PySem.W.nsIn K mainGlobals "tuple" = some none)
    (z_zip : PySem.W.nsIn K mainGlobals "zip" = some none)
    : LawT l w K 14 "script" mg fa [("_joined", c10, P10)] := by
  have e := hfa.symm.trans (PySem.W.mg_of X G a38)
  cases e
  have F0 := fun_mk (st := s_is_whole) l0 d0 k0
  have b0 := F0.binds (ps := ["thing"]) fun _ _ _ _ _ _ us hl => match us, hl with | [_], _ => rfl
  have F1 := fun_mk (st := s_is_whole_within) l1 d1 k1
  have b1 := F1.binds (ps := ["thing", "low", "high"]) fun _ _ _ _ _ _ us hl => match us, hl with | [_, _, _], _ => rfl
  have F2 := fun_mk (st := s_is_letter) l2 d2 k2
  have b2 := F2.binds (ps := ["thing"]) fun _ _ _ _ _ _ us hl => match us, hl with | [_], _ => rfl
  have F3 := fun_mk (st := s_is_tree) l3 d3 k3
  have b3 := F3.binds (ps := ["thing"]) fun _ _ _ _ _ _ us hl => match us, hl with | [_], _ => rfl
  have F4 := fun_mk (st := s__is_part) l4 d4 k4
  have b4 := F4.binds (ps := ["thing"]) fun _ _ _ _ _ _ us hl => match us, hl with | [_], _ => rfl
  have F5 := fun_mk (st := s_check_tree) l5 d5 k5
  have b5 := F5.binds (ps := ["thing"]) fun _ _ _ _ _ _ us hl => match us, hl with | [_], _ => rfl
  have F6 := fun_mk (st := s_parts_upward) l6 d6 k6
  have b6 := F6.binds (ps := ["tree"]) fun _ _ _ _ _ _ us hl => match us, hl with | [_], _ => rfl
  have F7 := fun_mk (st := s_size_of) l7 d7 k7
  have b7 := F7.binds (ps := ["tree"]) fun _ _ _ _ _ _ us hl => match us, hl with | [_], _ => rfl
  have F8 := fun_mk (st := s_built_upward) l8 d8 k8
  have b8 := F8.binds (ps := ["tree", "made"]) fun _ _ _ _ _ _ us hl => match us, hl with | [_, _], _ => rfl
  have F9 := fun_mk (st := s__written_and_told) l9 d9 k9
  have b9 := F9.binds (ps := ["tree"]) fun _ _ _ _ _ _ us hl => match us, hl with | [_], _ => rfl
  have F10 := fun_mk (st := s__joined) l10 d10 k10
  have b10 := F10.binds (ps := ["letter", "below"]) fun _ _ _ _ _ _ us hl => match us, hl with | [_, _], _ => rfl
  have F11 := fun_mk (st := s_written_part) l11 d11 k11
  have b11 := F11.binds (ps := ["letter", "texts"]) fun _ _ _ _ _ _ us hl => match us, hl with | [_, _], _ => rfl
  have F12 := fun_mk (st := s_told_form) l12 d12 k12
  have b12 := F12.binds (ps := ["tree"]) fun _ _ _ _ _ _ us hl => match us, hl with | [_], _ => rfl
  have F13 := fun_mk (st := s_from_heap) l13 d13 k13
  have b13 := F13.binds (ps := ["letter", "heap"]) fun _ _ _ _ _ _ us hl => match us, hl with | [_, _], _ => rfl
  have F14 := fun_mk (st := s__is_heap_row) l14 d14 k14
  have b14 := F14.binds (ps := ["thing"]) fun _ _ _ _ _ _ us hl => match us, hl with | [_], _ => rfl
  have F15 := fun_mk (st := s_are_rising_states) l15 d15 k15
  have b15 := F15.binds (ps := ["thing", "states"]) fun _ _ _ _ _ _ us hl => match us, hl with | [_, _], _ => rfl
  have F16 := fun_mk (st := s__rises) l16 d16 k16
  have b16 := F16.binds (ps := ["row"]) fun _ _ _ _ _ _ us hl => match us, hl with | [_], _ => rfl
  have F17 := fun_mk (st := s_states_that_come) l17 d17 k17
  have b17 := F17.binds (ps := ["judge"]) fun _ _ _ _ _ _ us hl => match us, hl with | [_], _ => rfl
  have F18 := fun_mk (st := s_least_trees) l18 d18 k18
  have b18 := F18.binds (ps := ["judge"]) fun _ _ _ _ _ _ us hl => match us, hl with | [_], _ => rfl
  have F19 := fun_mk (st := s__least_rows) l19 d19 k19
  have b19 := F19.binds (ps := ["judge"]) fun _ _ _ _ _ _ us hl => match us, hl with | [_], _ => rfl
  have F20 := fun_mk (st := s__next_least_row) l20 d20 k20
  have b20 := F20.binds (ps := ["judge", "sizes"]) fun _ _ _ _ _ _ us hl => match us, hl with | [_, _], _ => rfl
  have F21 := fun_mk (st := s__least_size) l21 d21 k21
  have b21 := F21.binds (ps := ["classes", "sizes"]) fun _ _ _ _ _ _ us hl => match us, hl with | [_, _], _ => rfl
  have F22 := fun_mk (st := s_are_only_of) l22 d22 k22
  have b22 := F22.binds (ps := ["classes", "states"]) fun _ _ _ _ _ _ us hl => match us, hl with | [_, _], _ => rfl
  have F23 := fun_mk (st := s_none_paper) l23 d23 k23
  have b23 := F23.binds (ps := ["judge"]) fun _ _ _ _ _ _ us hl => match us, hl with | [_], _ => rfl
  have F24 := fun_mk (st := s__has_good) l24 d24 k24
  have b24 := F24.binds (ps := ["judge", "states"]) fun _ _ _ _ _ _ us hl => match us, hl with | [_, _], _ => rfl
  have F25 := fun_mk (st := s_none_shows) l25 d25 k25
  have b25 := F25.binds (ps := ["judge", "paper"]) fun _ _ _ _ _ _ us hl => match us, hl with | [_, _], _ => rfl
  have F26 := fun_mk (st := s__law_cell_at) l26 d26 k26
  have b26 := F26.binds (ps := ["script", "k"]) fun _ _ _ _ _ _ us hl => match us, hl with | [_, _], _ => rfl
  have F27 := fun_mk (st := s__law_stir) l27 d27 k27
  have b27 := F27.binds (ps := ["cell", "k"]) fun _ _ _ _ _ _ us hl => match us, hl with | [_, _], _ => rfl
  have F28 := fun_mk (st := s__law_deck) l28 d28 k28
  have b28 := F28.binds (ps := ["cell", "many"]) fun _ _ _ _ _ _ us hl => match us, hl with | [_, _], _ => rfl
  have F29 := fun_mk (st := s__law_next) l29 d29 k29
  have b29 := F29.binds (ps := ["deck"]) fun _ _ _ _ _ _ us hl => match us, hl with | [_], _ => rfl
  have F30 := fun_mk (st := s__law_classes) l30 d30 k30
  have b30 := F30.binds (ps := ["states", "many"]) fun _ _ _ _ _ _ us hl => match us, hl with | [_, _], _ => rfl
  have F31 := fun_mk (st := s__law_room) l31 d31 k31
  have b31 := F31.binds (ps := ["letters", "states", "many"]) fun _ _ _ _ _ _ us hl => match us, hl with | [_, _, _], _ => rfl
  have F32 := fun_mk (st := s__law_judge) l32 d32 k32
  have b32 := F32.binds (ps := ["deck", "letters", "most", "room"]) fun _ _ _ _ _ _ us hl => match us, hl with | [_, _, _, _], _ => rfl
  have F33 := fun_mk (st := s__law_letters) l33 d33 k33
  have b33 := F33.binds (ps := ["deck"]) fun _ _ _ _ _ _ us hl => match us, hl with | [_], _ => rfl
  have F34 := fun_mk (st := s__law_renumbered) l34 d34 k34
  have b34 := F34.binds (ps := ["judge", "numbers", "letters"]) fun _ _ _ _ _ _ us hl => match us, hl with | [_, _, _], _ => rfl
  have F35 := fun_mk (st := s__law_widened) l35 d35 k35
  have b35 := F35.binds (ps := ["judge"]) fun _ _ _ _ _ _ us hl => match us, hl with | [_], _ => rfl
  have F36 := fun_mk (st := s__law_sizes) l36 d36 k36
  have b36 := F36.binds (ps := ["judge"]) fun _ _ _ _ _ _ us hl => match us, hl with | [_], _ => rfl
  have F37 := fun_mk (st := s__law_right) l37 d37 k37
  have b37 := F37.binds (ps := ["judge", "numbers"]) fun _ _ _ _ _ _ us hl => match us, hl with | [_, _], _ => rfl
  have F38 := fun_mk (st := s_law) l38 d38 k38
  have b38 := F38.binds (ps := ["script"]) fun _ _ _ _ _ _ us hl => match us, hl with | [_], _ => rfl
  let T : Txt K mg := ⟨f0, _, F0, b0, PySem.W.mg_of X G a0, f1, _, F1, b1, PySem.W.mg_of X G a1, f2, _, F2, b2, PySem.W.mg_of X G a2, f3, _, F3, b3, PySem.W.mg_of X G a3, f4, _, F4, b4, PySem.W.mg_of X G a4, f5, _, F5, b5, PySem.W.mg_of X G a5, f6, _, F6, b6, PySem.W.mg_of X G a6, f7, _, F7, b7, PySem.W.mg_of X G a7, f8, _, F8, b8, PySem.W.mg_of X G a8, f9, _, F9, b9, PySem.W.mg_of X G a9, f10, _, F10, b10, PySem.W.mg_of X G a10, f11, _, F11, b11, PySem.W.mg_of X G a11, f12, _, F12, b12, PySem.W.mg_of X G a12, f13, _, F13, b13, PySem.W.mg_of X G a13, f14, _, F14, b14, PySem.W.mg_of X G a14, f15, _, F15, b15, PySem.W.mg_of X G a15, f16, _, F16, b16, PySem.W.mg_of X G a16, f17, _, F17, b17, PySem.W.mg_of X G a17, f18, _, F18, b18, PySem.W.mg_of X G a18, f19, _, F19, b19, PySem.W.mg_of X G a19, f20, _, F20, b20, PySem.W.mg_of X G a20, f21, _, F21, b21, PySem.W.mg_of X G a21, f22, _, F22, b22, PySem.W.mg_of X G a22, f23, _, F23, b23, PySem.W.mg_of X G a23, f24, _, F24, b24, PySem.W.mg_of X G a24, f25, _, F25, b25, PySem.W.mg_of X G a25, f26, _, F26, b26, PySem.W.mg_of X G a26, f27, _, F27, b27, PySem.W.mg_of X G a27, f28, _, F28, b28, PySem.W.mg_of X G a28, f29, _, F29, b29, PySem.W.mg_of X G a29, f30, _, F30, b30, PySem.W.mg_of X G a30, f31, _, F31, b31, PySem.W.mg_of X G a31, f32, _, F32, b32, PySem.W.mg_of X G a32, f33, _, F33, b33, PySem.W.mg_of X G a33, f34, _, F34, b34, PySem.W.mg_of X G a34, f35, _, F35, b35, PySem.W.mg_of X G a35, f36, _, F36, b36, PySem.W.mg_of X G a36, f37, _, F37, b37, PySem.W.mg_of X G a37, fa, _, F38, b38, PySem.W.mg_of X G a38, c10, P10, rfl, PySem.W.mg_none_of X G z_all, PySem.W.mg_none_of X G z_any, PySem.W.mg_none_of X G z_bool, PySem.W.mg_none_of X G z_dict, PySem.W.mg_none_of X G z_enumerate, PySem.W.mg_none_of X G z_int, PySem.W.mg_none_of X G z_isinstance, PySem.W.mg_none_of X G z_len, PySem.W.mg_none_of X G z_list, PySem.W.mg_none_of X G z_max, PySem.W.mg_none_of X G z_min, PySem.W.mg_none_of X G z_range, PySem.W.mg_none_of X G z_sorted, PySem.W.mg_none_of X G z_str, PySem.W.mg_none_of X G z_sum, PySem.W.mg_none_of X G z_tuple, PySem.W.mg_none_of X G z_zip⟩
  refine ⟨?_, PySem.W.fnOf "law" "law" (defArgs s_law) (defBody s_law) (defScope s_law) .none kV38 dc38 pm38 an38 cd38 ct38, fun s v => .of_eq rfl, fun base _ _ hb => ?_⟩
  · intro z hz
    simp only [List.mem_cons, List.not_mem_nil, or_false] at hz
    subst hz
    exact ⟨t10, u10⟩
  · have B : Tbs T base := ⟨hb ("_joined", c10, P10) (by simp)⟩
    exact ok_law T B
end My
open PySem PySem.W PyProof.Rows
set_option maxRecDepth 100000 in
set_option maxHeartbeats 0 in
theorem PySem.Challenge.cw_heaptrees_k31_whole_states_otherwise_num_holds : PySem.Challenge.rw_heaptrees_k31_whole_states_otherwise_num.Holds := by
  w_on; o_law; k_head; (case hw => w_witness2)
  k_fill
  refine My.walk_ofT (l := PySem.Challenge.rw_heaptrees_k31_whole_states_otherwise_num) (n := 63) (k := 14) (x := "script") rfl (by decide) (by decide) rfl ⟨rfl, by decide, by decide⟩ (fun w h Y => Y.1) ["_joined"] ?R ?F
  case R => decide +kernel
  case F =>
    intro w mg fa h KX G hmg
    refine' ⟨_, ?n, ?m⟩
    case m =>
      refine' My.all_mk KX G hmg ?a0 ?l0 ?d0 ?k0 ?a1 ?l1 ?d1 ?k1 ?a2 ?l2 ?d2 ?k2 ?a3 ?l3 ?d3 ?k3 ?a4 ?l4 ?d4 ?k4 ?a5 ?l5 ?d5 ?k5 ?a6 ?l6 ?d6 ?k6 ?a7 ?l7 ?d7 ?k7 ?a8 ?l8 ?d8 ?k8 ?a9 ?l9 ?d9 ?k9 ?a10 ?l10 ?d10 ?k10 ?a11 ?l11 ?d11 ?k11 ?a12 ?l12 ?d12 ?k12 ?a13 ?l13 ?d13 ?k13 ?a14 ?l14 ?d14 ?k14 ?a15 ?l15 ?d15 ?k15 ?a16 ?l16 ?d16 ?k16 ?a17 ?l17 ?d17 ?k17 ?a18 ?l18 ?d18 ?k18 ?a19 ?l19 ?d19 ?k19 ?a20 ?l20 ?d20 ?k20 ?a21 ?l21 ?d21 ?k21 ?a22 ?l22 ?d22 ?k22 ?a23 ?l23 ?d23 ?k23 ?a24 ?l24 ?d24 ?k24 ?a25 ?l25 ?d25 ?k25 ?a26 ?l26 ?d26 ?k26 ?a27 ?l27 ?d27 ?k27 ?a28 ?l28 ?d28 ?k28 ?a29 ?l29 ?d29 ?k29 ?a30 ?l30 ?d30 ?k30 ?a31 ?l31 ?d31 ?k31 ?a32 ?l32 ?d32 ?k32 ?a33 ?l33 ?d33 ?k33 ?a34 ?l34 ?d34 ?k34 ?a35 ?l35 ?d35 ?k35 ?a36 ?l36 ?d36 ?k36 ?a37 ?l37 ?d37 ?k37 ?a38 ?l38 ?d38 ?k38 ?t10 ?u10 ?z_all ?z_any ?z_bool ?z_dict ?z_enumerate ?z_int ?z_isinstance ?z_len ?z_list ?z_max ?z_min ?z_range ?z_sorted ?z_str ?z_sum ?z_tuple ?z_zip
      (case a0 => k_is)
      (case l0 => k_is)
      (case d0 => k_is)
      (case k0 => k_is)
      (case a1 => k_is)
      (case l1 => k_is)
      (case d1 => k_is)
      (case k1 => k_is)
      (case a2 => k_is)
      (case l2 => k_is)
      (case d2 => k_is)
      (case k2 => k_is)
      (case a3 => k_is)
      (case l3 => k_is)
      (case d3 => k_is)
      (case k3 => k_is)
      (case a4 => k_is)
      (case l4 => k_is)
      (case d4 => k_is)
      (case k4 => k_is)
      (case a5 => k_is)
      (case l5 => k_is)
      (case d5 => k_is)
      (case k5 => k_is)
      (case a6 => k_is)
      (case l6 => k_is)
      (case d6 => k_is)
      (case k6 => k_is)
      (case a7 => k_is)
      (case l7 => k_is)
      (case d7 => k_is)
      (case k7 => k_is)
      (case a8 => k_is)
      (case l8 => k_is)
      (case d8 => k_is)
      (case k8 => k_is)
      (case a9 => k_is)
      (case l9 => k_is)
      (case d9 => k_is)
      (case k9 => k_is)
      (case a10 => k_is)
      (case l10 => k_is)
      (case d10 => k_is)
      (case k10 => k_is)
      (case a11 => k_is)
      (case l11 => k_is)
      (case d11 => k_is)
      (case k11 => k_is)
      (case a12 => k_is)
      (case l12 => k_is)
      (case d12 => k_is)
      (case k12 => k_is)
      (case a13 => k_is)
      (case l13 => k_is)
      (case d13 => k_is)
      (case k13 => k_is)
      (case a14 => k_is)
      (case l14 => k_is)
      (case d14 => k_is)
      (case k14 => k_is)
      (case a15 => k_is)
      (case l15 => k_is)
      (case d15 => k_is)
      (case k15 => k_is)
      (case a16 => k_is)
      (case l16 => k_is)
      (case d16 => k_is)
      (case k16 => k_is)
      (case a17 => k_is)
      (case l17 => k_is)
      (case d17 => k_is)
      (case k17 => k_is)
      (case a18 => k_is)
      (case l18 => k_is)
      (case d18 => k_is)
      (case k18 => k_is)
      (case a19 => k_is)
      (case l19 => k_is)
      (case d19 => k_is)
      (case k19 => k_is)
      (case a20 => k_is)
      (case l20 => k_is)
      (case d20 => k_is)
      (case k20 => k_is)
      (case a21 => k_is)
      (case l21 => k_is)
      (case d21 => k_is)
      (case k21 => k_is)
      (case a22 => k_is)
      (case l22 => k_is)
      (case d22 => k_is)
      (case k22 => k_is)
      (case a23 => k_is)
      (case l23 => k_is)
      (case d23 => k_is)
      (case k23 => k_is)
      (case a24 => k_is)
      (case l24 => k_is)
      (case d24 => k_is)
      (case k24 => k_is)
      (case a25 => k_is)
      (case l25 => k_is)
      (case d25 => k_is)
      (case k25 => k_is)
      (case a26 => k_is)
      (case l26 => k_is)
      (case d26 => k_is)
      (case k26 => k_is)
      (case a27 => k_is)
      (case l27 => k_is)
      (case d27 => k_is)
      (case k27 => k_is)
      (case a28 => k_is)
      (case l28 => k_is)
      (case d28 => k_is)
      (case k28 => k_is)
      (case a29 => k_is)
      (case l29 => k_is)
      (case d29 => k_is)
      (case k29 => k_is)
      (case a30 => k_is)
      (case l30 => k_is)
      (case d30 => k_is)
      (case k30 => k_is)
      (case a31 => k_is)
      (case l31 => k_is)
      (case d31 => k_is)
      (case k31 => k_is)
      (case a32 => k_is)
      (case l32 => k_is)
      (case d32 => k_is)
      (case k32 => k_is)
      (case a33 => k_is)
      (case l33 => k_is)
      (case d33 => k_is)
      (case k33 => k_is)
      (case a34 => k_is)
      (case l34 => k_is)
      (case d34 => k_is)
      (case k34 => k_is)
      (case a35 => k_is)
      (case l35 => k_is)
      (case d35 => k_is)
      (case k35 => k_is)
      (case a36 => k_is)
      (case l36 => k_is)
      (case d36 => k_is)
      (case k36 => k_is)
      (case a37 => k_is)
      (case l37 => k_is)
      (case d37 => k_is)
      (case k37 => k_is)
      (case a38 => k_is)
      (case l38 => k_is)
      (case d38 => k_is)
      (case k38 => k_is)
      (case t10 => rfl)
      (case u10 => rfl)
      (case z_all => k_is)
      (case z_any => k_is)
      (case z_bool => k_is)
      (case z_dict => k_is)
      (case z_enumerate => k_is)
      (case z_int => k_is)
      (case z_isinstance => k_is)
      (case z_len => k_is)
      (case z_list => k_is)
      (case z_max => k_is)
      (case z_min => k_is)
      (case z_range => k_is)
      (case z_sorted => k_is)
      (case z_str => k_is)
      (case z_sum => k_is)
      (case z_tuple => k_is)
      (case z_zip => k_is)
    case n => rfl
#print axioms PySem.Challenge.cw_heaptrees_k31_whole_states_otherwise_num_holds
