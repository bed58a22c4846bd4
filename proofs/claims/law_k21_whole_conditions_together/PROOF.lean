
import PyProof.Rows.All
import Wide.All
import OpenK.AllK
import Wide.FinOn
import HandS.ForMost
import HandS.Wide
import HandS.IsInst
import HandS.Flow
import HandS.Style
import HandS.Codes
import HandS.Lambda
import HandS.EndTab
import HandS.SortKw
import HandS.FStr
import HandS.NoneIn
import HandS.More
import HandS.Zip
import HandS.Conv
import HandS.TupAny
import HandS.RaiseMore
import HandS.Walk
import HandS.Iter
import HandS.Dict
import PyProof.StrLawsRepr
import KE.SortKeyHeap
import PySem.Challenge.RW_heaptrees_k21_whole_conditions_together
set_option Elab.async false
set_option linter.all false
set_option maxRecDepth 100000
set_option maxHeartbeats 4000000
namespace My
open PySem PySem.Spec PyProof.Rows L2
def topS (i : Nat) : Stmt := PySem.Challenge.pw_heaptrees_k21_whole_conditions_together.main.body.getD i (.Pass ⟨0, 0, 0, 0⟩)
abbrev s_is_whole : Stmt := topS 1
theorem sc_is_whole : FnScope ["thing"] ["thing"] (defScope s_is_whole) := ⟨rfl, rfl, rfl, by decide +kernel, rfl, by decide +kernel, by decide +kernel⟩
abbrev s_is_whole_within : Stmt := topS 2
theorem sc_is_whole_within : FnScope ["thing", "low", "high"] ["thing", "low", "high"] (defScope s_is_whole_within) := ⟨rfl, rfl, rfl, by decide +kernel, rfl, by decide +kernel, by decide +kernel⟩
abbrev s_is_condition : Stmt := topS 10
theorem sc_is_condition : FnScope ["thing", "s"] ["thing", "s"] (defScope s_is_condition) := ⟨rfl, rfl, rfl, by decide +kernel, rfl, by decide +kernel, by decide +kernel⟩
abbrev s__is_condition_of : Stmt := topS 11
theorem sc__is_condition_of : FnScope ["thing", "s", "levels", "word", "part"] ["thing", "s", "levels"] (defScope s__is_condition_of) := ⟨rfl, rfl, rfl, by decide +kernel, rfl, by decide +kernel, by decide +kernel⟩
abbrev s__is_least : Stmt := topS 12
theorem sc__is_least : FnScope ["thing", "s"] ["thing", "s"] (defScope s__is_least) := ⟨rfl, rfl, rfl, by decide +kernel, rfl, by decide +kernel, by decide +kernel⟩
abbrev s__is_turns : Stmt := topS 13
theorem sc__is_turns : FnScope ["thing", "s"] ["thing", "s"] (defScope s__is_turns) := ⟨rfl, rfl, rfl, by decide +kernel, rfl, by decide +kernel, by decide +kernel⟩
abbrev s__are_weights : Stmt := topS 14
theorem sc__are_weights : FnScope ["thing", "s", "weight"] ["thing", "s"] (defScope s__are_weights) := ⟨rfl, rfl, rfl, by decide +kernel, rfl, by decide +kernel, by decide +kernel⟩
abbrev s_condition_holds : Stmt := topS 15
theorem sc_condition_holds : FnScope ["condition", "numbers", "word"] ["condition", "numbers"] (defScope s_condition_holds) := ⟨rfl, rfl, rfl, by decide +kernel, rfl, by decide +kernel, by decide +kernel⟩
abbrev s__weighed : Stmt := topS 16
theorem sc__weighed : FnScope ["weights", "numbers", "weight", "number"] ["weights", "numbers"] (defScope s__weighed) := ⟨rfl, rfl, rfl, by decide +kernel, rfl, by decide +kernel, by decide +kernel⟩
abbrev s__law_cell_at : Stmt := topS 18
theorem sc__law_cell_at : FnScope ["script", "k"] ["script", "k"] (defScope s__law_cell_at) := ⟨rfl, rfl, rfl, by decide +kernel, rfl, by decide +kernel, by decide +kernel⟩
abbrev s__law_numbers : Stmt := topS 19
theorem sc__law_numbers : FnScope ["cell", "many", "found", "rest", "stir", "k", "again"] ["cell", "many"] (defScope s__law_numbers) := ⟨rfl, rfl, rfl, by decide +kernel, rfl, by decide +kernel, by decide +kernel⟩
abbrev s__law_deck : Stmt := topS 20
theorem sc__law_deck : FnScope ["cell", "many"] ["cell", "many"] (defScope s__law_deck) := ⟨rfl, rfl, rfl, by decide +kernel, rfl, by decide +kernel, by decide +kernel⟩
abbrev s__law_take : Stmt := topS 21
theorem sc__law_take : FnScope ["deck", "many"] ["deck", "many"] (defScope s__law_take) := ⟨rfl, rfl, rfl, by decide +kernel, rfl, by decide +kernel, by decide +kernel⟩
abbrev s__law_weights : Stmt := topS 22
theorem sc__law_weights : FnScope ["deck", "s", "most", "k"] ["deck", "s"] (defScope s__law_weights) := ⟨rfl, rfl, rfl, by decide +kernel, rfl, by decide +kernel, by decide +kernel⟩
abbrev s__law_condition : Stmt := topS 23
theorem sc__law_condition : FnScope ["deck", "s", "deep", "way", "m", "one"] ["deck", "s", "deep"] (defScope s__law_condition) := ⟨rfl, rfl, rfl, by decide +kernel, rfl, by decide +kernel, by decide +kernel⟩
abbrev s__law_deep : Stmt := topS 24
theorem sc__law_deep : FnScope ["condition", "one"] ["condition"] (defScope s__law_deep) := ⟨rfl, rfl, rfl, by decide +kernel, rfl, by decide +kernel, by decide +kernel⟩
abbrev s__law_turned : Stmt := topS 25
theorem sc__law_turned : FnScope ["condition", "order", "at", "one"] ["condition", "order"] (defScope s__law_turned) := ⟨rfl, rfl, rfl, by decide +kernel, rfl, by decide +kernel, by decide +kernel⟩
abbrev s__law_sums_right : Stmt := topS 26
theorem sc__law_sums_right : FnScope ["weights", "numbers", "total", "least", "m", "rests", "weight", "number", "b", "r"] ["weights", "numbers"] (defScope s__law_sums_right) := ⟨rfl, rfl, rfl, by decide +kernel, rfl, by decide +kernel, by decide +kernel⟩
abbrev s__law_pair_right : Stmt := topS 27
theorem sc__law_pair_right : FnScope ["one", "other", "numbers", "order", "first", "second", "told", "neither", "turned", "at"] ["one", "other", "numbers", "order"] (defScope s__law_pair_right) := ⟨rfl, rfl, rfl, by decide +kernel, rfl, by decide +kernel, by decide +kernel⟩
abbrev s_law : Stmt := topS 28
theorem sc_law : FnScope ["script", "k", "deck", "s", "one", "other", "left", "order", "turn", "condition", "numbers", "at"] ["script"] (defScope s_law) := ⟨rfl, rfl, rfl, by decide +kernel, rfl, by decide +kernel, by decide +kernel⟩
structure Txt (K : PySem.W.Frag) (mg : Str → Option Value) where
  f_is_whole : Addr
  d_is_whole : FuncData
  F_is_whole : Fun K "is_whole" "is_whole" s_is_whole f_is_whole d_is_whole
  b_is_whole : Binds K d_is_whole ["thing"] []
  m_is_whole : mg "is_whole" = some (.ref f_is_whole)
  f_is_whole_within : Addr
  d_is_whole_within : FuncData
  F_is_whole_within : Fun K "is_whole_within" "is_whole_within" s_is_whole_within f_is_whole_within d_is_whole_within
  b_is_whole_within : Binds K d_is_whole_within ["thing", "low", "high"] []
  m_is_whole_within : mg "is_whole_within" = some (.ref f_is_whole_within)
  f_is_condition : Addr
  d_is_condition : FuncData
  F_is_condition : Fun K "is_condition" "is_condition" s_is_condition f_is_condition d_is_condition
  b_is_condition : Binds K d_is_condition ["thing", "s"] []
  m_is_condition : mg "is_condition" = some (.ref f_is_condition)
  f__is_condition_of : Addr
  d__is_condition_of : FuncData
  F__is_condition_of : Fun K "_is_condition_of" "_is_condition_of" s__is_condition_of f__is_condition_of d__is_condition_of
  b__is_condition_of : Binds K d__is_condition_of ["thing", "s", "levels"] []
  m__is_condition_of : mg "_is_condition_of" = some (.ref f__is_condition_of)
  f__is_least : Addr
  d__is_least : FuncData
  F__is_least : Fun K "_is_least" "_is_least" s__is_least f__is_least d__is_least
  b__is_least : Binds K d__is_least ["thing", "s"] []
  m__is_least : mg "_is_least" = some (.ref f__is_least)
  f__is_turns : Addr
  d__is_turns : FuncData
  F__is_turns : Fun K "_is_turns" "_is_turns" s__is_turns f__is_turns d__is_turns
  b__is_turns : Binds K d__is_turns ["thing", "s"] []
  m__is_turns : mg "_is_turns" = some (.ref f__is_turns)
  f__are_weights : Addr
  d__are_weights : FuncData
  F__are_weights : Fun K "_are_weights" "_are_weights" s__are_weights f__are_weights d__are_weights
  b__are_weights : Binds K d__are_weights ["thing", "s"] []
  m__are_weights : mg "_are_weights" = some (.ref f__are_weights)
  f_condition_holds : Addr
  d_condition_holds : FuncData
  F_condition_holds : Fun K "condition_holds" "condition_holds" s_condition_holds f_condition_holds d_condition_holds
  b_condition_holds : Binds K d_condition_holds ["condition", "numbers"] []
  m_condition_holds : mg "condition_holds" = some (.ref f_condition_holds)
  f__weighed : Addr
  d__weighed : FuncData
  F__weighed : Fun K "_weighed" "_weighed" s__weighed f__weighed d__weighed
  b__weighed : Binds K d__weighed ["weights", "numbers"] []
  m__weighed : mg "_weighed" = some (.ref f__weighed)
  f__law_cell_at : Addr
  d__law_cell_at : FuncData
  F__law_cell_at : Fun K "_law_cell_at" "_law_cell_at" s__law_cell_at f__law_cell_at d__law_cell_at
  b__law_cell_at : Binds K d__law_cell_at ["script", "k"] []
  m__law_cell_at : mg "_law_cell_at" = some (.ref f__law_cell_at)
  f__law_numbers : Addr
  d__law_numbers : FuncData
  F__law_numbers : Fun K "_law_numbers" "_law_numbers" s__law_numbers f__law_numbers d__law_numbers
  b__law_numbers : Binds K d__law_numbers ["cell", "many"] []
  m__law_numbers : mg "_law_numbers" = some (.ref f__law_numbers)
  f__law_deck : Addr
  d__law_deck : FuncData
  F__law_deck : Fun K "_law_deck" "_law_deck" s__law_deck f__law_deck d__law_deck
  b__law_deck : Binds K d__law_deck ["cell", "many"] []
  m__law_deck : mg "_law_deck" = some (.ref f__law_deck)
  f__law_take : Addr
  d__law_take : FuncData
  F__law_take : Fun K "_law_take" "_law_take" s__law_take f__law_take d__law_take
  b__law_take : Binds K d__law_take ["deck", "many"] []
  m__law_take : mg "_law_take" = some (.ref f__law_take)
  f__law_weights : Addr
  d__law_weights : FuncData
  F__law_weights : Fun K "_law_weights" "_law_weights" s__law_weights f__law_weights d__law_weights
  b__law_weights : Binds K d__law_weights ["deck", "s"] []
  m__law_weights : mg "_law_weights" = some (.ref f__law_weights)
  f__law_condition : Addr
  d__law_condition : FuncData
  F__law_condition : Fun K "_law_condition" "_law_condition" s__law_condition f__law_condition d__law_condition
  b__law_condition : Binds K d__law_condition ["deck", "s", "deep"] []
  m__law_condition : mg "_law_condition" = some (.ref f__law_condition)
  f__law_deep : Addr
  d__law_deep : FuncData
  F__law_deep : Fun K "_law_deep" "_law_deep" s__law_deep f__law_deep d__law_deep
  b__law_deep : Binds K d__law_deep ["condition"] []
  m__law_deep : mg "_law_deep" = some (.ref f__law_deep)
  f__law_turned : Addr
  d__law_turned : FuncData
  F__law_turned : Fun K "_law_turned" "_law_turned" s__law_turned f__law_turned d__law_turned
  b__law_turned : Binds K d__law_turned ["condition", "order"] []
  m__law_turned : mg "_law_turned" = some (.ref f__law_turned)
  f__law_sums_right : Addr
  d__law_sums_right : FuncData
  F__law_sums_right : Fun K "_law_sums_right" "_law_sums_right" s__law_sums_right f__law_sums_right d__law_sums_right
  b__law_sums_right : Binds K d__law_sums_right ["weights", "numbers"] []
  m__law_sums_right : mg "_law_sums_right" = some (.ref f__law_sums_right)
  f__law_pair_right : Addr
  d__law_pair_right : FuncData
  F__law_pair_right : Fun K "_law_pair_right" "_law_pair_right" s__law_pair_right f__law_pair_right d__law_pair_right
  b__law_pair_right : Binds K d__law_pair_right ["one", "other", "numbers", "order"] []
  m__law_pair_right : mg "_law_pair_right" = some (.ref f__law_pair_right)
  f_law : Addr
  d_law : FuncData
  F_law : Fun K "law" "law" s_law f_law d_law
  b_law : Binds K d_law ["script"] []
  m_law : mg "law" = some (.ref f_law)
  t_MOST_STATES : Tok
  g_MOST_STATES : mg "MOST_STATES" = some (.int 6 t_MOST_STATES)
  t_MOST_WITHIN : Tok
  g_MOST_WITHIN : mg "MOST_WITHIN" = some (.int 4 t_MOST_WITHIN)
  t_MOST_WEIGHT : Tok
  g_MOST_WEIGHT : mg "MOST_WEIGHT" = some (.int 4 t_MOST_WEIGHT)
  t_MOST_BOUND : Tok
  g_MOST_BOUND : mg "MOST_BOUND" = some (.int 4 t_MOST_BOUND)
  t_MOST_M : Tok
  g_MOST_M : mg "MOST_M" = some (.int 4 t_MOST_M)
  a_MADE_OF_OTHERS : Addr
  g_MADE_OF_OTHERS : mg "MADE_OF_OTHERS" = some (.ref a_MADE_OF_OTHERS)
  z_all : mg "all" = none
  z_bool : mg "bool" = none
  z_int : mg "int" = none
  z_isinstance : mg "isinstance" = none
  z_len : mg "len" = none
  z_list : mg "list" = none
  z_max : mg "max" = none
  z_min : mg "min" = none
  z_range : mg "range" = none
  z_str : mg "str" = none
  z_sum : mg "sum" = none
  z_tuple : mg "tuple" = none
  z_zip : mg "zip" = none
local macro_rules | `(tactic| walk_at "my rd") => `(tactic| repeat (first | refine ⟨_, rfl, ?_⟩ | refine ⟨_, _, rfl, rfl, ?_⟩ | refine ⟨rfl, ?_⟩))
local macro_rules | `(tactic| walk_at "my one") => `(tactic| first | refine ⟨_, rfl, ?_⟩ | refine ⟨_, _, rfl, rfl, ?_⟩ | refine ⟨rfl, ?_⟩)
def Chg (p : Addr) (H H' : Hp) : Prop := ∀ b, b ≠ p → H' b = H b
theorem Chg.refl (p : Addr) (H : Hp) : Chg p H H := fun _ _ => rfl
theorem Chg.trans {p : Addr} {H H1 H2 : Hp} (a : Chg p H H1) (b : Chg p H1 H2) : Chg p H H2 := fun c hc => (b c hc).trans (a c hc)
theorem Chg.upd {p : Addr} {H : Hp} {o : HO} : Chg p H (upd H p o) := fun _ h => upd_ne h
theorem Chg.at {p b : Addr} {H H' : Hp} {o : HO} (c : Chg p H H') (h : H b = some o) (n : b ≠ p) : H' b = some o := (c b n).trans h
theorem Chg.seq {K : PySem.W.Frag} {p a : Addr} {H H' : Hp} {xs : List V} (c : Chg p H H') (hp : H p = none) (h : SqL K H a xs) : SqL K H' a xs := by
  rcases h with (h | ⟨o, h⟩) | h
  · exact .inl (.inl (c.at h (ne_of_none h hp)))
  · exact .inl (.inr ⟨o, c.at h (ne_of_none h hp)⟩)
  · exact .inr h
theorem same_new {H : Hp} {p : Addr} {o : HO} (h : H p = none) : Same H (upd H p o) := fun b u q => by rw [upd_ne (ne_of_none q h)]; exact q
theorem nn_mul {a b A B : Int} (h0 : 0 ≤ a) (h1 : a ≤ A) (g0 : 0 ≤ b) (g1 : b ≤ B) : 0 ≤ a * b ∧ a * b ≤ A * B :=
  ⟨Int.mul_nonneg h0 g0, Int.mul_le_mul h1 g1 g0 (Int.le_trans h0 h1)⟩
theorem divW {i j : Int} (h : 0 < j) (h2 : j < 2 ^ 60) : CDivW i j := wide_div (b := 60) h (by omega) (by decide) (by decide)

theorem lay_ints : ∀ xs : List Int, PyData.canLayAll0 (xs.map PyData.int) = true
  | [] => by simp only [List.map_nil, PyData.canLayAll0]
  | x :: r => by simp only [List.map_cons, PyData.canLayAll0, PyData.canLay0, lay_ints r, Bool.and_self]
theorem dep_ints : ∀ xs : List Int, PyData.depthAll (xs.map PyData.int) ≤ 1
  | [] => by simp only [List.map_nil, PyData.depthAll]; omega
  | x :: r => by
    have := dep_ints r
    simp only [List.map_cons, PyData.depthAll, PyData.depth]
    omega
theorem shaped_ints (xs : List Int) : SeqAt.shaped (.list (xs.map PyData.int)) = true := by
  have a := lay_ints xs
  have b := dep_ints xs
  unfold SeqAt.shaped
  rw [Bool.and_eq_true]
  refine ⟨by simp only [PyData.canLay0]; exact a, decide_eq_true ?_⟩
  simp only [PyData.depth]
  omega
theorem dp_ints {K : PySem.W.Frag} {H : Hp} : ∀ xs : List Int, DpAll K H (xs.map V.int) (xs.map PyData.int)
  | [] => .nil
  | x :: r => .cons (.int x) (dp_ints r)
theorem dp_intsL {K : PySem.W.Frag} {H : Hp} {a : Addr} {xs : List Int} (h : SqL K H a (xs.map V.int)) : Dp K H (.ref a) (.list (xs.map PyData.int)) := .lst h (dp_ints xs)
theorem eqv_self {d : PyData} (h : SeqAt.shaped d = true) : PyData.eqv d d = true := SeqAt.eqv_refl d (SeqAt.canLay_of_shaped h)

inductive Tr where
  | node (c : Nat) (ks : List Tr)
def ch (c : Nat) : Str := ⟨#[c]⟩
mutual
def Tr.size : Tr → Nat
  | .node _ ks => 1 + sizes ks
def sizes : List Tr → Nat
  | [] => 0
  | t :: r => t.size + sizes r
end
mutual
def Tr.depth : Tr → Nat
  | .node _ ks => 1 + depths ks
def depths : List Tr → Nat
  | [] => 0
  | t :: r => max t.depth (depths r)
end
mutual
def Tr.post : Tr → List Tr
  | .node c ks => posts ks ++ [.node c ks]
def posts : List Tr → List Tr
  | [] => []
  | t :: r => t.post ++ posts r
end

mutual
def Tr.lets (p : Nat → Prop) : Tr → Prop
  | .node c ks => p c ∧ letss p ks
def letss (p : Nat → Prop) : List Tr → Prop
  | [] => True
  | t :: r => t.lets p ∧ letss p r
end
def Tr.kids : Tr → List Tr
  | .node _ ks => ks
def Tr.top : Tr → Nat
  | .node c _ => c
theorem sizes_append : ∀ a b : List Tr, sizes (a ++ b) = sizes a + sizes b
  | [], b => by simp only [List.nil_append, sizes]; omega
  | t :: r, b => by simp only [List.cons_append, sizes, sizes_append r b]; omega
theorem depths_append : ∀ a b : List Tr, depths (a ++ b) = max (depths a) (depths b)
  | [], b => by simp only [List.nil_append, depths]; omega
  | t :: r, b => by simp only [List.cons_append, depths, depths_append r b]; omega
theorem posts_append : ∀ a b : List Tr, posts (a ++ b) = posts a ++ posts b
  | [], b => by simp only [List.nil_append, posts]
  | t :: r, b => by simp only [List.cons_append, posts, posts_append r b, List.append_assoc]
theorem letss_append (p : Nat → Prop) : ∀ a b : List Tr, letss p (a ++ b) ↔ letss p a ∧ letss p b
  | [], b => by simp only [List.nil_append, letss, true_and]
  | t :: r, b => by simp only [List.cons_append, letss, letss_append p r b, and_assoc]
theorem size_pos : ∀ t : Tr, 1 ≤ t.size
  | .node c ks => by simp only [Tr.size]; omega
theorem len_sizes : ∀ ts : List Tr, ts.length ≤ sizes ts
  | [] => Nat.le_refl _
  | t :: r => by
    have a := size_pos t
    have b := len_sizes r
    simp only [List.length_cons, sizes]
    omega
mutual
theorem post_len : ∀ t : Tr, t.post.length = t.size
  | .node c ks => by simp only [Tr.post, List.length_append, posts_len ks, List.length_singleton, Tr.size]; omega
theorem posts_len : ∀ ts : List Tr, (posts ts).length = sizes ts
  | [] => rfl
  | t :: r => by simp only [posts, List.length_append, post_len t, posts_len r, sizes]
end
theorem sizes_mem : ∀ {ts : List Tr} {t : Tr}, t ∈ ts → t.size ≤ sizes ts
  | u :: r, t, h => by
    rcases List.mem_cons.mp h with e | h
    · subst e; simp only [sizes]; omega
    · have := sizes_mem h
      simp only [sizes]; omega
theorem depths_mem : ∀ {ts : List Tr} {t : Tr}, t ∈ ts → t.depth ≤ depths ts
  | u :: r, t, h => by
    rcases List.mem_cons.mp h with e | h
    · subst e; simp only [depths]; omega
    · have := depths_mem h
      simp only [depths]; omega
theorem letss_mem {p : Nat → Prop} : ∀ {ts : List Tr} {t : Tr}, letss p ts → t ∈ ts → t.lets p
  | u :: r, t, hl, h => by
    simp only [letss] at hl
    rcases List.mem_cons.mp h with e | h
    · subst e; exact hl.1
    · exact letss_mem hl.2 h
mutual
theorem lets_mono {p q : Nat → Prop} (h : ∀ c, p c → q c) : ∀ t : Tr, t.lets p → t.lets q
  | .node c ks, a => by
    simp only [Tr.lets] at a ⊢
    exact ⟨h _ a.1, letss_mono h ks a.2⟩
theorem letss_mono {p q : Nat → Prop} (h : ∀ c, p c → q c) : ∀ ts : List Tr, letss p ts → letss q ts
  | [], _ => trivial
  | t :: r, a => by
    simp only [letss] at a ⊢
    exact ⟨lets_mono h t a.1, letss_mono h r a.2⟩
end
mutual
inductive TrAt (ok : Addr → Prop) (H : Hp) : V → Tr → Prop
  | node {a l : Addr} {vs : List V} {c : Nat} {ks : List Tr} : H a = some (.tup [.str (ch c), .ref l]) → H l = some (.lst vs) → ok a → ok l → 97 ≤ c → c ≤ 122 → TrsAt ok H vs ks → TrAt ok H (.ref a) (.node c ks)
inductive TrsAt (ok : Addr → Prop) (H : Hp) : List V → List Tr → Prop
  | nil : TrsAt ok H [] []
  | cons {v : V} {vs : List V} {t : Tr} {ts : List Tr} : TrAt ok H v t → TrsAt ok H vs ts → TrsAt ok H (v :: vs) (t :: ts)
end
section
variable {ok ok' : Addr → Prop} {H H' : Hp}
mutual
theorem TrAt.imp (hk : ∀ b, ok b → ok' b) (h : ∀ b o, ok b → H b = some o → H' b = some o) : ∀ (t : Tr) (v : V), TrAt ok H v t → TrAt ok' H' v t
  | .node c ks, v, x => by
    cases x with
    | node h1 h2 k1 k2 c1 c2 r => exact .node (h _ _ k1 h1) (h _ _ k2 h2) (hk _ k1) (hk _ k2) c1 c2 (TrsAt.imp hk h ks _ r)
theorem TrsAt.imp (hk : ∀ b, ok b → ok' b) (h : ∀ b o, ok b → H b = some o → H' b = some o) : ∀ (ts : List Tr) (vs : List V), TrsAt ok H vs ts → TrsAt ok' H' vs ts
  | [], _, x => by cases x; exact .nil
  | t :: r, _, x => by
    cases x with
    | cons a b => exact .cons (TrAt.imp hk h t _ a) (TrsAt.imp hk h r _ b)
end
theorem TrAt.keep {v : V} {t : Tr} (x : TrAt ok H v t) (h : ∀ b o, ok b → H b = some o → H' b = some o) : TrAt ok H' v t := TrAt.imp (fun _ k => k) h t v x
theorem TrsAt.keep {vs : List V} {ts : List Tr} (x : TrsAt ok H vs ts) (h : ∀ b o, ok b → H b = some o → H' b = some o) : TrsAt ok H' vs ts := TrsAt.imp (fun _ k => k) h ts vs x
theorem TrAt.weak {v : V} {t : Tr} (x : TrAt ok H v t) (h : ∀ b, ok b → ok' b) : TrAt ok' H v t := TrAt.imp h (fun _ _ _ e => e) t v x
theorem TrsAt.weak {vs : List V} {ts : List Tr} (x : TrsAt ok H vs ts) (h : ∀ b, ok b → ok' b) : TrsAt ok' H vs ts := TrsAt.imp h (fun _ _ _ e => e) ts vs x
mutual
theorem TrAt.there : ∀ (t : Tr) (v : V), TrAt ok H v t → TrAt (fun b => ok b ∧ ∃ o, H b = some o) H v t
  | .node c ks, v, x => by
    cases x with
    | node h1 h2 k1 k2 c1 c2 r => exact .node h1 h2 ⟨k1, _, h1⟩ ⟨k2, _, h2⟩ c1 c2 (TrsAt.there ks _ r)
theorem TrsAt.there : ∀ (ts : List Tr) (vs : List V), TrsAt ok H vs ts → TrsAt (fun b => ok b ∧ ∃ o, H b = some o) H vs ts
  | [], _, x => by cases x; exact .nil
  | t :: r, _, x => by
    cases x with
    | cons a b => exact .cons (TrAt.there t _ a) (TrsAt.there r _ b)
end
theorem TrsAt.len : ∀ {vs : List V} {ts : List Tr}, TrsAt ok H vs ts → vs.length = ts.length
  | [], [], _ => rfl
  | v :: vs, t :: ts, h => by
    cases h with
    | cons a b => simp only [List.length_cons, TrsAt.len b]
  | [], _ :: _, h => by cases h
  | _ :: _, [], h => by cases h
theorem TrsAt.get : ∀ {vs : List V} {ts : List Tr} {i : Nat} {t : Tr}, TrsAt ok H vs ts → ts[i]? = some t → ∃ v, vs[i]? = some v ∧ TrAt ok H v t
  | _, _, i, t, .nil, e => by simp at e
  | _, _, 0, t, .cons a _, e => by simp at e; subst e; exact ⟨_, rfl, a⟩
  | _, _, i + 1, t, .cons _ b, e => by
    obtain ⟨v, h1, h2⟩ := TrsAt.get (i := i) (t := t) b (by simpa using e)
    exact ⟨v, by simpa using h1, h2⟩
theorem TrsAt.getV : ∀ {vs : List V} {ts : List Tr} {i : Nat} {v : V}, TrsAt ok H vs ts → vs[i]? = some v → ∃ t, ts[i]? = some t ∧ TrAt ok H v t
  | _, _, i, t, .nil, e => by simp at e
  | _, _, 0, t, .cons a _, e => by simp at e; subst e; exact ⟨_, rfl, a⟩
  | _, _, i + 1, t, .cons _ b, e => by
    obtain ⟨v, h1, h2⟩ := TrsAt.getV (i := i) (v := t) b (by simpa using e)
    exact ⟨v, by simpa using h1, h2⟩
theorem TrsAt.append : ∀ {vs ws : List V} {ts us : List Tr}, TrsAt ok H vs ts → TrsAt ok H ws us → TrsAt ok H (vs ++ ws) (ts ++ us)
  | [], _, [], _, _, h => h
  | v :: vs, _, t :: ts, _, h, g => by
    cases h with
    | cons a b => exact .cons a (TrsAt.append b g)
  | [], _, _ :: _, _, h, _ => by cases h
  | _ :: _, _, [], _, h, _ => by cases h
theorem TrsAt.split : ∀ {vs ws : List V} {ts : List Tr}, TrsAt ok H (vs ++ ws) ts → ∃ a b, ts = a ++ b ∧ TrsAt ok H vs a ∧ TrsAt ok H ws b
  | [], ws, ts, h => ⟨[], ts, rfl, .nil, h⟩
  | v :: vs, ws, _, h => by
    cases h with
    | cons x y =>
      obtain ⟨a, b, e, h1, h2⟩ := TrsAt.split y
      exact ⟨_ :: a, b, by rw [e]; rfl, .cons x h1, h2⟩
theorem TrsAt.perm {vs ws : List V} (p : vs.Perm ws) : ∀ {ts : List Tr}, TrsAt ok H vs ts → ∃ us, ts.Perm us ∧ TrsAt ok H ws us := by
  induction p with
  | nil => intro ts h; exact ⟨ts, .refl _, h⟩
  | cons x _ ih =>
    intro ts h
    cases h with
    | cons a b =>
      obtain ⟨us, p1, h1⟩ := ih b
      exact ⟨_ :: us, p1.cons _, .cons a h1⟩
  | swap x y l =>
    intro ts h
    cases h with
    | cons a b =>
      cases b with
      | cons c d => exact ⟨_, .swap _ _ _, .cons c (.cons a d)⟩
  | trans _ _ ih1 ih2 =>
    intro ts h
    obtain ⟨us, p1, h1⟩ := ih1 h
    obtain ⟨ws, p2, h2⟩ := ih2 h1
    exact ⟨ws, p1.trans p2, h2⟩
theorem TrsAt.rev {vs : List V} {ts : List Tr} (h : TrsAt ok H vs ts) : TrsAt ok H vs.reverse ts.reverse := by
  induction vs generalizing ts with
  | nil => cases h; exact .nil
  | cons v vs ih =>
    cases h with
    | cons a b =>
      rw [List.reverse_cons, List.reverse_cons]
      exact (ih b).append (.cons a .nil)
end
theorem sizes_perm {a b : List Tr} (p : a.Perm b) : sizes a = sizes b := by
  induction p with
  | nil => rfl
  | cons x _ ih => simp only [sizes, ih]
  | swap x y l => simp only [sizes]; omega
  | trans _ _ ih1 ih2 => exact ih1.trans ih2
theorem depths_perm {a b : List Tr} (p : a.Perm b) : depths a = depths b := by
  induction p with
  | nil => rfl
  | cons x _ ih => simp only [depths, ih]
  | swap x y l => simp only [depths]; omega
  | trans _ _ ih1 ih2 => exact ih1.trans ih2
theorem letss_perm {p : Nat → Prop} {a b : List Tr} (h : a.Perm b) : letss p a → letss p b := by
  induction h with
  | nil => exact id
  | cons x _ ih =>
    intro q
    simp only [letss] at q ⊢
    exact ⟨q.1, ih q.2⟩
  | swap x y l =>
    intro q
    simp only [letss] at q ⊢
    exact ⟨q.2.1, q.1, q.2.2⟩
  | trans _ _ ih1 ih2 => exact fun q => ih2 (ih1 q)
mutual
inductive Sh : Tr → Tr → Prop
  | node {c : Nat} {ks us ls : List Tr} : ks.Perm us → Shs us ls → Sh (.node c ks) (.node c ls)
inductive Shs : List Tr → List Tr → Prop
  | nil : Shs [] []
  | cons {t u : Tr} {ts us : List Tr} : Sh t u → Shs ts us → Shs (t :: ts) (u :: us)
end
mutual
theorem Sh.refl : ∀ t : Tr, Sh t t
  | .node c ks => .node (.refl _) (Shs.refl ks)
theorem Shs.refl : ∀ ts : List Tr, Shs ts ts
  | [] => .nil
  | t :: r => .cons (Sh.refl t) (Shs.refl r)
end
mutual
theorem Sh.size : ∀ {t u : Tr}, Sh t u → t.size = u.size
  | _, _, .node p h => by simp only [Tr.size, sizes_perm p, Shs.sizes h]
theorem Shs.sizes : ∀ {ts us : List Tr}, Shs ts us → My.sizes ts = My.sizes us
  | _, _, .nil => rfl
  | _, _, .cons a b => by simp only [My.sizes, Sh.size a, Shs.sizes b]
end
mutual
theorem Sh.depth : ∀ {t u : Tr}, Sh t u → t.depth = u.depth
  | _, _, .node p h => by simp only [Tr.depth, depths_perm p, Shs.depths h]
theorem Shs.depths : ∀ {ts us : List Tr}, Shs ts us → My.depths ts = My.depths us
  | _, _, .nil => rfl
  | _, _, .cons a b => by simp only [My.depths, Sh.depth a, Shs.depths b]
end
mutual
theorem Sh.lets {p : Nat → Prop} : ∀ {t u : Tr}, Sh t u → t.lets p → u.lets p
  | _, _, .node q h, a => by
    simp only [Tr.lets] at a ⊢
    exact ⟨a.1, Shs.letss h (letss_perm q a.2)⟩
theorem Shs.letss {p : Nat → Prop} : ∀ {ts us : List Tr}, Shs ts us → My.letss p ts → My.letss p us
  | _, _, .nil, a => a
  | _, _, .cons x y, a => by
    simp only [My.letss] at a ⊢
    exact ⟨Sh.lets x a.1, Shs.letss y a.2⟩
end
theorem Shs.len : ∀ {ts us : List Tr}, Shs ts us → ts.length = us.length
  | _, _, .nil => rfl
  | _, _, .cons a b => by simp only [List.length_cons, Shs.len b]
theorem Shs.append : ∀ {ts us ts' us' : List Tr}, Shs ts us → Shs ts' us' → Shs (ts ++ ts') (us ++ us')
  | _, _, _, _, .nil, h => h
  | _, _, _, _, .cons a b, h => .cons a (Shs.append b h)

def Fr (p : Addr) (H H' : Hp) : Prop := ∀ b o, b ≠ p → H b = some o → H' b = some o
theorem Fr.refl (p : Addr) (H : Hp) : Fr p H H := fun _ _ _ h => h
theorem Fr.trans {p : Addr} {H H1 H2 : Hp} (a : Fr p H H1) (b : Fr p H1 H2) : Fr p H H2 := fun c o n h => b c o n (a c o n h)
theorem Fr.same {p : Addr} {H H' : Hp} (s : Same H H') : Fr p H H' := fun b o _ h => s b o h
theorem Fr.chg {p : Addr} {H H' : Hp} (c : Chg p H H') : Fr p H H' := fun _ _ n h => c.at h n
theorem Fr.new {p q : Addr} {H H' : Hp} {o : HO} (f : Fr p H H') (h : H q = none) : Fr p H (upd H' q o) := fun b u n e => by
  rw [upd_ne (ne_of_none e h)]
  exact f b u n e
theorem same_add {q : Addr} {H H' : Hp} {o : HO} (f : Same H H') (h : H q = none) : Same H (upd H' q o) := fun b u e => by
  rw [upd_ne (ne_of_none e h)]
  exact f b u e
theorem Fr.free {p q : Addr} {H H' : Hp} (f : Fr p H H') (hp : H' p ≠ none) (h : H' q = none) : H q = none := by
  cases e : H q with
  | none => rfl
  | some o =>
    by_cases hq : q = p
    · subst hq; exact absurd h hp
    · rw [f q o hq e] at h; cases h
theorem Fr.seq {K : PySem.W.Frag} {p a : Addr} {H H' : Hp} {xs : List V} (c : Fr p H H') (hp : H p = none) (h : SqL K H a xs) : SqL K H' a xs := by
  rcases h with (h | ⟨o, h⟩) | h
  · exact .inl (.inl (c _ _ (ne_of_none h hp) h))
  · exact .inl (.inr ⟨o, c _ _ (ne_of_none h hp) h⟩)
  · exact .inr h
theorem TrAt.same {ok : Addr → Prop} {H H' : Hp} {v : V} {t : Tr} (x : TrAt ok H v t) (s : Same H H') : TrAt ok H' v t := x.keep fun b o _ h => s b o h
theorem TrsAt.same {ok : Addr → Prop} {H H' : Hp} {vs : List V} {ts : List Tr} (x : TrsAt ok H vs ts) (s : Same H H') : TrsAt ok H' vs ts := x.keep fun b o _ h => s b o h
theorem TrAt.off {ok : Addr → Prop} {H : Hp} {v : V} {t : Tr} {w : Addr} (x : TrAt ok H v t) (h : H w = none) : TrAt (fun b => ok b ∧ b ≠ w) H v t :=
  (TrAt.there t v x).weak fun b ⟨k, o, e⟩ => ⟨k, ne_of_none e h⟩
theorem TrsAt.off {ok : Addr → Prop} {H : Hp} {vs : List V} {ts : List Tr} {w : Addr} (x : TrsAt ok H vs ts) (h : H w = none) : TrsAt (fun b => ok b ∧ b ≠ w) H vs ts :=
  (TrsAt.there ts vs x).weak fun b ⟨k, o, e⟩ => ⟨k, ne_of_none e h⟩
theorem upd_keep {H : Hp} {w : Addr} {o : HO} {ok : Addr → Prop} (h : ∀ b, ok b → b ≠ w) : ∀ b u, ok b → H b = some u → (upd H w o) b = some u := fun b u k e => by
  rw [upd_ne (h b k)]
  exact e
theorem lc_outer {K : PySem.W.Frag} {a : Addr} {xs : List V} {Bd : V → Hp → (Hp → Prop) → Prop} {Qd : Hp → Prop} {H0 : Hp} (Pv : Nat → Hp → Prop) (h0 : Pv 0 H0) (hl : ∀ i H, i ≤ xs.length → Pv i H → SqL K H a xs)
    (hs : ∀ i x H, xs[i]? = some x → Pv i H → Bd x H (Pv (i + 1))) (hd : ∀ H, Pv xs.length H → Qd H) :
    ∃ W : Nat → Nat → Hp → Prop, (∃ m, W 0 m H0) ∧ ∀ i m H, W i m H → ((Itl K a).stop i H ∧ Qd H) ∨ ((Itl K a).go i H ∧ ∃ Nx : Hp → Prop, (∀ H', Nx H' → ∃ m', m' < m ∧ W (i + 1) m' H') ∧ ∀ x H', (Itl K a).yld i H x H' → Bd x H' Nx) := by
  refine ⟨fun i m H => m = xs.length - i ∧ i ≤ xs.length ∧ Pv i H, ⟨xs.length, by simp, Nat.zero_le _, h0⟩, ?_⟩
  rintro i m H ⟨rfl, hi, p⟩
  have q := hl i H hi p
  by_cases hlt : i < xs.length
  · refine .inr ⟨⟨xs, xs[i], q, by simp [hlt]⟩, Pv (i + 1), fun H' p' => ⟨xs.length - (i + 1), by omega, rfl, hlt, p'⟩, fun x H' y => ?_⟩
    obtain ⟨e, y⟩ := y
    subst e
    exact hs i x _ (y xs q) p
  · have e : i = xs.length := by omega
    subst e
    exact .inl ⟨⟨xs, q, Nat.le_refl _⟩, hd H p⟩
theorem take_succ_of {α : Type} {l : List α} {i : Nat} {x : α} (h : l[i]? = some x) : l.take (i + 1) = l.take i ++ [x] := by
  rw [List.take_add_one, h]
  rfl

mutual
def Tr.dat : Tr → PyData
  | .node c ks => .tuple [.str (ch c), .list (dats ks)]
def dats : List Tr → List PyData
  | [] => []
  | t :: r => t.dat :: dats r
end
mutual
theorem dat_depth : ∀ t : Tr, t.dat.depth ≤ 2 * t.depth
  | .node c ks => by
    have := dats_depth ks
    simp only [Tr.dat, PyData.depth, PyData.depthAll, Tr.depth]
    omega
theorem dats_depth : ∀ ts : List Tr, PyData.depthAll (dats ts) ≤ 2 * depths ts
  | [] => by simp only [dats, PyData.depthAll, depths]; omega
  | t :: r => by
    have a := dat_depth t
    have b := dats_depth r
    simp only [dats, PyData.depthAll, depths]
    omega
end
section
variable {ok : Addr → Prop} {H : Hp} {K : PySem.W.Frag}
theorem strOk_ch {c : Nat} (h : c ≤ 122) : PyData.strOk (ch c) = true := by
  unfold PyData.strOk ch
  simp
  omega
mutual
theorem TrAt.lay : ∀ (t : Tr) (v : V), TrAt ok H v t → t.dat.canLay0 = true
  | .node c ks, v, x => by
    cases x with
    | node h1 h2 k1 k2 c1 c2 r => simp only [Tr.dat, PyData.canLay0, PyData.canLayAll0, strOk_ch c2, TrsAt.lay ks _ r, Bool.and_self]
theorem TrsAt.lay : ∀ (ts : List Tr) (vs : List V), TrsAt ok H vs ts → PyData.canLayAll0 (dats ts) = true
  | [], _, _ => by simp only [dats, PyData.canLayAll0]
  | t :: r, _, x => by
    cases x with
    | cons a b => simp only [dats, PyData.canLayAll0, TrAt.lay t _ a, TrsAt.lay r _ b, Bool.and_self]
end
mutual
theorem TrAt.dp : ∀ (t : Tr) (v : V), TrAt ok H v t → Dp K H v t.dat
  | .node c ks, v, x => by
    cases x with
    | node h1 h2 k1 k2 c1 c2 r =>
      simp only [Tr.dat]
      exact .tup (SqT.of h1) (.cons (.str _) (.cons (.lst (SqL.of h2) (TrsAt.dp ks _ r)) .nil))
theorem TrsAt.dp : ∀ (ts : List Tr) (vs : List V), TrsAt ok H vs ts → DpAll K H vs (dats ts)
  | [], _, x => by cases x; exact .nil
  | t :: r, _, x => by
    cases x with
    | cons a b => exact .cons (TrAt.dp t _ a) (TrsAt.dp r _ b)
end
theorem shaped_tr {v : V} {t : Tr} (x : TrAt ok H v t) (h : t.depth ≤ 32) : SeqAt.shaped t.dat = true := by
  unfold SeqAt.shaped
  rw [Bool.and_eq_true]
  exact ⟨TrAt.lay t v x, decide_eq_true (by have := dat_depth t; omega)⟩
theorem shaped_trs {vs : List V} {ts : List Tr} (x : TrsAt ok H vs ts) (h : depths ts ≤ 31) : SeqAt.shaped (.list (dats ts)) = true := by
  unfold SeqAt.shaped
  rw [Bool.and_eq_true]
  refine ⟨by simp only [PyData.canLay0]; exact TrsAt.lay ts vs x, decide_eq_true ?_⟩
  have := dats_depth ts
  simp only [PyData.depth]
  omega
end
def DatOk (K : PySem.W.Frag) (H : Hp) (v : V) : Prop := ∃ d, Dp K H v d ∧ d.canLay0 = true ∧ d.depth ≤ 63
theorem DatOk.all {K : PySem.W.Frag} {H : Hp} : ∀ {vs : List V}, (∀ v ∈ vs, DatOk K H v) → ∃ ds, DpAll K H vs ds ∧ SeqAt.shaped (.list ds) = true ∧ ds.length = vs.length
  | [], _ => ⟨[], .nil, by decide +kernel, rfl⟩
  | v :: r, h => by
    obtain ⟨d, h1, h2, h3⟩ := h v List.mem_cons_self
    obtain ⟨ds, g1, g2, g3⟩ := DatOk.all (vs := r) fun u hu => h u (List.mem_cons_of_mem _ hu)
    unfold SeqAt.shaped at g2
    rw [Bool.and_eq_true] at g2
    have g4 := of_decide_eq_true g2.2
    have g5 := g2.1
    simp only [PyData.canLay0] at g5
    simp only [PyData.depth] at g4
    refine ⟨d :: ds, .cons h1 g1, ?_, by simp only [List.length_cons, g3]⟩
    unfold SeqAt.shaped
    rw [Bool.and_eq_true]
    refine ⟨by simp only [PyData.canLay0, PyData.canLayAll0, h2, g5, Bool.and_self], decide_eq_true ?_⟩
    simp only [PyData.depth, PyData.depthAll]
    omega
theorem datOk_int {K : PySem.W.Frag} {H : Hp} (i : Int) : DatOk K H (.int i) := ⟨.int i, .int i, by simp only [PyData.canLay0], by simp only [PyData.depth]; omega⟩
theorem datOk_tr {K : PySem.W.Frag} {H : Hp} {ok : Addr → Prop} {v : V} {t : Tr} (x : TrAt ok H v t) (h : t.depth ≤ 31) : DatOk K H v := ⟨t.dat, TrAt.dp t v x, TrAt.lay t v x, by have := dat_depth t; omega⟩
theorem eqv_nil (ds : List PyData) : PyData.eqv (.list ds) (.list []) = decide (ds.length = 0) := by
  cases ds with
  | nil => simp [PyData.eqv, PyData.eqvAll]
  | cons d r => simp [PyData.eqv, PyData.eqvAll]
theorem shaped_nil : SeqAt.shaped (.list []) = true := by decide +kernel
theorem dp_nil {K : PySem.W.Frag} {H : Hp} {a : Addr} (h : H a = some (.lst [])) : Dp K H (.ref a) (.list []) := .lst (SqL.of h) .nil

mutual
inductive Dt (ok : Addr → Prop) (H : Hp) : V → PyData → Prop
  | non : Dt ok H .non .none
  | bl (b : Bool) : Dt ok H (.bl b) (.bool b)
  | int (i : Int) : Dt ok H (.int i) (.int i)
  | str (x : Str) : Dt ok H (.str x) (.str x)
  | dic {a : Addr} : H a = some (.dK []) → ok a → Dt ok H (.ref a) (.dict [])
  | lst {a : Addr} {xs : List V} {ds : List PyData} : H a = some (.lst xs) → ok a → xs.length ≤ 1000 → DtAll ok H xs ds → Dt ok H (.ref a) (.list ds)
  | tup {a : Addr} {xs : List V} {ds : List PyData} : H a = some (.tup xs) → ok a → xs.length ≤ 1000 → DtAll ok H xs ds → Dt ok H (.ref a) (.tuple ds)
inductive DtAll (ok : Addr → Prop) (H : Hp) : List V → List PyData → Prop
  | nil : DtAll ok H [] []
  | cons {v : V} {vs : List V} {d : PyData} {ds : List PyData} : Dt ok H v d → DtAll ok H vs ds → DtAll ok H (v :: vs) (d :: ds)
end
section
variable {ok ok' : Addr → Prop} {H H' : Hp} {K : PySem.W.Frag}
mutual
theorem Dt.imp (hk : ∀ b o, ok b → H b = some o → ok' b) (h : ∀ b o, ok b → H b = some o → H' b = some o) : ∀ {v : V} {d : PyData}, Dt ok H v d → Dt ok' H' v d
  | _, _, .non => .non
  | _, _, .bl b => .bl b
  | _, _, .int i => .int i
  | _, _, .str x => .str x
  | _, _, .dic e k => .dic (h _ _ k e) (hk _ _ k e)
  | _, _, .lst e k l r => .lst (h _ _ k e) (hk _ _ k e) l (DtAll.imp hk h r)
  | _, _, .tup e k l r => .tup (h _ _ k e) (hk _ _ k e) l (DtAll.imp hk h r)
theorem DtAll.imp (hk : ∀ b o, ok b → H b = some o → ok' b) (h : ∀ b o, ok b → H b = some o → H' b = some o) : ∀ {vs : List V} {ds : List PyData}, DtAll ok H vs ds → DtAll ok' H' vs ds
  | _, _, .nil => .nil
  | _, _, .cons a b => .cons (Dt.imp hk h a) (DtAll.imp hk h b)
end
theorem Dt.keep {v : V} {d : PyData} (x : Dt ok H v d) (h : ∀ b o, ok b → H b = some o → H' b = some o) : Dt ok H' v d := x.imp (fun _ _ k _ => k) h
theorem Dt.same {v : V} {d : PyData} (x : Dt ok H v d) (s : Same H H') : Dt ok H' v d := x.keep fun b o _ h => s b o h
theorem Dt.weak {v : V} {d : PyData} (x : Dt ok H v d) (h : ∀ b, ok b → ok' b) : Dt ok' H v d := x.imp (fun b _ k _ => h b k) fun _ _ _ e => e
theorem Dt.any {v : V} {d : PyData} (x : Dt ok H v d) : Dt (fun _ => True) H v d := x.weak fun _ _ => trivial
theorem Dt.off {w : Addr} {v : V} {d : PyData} (x : Dt ok H v d) (h : H w = none) : Dt (fun b => ok b ∧ b ≠ w) H v d := x.imp (fun _ _ k e => ⟨k, ne_of_none e h⟩) fun _ _ _ e => e
theorem DtAll.keep {vs : List V} {ds : List PyData} (x : DtAll ok H vs ds) (h : ∀ b o, ok b → H b = some o → H' b = some o) : DtAll ok H' vs ds := x.imp (fun _ _ k _ => k) h
theorem DtAll.same {vs : List V} {ds : List PyData} (x : DtAll ok H vs ds) (s : Same H H') : DtAll ok H' vs ds := x.keep fun b o _ h => s b o h
theorem DtAll.weak {vs : List V} {ds : List PyData} (x : DtAll ok H vs ds) (h : ∀ b, ok b → ok' b) : DtAll ok' H vs ds := x.imp (fun b _ k _ => h b k) fun _ _ _ e => e
mutual
theorem Dt.dp : ∀ {v : V} {d : PyData}, Dt ok H v d → d.canLay0 = true → Dp K H v d
  | _, _, .non, _ => .non
  | _, _, .bl b, _ => .bl b
  | _, _, .int i, _ => .int i
  | _, _, .str x, _ => .str x
  | _, _, .dic _ _, h => by simp [PyData.canLay0] at h
  | _, _, .lst e _ _ r, h => .lst (SqL.of e) (DtAll.dp r (by simpa only [PyData.canLay0] using h))
  | _, _, .tup e _ _ r, h => .tup (SqT.of e) (DtAll.dp r (by simpa only [PyData.canLay0] using h))
theorem DtAll.dp : ∀ {vs : List V} {ds : List PyData}, DtAll ok H vs ds → PyData.canLayAll0 ds = true → DpAll K H vs ds
  | _, _, .nil, _ => .nil
  | _, _, .cons a b, h => by
    simp only [PyData.canLayAll0, Bool.and_eq_true] at h
    exact .cons (Dt.dp a h.1) (DtAll.dp b h.2)
end
theorem DtAll.len : ∀ {vs : List V} {ds : List PyData}, DtAll ok H vs ds → vs.length = ds.length
  | _, _, .nil => rfl
  | _, _, .cons _ b => by simp only [List.length_cons, DtAll.len b]
theorem DtAll.getV : ∀ {vs : List V} {ds : List PyData} {i : Nat} {x : V}, DtAll ok H vs ds → vs[i]? = some x → ∃ d, ds[i]? = some d ∧ Dt ok H x d
  | _, _, 0, _, .cons a _, h => by cases h; exact ⟨_, rfl, a⟩
  | _, _, i + 1, _, .cons _ b, h => by
    rw [List.getElem?_cons_succ] at h
    obtain ⟨d, h1, h2⟩ := DtAll.getV b h
    exact ⟨d, by rw [List.getElem?_cons_succ]; exact h1, h2⟩
theorem DtAll.snoc : ∀ {vs : List V} {ds : List PyData} {v : V} {d : PyData}, DtAll ok H vs ds → Dt ok H v d → DtAll ok H (vs ++ [v]) (ds ++ [d])
  | _, _, _, _, .nil, y => .cons y .nil
  | _, _, _, _, .cons a b, y => .cons a (DtAll.snoc b y)
theorem dt_ints : ∀ xs : List Int, DtAll ok H (xs.map V.int) (xs.map PyData.int)
  | [] => .nil
  | x :: r => .cons (.int x) (dt_ints r)
theorem dt_intsL {a : Addr} {xs : List Int} (h : H a = some (.lst (xs.map V.int))) (k : ok a) (l : xs.length ≤ 1000) : Dt ok H (.ref a) (.list (xs.map PyData.int)) := .lst h k (by rw [List.length_map]; exact l) (dt_ints xs)
theorem dtAll_ints : ∀ {w : List Int} {vs : List V}, DtAll ok H vs (w.map PyData.int) → vs = w.map V.int
  | [], _, h => by cases h; rfl
  | x :: r, _, h => by
    cases h with
    | cons a b =>
      cases a
      rw [dtAll_ints b]
      rfl
theorem Dt.intsL {v : V} {w : List Int} (h : Dt ok H v (.list (w.map PyData.int))) : ∃ a, v = .ref a ∧ H a = some (.lst (w.map V.int)) ∧ ok a := by
  cases h with
  | lst e k l r =>
    rw [dtAll_ints r] at e
    exact ⟨_, rfl, e, k⟩
end
theorem layAll_mem {d : PyData} : ∀ {ds : List PyData}, PyData.canLayAll0 ds = true → d ∈ ds → d.canLay0 = true
  | x :: r, h, hm => by
    simp only [PyData.canLayAll0, Bool.and_eq_true] at h
    rcases List.mem_cons.mp hm with rfl | hm
    · exact h.1
    · exact layAll_mem h.2 hm
theorem depthAll_mem {d : PyData} : ∀ {ds : List PyData}, d ∈ ds → d.depth ≤ PyData.depthAll ds
  | x :: r, h => by
    simp only [PyData.depthAll]
    rcases List.mem_cons.mp h with rfl | h
    · omega
    · have := depthAll_mem h
      omega
theorem eqT {x y : V} {i : Decidable (x = y)} {A B : Prop} (h : x = y) (k : A) : if (@decide (x = y) i) = true then A else B := by
  rw [decide_eq_true h]
  exact iteT k
theorem eqF {x y : V} {i : Decidable (x = y)} {A B : Prop} (h : x ≠ y) (k : B) : if (@decide (x = y) i) = true then A else B := by
  rw [decide_eq_false h]
  exact iteF k
theorem noneOf {sp : Sp} {P : Program} {w : World} {K : PySem.W.Frag} {mg : Str → Option Value} {base : Heap} {f : Addr} {fd : FuncData} {ps : List Str} {k : Nat} (no : ∀ vs H Q E, ¬ sp vs H Q E) : FnOk P w K mg base CX0 k f fd ps sp :=
  ⟨fun vs H Q E h => absurd h (no vs H Q E), fun A outer s H args us vs Q E _ _ _ _ h => absurd h (no vs H Q E)⟩

def spLaw (K : PySem.W.Frag) : Sp := fun vs H Q _ => ∃ (a : Addr) (ns : List Int), vs = [.ref a] ∧ SqL K H a (ns.map V.int) ∧ ns.length ≤ 63 ∧ ∀ H', Q (.bl true) H'


def Dk (H : Hp) (p : Addr) : Prop := ∃ xs : List Int, H p = some (.lst (xs.map V.int))
theorem Dk.some {H : Hp} {p : Addr} (h : Dk H p) : H p ≠ none := by obtain ⟨xs, e⟩ := h; rw [e]; simp
theorem Dk.ne {H : Hp} {p q : Addr} (h : Dk H p) (e : H q = none) : q ≠ p := fun e2 => h.some (by rw [← e2]; exact e)
theorem Dk.keep {H H' : Hp} {p : Addr} (h : Dk H p) (s : Same H H') : Dk H' p := by obtain ⟨xs, e⟩ := h; exact ⟨xs, s _ _ e⟩
theorem Dk.upd {H : Hp} {p q : Addr} {o : HO} (h : Dk H p) (n : q ≠ p) : Dk (upd H q o) p := by obtain ⟨xs, e⟩ := h; exact ⟨xs, by rw [upd_ne (fun e => n e.symm)]; exact e⟩
def sp__law_cell_at (K : PySem.W.Frag) : Sp := fun vs H Q _ => ∃ (a : Addr) (ns : List Int) (k : Int), vs = [.ref a, .int k] ∧ SqL K H a (ns.map V.int) ∧ 0 ≤ k ∧ ∀ x, Q (.int x) H
def sp__law_numbers : Sp := fun vs H Q _ => ∃ (c m : Int), vs = [.int c, .int m] ∧ 0 ≤ m ∧ m ≤ 1000 ∧ ∀ p (xs : List Int) H', Same H H' → H p = none → H' p = some (.lst (xs.map V.int)) → Q (.ref p) H'
def sp__law_take : Sp := fun vs H Q _ => ∃ (p : Addr) (m : Int), vs = [.ref p, .int m] ∧ Dk H p ∧ 0 < m ∧ ∀ r H', 0 ≤ r → r < m → Fr p H H' → Dk H' p → Q (.int r) H'
section
variable {P : Program} {w : World} {K : PySem.W.Frag} {mg : Str → Option Value} {base : Heap}
theorem ok__law_cell_at (T : Txt K mg) : FnOk P w K mg base CX0 1 T.f__law_cell_at T.d__law_cell_at ["script", "k"] (sp__law_cell_at K) := by
  refine T.F__law_cell_at.ok sc__law_cell_at (fun vs H Q E h => ?_) (fun cdv A outer s H vs Q E hr h => ?_)
  · obtain ⟨a, ns, k, rfl, _⟩ := h
    rfl
  obtain ⟨a, ns, k, rfl, hS, h0, q⟩ := h
  refine ⟨_, (pss_cons (ps_if (pt_cmpR op_lt (pv 1) (pe_callB call_len_seq (by rfl) T.z_len PySem.boot_len (pa_cons (pv 0) pa_nil)) (nomark _)) (pss_one (ps_ret (pe_ix ix_list (pv 0) (pv 1) (fun _ _ => rfl)))) pss_nil) (pss_one (ps_ret pe_int))), ?_⟩
  refine ⟨_, rfl, _, rfl, a, _, rfl, .inl hS, _, _, rfl, rfl, _, rfl, ?_⟩
  refine ite2 (fun c => ?_) (fun c => ?_)
  · have hk : k.toNat < ns.length := by
      have c' : k < (((ns.map V.int).length : Nat) : Int) := of_decide_eq_true c
      rw [List.length_map] at c'
      omega
    exact ⟨_, rfl, _, rfl, a, _, _, _, rfl, rfl, hS, at_of (j := k.toNat) (v := V.int ns[k.toNat]) (by omega) (by rw [List.getElem?_map, List.getElem?_eq_getElem hk]; rfl), q _⟩
  · exact q _
theorem ok__law_numbers (T : Txt K mg) : FnOk P w K mg base CX0 1 T.f__law_numbers T.d__law_numbers ["cell", "many"] sp__law_numbers := by
  refine T.F__law_numbers.ok sc__law_numbers (fun vs H Q E h => ?_) (fun cdv A outer s H vs Q E hr h => ?_)
  · obtain ⟨c, m, rfl, _⟩ := h
    rfl
  obtain ⟨c, m, rfl, h0, h1, q⟩ := h
  refine ⟨_, (pss_cons (ps_set (i := 2) sc__law_numbers.nd rfl (Or.inl rfl) (pe_lst pa_nil)) (pss_cons (ps_set (i := 3) sc__law_numbers.nd rfl (Or.inl rfl) (pv 0)) (pss_cons (ps_set (i := 4) sc__law_numbers.nd rfl (Or.inl rfl) (pe_op op_mod (pv 0) pe_int)) (pss_cons (ps_for PassesOwn.never rfl (pi_range1 (by rfl) T.z_range (pa_cons (pv 1) pa_nil)) (pg_name (i := 5) sc__law_numbers.nd rfl (Or.inl rfl)) (pss_one (ps_if (PW.pt (pw_and (pt_cmpR op_ge (pv 0) (pe_op op_pow pe_int pe_int) (nomark _)) (pw_and1 (pt_cmpR op_gt (pv 3) pe_int (nomark _))))) (pss_cons (ps_expr (pe_bm PySem.F.plainAttrs_list PySem.F.slot_list_append PySem.F.type_list_append mt_append (pv 2) (pa_cons (pe_op op_mod (pv 3) pe_int) pa_nil))) (pss_one (ps_set (i := 3) sc__law_numbers.nd rfl (Or.inl rfl) (pe_op op_fdivW (pv 3) pe_int)))) (pss_cons (ps_set (i := 4) sc__law_numbers.nd rfl (Or.inl rfl) (pe_op op_mod (pe_op op_mul (pe_op op_add (pe_op op_add (pv 4) (pe_op op_mul pe_int (pv 5))) pe_int) pe_int) pe_int)) (pss_cons (ps_set (i := 6) sc__law_numbers.nd rfl (Or.inl rfl) (pe_op op_mod (pe_op op_mul (pe_op op_mod (pe_op op_mul (pv 4) (pv 4)) pe_int) pe_int) pe_int)) (pss_one (ps_expr (pe_bm PySem.F.plainAttrs_list PySem.F.slot_list_append PySem.F.type_list_append mt_append (pv 2) (pa_cons (pe_op op_mod (pe_op op_fdivW (pv 6) pe_int) pe_int) pa_nil))))))))) (pss_one (ps_ret (pv 2))))))), ?_⟩
  refine ⟨(by show 0 ≤ sizeLine; decide), fun p hp => ?_⟩
  have s0 : 0 ≤ c % 2147483647 := Int.emod_nonneg _ (by decide)
  have s1 : c % 2147483647 < 2147483647 := Int.emod_lt_of_pos _ (by decide)
  refine ⟨_, rfl, _, rfl, _, _, rfl, rfl, (by show (0 : Int) < 2147483647; decide), ?_⟩
  refine ⟨_, rfl, m, rfl, by omega, by omega, for_range (lo := 0) (n := m.toNat) (fun i σ H' => ∃ (rest stir : Int) (xs : List Int) (y5 y6 : Option V), σ = [some (.int c), some (.int m), some (.ref p), some (.int rest), some (.int stir), y5, y6] ∧ 0 ≤ stir ∧ stir < 2147483647 ∧ H' p = some (.lst (xs.map V.int)) ∧ xs.length ≤ i ∧ Same H H')
    ⟨_, _, [], _, _, rfl, s0, s1, upd_same, Nat.le_refl _, same_new hp⟩ ?_ ?_⟩
  · rintro i σ H' hi ⟨rest, stir, xs, y5, y6, rfl, g0, g1, g2, g3, g4⟩
    have fits : (xs.map V.int).length < sizeLine := by
      rw [List.length_map]
      exact Nat.lt_of_le_of_lt (show _ ≤ 1000000 by omega) (by decide)
    have app : ∀ z : Int, xs.map V.int ++ [V.int z] = (xs ++ [z]).map V.int := fun z => by rw [List.map_append]; rfl
    have m1 : ∀ x : Int, 0 ≤ x % 2147483629 ∧ x % 2147483629 < 2147483629 := fun x => ⟨Int.emod_nonneg _ (by decide), Int.emod_lt_of_pos _ (by decide)⟩
    refine ⟨_, rfl, 10, 18, rfl, rfl, ⟨by decide, by decide, by decide⟩, _, _, rfl, rfl, _, rfl, ?_⟩
    refine ite2 (fun k1 => ⟨_, rfl, _, _, rfl, rfl, _, rfl, ite2 (fun k2 => ?A) (fun k2 => ?B)⟩) (fun k1 => ite2 (fun k2 => absurd k2 (by decide)) (fun k2 => ?C))
    case A =>
      refine ⟨_, rfl, .inl ⟨rfl, _, SqL.of g2⟩, _, rfl, _, _, rfl, rfl, (by show (0 : Int) < 64; decide), p, _, _, rfl, rfl, g2, fits, ?_⟩
      refine ⟨_, rfl, _, _, rfl, rfl, divW (by decide) (by decide), ?_⟩
      exact ⟨_, stir, xs ++ [rest % 64], _, _, rfl, g0, g1, by rw [upd_same, app], by rw [List.length_append, List.length_singleton]; omega, same_add g4 hp⟩
    all_goals
      refine ⟨_, rfl, _, rfl, 7, 0 + (i : Int), rfl, rfl, .inl ⟨by decide, by decide⟩, _, _, rfl, rfl, _, _, rfl, rfl, _, _, rfl, rfl, .inl ⟨by omega, by omega⟩, _, _, rfl, rfl, (by show (0 : Int) < 2147483647; decide), ?_⟩
      have t0 : 0 ≤ (stir + 7 * (0 + (i : Int)) + 3) * 48271 % 2147483647 := Int.emod_nonneg _ (by decide)
      have t1 : (stir + 7 * (0 + (i : Int)) + 3) * 48271 % 2147483647 < 2147483647 := Int.emod_lt_of_pos _ (by decide)
      refine ⟨_, rfl, _, rfl, _, _, rfl, rfl, .inl ⟨by omega, by omega⟩, _, _, rfl, rfl, (by show (0 : Int) < 2147483629; decide), _, _, rfl, rfl, .inl ⟨?_, ?_⟩, _, _, rfl, rfl, (by show (0 : Int) < 2147483587; decide), ?_⟩
      · exact Int.lt_of_lt_of_le (by decide) (m1 _).1
      · exact Int.lt_trans (m1 _).2 (by decide)
      refine ⟨_, rfl, .inl ⟨rfl, _, SqL.of g2⟩, _, rfl, _, _, rfl, rfl, divW (by decide) (by decide), _, _, rfl, rfl, (by show (0 : Int) < 720720; decide), p, _, _, rfl, rfl, g2, fits, ?_⟩
      exact ⟨rest, _, xs ++ [_], _, _, rfl, t0, t1, by rw [upd_same, app], by rw [List.length_append, List.length_singleton]; omega, same_add g4 hp⟩
  · rintro σ H' ⟨rest, stir, xs, y5, y6, rfl, g0, g1, g2, g3, g4⟩
    exact ⟨_, rfl, q p xs H' g4 hp g2⟩
theorem ok__law_deck (T : Txt K mg) : FnOk P w K mg base CX0 2 T.f__law_deck T.d__law_deck ["cell", "many"] sp__law_numbers := by
  have G__law_numbers : FnOk P w K mg base CX0 1 T.f__law_numbers T.d__law_numbers ["cell", "many"] sp__law_numbers := ok__law_numbers T
  refine T.F__law_deck.ok sc__law_deck (fun vs H Q E h => ?_) (fun cdv A outer s H vs Q E hr h => ?_)
  · obtain ⟨c, m, rfl, _⟩ := h
    rfl
  obtain ⟨c, m, rfl, h0, h1, q⟩ := h
  refine ⟨_, (pss_one (ps_ret (pe_revL (pe_call G__law_numbers (hr.mono (by omega)) (by rfl) T.m__law_numbers T.F__law_numbers.kp T.b__law_numbers .nil pass0 (pa_cons (pv 0) (pa_cons (pv 1) pa_nil)))))), ?_⟩
  refine ⟨_, rfl, _, rfl, c, m, rfl, h0, h1, fun p xs H' s hp hx => ⟨p, _, rfl, SqL.of hx, fun p2 hp2 => ?_⟩⟩
  exact q p2 xs.reverse _ (s.trans (same_new hp2)) (s.free hp2) (by rw [upd_same, List.map_reverse])
theorem ok__law_take (T : Txt K mg) : FnOk P w K mg base CX0 1 T.f__law_take T.d__law_take ["deck", "many"] sp__law_take := by
  refine T.F__law_take.ok sc__law_take (fun vs H Q E h => ?_) (fun cdv A outer s H vs Q E hr h => ?_)
  · obtain ⟨p, m, rfl, _⟩ := h
    rfl
  obtain ⟨p, m, rfl, ⟨xs, hp⟩, hm, q⟩ := h
  refine ⟨_, (pss_cons (ps_if (pt_cmpR (op_eqD hr.units) (pv 0) (pe_lst pa_nil) (nomark _)) (pss_one (ps_ret pe_int)) pss_nil) (pss_one (ps_ret (pe_op op_mod (pe_bm0 PySem.F.plainAttrs_list PySem.F.slot_list_pop PySem.F.type_list_pop mt_pop (pv 0)) (pv 1))))), ?_⟩
  refine ⟨_, rfl, (by show 0 ≤ sizeLine; decide), fun e he => ?_⟩
  have sE := same_new he (o := .lst [])
  refine ⟨_, _, dp_intsL (SqL.of (sE _ _ hp)), dp_nil upd_same, shaped_ints _, shaped_nil, _, rfl, ?_⟩
  rw [eqv_nil, List.length_map]
  by_cases hu : xs.length = 0
  · rw [decide_eq_true hu]
    exact iteT (q 0 _ (by omega) hm (Fr.same sE) ⟨xs, sE _ _ hp⟩)
  · rw [decide_eq_false hu]
    have hl : xs.length - 1 < xs.length := by omega
    refine iteF ⟨_, rfl, .inl ⟨rfl, _, SqL.of (sE _ _ hp)⟩, p, _, _, rfl, rfl, sE _ _ hp, by rw [List.length_map, List.getElem?_map, List.getElem?_eq_getElem hl]; rfl, ?_⟩
    refine ⟨_, rfl, _, _, rfl, rfl, hm, ?_⟩
    refine q _ _ (Int.emod_nonneg _ (by omega)) (Int.emod_lt_of_pos _ hm) (fun b o n h => by rw [upd_ne n]; exact sE _ _ h) ⟨xs.dropLast, ?_⟩
    rw [upd_same, List.map_dropLast]
end


inductive Cd
  | least (w : List Int) (b : Int)
  | turns (w : List Int) (m r : Int)
  | neg (c : Cd)
  | both (c d : Cd)
  | either (c d : Cd)
def Cd.dat : Cd → PyData
  | .least w b => .tuple [.str (Str.ofString "least"), .list (w.map PyData.int), .int b]
  | .turns w m r => .tuple [.str (Str.ofString "turns"), .list (w.map PyData.int), .int m, .int r]
  | .neg c => .tuple [.str (Str.ofString "not"), c.dat]
  | .both c d => .tuple [.str (Str.ofString "both"), c.dat, d.dat]
  | .either c d => .tuple [.str (Str.ofString "either"), c.dat, d.dat]
def wOk (s : Nat) (w : List Int) : Prop := w.length = s ∧ ∀ x ∈ w, 0 ≤ x ∧ x ≤ 4
def Cd.ok (s : Nat) : Cd → Prop
  | .least w b => wOk s w ∧ 0 ≤ b ∧ b ≤ 4
  | .turns w m r => wOk s w ∧ 1 ≤ m ∧ m ≤ 4 ∧ 0 ≤ r ∧ r < m
  | .neg c => c.ok s
  | .both c d => c.ok s ∧ d.ok s
  | .either c d => c.ok s ∧ d.ok s
def Cd.deep : Cd → Nat
  | .least _ _ => 1
  | .turns _ _ _ => 1
  | .neg c => 1 + c.deep
  | .both c d => 1 + max c.deep d.deep
  | .either c d => 1 + max c.deep d.deep
theorem Cd.deep_pos : ∀ c : Cd, 1 ≤ c.deep
  | .least _ _ => Nat.le_refl _
  | .turns _ _ _ => Nat.le_refl _
  | .neg c => by simp only [Cd.deep]; omega
  | .both c d => by simp only [Cd.deep]; omega
  | .either c d => by simp only [Cd.deep]; omega
theorem dep0 : ∀ xs : List Int, PyData.depthAll (xs.map PyData.int) = 0
  | [] => by simp only [List.map_nil, PyData.depthAll]
  | x :: r => by simp only [List.map_cons, PyData.depthAll, PyData.depth, dep0 r, Nat.max_self]
theorem Cd.dat_depth : ∀ c : Cd, c.dat.depth ≤ c.deep + 1
  | .least w b => by
    simp only [Cd.dat, PyData.depth, PyData.depthAll, Cd.deep, dep0]; omega
  | .turns w m r => by
    simp only [Cd.dat, PyData.depth, PyData.depthAll, Cd.deep, dep0]; omega
  | .neg c => by
    have := c.dat_depth
    simp only [Cd.dat, PyData.depth, PyData.depthAll, Cd.deep]; omega
  | .both c d => by
    have := c.dat_depth
    have := d.dat_depth
    simp only [Cd.dat, PyData.depth, PyData.depthAll, Cd.deep]; omega
  | .either c d => by
    have := c.dat_depth
    have := d.dat_depth
    simp only [Cd.dat, PyData.depth, PyData.depthAll, Cd.deep]; omega
theorem so_least : PyData.strOk (Str.ofString "least") = true := by decide +kernel
theorem so_turns : PyData.strOk (Str.ofString "turns") = true := by decide +kernel
theorem so_not : PyData.strOk (Str.ofString "not") = true := by decide +kernel
theorem so_both : PyData.strOk (Str.ofString "both") = true := by decide +kernel
theorem so_either : PyData.strOk (Str.ofString "either") = true := by decide +kernel
theorem Cd.lay : ∀ c : Cd, c.dat.canLay0 = true
  | .least w b => by simp only [Cd.dat, PyData.canLay0, PyData.canLayAll0, so_least, lay_ints, Bool.and_self]
  | .turns w m r => by simp only [Cd.dat, PyData.canLay0, PyData.canLayAll0, so_turns, lay_ints, Bool.and_self]
  | .neg c => by simp only [Cd.dat, PyData.canLay0, PyData.canLayAll0, so_not, c.lay, Bool.and_self]
  | .both c d => by simp only [Cd.dat, PyData.canLay0, PyData.canLayAll0, so_both, c.lay, d.lay, Bool.and_self]
  | .either c d => by simp only [Cd.dat, PyData.canLay0, PyData.canLayAll0, so_either, c.lay, d.lay, Bool.and_self]
theorem ine {a b : Int} (h : a ≠ b) : V.int a ≠ V.int b := fun e => h (V.int.inj e)
theorem sne {a b : Str} (h : a ≠ b) : V.str a ≠ V.str b := fun e => h (V.str.inj e)
def sp__law_weights : Sp := fun vs H Q _ => ∃ (p : Addr) (s : Int), vs = [.ref p, .int s] ∧ Dk H p ∧ 1 ≤ s ∧ s ≤ 6 ∧ ∀ a (w : List Int) H', wOk s.toNat w → H' a = some (.lst (w.map V.int)) → H a = none → Fr p H H' → Dk H' p → Q (.ref a) H'
def sp__law_condition (d : Nat) : Sp := fun vs H Q _ => ∃ (p : Addr) (s deep : Int), vs = [.ref p, .int s, .int deep] ∧ Dk H p ∧ 1 ≤ s ∧ s ≤ 6 ∧ 1 ≤ deep ∧ deep ≤ d ∧
  ∀ v (c : Cd) H', Fr p H H' → Dk H' p → Dt (fun b => b ≠ p) H' v c.dat → c.ok s.toNat → (c.deep : Int) ≤ deep → Q v H'
section
variable {P : Program} {w : World} {K : PySem.W.Frag} {mg : Str → Option Value} {base : Heap}
theorem ok__law_weights (T : Txt K mg) : FnOk P w K mg base CX0 2 T.f__law_weights T.d__law_weights ["deck", "s"] sp__law_weights := by
  have G__law_take : FnOk P w K mg base CX0 1 T.f__law_take T.d__law_take ["deck", "many"] sp__law_take := ok__law_take T
  refine T.F__law_weights.ok sc__law_weights (fun vs H Q E h => ?_) (fun cdv A outer s H vs Q E hr h => ?_)
  · obtain ⟨p, s, rfl, _⟩ := h
    rfl
  obtain ⟨p, s, rfl, hp, h1, h6, q⟩ := h
  refine ⟨_, (pss_cons (ps_set (i := 2) sc__law_weights.nd rfl (Or.inr rfl) (pe_ix ix_list (pe_lst (pa_cons pe_int (pa_cons pe_int (pa_cons pe_int pa_nil)))) (pe_call G__law_take (hr.mono (by omega)) (by rfl) T.m__law_take T.F__law_take.kp T.b__law_take .nil pass0 (pa_cons (pv 0) (pa_cons pe_int pa_nil))) (fun _ _ => rfl))) (pss_one (ps_ret (pe_lc (own := [("k", 3)]) (g := gName 3) (tt := tYes) rfl sc__law_weights.nd (pi_range1 (by rfl) T.z_range (pa_cons (pv 1) pa_nil)) (blkOk_by (own := [("k", 3)]) (N := ["deck", "s", "most", "k"]) (sc := (defScope s__law_weights)) (by decide +kernel)) (fun _ _ _ _ _ => (pg_name (i := 3) sc__law_weights.nd rfl (Or.inl rfl))) (fun _ _ _ _ _ => pts_nil) (fun _ _ _ _ _ => (pe_call G__law_take (hr.mono (by omega)) (by rfl) T.m__law_take T.F__law_take.kp T.b__law_take .nil pass0 (pa_cons (pv 0) (pa_cons (pv 2) pa_nil)))))))), ?_⟩
  refine ⟨(by show 3 ≤ sizeLine; decide), fun l hl => ?_⟩
  have sl := same_new hl (o := .lst [V.int 2, V.int 2, V.int 5])
  refine ⟨_, rfl, p, 3, rfl, hp.keep sl, by decide, fun r H2 r0 r1 f2 d2 => ?_⟩
  have hl2 := f2 l _ (hp.ne hl) upd_same
  obtain ⟨m, hm, hm0, hm5⟩ : ∃ m : Int, atI [V.int 2, V.int 2, V.int 5] r = some (V.int m) ∧ 0 < m ∧ m ≤ 5 := by
    rcases (by omega : r = 0 ∨ r = 1 ∨ r = 2) with rfl | rfl | rfl
    · exact ⟨2, at_of (j := 0) rfl rfl, by decide, by decide⟩
    · exact ⟨2, at_of (j := 1) rfl rfl, by decide, by decide⟩
    · exact ⟨5, at_of (j := 2) rfl rfl, by decide, by decide⟩
  refine ⟨l, _, r, V.int m, rfl, rfl, SqL.of hl2, hm, ?_⟩
  have F2 : Fr p H H2 := (Fr.same sl).trans f2
  refine ⟨_, rfl, s, rfl, by omega, by omega, fun D hD => lc_range (lo := 0) (n := s.toNat) (fun i H3 => ∃ w : List Int, w.length = i ∧ (∀ x ∈ w, 0 ≤ x ∧ x ≤ 4) ∧ H3 D = some (.lst (w.map V.int)) ∧ Fr p H H3 ∧ Dk H3 p)
    ⟨[], rfl, (fun _ h => by cases h), upd_same, F2.new (F2.free d2.some hD), d2.keep (same_new hD)⟩ ?_ ?_⟩
  · rintro i H3 hi ⟨w, g1, g2, g3, g4, g5⟩
    have nD : D ≠ p := d2.ne hD
    refine ⟨rfl, _, rfl, _, rfl, p, m, rfl, g5, hm0, fun x H4 x0 x1 f4 d4 => ⟨_, f4 _ _ nD g3, ?_, w ++ [x], by simp [g1], ?_, by rw [upd_same, List.map_append]; rfl, ?_, d4.upd nD⟩⟩
    · rw [List.length_map]
      exact Nat.lt_of_le_of_lt (show _ ≤ 1000000 by omega) (by decide)
    · intro y hy
      rcases List.mem_append.mp hy with hy | hy
      · exact g2 y hy
      · simp only [List.mem_singleton] at hy
        omega
    · exact (g4.trans f4).new (F2.free d2.some hD)
  · rintro H3 ⟨w, g1, g2, g3, g4, g5⟩
    exact q D w H3 ⟨g1, g2⟩ g3 (F2.free d2.some hD) g4 g5
theorem ok__law_condition (T : Txt K mg) : ∀ d : Nat, FnOk P w K mg base CX0 (d + 2) T.f__law_condition T.d__law_condition ["deck", "s", "deep"] (sp__law_condition d)
  | 0 => noneOf fun vs H Q E ⟨p, s, deep, _, _, _, _, h1, h2, _⟩ => by omega
  | d + 1 => by
    have G__law_condition : FnOk P w K mg base CX0 (d + 2) T.f__law_condition T.d__law_condition ["deck", "s", "deep"] (sp__law_condition d) := ok__law_condition T d
    have G__law_take : FnOk P w K mg base CX0 1 T.f__law_take T.d__law_take ["deck", "many"] sp__law_take := ok__law_take T
    have G__law_weights : FnOk P w K mg base CX0 2 T.f__law_weights T.d__law_weights ["deck", "s"] sp__law_weights := ok__law_weights T
    refine T.F__law_condition.ok sc__law_condition (fun vs H Q E h => ?_) (fun cdv A outer s H vs Q E hr h => ?_)
    · obtain ⟨p, s, deep, rfl, _⟩ := h
      rfl
    obtain ⟨p, s, deep, rfl, hp, h1, h6, hd1, hd, q⟩ := h
    refine ⟨_, (pss_cons (ps_set (i := 3) sc__law_condition.nd rfl (Or.inl rfl) (pe_call G__law_take (hr.mono (by omega)) (by rfl) T.m__law_take T.F__law_take.kp T.b__law_take .nil pass0 (pa_cons (pv 0) (pa_cons (pe_ix ix_list (pe_lst (pa_cons pe_int (pa_cons pe_int pa_nil))) (pe_callTy call_int1 (by rfl) T.z_int (by decide +kernel) (pa_cons (pe_cmpR op_gt (pv 2) pe_int (nomark _)) pa_nil)) (fun _ _ => rfl)) pa_nil)))) (pss_cons (ps_if (PW.pt (pw_or (pt_cmpR op_eq (pv 3) pe_int (nomark _)) (pw_or1 (pt_cmpR op_eq (pv 3) pe_int (nomark _))))) (pss_one (ps_ret (pe_tup (pa_cons pe_str (pa_cons (pe_call G__law_weights (hr.mono (by omega)) (by rfl) T.m__law_weights T.F__law_weights.kp T.b__law_weights .nil pass0 (pa_cons (pv 0) (pa_cons (pv 1) pa_nil))) (pa_cons (pe_call G__law_take (hr.mono (by omega)) (by rfl) T.m__law_take T.F__law_take.kp T.b__law_take .nil pass0 (pa_cons (pv 0) (pa_cons pe_int pa_nil))) pa_nil)))))) pss_nil) (pss_cons (ps_if (pt_cmpR op_eq (pv 3) pe_int (nomark _)) (pss_cons (ps_set (i := 4) sc__law_condition.nd rfl (Or.inl rfl) (pe_op op_add pe_int (pe_call G__law_take (hr.mono (by omega)) (by rfl) T.m__law_take T.F__law_take.kp T.b__law_take .nil pass0 (pa_cons (pv 0) (pa_cons pe_int pa_nil))))) (pss_one (ps_ret (pe_tup (pa_cons pe_str (pa_cons (pe_call G__law_weights (hr.mono (by omega)) (by rfl) T.m__law_weights T.F__law_weights.kp T.b__law_weights .nil pass0 (pa_cons (pv 0) (pa_cons (pv 1) pa_nil))) (pa_cons (pv 4) (pa_cons (pe_call G__law_take (hr.mono (by omega)) (by rfl) T.m__law_take T.F__law_take.kp T.b__law_take .nil pass0 (pa_cons (pv 0) (pa_cons (pv 4) pa_nil))) pa_nil)))))))) pss_nil) (pss_cons (ps_set (i := 5) sc__law_condition.nd rfl (Or.inl rfl) (pe_call G__law_condition (hr.mono (by omega)) (by rfl) T.m__law_condition T.F__law_condition.kp T.b__law_condition .nil pass0 (pa_cons (pv 0) (pa_cons (pv 1) (pa_cons (pe_op op_sub (pv 2) pe_int) pa_nil))))) (pss_cons (ps_if (pt_cmpR op_eq (pv 3) pe_int (nomark _)) (pss_one (ps_ret (pe_tup (pa_cons pe_str (pa_cons (pv 5) pa_nil))))) pss_nil) (pss_one (ps_ret (pe_tup (pa_cons (pe_ix ix_list (pe_lst (pa_cons pe_str (pa_cons pe_str pa_nil))) (pe_op op_sub (pv 3) pe_int) (fun _ _ => rfl)) (pa_cons (pv 5) (pa_cons (pe_call G__law_condition (hr.mono (by omega)) (by rfl) T.m__law_condition T.F__law_condition.kp T.b__law_condition .nil pass0 (pa_cons (pv 0) (pa_cons (pv 1) (pa_cons (pe_op op_sub (pv 2) pe_int) pa_nil)))) pa_nil))))))))))), ?_⟩
    obtain ⟨M, hM, hM2⟩ : ∃ M : Int, (M = 2 ∧ ¬ 1 < deep ∨ M = 6 ∧ 1 < deep) ∧ atI [V.int 2, V.int 6] (if (decide (1 < deep)) = true then 1 else 0) = some (V.int M) := by
      by_cases h : 1 < deep
      · rw [decide_eq_true h]
        exact ⟨6, .inr ⟨rfl, h⟩, at_of (j := 1) rfl rfl⟩
      · rw [decide_eq_false h]
        exact ⟨2, .inl ⟨rfl, h⟩, at_of (j := 0) rfl rfl⟩
    refine ⟨_, rfl, (by show 2 ≤ sizeLine; decide), fun l hl => ⟨_, rfl, _, _, rfl, rfl, .inr ⟨_, rfl, l, _, _, V.int M, rfl, rfl, SqL.of upd_same, hM2, ?_⟩⟩⟩
    have sl := same_new hl (o := .lst [V.int 2, V.int 6])
    refine ⟨p, M, rfl, hp.keep sl, by omega, fun way H2 w0 w1 f2 d2 => ?_⟩
    have F2 : Fr p H H2 := (Fr.same sl).trans f2
    by_cases h05 : way = 0 ∨ way = 5
    · rcases h05 with rfl | rfl
      case' inl => refine ⟨_, rfl, rfl, _, rfl, eqT rfl (iteT ?_)⟩
      case' inr => refine ⟨_, rfl, rfl, _, rfl, eqF (ine (by decide)) ⟨_, rfl, rfl, _, rfl, eqT rfl ?_⟩⟩
      all_goals
        refine ⟨_, rfl, _, rfl, p, s, rfl, d2, h1, h6, fun a w H3 hw ha hna f3 d3 => ?_⟩
        refine ⟨_, rfl, p, 5, rfl, d3, by decide, fun b H4 b0 b1 f4 d4 => ⟨(by show 3 ≤ sizeLine; decide), fun t ht => ?_⟩⟩
        have nap : a ≠ p := d2.ne hna
        have sT := same_new ht (o := .tup [.str (Str.ofString "least"), .ref a, .int b])
        have hw6 : w.length ≤ 1000 := by have := hw.1; omega
        exact q (.ref t) (.least w b) _ (((F2.trans f3).trans f4).trans (Fr.same sT)) (d4.keep sT) (.tup upd_same (d4.ne ht) (Nat.le_add_left _ 997) (.cons (.str _) (.cons (dt_intsL (sT _ _ (f4 _ _ nap ha)) nap hw6) (.cons (.int b) .nil)))) ⟨hw, b0, by omega⟩ (by simp only [Cd.deep]; omega)
    rw [not_or] at h05
    refine ⟨_, rfl, rfl, _, rfl, eqF (ine h05.1) ⟨_, rfl, rfl, _, rfl, eqF (ine h05.2) ?_⟩⟩
    by_cases hw1 : way = 1
    · subst hw1
      refine ⟨_, rfl, rfl, _, rfl, eqT rfl ?_⟩
      refine ⟨_, rfl, p, 4, rfl, d2, by decide, fun m H3 m0 m1 f3 d3 => ⟨1, m, rfl, rfl, ?_⟩⟩
      refine ⟨_, rfl, _, rfl, p, s, rfl, d3, h1, h6, fun a w H4 hw ha hna f4 d4 => ?_⟩
      refine ⟨_, rfl, _, rfl, _, rfl, p, 1 + m, rfl, d4, by omega, fun r H5 r0 r1 f5 d5 => ⟨(by show 4 ≤ sizeLine; decide), fun t ht => ?_⟩⟩
      have nap : a ≠ p := d3.ne hna
      have sT := same_new ht (o := .tup [.str (Str.ofString "turns"), .ref a, .int (1 + m), .int r])
      have hw6 : w.length ≤ 1000 := by have := hw.1; omega
      exact q (.ref t) (.turns w (1 + m) r) _ ((((F2.trans f3).trans f4).trans f5).trans (Fr.same sT)) (d5.keep sT) (.tup upd_same (d5.ne ht) (Nat.le_add_left _ 996) (.cons (.str _) (.cons (dt_intsL (sT _ _ (f5 _ _ nap ha)) nap hw6) (.cons (.int _) (.cons (.int r) .nil))))) ⟨hw, by omega, by omega, r0, r1⟩ (by simp only [Cd.deep]; omega)
    refine ⟨_, rfl, rfl, _, rfl, eqF (ine hw1) ?_⟩
    have hdp : 1 < deep := by omega
    refine ⟨_, rfl, _, rfl, _, rfl, _, _, rfl, rfl, p, s, deep - 1, rfl, d2, h1, h6, by omega, by omega, fun v c H3 f3 d3 hv hc hcd => ?_⟩
    by_cases hw2 : way = 2
    · subst hw2
      refine ⟨_, rfl, rfl, _, rfl, eqT rfl ?_⟩
      refine ⟨_, rfl, (by show 2 ≤ sizeLine; decide), fun t ht => ?_⟩
      have sT := same_new ht (o := .tup [.str (Str.ofString "not"), v])
      exact q (.ref t) (.neg c) _ ((F2.trans f3).trans (Fr.same sT)) (d3.keep sT) (.tup upd_same (d3.ne ht) (Nat.le_add_left _ 998) (.cons (.str _) (.cons (hv.same sT) .nil))) hc (by simp only [Cd.deep]; omega)
    refine ⟨_, rfl, rfl, _, rfl, eqF (ine hw2) ?_⟩
    refine ⟨(by show 2 ≤ sizeLine; decide), fun l2 hl2 => ?_⟩
    have s2 := same_new hl2 (o := .lst [.str (Str.ofString "both"), .str (Str.ofString "either")])
    have d3' := d3.keep s2
    have hv' := hv.same s2
    rcases (by omega : way = 3 ∨ way = 4) with rfl | rfl
    · refine ⟨_, rfl, _, _, rfl, rfl, l2, _, _, .str (Str.ofString "both"), rfl, rfl, SqL.of upd_same, at_of (j := 0) rfl rfl, ?_⟩
      refine ⟨_, rfl, _, rfl, _, rfl, _, rfl, _, _, rfl, rfl, p, s, deep - 1, rfl, d3', h1, h6, by omega, by omega, fun v2 c2 H4 f4 d4 hv2 hc2 hcd2 => ⟨(by show 3 ≤ sizeLine; decide), fun t ht => ?_⟩⟩
      have sT := same_new ht (o := .tup [.str (Str.ofString "both"), v, v2])
      exact q (.ref t) (.both c c2) _ ((((F2.trans f3).trans (Fr.same s2)).trans f4).trans (Fr.same sT)) (d4.keep sT) (.tup upd_same (d4.ne ht) (Nat.le_add_left _ 997) (.cons (.str _) (.cons ((hv'.keep fun b o h e => f4 b o h e).same sT) (.cons (hv2.same sT) .nil)))) ⟨hc, hc2⟩ (by simp only [Cd.deep]; omega)
    · refine ⟨_, rfl, _, _, rfl, rfl, l2, _, _, .str (Str.ofString "either"), rfl, rfl, SqL.of upd_same, at_of (j := 1) rfl rfl, ?_⟩
      refine ⟨_, rfl, _, rfl, _, rfl, _, rfl, _, _, rfl, rfl, p, s, deep - 1, rfl, d3', h1, h6, by omega, by omega, fun v2 c2 H4 f4 d4 hv2 hc2 hcd2 => ⟨(by show 3 ≤ sizeLine; decide), fun t ht => ?_⟩⟩
      have sT := same_new ht (o := .tup [.str (Str.ofString "either"), v, v2])
      exact q (.ref t) (.either c c2) _ ((((F2.trans f3).trans (Fr.same s2)).trans f4).trans (Fr.same sT)) (d4.keep sT) (.tup upd_same (d4.ne ht) (Nat.le_add_left _ 997) (.cons (.str _) (.cons ((hv'.keep fun b o h e => f4 b o h e).same sT) (.cons (hv2.same sT) .nil)))) ⟨hc, hc2⟩ (by simp only [Cd.deep]; omega)
end


theorem lc_zip {K : PySem.W.Frag} {a b : Addr} {xs ys : List V} {Bd : V → Hp → (Hp → Prop) → Prop} {Qd : Hp → Prop} {H0 : Hp} (hlen : xs.length = ys.length) (Pv : Nat → Hp → Prop) (h0 : Pv 0 H0) (hl : ∀ i H, i ≤ xs.length → Pv i H → SqL K H a xs ∧ SqL K H b ys)
    (hs : ∀ i x y T H, xs[i]? = some x → ys[i]? = some y → Pv i H → H T = none → Bd (.ref T) (upd H T (.tup [x, y])) (Pv (i + 1))) (hd : ∀ H, Pv xs.length H → Qd H) :
    ∃ W : Nat → Nat → Hp → Prop, (∃ m, W 0 m H0) ∧ ∀ i m H, W i m H → ((Itz K a b).stop i H ∧ Qd H) ∨ ((Itz K a b).go i H ∧ ∃ Nx : Hp → Prop, (∀ H', Nx H' → ∃ m', m' < m ∧ W (i + 1) m' H') ∧ ∀ x H', (Itz K a b).yld i H x H' → Bd x H' Nx) := by
  refine ⟨fun i m H => m = xs.length - i ∧ i ≤ xs.length ∧ Pv i H, ⟨xs.length, by simp, Nat.zero_le _, h0⟩, ?_⟩
  rintro i m H ⟨rfl, hi, p⟩
  obtain ⟨q1, q2⟩ := hl i H hi p
  by_cases hlt : i < xs.length
  · have hlt2 : i < ys.length := by omega
    refine .inr ⟨⟨xs, ys, xs[i], ys[i], q1, q2, by simp [hlt], by simp [hlt2]⟩, Pv (i + 1), fun H' p' => ⟨xs.length - (i + 1), by omega, rfl, hlt, p'⟩, fun x H' y => ?_⟩
    obtain ⟨T, x1, y1, rfl, hT, rfl, g1, g2⟩ := y
    exact hs i x1 y1 T H (g1 xs q1) (g2 ys q2) p hT
  · have e : i = xs.length := by omega
    subst e
    exact .inl ⟨⟨xs, ys, q1, q2, .inl (Nat.le_refl _)⟩, hd H p⟩

def prods (w ns : List Int) : List Int := (w.zip ns).map fun p => p.1 * p.2
def dot (w ns : List Int) : Int := (prods w ns).sum
def Cd.val (ns : List Int) : Cd → Bool
  | .least w b => decide (dot w ns ≥ b)
  | .turns w m r => decide (dot w ns % m = r)
  | .neg c => !c.val ns
  | .both c d => c.val ns && d.val ns
  | .either c d => c.val ns || d.val ns
theorem prods_at {w ns : List Int} {i : Nat} {x y : Int} (hx : w[i]? = some x) (hy : ns[i]? = some y) : (prods w ns)[i]? = some (x * y) := by
  unfold prods
  rw [List.getElem?_map, List.getElem?_zip_eq_some (z := (x, y)).mpr ⟨hx, hy⟩]
  rfl
theorem prods_len {w ns : List Int} (h : w.length = ns.length) : (prods w ns).length = ns.length := by
  unfold prods
  rw [List.length_map, List.length_zip]
  omega
theorem dint {a b : Int} {i : Decidable (V.int a = V.int b)} : @decide (V.int a = V.int b) i = decide (a = b) := by
  by_cases h : a = b
  · rw [decide_eq_true h, decide_eq_true (congrArg V.int h)]
  · rw [decide_eq_false h, decide_eq_false (ine h)]
theorem turns_eq {x m r : Int} (h0 : 0 ≤ r) (h1 : r < m) : decide ((x - r) % m = 0) = decide (x % m = r) := by
  have e : r % m = r := Int.emod_eq_of_lt h0 h1
  have k := Int.emod_eq_emod_iff_emod_sub_eq_zero (m := x) (n := m) (k := r)
  rw [e] at k
  exact decide_eq_decide.mpr k.symm
def sp__weighed : Sp := fun vs H Q _ => ∃ (a b : Addr) (w ns : List Int) (s : Nat), vs = [.ref a, .ref b] ∧ H a = some (.lst (w.map V.int)) ∧ H b = some (.lst (ns.map V.int)) ∧ wOk s w ∧ ns.length = s ∧ s ≤ 6 ∧ ∀ H', Same H H' → Q (.int (dot w ns)) H'
def sp_condition_holds (d : Nat) : Sp := fun vs H Q _ => ∃ (v : V) (b : Addr) (c : Cd) (ns : List Int) (s : Nat), vs = [v, .ref b] ∧ Dt (fun _ => True) H v c.dat ∧ H b = some (.lst (ns.map V.int)) ∧ c.ok s ∧ ns.length = s ∧ s ≤ 6 ∧ c.deep ≤ d ∧ ∀ H', Same H H' → Q (.bl (c.val ns)) H'
section
variable {P : Program} {w : World} {K : PySem.W.Frag} {mg : Str → Option Value} {base : Heap}
theorem ok__weighed (T : Txt K mg) : FnOk P w K mg base CX0 1 T.f__weighed T.d__weighed ["weights", "numbers"] sp__weighed := by
  refine T.F__weighed.ok sc__weighed (fun vs H Q E h => ?_) (fun cdv A outer s H vs Q E hr h => ?_)
  · obtain ⟨a, b, w, ns, s, rfl, _⟩ := h
    rfl
  obtain ⟨a, b, w, ns, n, rfl, ha, hb, hw, hn, h6, q⟩ := h
  refine ⟨_, (pss_one (ps_ret (pe_callB (cr_sum rfl) (by rfl) T.z_sum (by decide +kernel) (pa_cons (pe_lc (own := [("weight", 2), ("number", 3)]) (g := gTup K 2 (gCons (gName 2) (gCons (gName 3) gNil))) (tt := tYes) rfl sc__weighed.nd (pi_zip (by rfl) T.z_zip (pa_cons (pv 0) (pa_cons (pv 1) pa_nil))) (blkOk_by (own := [("weight", 2), ("number", 3)]) (N := ["weights", "numbers", "weight", "number"]) (sc := (defScope s__weighed)) (by decide +kernel)) (fun _ _ _ _ _ => (pg_tup rfl (pgs_cons (pg_name (i := 2) sc__weighed.nd rfl (Or.inl rfl)) (pgs_cons (pg_name (i := 3) sc__weighed.nd rfl (Or.inl rfl)) pgs_nil)))) (fun _ _ _ _ _ => pts_nil) (fun _ _ _ _ _ => (pe_op op_mul (pv 2) (pv 3)))) pa_nil)))), ?_⟩
  have hlen : w.length = ns.length := by rw [hw.1, hn]
  refine ⟨_, rfl, _, rfl, a, b, _, _, rfl, SqL.of ha, SqL.of hb, fun D hD => ?_⟩
  refine lc_zip (xs := w.map V.int) (ys := ns.map V.int) (by rw [List.length_map, List.length_map, hlen]) (fun i H2 => H2 D = some (.lst (((prods w ns).take i).map V.int)) ∧ Same H H2) ⟨upd_same, same_new hD⟩ (fun i H2 _ ⟨_, s⟩ => ⟨SqL.of (s _ _ ha), SqL.of (s _ _ hb)⟩) ?_ ?_
  · rintro i x y Tt H2 hx hy ⟨g1, g2⟩ hT
    rw [List.getElem?_map] at hx hy
    cases hc : w[i]? with
    | none => rw [hc] at hx; cases hx
    | some x1 =>
    cases hc2 : ns[i]? with
    | none => rw [hc2] at hy; cases hy
    | some y1 =>
    rw [hc] at hx
    rw [hc2] at hy
    cases hx
    cases hy
    have g3 : Same H (upd H2 Tt (.tup [V.int x1, V.int y1])) := same_add g2 (g2.free hT)
    have hb4 := hw.2 x1 (List.mem_of_getElem? hc)
    refine ⟨_, _, rfl, SqT.of upd_same, rfl, _, _, rfl, _, _, rfl, rfl, rfl, _, rfl, _, rfl, _, _, rfl, rfl, .inl ⟨by omega, by omega⟩, ?_⟩
    refine ⟨_, by rw [upd_ne (ne_of_none g1 hT)]; exact g1, ?_, ?_, ?_⟩
    · rw [List.length_map, List.length_take, prods_len hlen]
      exact Nat.lt_of_le_of_lt (show _ ≤ 1000000 by omega) (by decide)
    · rw [upd_same, take_succ_of (prods_at hc hc2), List.map_append]
      rfl
    · exact same_add g3 hD
  · rintro H2 ⟨g1, g2⟩
    rw [List.length_map, hlen, ← prods_len hlen, List.take_length] at g1
    exact ⟨D, _, rfl, SqL.of g1, q _ g2⟩
theorem ok_condition_holds (T : Txt K mg) : ∀ d : Nat, FnOk P w K mg base CX0 (d + 1) T.f_condition_holds T.d_condition_holds ["condition", "numbers"] (sp_condition_holds d)
  | 0 => noneOf fun vs H Q E ⟨v, b, c, ns, s, _, _, _, _, _, _, h, _⟩ => by have := c.deep_pos; omega
  | d + 1 => by
    have G_condition_holds : FnOk P w K mg base CX0 (d + 1) T.f_condition_holds T.d_condition_holds ["condition", "numbers"] (sp_condition_holds d) := ok_condition_holds T d
    have G__weighed : FnOk P w K mg base CX0 1 T.f__weighed T.d__weighed ["weights", "numbers"] sp__weighed := ok__weighed T
    refine T.F_condition_holds.ok sc_condition_holds (fun vs H Q E h => ?_) (fun cdv A outer s H vs Q E hr h => ?_)
    · obtain ⟨v, b, c, ns, s, rfl, _⟩ := h
      rfl
    obtain ⟨v, b, c, ns, n, rfl, ht, hb, hc, hn, h6, hd, q⟩ := h
    refine ⟨_, (pss_cons (ps_set (i := 2) sc_condition_holds.nd rfl (Or.inl rfl) (pe_ix ix_tup (pv 0) pe_int (fun _ _ => rfl))) (pss_cons (ps_if (pt_cmpR op_eq (pv 2) pe_str (nomark _)) (pss_one (ps_ret (pe_cmpR op_ge (pe_call G__weighed (hr.mono (by omega)) (by rfl) T.m__weighed T.F__weighed.kp T.b__weighed .nil pass0 (pa_cons (pe_ix ix_tup (pv 0) pe_int (fun _ _ => rfl)) (pa_cons (pv 1) pa_nil))) (pe_ix ix_tup (pv 0) pe_int (fun _ _ => rfl)) (nomark _)))) pss_nil) (pss_cons (ps_if (pt_cmpR op_eq (pv 2) pe_str (nomark _)) (pss_one (ps_ret (pe_cmpR op_eq (pe_op op_mod (pe_op op_sub (pe_call G__weighed (hr.mono (by omega)) (by rfl) T.m__weighed T.F__weighed.kp T.b__weighed .nil pass0 (pa_cons (pe_ix ix_tup (pv 0) pe_int (fun _ _ => rfl)) (pa_cons (pv 1) pa_nil))) (pe_ix ix_tup (pv 0) pe_int (fun _ _ => rfl))) (pe_ix ix_tup (pv 0) pe_int (fun _ _ => rfl))) pe_int (nomark _)))) pss_nil) (pss_cons (ps_if (pt_cmpR op_eq (pv 2) pe_str (nomark _)) (pss_one (ps_ret (pe_not (pe_call G_condition_holds (hr.mono (by omega)) (by rfl) T.m_condition_holds T.F_condition_holds.kp T.b_condition_holds .nil pass0 (pa_cons (pe_ix ix_tup (pv 0) pe_int (fun _ _ => rfl)) (pa_cons (pv 1) pa_nil)))))) pss_nil) (pss_cons (ps_if (pt_cmpR op_eq (pv 2) pe_str (nomark _)) (pss_one (ps_ret (pe_and (pe_call G_condition_holds (hr.mono (by omega)) (by rfl) T.m_condition_holds T.F_condition_holds.kp T.b_condition_holds .nil pass0 (pa_cons (pe_ix ix_tup (pv 0) pe_int (fun _ _ => rfl)) (pa_cons (pv 1) pa_nil))) (pe_one (pe_call G_condition_holds (hr.mono (by omega)) (by rfl) T.m_condition_holds T.F_condition_holds.kp T.b_condition_holds .nil pass0 (pa_cons (pe_ix ix_tup (pv 0) pe_int (fun _ _ => rfl)) (pa_cons (pv 1) pa_nil))))))) pss_nil) (pss_one (ps_ret (pe_or (pe_call G_condition_holds (hr.mono (by omega)) (by rfl) T.m_condition_holds T.F_condition_holds.kp T.b_condition_holds .nil pass0 (pa_cons (pe_ix ix_tup (pv 0) pe_int (fun _ _ => rfl)) (pa_cons (pv 1) pa_nil))) (pe_one (pe_call G_condition_holds (hr.mono (by omega)) (by rfl) T.m_condition_holds T.F_condition_holds.kp T.b_condition_holds .nil pass0 (pa_cons (pe_ix ix_tup (pv 0) pe_int (fun _ _ => rfl)) (pa_cons (pv 1) pa_nil)))))))))))), ?_⟩
    cases c with
    | least w k =>
      cases ht with
      | tup e _ _ r =>
      cases r with
      | cons r0 r =>
      cases r with
      | cons r1 r =>
      cases r with
      | cons r2 r =>
      cases r
      cases r0
      cases r2
      obtain ⟨wa, rfl, hwa, _⟩ := r1.intsL
      refine ⟨_, rfl, _, _, 0, _, rfl, rfl, SqT.of e, atI_nat (j := 0) rfl, ?_⟩
      refine ⟨_, rfl, rfl, _, rfl, eqT rfl ?_⟩
      refine ⟨_, rfl, _, _, 1, _, rfl, rfl, SqT.of e, atI_nat (j := 1) rfl, _, rfl, wa, b, w, ns, n, rfl, hwa, hb, hc.1, hn, h6, fun H1 s1 => ?_⟩
      exact ⟨_, rfl, _, _, 2, _, rfl, rfl, SqT.of (s1 _ _ e), atI_nat (j := 2) rfl, _, _, rfl, rfl, q _ s1⟩
    | turns w m k =>
      cases ht with
      | tup e _ _ r =>
      cases r with
      | cons r0 r =>
      cases r with
      | cons r1 r =>
      cases r with
      | cons r2 r =>
      cases r with
      | cons r3 r =>
      cases r
      cases r0
      cases r2
      cases r3
      obtain ⟨wa, rfl, hwa, _⟩ := r1.intsL
      refine ⟨_, rfl, _, _, 0, _, rfl, rfl, SqT.of e, atI_nat (j := 0) rfl, ?_⟩
      refine ⟨_, rfl, rfl, _, rfl, eqF (sne (by decide +kernel)) ?_⟩
      refine ⟨_, rfl, rfl, _, rfl, eqT rfl ?_⟩
      refine ⟨_, rfl, _, _, 1, _, rfl, rfl, SqT.of e, atI_nat (j := 1) rfl, _, rfl, wa, b, w, ns, n, rfl, hwa, hb, hc.1, hn, h6, fun H1 s1 => ?_⟩
      obtain ⟨c1, c2, c3, c4, c5⟩ := hc
      refine ⟨_, rfl, _, _, 3, _, rfl, rfl, SqT.of (s1 _ _ e), atI_nat (j := 3) rfl, _, _, rfl, rfl, _, rfl, _, _, 2, _, rfl, rfl, SqT.of (s1 _ _ e), atI_nat (j := 2) rfl, _, _, rfl, rfl, (by show 0 < m; omega), rfl, ?_⟩
      rw [dint, turns_eq c4 c5]
      exact q _ s1
    | neg c1 =>
      cases ht with
      | tup e _ _ r =>
      cases r with
      | cons r0 r =>
      cases r with
      | cons r1 r =>
      cases r
      cases r0
      simp only [Cd.deep] at hd
      refine ⟨_, rfl, _, _, 0, _, rfl, rfl, SqT.of e, atI_nat (j := 0) rfl, ?_⟩
      refine ⟨_, rfl, rfl, _, rfl, eqF (sne (by decide +kernel)) ?_⟩
      refine ⟨_, rfl, rfl, _, rfl, eqF (sne (by decide +kernel)) ?_⟩
      refine ⟨_, rfl, rfl, _, rfl, eqT rfl ?_⟩
      exact ⟨_, rfl, _, _, 1, _, rfl, rfl, SqT.of e, atI_nat (j := 1) rfl, _, rfl, _, b, c1, ns, n, rfl, r1, hb, hc, hn, h6, by omega, fun H1 s1 => ⟨_, rfl, q _ s1⟩⟩
    | both c1 c2 =>
      cases ht with
      | tup e _ _ r =>
      cases r with
      | cons r0 r =>
      cases r with
      | cons r1 r =>
      cases r with
      | cons r2 r =>
      cases r
      cases r0
      simp only [Cd.deep] at hd
      refine ⟨_, rfl, _, _, 0, _, rfl, rfl, SqT.of e, atI_nat (j := 0) rfl, ?_⟩
      refine ⟨_, rfl, rfl, _, rfl, eqF (sne (by decide +kernel)) ?_⟩
      refine ⟨_, rfl, rfl, _, rfl, eqF (sne (by decide +kernel)) ?_⟩
      refine ⟨_, rfl, rfl, _, rfl, eqF (sne (by decide +kernel)) ?_⟩
      refine ⟨_, rfl, rfl, _, rfl, eqT rfl ?_⟩
      refine ⟨_, rfl, _, _, 1, _, rfl, rfl, SqT.of e, atI_nat (j := 1) rfl, _, rfl, _, b, c1, ns, n, rfl, r1, hb, hc.1, hn, h6, by omega, fun H1 s1 => ⟨_, rfl, ite2 (fun hv => ?_) (fun hv => ?_)⟩⟩
      · refine ⟨_, rfl, _, _, 2, _, rfl, rfl, SqT.of (s1 _ _ e), atI_nat (j := 2) rfl, _, rfl, _, b, c2, ns, n, rfl, r2.same s1, s1 _ _ hb, hc.2, hn, h6, by omega, fun H2 s2 => ?_⟩
        have e1 : (Cd.both c1 c2).val ns = c2.val ns := by simp only [Cd.val, hv, Bool.true_and]
        rw [← e1]
        exact q _ (s1.trans s2)
      · have e1 : (Cd.both c1 c2).val ns = false := by simp only [Cd.val, Bool.eq_false_iff.mpr hv, Bool.false_and]
        rw [← e1]
        exact q _ s1
    | either c1 c2 =>
      cases ht with
      | tup e _ _ r =>
      cases r with
      | cons r0 r =>
      cases r with
      | cons r1 r =>
      cases r with
      | cons r2 r =>
      cases r
      cases r0
      simp only [Cd.deep] at hd
      refine ⟨_, rfl, _, _, 0, _, rfl, rfl, SqT.of e, atI_nat (j := 0) rfl, ?_⟩
      refine ⟨_, rfl, rfl, _, rfl, eqF (sne (by decide +kernel)) ?_⟩
      refine ⟨_, rfl, rfl, _, rfl, eqF (sne (by decide +kernel)) ?_⟩
      refine ⟨_, rfl, rfl, _, rfl, eqF (sne (by decide +kernel)) ?_⟩
      refine ⟨_, rfl, rfl, _, rfl, eqF (sne (by decide +kernel)) ?_⟩
      refine ⟨_, rfl, _, _, 1, _, rfl, rfl, SqT.of e, atI_nat (j := 1) rfl, _, rfl, _, b, c1, ns, n, rfl, r1, hb, hc.1, hn, h6, by omega, fun H1 s1 => ⟨_, rfl, ite2 (fun hv => ?_) (fun hv => ?_)⟩⟩
      · have e1 : (Cd.either c1 c2).val ns = true := by simp only [Cd.val, hv, Bool.true_or]
        rw [← e1]
        exact q _ s1
      · refine ⟨_, rfl, _, _, 2, _, rfl, rfl, SqT.of (s1 _ _ e), atI_nat (j := 2) rfl, _, rfl, _, b, c2, ns, n, rfl, r2.same s1, s1 _ _ hb, hc.2, hn, h6, by omega, fun H2 s2 => ?_⟩
        have e1 : (Cd.either c1 c2).val ns = c2.val ns := by simp only [Cd.val, Bool.eq_false_iff.mpr hv, Bool.false_or]
        rw [← e1]
        exact q _ (s1.trans s2)
end

def Ents : List DictEntry → List (Str × Int) → Prop
  | [], [] => True
  | e :: r, q :: qs => (∃ h t u, e = ⟨h, .str q.1 t, .int q.2 u⟩) ∧ Ents r qs
  | [], _ :: _ => False
  | _ :: _, [] => False
def look : List (Str × Int) → Str → Option V
  | [], _ => none
  | q :: qs, x => if q.1 = x then some (.int q.2) else look qs x
def KTab (K : PySem.W.Frag) (w : World) (a : Addr) (qs : List (Str × Int)) : Prop :=
  (a == sysModules) = false ∧ ∃ es n, K.lookup a = some ⟨.type "dict", none, .dict es n, #[]⟩ ∧ PySem.W.KeysLit w.params es.toList ∧ Ents es.toList qs
def tKGet2 (K : PySem.W.Frag) (w : World) (td ty tx : TE) : TE := fun σ H Q => td σ H fun x H1 => ∃ a qs, x = .ref a ∧ KTab K w a qs ∧ ty σ H1 fun y H2 => tx σ H2 fun z H3 => ∃ s, y = .str s ∧ Q ((look qs s).getD z) H3
theorem ents_find : ∀ {es : List DictEntry} {qs : List (Str × Int)}, Ents es qs → ∀ (x : Str), RelO (look qs x) ((es.find? fun e => Value.isStrOf x e.key).map (·.val))
  | [], [], _, x => True.intro
  | e :: r, q :: qs, h, x => by
    obtain ⟨⟨hh, t, u, rfl⟩, h2⟩ := h
    have ih := ents_find h2 x
    unfold look
    rw [List.find?_cons]
    by_cases hx : q.1 = x
    · rw [if_pos hx]
      have e1 : Value.isStrOf x (Value.str q.1 t) = true := by show (q.1 == x) = true; rw [hx]; exact beq_self_eq_true x
      simp only [e1]
      exact ⟨u, rfl⟩
    · rw [if_neg hx]
      have e1 : Value.isStrOf x (Value.str q.1 t) = false := by show (q.1 == x) = false; exact beq_eq_false_iff_ne.mpr hx
      simp only [e1]
      exact ih
  | [], _ :: _, h, _ => h.elim
  | _ :: _, [], h, _ => h.elim
theorem pe_kget2 {X : Cx} {o e f : Expr} {apos cpos : Pos} {td ty tx : TE} (hc : X.calm = true) (ho : PE X o td) (he : PE X e ty) (hf : PE X f tx) (m : M2 X o "get" apos e f cpos) : PE X (.Call (.Attribute o "get" apos) [e, f] [] cpos) (tKGet2 X.K X.w td ty tx) := by
  refine ⟨fun pins s σ H Q I h => ?_⟩
  refine wpAny_Call_method m.base m.few m.line PySem.F.plainAttrs_dict PySem.F.slot_dict_get PySem.F.type_dict_get (thn (ho.run pins s σ H _ I h) fun u s1 ⟨x, H1, I1, rx, a, qs, ex, ⟨hs, es, n, hl, hk, hE⟩, q1⟩ => ?_)
  subst ex
  obtain rfl : u = Value.ref a := rx
  have hm1 := PySem.W.mapOf_K (prog := X.prog) (w := X.w) I1.kIn hl hk
  refine ⟨hm1.typeIs, fun b q => by cases q; exact ⟨_, I1.kIn _ _ hl, rfl⟩, ?_⟩
  rw [m.trees]
  refine Calls.callWith_builtin rfl (Calls.evalArgs_plain (Calls.spliced_cons (thn (he.run pins s1 σ H1 _ I1 q1) fun iv s2 ⟨y, H2, I2, ry, q2⟩ =>
    Calls.spliced_cons (thn (hf.run pins s2 σ H2 _ I2 q2) fun fv s3 ⟨z, H3, I3, rz, sx, ey, q3⟩ => Calls.spliced_nil ?_))))
  subst ey
  obtain ⟨t, rfl⟩ := (show ∃ t, iv = Value.str sx t from ry)
  have hm3 := PySem.W.mapOf_K (prog := X.prog) (w := X.w) I3.kIn hl hk
  refine call_meetsIn PySem.F.slot_dict_get hm3.typeIs PySem.F.entry_dict_get (PySem.F.args_dict_get_3 _ _ _) (meets_dict_get_default (strKind X.prog X.w) a (strKind_is X.prog X.w sx t) hs fv) ⟨_, hm3, ?_⟩
  refine ⟨_, H3, I3.tok _, ?_, q3⟩
  have r := ents_find hE sx
  have e2 : findBy Value.isStrOf es sx = (es.toList.find? fun e => Value.isStrOf sx e.key).map (·.val) := by
    unfold findBy
    rw [← Array.find?_toList]
  rw [e2]
  exact r.getD rz


def tyN : PyData → String
  | .none => "NoneType"
  | .bool _ => "bool"
  | .int _ => "int"
  | .str _ => "str"
  | .list _ => "list"
  | .tuple _ => "tuple"
  | .dict _ => "dict"
theorem Dt.ty {ok : Addr → Prop} {H : Hp} {K : PySem.W.Frag} {v : V} {d : PyData} (h : Dt ok H v d) : TyX K H v (.type (tyN d)) := by
  cases h with
  | non => exact .base .non
  | bl b => exact .base (.bl b)
  | int i => exact .base (.int i)
  | str x => exact .base (.str x)
  | lst e _ _ _ => exact .base (.lst e)
  | tup e _ _ _ => exact .base (.tup e)
  | dic e _ => exact .base (.dK e)
def isIntD : PyData → Bool
  | .int _ => true
  | .bool _ => true
  | _ => false
def isBoolD : PyData → Bool
  | .bool _ => true
  | _ => false
def isStrD : PyData → Bool
  | .str _ => true
  | _ => false
def isListD : PyData → Bool
  | .list _ => true
  | _ => false
def isTupD : PyData → Bool
  | .tuple _ => true
  | _ => false
def isDictD : PyData → Bool
  | .dict _ => true
  | _ => false
section
variable {K : PySem.W.Frag}
theorem k_int (d : PyData) : PySem.W.kitOne K (.type (tyN d)) (.type "int") = some (isIntD d) := by cases d <;> exact kit_ty (by dsimp only [tyN, isIntD]; decide +kernel)
theorem k_bool (d : PyData) : PySem.W.kitOne K (.type (tyN d)) (.type "bool") = some (isBoolD d) := by cases d <;> exact kit_ty (by dsimp only [tyN, isBoolD]; decide +kernel)
theorem k_str (d : PyData) : PySem.W.kitOne K (.type (tyN d)) (.type "str") = some (isStrD d) := by cases d <;> exact kit_ty (by dsimp only [tyN, isStrD]; decide +kernel)
theorem k_list (d : PyData) : PySem.W.kitOne K (.type (tyN d)) (.type "list") = some (isListD d) := by cases d <;> exact kit_ty (by dsimp only [tyN, isListD]; decide +kernel)
theorem k_tuple (d : PyData) : PySem.W.kitOne K (.type (tyN d)) (.type "tuple") = some (isTupD d) := by cases d <;> exact kit_ty (by dsimp only [tyN, isTupD]; decide +kernel)
theorem k_dict (d : PyData) : PySem.W.kitOne K (.type (tyN d)) (.type "dict") = some (isDictD d) := by cases d <;> exact kit_ty (by dsimp only [tyN, isDictD]; decide +kernel)
end

def isW : PyData → Bool
  | .int _ => true
  | _ => false
def inR (lo hi : Int) : PyData → Bool
  | .int i => decide (lo ≤ i) && decide (i ≤ hi)
  | _ => false
def areW (s : Int) : PyData → Bool
  | .list xs => decide ((xs.length : Int) = s) && xs.all (inR 0 4)
  | _ => false
def isLeastD (s : Int) : List PyData → Bool
  | [_, w, b] => areW s w && inR 0 4 b
  | _ => false
def isTurnsD (s : Int) : List PyData → Bool
  | [_, w, m, r] => areW s w && (match m with | .int i => inR 1 4 (.int i) && inR 0 (i - 1) r | _ => false)
  | _ => false
def made : List (Str × Int) := [(Str.ofString "not", 2), (Str.ofString "both", 3), (Str.ofString "either", 3)]
def arity (x : Str) : Int := match look made x with | some (.int i) => i | _ => 0
def isC : Nat → Int → PyData → Bool
  | 0, _, _ => false
  | n + 1, s, .tuple (.str x :: r) =>
    if x = Str.ofString "least" then isLeastD s (.str x :: r) else if x = Str.ofString "turns" then isTurnsD s (.str x :: r)
    else if ((r.length : Int) + 1 = arity x) then r.all (fun d => isC n s d) else false
  | _ + 1, _, _ => false
def isCond (d : PyData) : PyData → Bool
  | .int s => (decide (1 ≤ s) && decide (s ≤ 6)) && isC 4 s d
  | _ => false
def sp_is_whole : Sp := fun vs H Q _ => ∃ (v : V) (d : PyData), vs = [v] ∧ Dt (fun _ => True) H v d ∧ Q (.bl (isW d)) H
def sp_is_whole_within : Sp := fun vs H Q _ => ∃ (v : V) (d : PyData) (lo hi : Int), vs = [v, .int lo, .int hi] ∧ Dt (fun _ => True) H v d ∧ Q (.bl (inR lo hi d)) H
def sp__are_weights : Sp := fun vs H Q _ => ∃ (v : V) (d : PyData) (s : Int), vs = [v, .int s] ∧ Dt (fun _ => True) H v d ∧ ∀ H', Same H H' → Q (.bl (areW s d)) H'
def sp__is_least : Sp := fun vs H Q _ => ∃ (v : V) (ds : List PyData) (s : Int), vs = [v, .int s] ∧ Dt (fun _ => True) H v (.tuple ds) ∧ ∀ H', Same H H' → Q (.bl (isLeastD s ds)) H'
def sp__is_turns : Sp := fun vs H Q _ => ∃ (v : V) (ds : List PyData) (s : Int), vs = [v, .int s] ∧ Dt (fun _ => True) H v (.tuple ds) ∧ ∀ H', Same H H' → Q (.bl (isTurnsD s ds)) H'
def sp__is_condition_of (n : Nat) : Sp := fun vs H Q _ => ∃ (v : V) (d : PyData) (s lv : Int), vs = [v, .int s, .int lv] ∧ Dt (fun _ => True) H v d ∧ 0 ≤ lv ∧ lv ≤ n ∧ ∀ H', Same H H' → Q (.bl (isC lv.toNat s d)) H'
def sp_is_condition : Sp := fun vs H Q _ => ∃ (v u : V) (d e : PyData), vs = [v, u] ∧ Dt (fun _ => True) H v d ∧ Dt (fun _ => True) H u e ∧ ∀ H', Same H H' → Q (.bl (isCond d e)) H'
section
variable {P : Program} {w : World} {K : PySem.W.Frag} {mg : Str → Option Value} {base : Heap}
theorem ok_is_whole (T : Txt K mg) : FnOk P w K mg base CX0 1 T.f_is_whole T.d_is_whole ["thing"] sp_is_whole := by
  refine T.F_is_whole.ok sc_is_whole (fun vs H Q E h => ?_) (fun cdv A outer s H vs Q E hr h => ?_)
  · obtain ⟨v, d, rfl, _⟩ := h
    rfl
  obtain ⟨v, d, rfl, ht, q⟩ := h
  refine ⟨_, (pss_one (ps_ret (pe_and (pe_callB call_isi (by rfl) T.z_isinstance (by decide +kernel) (pa_cons (pv 0) (pa_cons (pe_bltn (v := .ty "int") (by rfl) T.z_int (by decide +kernel) rfl) pa_nil))) (pe_one (pe_not (pe_callB call_isi (by rfl) T.z_isinstance (by decide +kernel) (pa_cons (pv 0) (pa_cons (pe_bltn (v := .ty "bool") (by rfl) T.z_bool (by decide +kernel) rfl) pa_nil)))))))), ?_⟩
  refine ⟨_, rfl, _, _, _, _, _, rfl, .ty "int", ht.ty, k_int d, _, rfl, ite2 (fun h => ?_) (fun h => ?_)⟩
  · refine ⟨_, rfl, _, _, _, _, _, rfl, .ty "bool", ht.ty, k_bool d, _, rfl, ?_⟩
    have e : (!isBoolD d) = isW d := by cases d <;> first | rfl | cases h
    rw [e]
    exact q
  · have e : isW d = false := by cases d <;> first | rfl | exact absurd rfl h
    rw [e] at q
    exact q
theorem ok_is_whole_within (T : Txt K mg) : FnOk P w K mg base CX0 2 T.f_is_whole_within T.d_is_whole_within ["thing", "low", "high"] sp_is_whole_within := by
  have G_is_whole : FnOk P w K mg base CX0 1 T.f_is_whole T.d_is_whole ["thing"] sp_is_whole := ok_is_whole T
  refine T.F_is_whole_within.ok sc_is_whole_within (fun vs H Q E h => ?_) (fun cdv A outer s H vs Q E hr h => ?_)
  · obtain ⟨v, d, lo, hi, rfl, _⟩ := h
    rfl
  obtain ⟨v, d, lo, hi, rfl, ht, q⟩ := h
  refine ⟨_, (pss_one (ps_ret (pe_and (pe_call G_is_whole (hr.mono (by omega)) (by rfl) T.m_is_whole T.F_is_whole.kp T.b_is_whole .nil pass0 (pa_cons (pv 0) pa_nil)) (pe_one (pe_chain op_le op_le (pv 1) (pv 0) (pv 2)))))), ?_⟩
  refine ⟨_, rfl, v, d, rfl, ht, _, rfl, ite2 (fun h => ?_) (fun h => ?_)⟩
  · cases ht with
    | int i =>
      refine ⟨_, rfl, _, rfl, _, _, rfl, rfl, _, rfl, ite2 (fun h1 => ?_) (fun h1 => ?_)⟩
      · refine ⟨_, rfl, _, _, rfl, rfl, ?_⟩
        have e : inR lo hi (.int i) = decide (i ≤ hi) := by simp only [inR, h1, Bool.true_and]
        rw [e] at q
        exact q
      · have e : inR lo hi (.int i) = false := by simp only [inR, Bool.eq_false_iff.mpr h1, Bool.false_and]
        rw [e] at q
        exact q
    | _ => cases h
  · have e : inR lo hi d = false := by cases d <;> first | rfl | exact absurd rfl h
    rw [e] at q
    exact q
theorem all_take {f : PyData → Bool} {ds : List PyData} {i : Nat} {d : PyData} (h : ds[i]? = some d) : (ds.take (i + 1)).map f = (ds.take i).map f ++ [f d] := by
  rw [take_succ_of h, List.map_append]
  rfl
theorem ok__are_weights (T : Txt K mg) : FnOk P w K mg base CX0 3 T.f__are_weights T.d__are_weights ["thing", "s"] sp__are_weights := by
  have G_is_whole_within : FnOk P w K mg base CX0 2 T.f_is_whole_within T.d_is_whole_within ["thing", "low", "high"] sp_is_whole_within := ok_is_whole_within T
  refine T.F__are_weights.ok sc__are_weights (fun vs H Q E h => ?_) (fun cdv A outer s H vs Q E hr h => ?_)
  · obtain ⟨v, d, s, rfl, _⟩ := h
    rfl
  obtain ⟨v, d, s, rfl, ht, q⟩ := h
  refine ⟨_, (pss_cons (ps_if (PW.pt (pw_or (pt_not (pt_val (pe_callB call_isi (by rfl) T.z_isinstance (by decide +kernel) (pa_cons (pv 0) (pa_cons (pe_bltn (v := .ty "list") (by rfl) T.z_list (by decide +kernel) rfl) pa_nil))))) (pw_or1 (pt_cmpR op_ne (pe_callB call_len_seq (by rfl) T.z_len PySem.boot_len (pa_cons (pv 0) pa_nil)) (pv 1) (nomark _))))) (pss_one (ps_ret pe_bl)) pss_nil) (pss_one (ps_ret (pe_callB (cr_all rfl) (by rfl) T.z_all (by decide +kernel) (pa_cons (pe_lc (own := [("weight", 2)]) (g := gName 2) (tt := tYes) rfl sc__are_weights.nd (pi_list (pv 0)) (blkOk_by (own := [("weight", 2)]) (N := ["thing", "s", "weight"]) (sc := (defScope s__are_weights)) (by decide +kernel)) (fun _ _ _ _ _ => (pg_name (i := 2) sc__are_weights.nd rfl (Or.inl rfl))) (fun _ _ _ _ _ => pts_nil) (fun _ _ _ _ _ => (pe_call G_is_whole_within (hr.mono (by omega)) (by rfl) T.m_is_whole_within T.F_is_whole_within.kp T.b_is_whole_within .nil pass0 (pa_cons (pv 2) (pa_cons pe_int (pa_cons (pe_glob (v := .int (4)) rfl T.g_MOST_WEIGHT ⟨_, rfl⟩) pa_nil)))))) pa_nil))))), ?_⟩
  refine ⟨_, rfl, _, _, _, _, _, rfl, .ty "list", ht.ty, k_list d, _, rfl, ?_⟩
  cases hl : isListD d with
  | false =>
    have e : areW s d = false := by cases d <;> first | rfl | cases hl
    rw [e] at q
    exact iteT (q _ (Same.refl _))
  | true =>
    cases ht with
    | lst e k l r =>
      rename_i a xs ds
      have lr := r.len
      refine iteF ⟨_, rfl, _, _, rfl, .inl (SqL.of e), _, rfl, rfl, _, rfl, ?_⟩
      rw [lr]
      by_cases hs : (ds.length : Int) = s
      · rw [decide_eq_true (congrArg V.int hs)]
        refine iteF ⟨_, rfl, a, rfl, ⟨_, SqL.of e⟩, fun D hD => ?_⟩
        refine lc_list (xs := xs) (fun i H2 => H2 D = some (.lst (((ds.take i).map (inR 0 4)).map V.bl)) ∧ Same H H2) ⟨upd_same, same_new hD⟩ (fun i H2 _ ⟨_, s⟩ => SqL.of (s _ _ e)) ?_ ?_
        · rintro i x H2 hx ⟨g1, g2⟩
          obtain ⟨d1, hd1, hx2⟩ := r.getV hx
          have hi := (List.getElem?_eq_some_iff.mp hd1).1
          refine ⟨rfl, _, rfl, x, d1, 0, 4, rfl, hx2.same g2, _, g1, ?_, ?_, same_add g2 hD⟩
          · rw [List.length_map, List.length_map, List.length_take]
            exact Nat.lt_of_le_of_lt (show _ ≤ 1000000 by omega) (by decide)
          · rw [upd_same, all_take hd1, List.map_append]
            rfl
        · rintro H2 ⟨g1, g2⟩
          rw [lr, List.take_length] at g1
          refine ⟨D, _, rfl, SqL.of g1, ?_⟩
          have e2 : areW s (.list ds) = (ds.map (inR 0 4)).all id := by
            simp only [areW, decide_eq_true hs, Bool.true_and, List.all_map]
            rfl
          rw [← e2]
          exact q _ g2
      · rw [decide_eq_false (ine hs)]
        have e2 : areW s (.list ds) = false := by simp only [areW, decide_eq_false hs, Bool.false_and]
        rw [e2] at q
        exact iteT (q _ (Same.refl _))
    | _ => cases hl
theorem ok__is_least (T : Txt K mg) : FnOk P w K mg base CX0 4 T.f__is_least T.d__is_least ["thing", "s"] sp__is_least := by
  have G_is_whole_within : FnOk P w K mg base CX0 2 T.f_is_whole_within T.d_is_whole_within ["thing", "low", "high"] sp_is_whole_within := ok_is_whole_within T
  have G__are_weights : FnOk P w K mg base CX0 3 T.f__are_weights T.d__are_weights ["thing", "s"] sp__are_weights := ok__are_weights T
  refine T.F__is_least.ok sc__is_least (fun vs H Q E h => ?_) (fun cdv A outer s H vs Q E hr h => ?_)
  · obtain ⟨v, ds, s, rfl, _⟩ := h
    rfl
  obtain ⟨v, ds, s, rfl, ht, q⟩ := h
  refine ⟨_, (pss_cons (ps_if (pt_cmpR op_ne (pe_callB call_len_seq (by rfl) T.z_len PySem.boot_len (pa_cons (pv 0) pa_nil)) pe_int (nomark _)) (pss_one (ps_ret pe_bl)) pss_nil) (pss_one (ps_ret (pe_and (pe_call G__are_weights (hr.mono (by omega)) (by rfl) T.m__are_weights T.F__are_weights.kp T.b__are_weights .nil pass0 (pa_cons (pe_ix ix_tup (pv 0) pe_int (fun _ _ => rfl)) (pa_cons (pv 1) pa_nil))) (pe_one (pe_call G_is_whole_within (hr.mono (by omega)) (by rfl) T.m_is_whole_within T.F_is_whole_within.kp T.b_is_whole_within .nil pass0 (pa_cons (pe_ix ix_tup (pv 0) pe_int (fun _ _ => rfl)) (pa_cons pe_int (pa_cons (pe_glob (v := .int (4)) rfl T.g_MOST_BOUND ⟨_, rfl⟩) pa_nil))))))))), ?_⟩
  cases ht with
  | tup e _ _ r =>
  have lr := r.len
  refine ⟨_, rfl, _, _, rfl, .inr (SqT.of e), rfl, _, rfl, ?_⟩
  by_cases h3 : ds.length = 3
  · match ds, h3 with
    | [d0, d1, d2], _ =>
      cases r with
      | cons r0 r =>
      cases r with
      | cons r1 r =>
      cases r with
      | cons r2 r =>
      cases r
      refine iteNS rfl ?_
      refine ⟨_, rfl, _, _, 1, _, rfl, rfl, SqT.of e, atI_nat (j := 1) rfl, _, rfl, _, d1, s, rfl, r1, fun H1 s1 => ⟨_, rfl, ite2 (fun h => ?_) (fun h => ?_)⟩⟩
      · refine ⟨_, rfl, _, _, 2, _, rfl, rfl, SqT.of (s1 _ _ e), atI_nat (j := 2) rfl, _, d2, 0, 4, rfl, r2.same s1, ?_⟩
        have e1 : isLeastD s [d0, d1, d2] = inR 0 4 d2 := by simp only [isLeastD, h, Bool.true_and]
        rw [← e1]
        exact q _ s1
      · have e1 : isLeastD s [d0, d1, d2] = false := by simp only [isLeastD, Bool.eq_false_iff.mpr h, Bool.false_and]
        rw [← e1]
        exact q _ s1
  · have e1 : isLeastD s ds = false := by
      match ds, h3 with
      | [], _ => rfl
      | [_], _ => rfl
      | [_, _], _ => rfl
      | _ :: _ :: _ :: _ :: _, _ => rfl
    rw [lr, decide_eq_false (ine (show (ds.length : Int) ≠ 3 by omega))]
    rw [e1] at q
    exact iteT (q _ (Same.refl _))
theorem ok__is_turns (T : Txt K mg) : FnOk P w K mg base CX0 4 T.f__is_turns T.d__is_turns ["thing", "s"] sp__is_turns := by
  have G_is_whole_within : FnOk P w K mg base CX0 2 T.f_is_whole_within T.d_is_whole_within ["thing", "low", "high"] sp_is_whole_within := ok_is_whole_within T
  have G__are_weights : FnOk P w K mg base CX0 3 T.f__are_weights T.d__are_weights ["thing", "s"] sp__are_weights := ok__are_weights T
  refine T.F__is_turns.ok sc__is_turns (fun vs H Q E h => ?_) (fun cdv A outer s H vs Q E hr h => ?_)
  · obtain ⟨v, ds, s, rfl, _⟩ := h
    rfl
  obtain ⟨v, ds, s, rfl, ht, q⟩ := h
  refine ⟨_, (pss_cons (ps_if (PW.pt (pw_or (pt_cmpR op_ne (pe_callB call_len_seq (by rfl) T.z_len PySem.boot_len (pa_cons (pv 0) pa_nil)) pe_int (nomark _)) (pw_or1 (pt_not (pt_val (pe_call G__are_weights (hr.mono (by omega)) (by rfl) T.m__are_weights T.F__are_weights.kp T.b__are_weights .nil pass0 (pa_cons (pe_ix ix_tup (pv 0) pe_int (fun _ _ => rfl)) (pa_cons (pv 1) pa_nil)))))))) (pss_one (ps_ret pe_bl)) pss_nil) (pss_one (ps_ret (pe_and (pe_call G_is_whole_within (hr.mono (by omega)) (by rfl) T.m_is_whole_within T.F_is_whole_within.kp T.b_is_whole_within .nil pass0 (pa_cons (pe_ix ix_tup (pv 0) pe_int (fun _ _ => rfl)) (pa_cons pe_int (pa_cons (pe_glob (v := .int (4)) rfl T.g_MOST_M ⟨_, rfl⟩) pa_nil)))) (pe_one (pe_call G_is_whole_within (hr.mono (by omega)) (by rfl) T.m_is_whole_within T.F_is_whole_within.kp T.b_is_whole_within .nil pass0 (pa_cons (pe_ix ix_tup (pv 0) pe_int (fun _ _ => rfl)) (pa_cons pe_int (pa_cons (pe_op op_sub (pe_ix ix_tup (pv 0) pe_int (fun _ _ => rfl)) pe_int) pa_nil))))))))), ?_⟩
  cases ht with
  | tup e _ _ r =>
  have lr := r.len
  refine ⟨_, rfl, _, _, rfl, .inr (SqT.of e), rfl, _, rfl, ?_⟩
  by_cases h4 : ds.length = 4
  · match ds, h4 with
    | [d0, d1, d2, d3], _ =>
      cases r with
      | cons r0 r =>
      cases r with
      | cons r1 r =>
      cases r with
      | cons r2 r =>
      cases r with
      | cons r3 r =>
      cases r
      refine iteNS rfl ?_
      refine ⟨_, rfl, _, _, 1, _, rfl, rfl, SqT.of e, atI_nat (j := 1) rfl, _, rfl, _, d1, s, rfl, r1, fun H1 s1 => ⟨_, rfl, ?_⟩⟩
      cases h : areW s d1 with
      | true =>
        refine iteF ⟨_, rfl, _, _, 2, _, rfl, rfl, SqT.of (s1 _ _ e), atI_nat (j := 2) rfl, _, d2, 1, 4, rfl, r2.same s1, _, rfl, ite2 (fun h2 => ?_) (fun h2 => ?_)⟩
        · cases r2 with
          | int m =>
            refine ⟨_, rfl, _, _, 3, _, rfl, rfl, SqT.of (s1 _ _ e), atI_nat (j := 3) rfl, _, rfl, _, _, 2, _, rfl, rfl, SqT.of (s1 _ _ e), atI_nat (j := 2) rfl, _, _, rfl, rfl, _, d3, 0, m - 1, rfl, r3.same s1, ?_⟩
            have e1 : isTurnsD s [d0, d1, .int m, d3] = inR 0 (m - 1) d3 := by simp only [isTurnsD, h, h2, Bool.true_and]
            rw [← e1]
            exact q _ s1
          | _ => cases h2
        · have e1 : isTurnsD s [d0, d1, d2, d3] = false := by
            simp only [isTurnsD, h, Bool.true_and]
            cases d2 <;> first | rfl | simp only [Bool.eq_false_iff.mpr h2, Bool.false_and]
          rw [← e1]
          exact q _ s1
      | false =>
        have e1 : isTurnsD s [d0, d1, d2, d3] = false := by simp only [isTurnsD, h, Bool.false_and]
        rw [e1] at q
        exact iteT (q _ s1)
  · have e1 : isTurnsD s ds = false := by
      match ds, h4 with
      | [], _ => rfl
      | [_], _ => rfl
      | [_, _], _ => rfl
      | [_, _, _], _ => rfl
      | _ :: _ :: _ :: _ :: _ :: _, _ => rfl
    rw [lr]
    have e2 : (!decide (V.int (ds.length : Int) = V.int 4)) = true := by rw [decide_eq_false (ine (show (ds.length : Int) ≠ 4 by omega))]; rfl
    rw [e1] at q
    first
      | (rw [decide_eq_false (ine (show (ds.length : Int) ≠ 4 by omega))]; exact iteT (q _ (Same.refl _)))
      | (rw [e2]; exact iteT (iteT (q _ (Same.refl _))))
theorem cut1 {x : V} {r : List V} : cutV (x :: r) (some 1) none = r := by
  have h1 : HT.sIx (x :: r).length 0 (some 1) = 1 := by
    have := HT.sIx_nat (x :: r).length 0 1
    rw [show ((1 : Nat) : Int) = 1 from rfl] at this
    rw [this, List.length_cons]
    omega
  unfold cutV
  rw [h1, HT.sIx_none, List.length_cons, List.drop_succ_cons, List.drop_zero, Nat.add_sub_cancel, List.take_length]
theorem cut1_not {x : V} {r : List V} : ¬ (HT.sIx (x :: r).length 0 (some 1) = 0 ∧ HT.sIx (x :: r).length (x :: r).length none = (x :: r).length) := by
  have h1 : HT.sIx (x :: r).length 0 (some 1) = 1 := by
    have := HT.sIx_nat (x :: r).length 0 1
    rw [show ((1 : Nat) : Int) = 1 from rfl] at this
    rw [this, List.length_cons]
    omega
  rw [h1]
  omega
theorem look_int (x : Str) : ∀ qs : List (Str × Int), look qs x = none ∨ ∃ i, look qs x = some (.int i)
  | [] => .inl rfl
  | q :: qs => by
    unfold look
    split
    · exact .inr ⟨_, rfl⟩
    · exact look_int x qs
theorem look_made (x : Str) : (look made x).getD (.int 0) = .int (arity x) := by
  unfold arity
  rcases look_int x made with h | ⟨i, h⟩
  · rw [h]
    rfl
  · rw [h]
    rfl
theorem ok__is_condition_of (T : Txt K mg) (M : KTab K w T.a_MADE_OF_OTHERS made) : ∀ n : Nat, FnOk P w K mg base CX0 (n + 5) T.f__is_condition_of T.d__is_condition_of ["thing", "s", "levels"] (sp__is_condition_of n)
  | n => by
    have G__is_least : FnOk P w K mg base CX0 4 T.f__is_least T.d__is_least ["thing", "s"] sp__is_least := ok__is_least T
    have G__is_turns : FnOk P w K mg base CX0 4 T.f__is_turns T.d__is_turns ["thing", "s"] sp__is_turns := ok__is_turns T
    have G__is_condition_of : FnOk P w K mg base CX0 (n + 4) T.f__is_condition_of T.d__is_condition_of ["thing", "s", "levels"] (fun vs H Q E => 0 < n ∧ sp__is_condition_of (n - 1) vs H Q E) := by
      cases n with
      | zero => exact noneOf fun vs H Q E h => absurd h.1 (Nat.lt_irrefl 0)
      | succ m => exact (ok__is_condition_of T M m).imp fun vs H Q E h => h.2
    refine T.F__is_condition_of.ok sc__is_condition_of (fun vs H Q E h => ?_) (fun cdv A outer s H vs Q E hr h => ?_)
    · obtain ⟨v, d, s, lv, rfl, _⟩ := h
      rfl
    obtain ⟨v, d, s, lv, rfl, ht, h0, hn, q⟩ := h
    refine ⟨_, (pss_cons (ps_if (PW.pt (pw_or (pt_cmpR op_eq (pv 2) pe_int (nomark _)) (pw_or (pt_not (pt_val (pe_callB call_isi (by rfl) T.z_isinstance (by decide +kernel) (pa_cons (pv 0) (pa_cons (pe_bltn (v := .ty "tuple") (by rfl) T.z_tuple (by decide +kernel) rfl) pa_nil))))) (pw_or1 (pt_not (pt_truth (pv 0) (by intro _; rfl))))))) (pss_one (ps_ret pe_bl)) pss_nil) (pss_cons (ps_set (i := 3) sc__is_condition_of.nd rfl (Or.inl rfl) (pe_ix ix_tup (pv 0) pe_int (fun _ _ => rfl))) (pss_cons (ps_if (pt_not (pt_val (pe_callB call_isi (by rfl) T.z_isinstance (by decide +kernel) (pa_cons (pv 3) (pa_cons (pe_bltn (v := .ty "str") (by rfl) T.z_str (by decide +kernel) rfl) pa_nil))))) (pss_one (ps_ret pe_bl)) pss_nil) (pss_cons (ps_if (pt_cmpR op_eq (pv 3) pe_str (nomark _)) (pss_one (ps_ret (pe_call G__is_least (hr.mono (by omega)) (by rfl) T.m__is_least T.F__is_least.kp T.b__is_least .nil pass0 (pa_cons (pv 0) (pa_cons (pv 1) pa_nil))))) pss_nil) (pss_cons (ps_if (pt_cmpR op_eq (pv 3) pe_str (nomark _)) (pss_one (ps_ret (pe_call G__is_turns (hr.mono (by omega)) (by rfl) T.m__is_turns T.F__is_turns.kp T.b__is_turns .nil pass0 (pa_cons (pv 0) (pa_cons (pv 1) pa_nil))))) pss_nil) (pss_cons (ps_if (pt_cmpR op_ne (pe_callB call_len_seq (by rfl) T.z_len PySem.boot_len (pa_cons (pv 0) pa_nil)) (pe_kget2 rfl (pe_glob (v := .ref T.a_MADE_OF_OTHERS) rfl T.g_MADE_OF_OTHERS rfl) (pv 3) pe_int ⟨rfl, rfl, rfl, rfl⟩) (nomark _)) (pss_one (ps_ret pe_bl)) pss_nil) (pss_one (ps_ret (pe_callB (cr_all rfl) (by rfl) T.z_all (by decide +kernel) (pa_cons (pe_lc (own := [("part", 4)]) (g := gName 4) (tt := tYes) rfl sc__is_condition_of.nd (pi_tup (pe_slice sl_tup (pv 0) (po_some pe_int) po_none)) (blkOk_by (own := [("part", 4)]) (N := ["thing", "s", "levels", "word", "part"]) (sc := (defScope s__is_condition_of)) (by decide +kernel)) (fun _ _ _ _ _ => (pg_name (i := 4) sc__is_condition_of.nd rfl (Or.inl rfl))) (fun _ _ _ _ _ => pts_nil) (fun _ _ _ _ _ => (pe_call G__is_condition_of (hr.mono (by omega)) (by rfl) T.m__is_condition_of T.F__is_condition_of.kp T.b__is_condition_of .nil pass0 (pa_cons (pv 4) (pa_cons (pv 1) (pa_cons (pe_op op_sub (pv 2) pe_int) pa_nil)))))) pa_nil)))))))))), ?_⟩
    by_cases hz : lv = 0
    · subst hz
      exact ⟨_, rfl, rfl, _, rfl, eqT rfl (iteT (q _ (Same.refl _)))⟩
    refine ⟨_, rfl, rfl, _, rfl, eqF (ine hz) ?_⟩
    obtain ⟨m, hm⟩ : ∃ m, lv.toNat = m + 1 := ⟨lv.toNat - 1, by omega⟩
    rw [hm] at q
    refine ⟨_, rfl, _, _, _, _, _, rfl, .ty "tuple", ht.ty, k_tuple d, _, rfl, ?_⟩
    cases hT : isTupD d with
    | false =>
      have e1 : isC (m + 1) s d = false := by cases d <;> first | rfl | cases hT
      rw [e1] at q
      exact iteT (iteT (q _ (Same.refl _)))
    | true =>
    refine iteF ?_
    have ht2 := ht
    cases ht with
    | tup e _ _ r =>
      rename_i a xs ds
      have lr := r.len
      refine ⟨_, rfl, _, .inr (.inl ⟨_, SqT.of e, rfl⟩), ?_⟩
      cases r with
      | nil => exact iteT (q _ (Same.refl _))
      | cons r0 r1 =>
      rename_i v0 vs0 d0 ds0
      refine iteF ?_
      refine ⟨_, rfl, _, _, 0, _, rfl, rfl, SqT.of e, atI_nat (j := 0) rfl, ?_⟩
      refine ⟨_, rfl, _, _, _, _, _, rfl, .ty "str", r0.ty, k_str d0, _, rfl, ?_⟩
      cases hS : isStrD d0 with
      | false =>
        have e1 : isC (m + 1) s (.tuple (d0 :: ds0)) = false := by cases d0 <;> first | rfl | cases hS
        rw [e1] at q
        exact iteT (q _ (Same.refl _))
      | true =>
      refine iteF ?_
      cases r0 with
      | str x =>
        by_cases x1 : x = Str.ofString "least"
        · subst x1
          refine ⟨_, rfl, rfl, _, rfl, eqT rfl ?_⟩
          have e1 : isC (m + 1) s (.tuple (.str (Str.ofString "least") :: ds0)) = isLeastD s (.str (Str.ofString "least") :: ds0) := by simp only [isC, if_true]
          rw [e1] at q
          exact ⟨_, rfl, _, rfl, _, _, s, rfl, ht2, q⟩
        refine ⟨_, rfl, rfl, _, rfl, eqF (sne x1) ?_⟩
        by_cases x2 : x = Str.ofString "turns"
        · subst x2
          refine ⟨_, rfl, rfl, _, rfl, eqT rfl ?_⟩
          have e1 : isC (m + 1) s (.tuple (.str (Str.ofString "turns") :: ds0)) = isTurnsD s (.str (Str.ofString "turns") :: ds0) := by simp only [isC, if_neg x1, if_true]
          rw [e1] at q
          exact ⟨_, rfl, _, rfl, _, _, s, rfl, ht2, q⟩
        refine ⟨_, rfl, rfl, _, rfl, eqF (sne x2) ?_⟩
        refine ⟨_, rfl, _, _, rfl, .inr (SqT.of e), _, made, rfl, M, _, rfl, x, rfl, ?_⟩
        rw [look_made]
        refine ⟨rfl, _, rfl, ?_⟩
        simp only [List.length_cons] at lr
        have lr2 : vs0.length = ds0.length := by omega
        by_cases hA : (ds0.length : Int) + 1 = arity x
        · have e2 : ((V.str x :: vs0).length : Int) = arity x := by rw [List.length_cons, lr2, ← hA]; rfl
          refine iteNS (congrArg V.int e2) ?_
          refine ⟨_, rfl, 1, rfl, _, _, rfl, SqT.of e, cut1_not, fun pt hpt => ⟨pt, rfl, ⟨_, SqT.of upd_same⟩, fun D hD => ?_⟩⟩
          rw [cut1] at hD ⊢
          have sp := same_new hpt (o := .tup vs0)
          have sD := same_new hD (o := .lst [])
          have hp2 := upd_same (H := H) (a := pt) (o := .tup vs0)
          refine lc_tup (xs := vs0) (fun i H2 => H2 D = some (.lst (((ds0.take i).map (fun d => isC m s d)).map V.bl)) ∧ Same (upd H pt (.tup vs0)) H2) ⟨upd_same, sD⟩ (fun i H2 _ ⟨_, s⟩ => SqT.of (s _ _ hp2)) ?_ ?_
          · rintro i y H2 hx ⟨g1, g2⟩
            obtain ⟨d1, hd1, hx2⟩ := r1.getV hx
            have hi := (List.getElem?_eq_some_iff.mp hd1).1
            refine ⟨rfl, _, rfl, _, rfl, _, rfl, _, _, rfl, rfl, by omega, y, d1, s, lv - 1, rfl, hx2.same (sp.trans g2), by omega, by omega, fun H3 s3 => ⟨_, s3 _ _ g1, ?_, ?_, same_add (g2.trans s3) hD⟩⟩
            · rw [List.length_map, List.length_map, List.length_take]
              exact Nat.lt_of_le_of_lt (show _ ≤ 1000000 by omega) (by decide)
            · have e3 : (lv - 1).toNat = m := by omega
              rw [upd_same, all_take hd1, List.map_append, e3]
              rfl
          · rintro H2 ⟨g1, g2⟩
            rw [lr2, List.take_length] at g1
            refine ⟨D, _, rfl, SqL.of g1, ?_⟩
            have e3 : isC (m + 1) s (.tuple (.str x :: ds0)) = (ds0.map (fun d => isC m s d)).all id := by
              simp only [isC, if_neg x1, if_neg x2, if_pos hA, List.all_map]
              rfl
            rw [← e3]
            exact q _ (sp.trans g2)
        · have e2 : ((V.str x :: vs0).length : Int) ≠ arity x := by rw [List.length_cons, lr2]; exact fun h => hA (by rw [← h]; rfl)
          rw [decide_eq_false (ine e2)]
          have e3 : isC (m + 1) s (.tuple (.str x :: ds0)) = false := by simp only [isC, if_neg x1, if_neg x2, if_neg hA]
          rw [e3] at q
          exact iteT (q _ (Same.refl _))
      | _ => cases hS
    | _ => cases hT
theorem ok_is_condition (T : Txt K mg) (M : KTab K w T.a_MADE_OF_OTHERS made) : FnOk P w K mg base CX0 10 T.f_is_condition T.d_is_condition ["thing", "s"] sp_is_condition := by
  have G_is_whole_within : FnOk P w K mg base CX0 2 T.f_is_whole_within T.d_is_whole_within ["thing", "low", "high"] sp_is_whole_within := ok_is_whole_within T
  have G__is_condition_of : FnOk P w K mg base CX0 9 T.f__is_condition_of T.d__is_condition_of ["thing", "s", "levels"] (sp__is_condition_of 4) := ok__is_condition_of T M 4
  refine T.F_is_condition.ok sc_is_condition (fun vs H Q E h => ?_) (fun cdv A outer s H vs Q E hr h => ?_)
  · obtain ⟨v, u, d, e, rfl, _⟩ := h
    rfl
  obtain ⟨v, u, d, e, rfl, ht, hu, q⟩ := h
  refine ⟨_, (pss_one (ps_ret (pe_and (pe_call G_is_whole_within (hr.mono (by omega)) (by rfl) T.m_is_whole_within T.F_is_whole_within.kp T.b_is_whole_within .nil pass0 (pa_cons (pv 1) (pa_cons pe_int (pa_cons (pe_glob (v := .int (6)) rfl T.g_MOST_STATES ⟨_, rfl⟩) pa_nil)))) (pe_one (pe_call G__is_condition_of (hr.mono (by omega)) (by rfl) T.m__is_condition_of T.F__is_condition_of.kp T.b__is_condition_of .nil pass0 (pa_cons (pv 0) (pa_cons (pv 1) (pa_cons (pe_glob (v := .int (4)) rfl T.g_MOST_WITHIN ⟨_, rfl⟩) pa_nil)))))))), ?_⟩
  refine ⟨_, rfl, u, e, 1, 6, rfl, hu, _, rfl, ite2 (fun h => ?_) (fun h => ?_)⟩
  · cases hu with
    | int i =>
      refine ⟨_, rfl, _, rfl, v, d, i, 4, rfl, ht, by decide, by decide, fun H1 s1 => ?_⟩
      have e1 : isCond d (.int i) = isC 4 i d := by
        simp only [inR] at h
        simp only [isCond, h, Bool.true_and]
      rw [e1] at q
      exact q _ s1
    | _ => cases h
  · have e1 : isCond d e = false := by
      cases e with
      | int i =>
        simp only [inR] at h
        simp only [isCond, Bool.eq_false_iff.mpr h, Bool.false_and]
      | _ => rfl
    rw [e1] at q
    exact q _ (Same.refl _)
end


def mxd : List Cd → Nat
  | [] => 0
  | c :: r => max c.deep (mxd r)
theorem mxd_mem {c : Cd} : ∀ {cs : List Cd}, c ∈ cs → c.deep ≤ mxd cs
  | x :: r, h => by
    simp only [mxd]
    rcases List.mem_cons.mp h with rfl | h
    · omega
    · have := mxd_mem h
      omega
theorem mxd_in : ∀ {cs : List Cd}, cs ≠ [] → mxd cs ∈ cs.map Cd.deep
  | [c], _ => by simp [mxd]
  | c :: d :: r, _ => by
    have ih := mxd_in (cs := d :: r) (by simp)
    rw [List.map_cons, List.mem_cons]
    have e : mxd (c :: d :: r) = max c.deep (mxd (d :: r)) := rfl
    rw [e]
    by_cases h : c.deep ≤ mxd (d :: r)
    · rw [Nat.max_eq_right h]; exact .inr ih
    · rw [Nat.max_eq_left (by omega)]; exact .inl rfl
def Cd.mk (x : Str) (cs : List Cd) : PyData := .tuple (.str x :: cs.map Cd.dat)
def Inner (c : Cd) (x : Str) (cs : List Cd) : Prop := c.dat = Cd.mk x cs ∧ x ≠ Str.ofString "least" ∧ x ≠ Str.ofString "turns" ∧ cs ≠ [] ∧ cs.length ≤ 2 ∧ c.deep = 1 + mxd cs
theorem Cd.view (c : Cd) : (∃ w b, c = .least w b) ∨ (∃ w m r, c = .turns w m r) ∨ ∃ x cs, Inner c x cs := by
  cases c with
  | least w b => exact .inl ⟨_, _, rfl⟩
  | turns w m r => exact .inr (.inl ⟨_, _, _, rfl⟩)
  | neg c => exact .inr (.inr ⟨_, [c], rfl, by decide +kernel, by decide +kernel, by simp, by simp, by simp only [Cd.deep, mxd]; omega⟩)
  | both c d => exact .inr (.inr ⟨_, [c, d], rfl, by decide +kernel, by decide +kernel, by simp, by simp, by simp only [Cd.deep, mxd]; omega⟩)
  | either c d => exact .inr (.inr ⟨_, [c, d], rfl, by decide +kernel, by decide +kernel, by simp, by simp, by simp only [Cd.deep, mxd]; omega⟩)
theorem ar_not : arity (Str.ofString "not") = 2 := by decide +kernel
theorem ar_both : arity (Str.ofString "both") = 3 := by decide +kernel
theorem ar_either : arity (Str.ofString "either") = 3 := by decide +kernel
theorem inR_all : ∀ {w : List Int}, (∀ x ∈ w, 0 ≤ x ∧ x ≤ 4) → (w.map PyData.int).all (inR 0 4) = true
  | [], _ => rfl
  | x :: r, h => by
    have h1 := h x List.mem_cons_self
    rw [List.map_cons, List.all_cons, inR_all fun y hy => h y (List.mem_cons_of_mem _ hy)]
    simp only [inR, decide_eq_true h1.1, decide_eq_true h1.2, Bool.and_self]
theorem areW_ok {s : Int} {w : List Int} (h0 : 0 ≤ s) (h : wOk s.toNat w) : areW s (.list (w.map PyData.int)) = true := by
  simp only [areW, inR_all h.2, List.length_map, Bool.and_true]
  exact decide_eq_true (by have := h.1; omega)
theorem isC_ok {s : Int} (h0 : 0 ≤ s) : ∀ (c : Cd) (n : Nat), c.ok s.toNat → isC n s c.dat = decide (c.deep ≤ n)
  | c, 0, _ => by
    have := c.deep_pos
    rw [decide_eq_false (by omega)]
    cases c <;> rfl
  | .least w b, n + 1, h => by
    simp only [Cd.ok] at h
    rw [decide_eq_true (by simp only [Cd.deep]; omega)]
    simp only [Cd.dat, isC, if_true, isLeastD, areW_ok h0 h.1, inR, decide_eq_true h.2.1, decide_eq_true h.2.2, Bool.and_self]
  | .turns w m r, n + 1, h => by
    simp only [Cd.ok] at h
    obtain ⟨h1, h2, h3, h4, h5⟩ := h
    rw [decide_eq_true (by simp only [Cd.deep]; omega)]
    have e : ¬ Str.ofString "turns" = Str.ofString "least" := by decide +kernel
    simp only [Cd.dat, isC, if_neg e, if_true, isTurnsD, areW_ok h0 h1, inR, decide_eq_true h2, decide_eq_true h3, decide_eq_true h4, decide_eq_true (show r ≤ m - 1 by omega), Bool.and_self]
  | .neg c, n + 1, h => by
    have e1 : ¬ Str.ofString "not" = Str.ofString "least" := by decide +kernel
    have e2 : ¬ Str.ofString "not" = Str.ofString "turns" := by decide +kernel
    simp only [Cd.dat, isC, if_neg e1, if_neg e2, ar_not, List.length_cons, List.length_nil, List.all_cons, List.all_nil, Bool.and_true, isC_ok h0 c n h]
    rw [if_pos (by decide)]
    simp only [Cd.deep]
    exact decide_eq_decide.mpr (by omega)
  | .both c d, n + 1, h => by
    have e1 : ¬ Str.ofString "both" = Str.ofString "least" := by decide +kernel
    have e2 : ¬ Str.ofString "both" = Str.ofString "turns" := by decide +kernel
    simp only [Cd.dat, isC, if_neg e1, if_neg e2, ar_both, List.length_cons, List.length_nil, List.all_cons, List.all_nil, Bool.and_true, isC_ok h0 c n h.1, isC_ok h0 d n h.2]
    rw [if_pos (by decide), ← Bool.decide_and]
    simp only [Cd.deep]
    exact decide_eq_decide.mpr (by omega)
  | .either c d, n + 1, h => by
    have e1 : ¬ Str.ofString "either" = Str.ofString "least" := by decide +kernel
    have e2 : ¬ Str.ofString "either" = Str.ofString "turns" := by decide +kernel
    simp only [Cd.dat, isC, if_neg e1, if_neg e2, ar_either, List.length_cons, List.length_nil, List.all_cons, List.all_nil, Bool.and_true, isC_ok h0 c n h.1, isC_ok h0 d n h.2]
    rw [if_pos (by decide), ← Bool.decide_and]
    simp only [Cd.deep]
    exact decide_eq_decide.mpr (by omega)

theorem inB {b : Bool} {A B : Prop} (h : b = false) (k : B) : if b = true then A else B := by rw [h]; exact iteF k
theorem inT {b : Bool} {A B : Prop} (h : b = true) (k : A) : if b = true then A else B := by rw [h]; exact iteT k
theorem leaf_in (x : Str) (h1 : x ≠ Str.ofString "least") (h2 : x ≠ Str.ofString "turns") : inV (V.str x) [V.str (Str.ofString "least"), V.str (Str.ofString "turns")] = false := by
  unfold inV
  rw [List.any_cons, List.any_cons, List.any_nil]
  have e : ∀ y : Str, x ≠ y → eqV (V.str y) (V.str x) = false := fun y h => decide_eq_false fun e => h (by cases e; rfl)
  rw [e _ h1, e _ h2]
  rfl
theorem Cd.view2 (c : Cd) : (∃ x ds, c.dat = .tuple (.str x :: ds) ∧ inV (V.str x) [V.str (Str.ofString "least"), V.str (Str.ofString "turns")] = true ∧ c.deep = 1) ∨ ∃ x cs, Inner c x cs := by
  rcases c.view with ⟨wl, b, rfl⟩ | ⟨wl, m, r, rfl⟩ | h
  · exact .inl ⟨_, _, rfl, by decide +kernel, rfl⟩
  · exact .inl ⟨_, _, rfl, by decide +kernel, rfl⟩
  · exact .inr h
def sp__law_deep (n : Nat) : Sp := fun vs H Q _ => ∃ (v : V) (c : Cd), vs = [v] ∧ Dt (fun _ => True) H v c.dat ∧ c.deep ≤ n ∧ ∀ H', Same H H' → Q (.int c.deep) H'
section
variable {P : Program} {w : World} {K : PySem.W.Frag} {mg : Str → Option Value} {base : Heap}
theorem ok__law_deep (T : Txt K mg) : ∀ n : Nat, FnOk P w K mg base CX0 n T.f__law_deep T.d__law_deep ["condition"] (sp__law_deep n)
  | 0 => noneOf fun vs H Q E ⟨v, c, _, _, h, _⟩ => by have := c.deep_pos; omega
  | n + 1 => by
    have G__law_deep : FnOk P w K mg base CX0 n T.f__law_deep T.d__law_deep ["condition"] (sp__law_deep n) := ok__law_deep T n
    refine T.F__law_deep.ok sc__law_deep (fun vs H Q E h => ?_) (fun cdv A outer s H vs Q E hr h => ?_)
    · obtain ⟨v, c, rfl, _⟩ := h
      rfl
    obtain ⟨v, c, rfl, ht, hn, q⟩ := h
    refine ⟨_, (pss_cons (ps_if (pt_cmpR op_in_seq (pe_ix ix_tup (pv 0) pe_int (fun _ _ => rfl)) (pe_lst (pa_cons pe_str (pa_cons pe_str pa_nil))) (by rfl)) (pss_one (ps_ret pe_int)) pss_nil) (pss_one (ps_ret (pe_op op_add pe_int (pe_callB (cr_max rfl) (by rfl) T.z_max (by decide +kernel) (pa_cons (pe_lc (own := [("one", 1)]) (g := gName 1) (tt := tYes) rfl sc__law_deep.nd (pi_tup (pe_slice sl_tup (pv 0) (po_some pe_int) po_none)) (blkOk_by (own := [("one", 1)]) (N := ["condition", "one"]) (sc := (defScope s__law_deep)) (by decide +kernel)) (fun _ _ _ _ _ => (pg_name (i := 1) sc__law_deep.nd rfl (Or.inl rfl))) (fun _ _ _ _ _ => pts_nil) (fun _ _ _ _ _ => (pe_call G__law_deep (hr.mono (by omega)) (by rfl) T.m__law_deep T.F__law_deep.kp T.b__law_deep .nil pass0 (pa_cons (pv 1) pa_nil)))) pa_nil)))))), ?_⟩
    rcases c.view2 with ⟨x, ds, hd, hb, h1⟩ | ⟨x, cs, hin⟩
    · rw [hd] at ht
      cases ht with
      | tup e _ _ r =>
      cases r with
      | cons r0 r =>
      cases r0
      refine ⟨_, rfl, _, _, 0, _, rfl, rfl, SqT.of e, atI_nat (j := 0) rfl, (by show 2 ≤ sizeLine; decide), fun l hl => ⟨l, _, rfl, .inl (SqL.of upd_same), rfl, rfl, _, rfl, inT hb ?_⟩⟩
      rw [h1] at q
      exact q _ (same_new hl)
    · obtain ⟨hd, x1, x2, hne, hl2, hdeep⟩ := hin
      rw [hd] at ht
      unfold Cd.mk at ht
      cases ht with
      | tup e _ _ r =>
      cases r with
      | @cons _ vs0 _ _ r0 r1 =>
      cases r0
      have lr := r1.len
      rw [List.length_map] at lr
      refine ⟨_, rfl, _, _, 0, _, rfl, rfl, SqT.of e, atI_nat (j := 0) rfl, (by show 2 ≤ sizeLine; decide), fun l hl => ⟨l, _, rfl, .inl (SqL.of upd_same), rfl, rfl, _, rfl, inB (leaf_in x x1 x2) ?_⟩⟩
      have sl := same_new hl (o := .lst [V.str (Str.ofString "least"), V.str (Str.ofString "turns")])
      refine ⟨_, rfl, 1, rfl, _, _, rfl, SqT.of (sl _ _ e), cut1_not, fun pt hpt => ⟨pt, rfl, ⟨_, SqT.of upd_same⟩, fun D hD => ?_⟩⟩
      rw [cut1] at hD ⊢
      have sp := same_new hpt (o := .tup vs0)
      have sD := same_new hD (o := .lst [])
      have hp2 := upd_same (H := upd H l (.lst [V.str (Str.ofString "least"), V.str (Str.ofString "turns")])) (a := pt) (o := .tup vs0)
      generalize hH2 : upd (upd H l (.lst [V.str (Str.ofString "least"), V.str (Str.ofString "turns")])) pt (.tup vs0) = H2 at *
      refine lc_tup (xs := vs0) (fun i H3 => H3 D = some (.lst (((cs.take i).map (fun c => (c.deep : Int))).map V.int)) ∧ Same H2 H3) ⟨upd_same, sD⟩ (fun i H3 _ ⟨_, s⟩ => SqT.of (s _ _ hp2)) ?_ ?_
      · rintro i y H3 hx ⟨g1, g2⟩
        obtain ⟨d1, hd1, hx2⟩ := r1.getV hx
        rw [List.getElem?_map] at hd1
        cases hc : cs[i]? with
        | none => rw [hc] at hd1; cases hd1
        | some c1 =>
        rw [hc] at hd1
        cases hd1
        have hm := mxd_mem (List.mem_of_getElem? hc)
        refine ⟨rfl, _, rfl, y, c1, rfl, hx2.same ((sl.trans sp).trans g2), by omega, fun H4 s4 => ⟨_, s4 _ _ g1, ?_, ?_, same_add (g2.trans s4) hD⟩⟩
        · rw [List.length_map, List.length_map, List.length_take]
          exact Nat.lt_of_le_of_lt (show _ ≤ 1000000 by omega) (by decide)
        · rw [upd_same, take_succ_of hc, List.map_append, List.map_append]
          rfl
      · rintro H3 ⟨g1, g2⟩
        rw [lr, List.take_length] at g1
        refine ⟨D, _, rfl, SqL.of g1, by rw [List.length_map]; exact List.length_pos_iff.mpr hne, fun m hm hle => ⟨1, m, rfl, rfl, ?_⟩⟩
        have e1 : m = (mxd cs : Int) := by
          obtain ⟨c1, hc1, rfl⟩ := List.mem_map.mp hm
          have a1 := mxd_mem hc1
          have a2 := mxd_in hne
          obtain ⟨c2, hc2, e2⟩ := List.mem_map.mp a2
          have a3 := hle (c2.deep : Int) (List.mem_map.mpr ⟨c2, hc2, rfl⟩)
          omega
        have e2 : (1 : Int) + m = (c.deep : Nat) := by omega
        have q2 := q _ ((sl.trans sp).trans g2)
        rw [← e2] at q2
        exact q2
end


def pick (os : List Nat) (w : List Int) : List Int := os.map fun o => w.getD o 0
def Cd.turn (os : List Nat) : Cd → Cd
  | .least w b => .least (pick os w) b
  | .turns w m r => .turns (pick os w) m r
  | .neg c => .neg (c.turn os)
  | .both c d => .both (c.turn os) (d.turn os)
  | .either c d => .either (c.turn os) (d.turn os)
theorem Cd.view3 (c : Cd) : (∃ w b, c = .least w b) ∨ (∃ w m r, c = .turns w m r) ∨ ∃ x cs, Inner c x cs ∧ (∀ os, (c.turn os).dat = Cd.mk x (cs.map (Cd.turn os))) ∧ ∀ s, c.ok s → ∀ d ∈ cs, d.ok s := by
  cases c with
  | least w b => exact .inl ⟨_, _, rfl⟩
  | turns w m r => exact .inr (.inl ⟨_, _, _, rfl⟩)
  | neg c => exact .inr (.inr ⟨_, [c], ⟨rfl, by decide +kernel, by decide +kernel, by simp, by simp, by simp only [Cd.deep, mxd]; omega⟩, fun _ => rfl, fun s h d hd => by rw [List.mem_singleton] at hd; subst hd; exact h⟩)
  | both c d => exact .inr (.inr ⟨_, [c, d], ⟨rfl, by decide +kernel, by decide +kernel, by simp, by simp, by simp only [Cd.deep, mxd]; omega⟩, fun _ => rfl, fun s h e he => by
      simp only [List.mem_cons, List.not_mem_nil, or_false] at he
      rcases he with rfl | rfl
      · exact h.1
      · exact h.2⟩)
  | either c d => exact .inr (.inr ⟨_, [c, d], ⟨rfl, by decide +kernel, by decide +kernel, by simp, by simp, by simp only [Cd.deep, mxd]; omega⟩, fun _ => rfl, fun s h e he => by
      simp only [List.mem_cons, List.not_mem_nil, or_false] at he
      rcases he with rfl | rfl
      · exact h.1
      · exact h.2⟩)
theorem Cd.view4 (c : Cd) : (∃ x wl is2, c.dat = .tuple (.str x :: .list (wl.map PyData.int) :: is2.map PyData.int) ∧ (∀ os, (c.turn os).dat = .tuple (.str x :: .list ((pick os wl).map PyData.int) :: is2.map PyData.int)) ∧ (∀ s, c.ok s → wl.length = s) ∧ inV (V.str x) [V.str (Str.ofString "least"), V.str (Str.ofString "turns")] = true ∧ is2 ≠ [] ∧ is2.length ≤ 2) ∨
    ∃ x cs, Inner c x cs ∧ (∀ os, (c.turn os).dat = Cd.mk x (cs.map (Cd.turn os))) ∧ ∀ s, c.ok s → ∀ d ∈ cs, d.ok s := by
  rcases c.view3 with ⟨wl, b, rfl⟩ | ⟨wl, m, r, rfl⟩ | h
  · exact .inl ⟨_, wl, [b], rfl, fun _ => rfl, fun s h => h.1.1, by decide +kernel, by simp, by simp⟩
  · exact .inl ⟨_, wl, [m, r], rfl, fun _ => rfl, fun s h => h.1.1, by decide +kernel, by simp, by simp⟩
  · exact .inr h
theorem pick_len (os : List Nat) (w : List Int) : (pick os w).length = os.length := List.length_map _
theorem pick_ok {s : Nat} {os : List Nat} {w : List Int} (hl : os.length = s) (h : wOk s w) : wOk s (pick os w) := by
  refine ⟨by rw [pick_len, hl], fun x hx => ?_⟩
  obtain ⟨o, ho, rfl⟩ := List.mem_map.mp hx
  by_cases hlt : o < w.length
  · have e : w.getD o 0 = w[o] := by simp [List.getD, List.getElem?_eq_getElem hlt]
    rw [e]
    exact h.2 _ (List.getElem_mem _)
  · have e : w.getD o 0 = 0 := by simp [List.getD, List.getElem?_eq_none (by omega : w.length ≤ o)]
    rw [e]
    decide
theorem turn_ok {s : Nat} {os : List Nat} (hl : os.length = s) : ∀ {c : Cd}, c.ok s → (c.turn os).ok s
  | .least w b, h => ⟨pick_ok hl h.1, h.2⟩
  | .turns w m r, h => ⟨pick_ok hl h.1, h.2⟩
  | .neg c, h => turn_ok hl (c := c) h
  | .both c d, h => ⟨turn_ok hl (c := c) h.1, turn_ok hl (c := d) h.2⟩
  | .either c d, h => ⟨turn_ok hl (c := c) h.1, turn_ok hl (c := d) h.2⟩
theorem turn_deep (os : List Nat) : ∀ c : Cd, (c.turn os).deep = c.deep
  | .least w b => rfl
  | .turns w m r => rfl
  | .neg c => by simp only [Cd.turn, Cd.deep, turn_deep os c]
  | .both c d => by simp only [Cd.turn, Cd.deep, turn_deep os c, turn_deep os d]
  | .either c d => by simp only [Cd.turn, Cd.deep, turn_deep os c, turn_deep os d]
theorem prods_pick (os : List Nat) (w ns : List Int) : prods (pick os w) (pick os ns) = os.map fun o => w.getD o 0 * ns.getD o 0 := by
  unfold prods pick
  induction os with
  | nil => rfl
  | cons o r ih => simp only [List.map_cons, List.zip_cons_cons, ih]
theorem prods_range {w ns : List Int} {s : Nat} (h1 : w.length = s) (h2 : ns.length = s) : (List.range s).map (fun o => w.getD o 0 * ns.getD o 0) = prods w ns := by
  apply List.ext_getElem?
  intro i
  rw [List.getElem?_map]
  by_cases hi : i < s
  · rw [List.getElem?_range hi]
    have hx : w[i]? = some w[i] := List.getElem?_eq_getElem (by omega)
    have hy : ns[i]? = some ns[i] := List.getElem?_eq_getElem (by omega)
    rw [prods_at hx hy]
    simp [List.getD, hx, hy]
  · rw [List.getElem?_eq_none (by rw [List.length_range]; omega), List.getElem?_eq_none (by rw [prods_len (by omega)]; omega)]
    rfl
theorem sum_perm {a b : List Int} (h : a.Perm b) : a.sum = b.sum := by
  induction h with
  | nil => rfl
  | cons x p ih => rw [List.sum_cons, List.sum_cons, ih]
  | swap x y l => simp only [List.sum_cons]; omega
  | trans p1 p2 h1 h2 => rw [h1, h2]
theorem dot_pick {os : List Nat} {w ns : List Int} {s : Nat} (h : os.Perm (List.range s)) (h1 : w.length = s) (h2 : ns.length = s) : dot (pick os w) (pick os ns) = dot w ns := by
  unfold dot
  rw [prods_pick, sum_perm (h.map _), prods_range h1 h2]
theorem val_turn {os : List Nat} {ns : List Int} {s : Nat} (h : os.Perm (List.range s)) (h2 : ns.length = s) : ∀ {c : Cd}, c.ok s → (c.turn os).val (pick os ns) = c.val ns
  | .least w b, hc => by simp only [Cd.turn, Cd.val, dot_pick h hc.1.1 h2]
  | .turns w m r, hc => by simp only [Cd.turn, Cd.val, dot_pick h hc.1.1 h2]
  | .neg c, hc => by simp only [Cd.turn, Cd.val, val_turn h h2 (c := c) hc]
  | .both c d, hc => by simp only [Cd.turn, Cd.val, val_turn h h2 (c := c) hc.1, val_turn h h2 (c := d) hc.2]
  | .either c d, hc => by simp only [Cd.turn, Cd.val, val_turn h h2 (c := c) hc.1, val_turn h h2 (c := d) hc.2]
def nV (os : List Nat) : List V := os.map fun o : Nat => V.int o
theorem cutE1 {x : V} {r : List V} : cutV (x :: r) none (some 1) = [x] := by
  have h1 : HT.sIx (x :: r).length (x :: r).length (some 1) = 1 := by
    have := HT.sIx_nat (x :: r).length (x :: r).length 1
    rw [show ((1 : Nat) : Int) = 1 from rfl] at this
    rw [this, List.length_cons]
    omega
  unfold cutV
  rw [h1, HT.sIx_none]
  rfl
theorem cutE1_not {x y : V} {r : List V} : ¬ (HT.sIx (x :: y :: r).length 0 none = 0 ∧ HT.sIx (x :: y :: r).length (x :: y :: r).length (some 1) = (x :: y :: r).length) := by
  have h1 : HT.sIx (x :: y :: r).length (x :: y :: r).length (some 1) = 1 := by
    have := HT.sIx_nat (x :: y :: r).length (x :: y :: r).length 1
    rw [show ((1 : Nat) : Int) = 1 from rfl] at this
    rw [this, List.length_cons, List.length_cons]
    omega
  rw [h1]
  simp only [List.length_cons]
  omega
theorem cut2 {x y : V} {r : List V} : cutV (x :: y :: r) (some 2) none = r := by
  have h1 : HT.sIx (x :: y :: r).length 0 (some 2) = 2 := by
    have := HT.sIx_nat (x :: y :: r).length 0 2
    rw [show ((2 : Nat) : Int) = 2 from rfl] at this
    rw [this, List.length_cons, List.length_cons]
    omega
  unfold cutV
  rw [h1, HT.sIx_none, List.length_cons, List.length_cons, List.drop_succ_cons, List.drop_succ_cons, List.drop_zero, show r.length + 1 + 1 - 2 = r.length by omega, List.take_length]
theorem cut2_not {x y : V} {r : List V} : ¬ (HT.sIx (x :: y :: r).length 0 (some 2) = 0 ∧ HT.sIx (x :: y :: r).length (x :: y :: r).length none = (x :: y :: r).length) := by
  have h1 : HT.sIx (x :: y :: r).length 0 (some 2) = 2 := by
    have := HT.sIx_nat (x :: y :: r).length 0 2
    rw [show ((2 : Nat) : Int) = 2 from rfl] at this
    rw [this, List.length_cons, List.length_cons]
    omega
  rw [h1]
  omega
def sp__law_turned (n : Nat) : Sp := fun vs H Q _ => ∃ (v : V) (b : Addr) (c : Cd) (s : Nat) (os : List Nat), vs = [v, .ref b] ∧ Dt (fun _ => True) H v c.dat ∧ H b = some (.lst (nV os)) ∧ c.ok s ∧ (∀ o ∈ os, o < s) ∧ os.length ≤ 6 ∧ s ≤ 6 ∧ c.deep ≤ n ∧
  ∀ r H', Same H H' → Dt (fun b => H b = none) H' r (c.turn os).dat → Q r H'
section
variable {P : Program} {w : World} {K : PySem.W.Frag} {mg : Str → Option Value} {base : Heap}
theorem ok__law_turned (T : Txt K mg) : ∀ n : Nat, FnOk P w K mg base CX0 n T.f__law_turned T.d__law_turned ["condition", "order"] (sp__law_turned n)
  | 0 => noneOf fun vs H Q E ⟨v, b, c, s, os, _, _, _, _, _, _, _, h, _⟩ => by have := c.deep_pos; omega
  | n + 1 => by
    have G__law_turned : FnOk P w K mg base CX0 n T.f__law_turned T.d__law_turned ["condition", "order"] (sp__law_turned n) := ok__law_turned T n
    refine T.F__law_turned.ok sc__law_turned (fun vs H Q E h => ?_) (fun cdv A outer s H vs Q E hr h => ?_)
    · obtain ⟨v, b, c, s, os, rfl, _⟩ := h
      rfl
    obtain ⟨v, b, c, sn, os, rfl, ht, hb, hok, hos, ho6, hs6, hn, q⟩ := h
    refine ⟨_, (pss_cons (ps_if (pt_cmpR op_in_seq (pe_ix ix_tup (pv 0) pe_int (fun _ _ => rfl)) (pe_lst (pa_cons pe_str (pa_cons pe_str pa_nil))) (by rfl)) (pss_one (ps_ret (pe_op op_catT (pe_tup (pa_cons (pe_ix ix_tup (pv 0) pe_int (fun _ _ => rfl)) (pa_cons (pe_lc (own := [("at", 2)]) (g := gName 2) (te := tOp (rIxL K) (tOp (rIxT K) (tVar 0) (tC (.int 1))) (tVar 2)) (tt := tYes) rfl sc__law_turned.nd (pi_list (pv 1)) (blkOk_by (own := [("at", 2)]) (N := ["condition", "order", "at", "one"]) (sc := (defScope s__law_turned)) (by decide +kernel)) (fun _ _ _ _ _ => (pg_name (i := 2) sc__law_turned.nd rfl (Or.inl rfl))) (fun _ _ _ _ _ => pts_nil) (fun _ _ _ _ _ => (pe_ix ix_list (pe_ix ix_tup (pv 0) pe_int (fun _ _ => rfl)) (pv 2) (fun _ _ => rfl)))) pa_nil))) (pe_slice sl_tup (pv 0) (po_some pe_int) po_none)))) pss_nil) (pss_one (ps_ret (pe_op op_catT (pe_slice sl_tup (pv 0) po_none (po_some pe_int)) (pe_callTy call_tuple_of (by rfl) T.z_tuple (by decide +kernel) (pa_cons (pe_lc (own := [("one", 3)]) (g := gName 3) (tt := tYes) rfl sc__law_turned.nd (pi_tup (pe_slice sl_tup (pv 0) (po_some pe_int) po_none)) (blkOk_by (own := [("one", 3)]) (N := ["condition", "order", "at", "one"]) (sc := (defScope s__law_turned)) (by decide +kernel)) (fun _ _ _ _ _ => (pg_name (i := 3) sc__law_turned.nd rfl (Or.inl rfl))) (fun _ _ _ _ _ => pts_nil) (fun _ _ _ _ _ => (pe_call G__law_turned (hr.mono (by omega)) (by rfl) T.m__law_turned T.F__law_turned.kp T.b__law_turned .nil pass0 (pa_cons (pv 3) (pa_cons (pv 1) pa_nil))))) pa_nil)))))), ?_⟩
    rcases c.view4 with ⟨x, wl, is2, hd, htn, hwl, hbx, hd2, hd3⟩ | ⟨x, cs, ⟨hd, x1, x2, hne, hl2, hdeep⟩, htn, hcs⟩
    · rw [hd] at ht
      rw [htn] at q
      cases ht with
      | @tup ca cxs cds e _ _ r =>
      cases r with
      | @cons _ _ _ _ r0 r =>
      cases r with
      | @cons _ vs2 _ _ r1 r =>
      cases r0
      obtain ⟨wa, rfl, hwa, _⟩ := r1.intsL
      have hwl := hwl _ hok
      have hr2 := r.len
      rw [List.length_map] at hr2
      refine ⟨_, rfl, _, _, 0, _, rfl, rfl, SqT.of e, atI_nat (j := 0) rfl, (by show 2 ≤ sizeLine; decide), fun l hl => ⟨l, _, rfl, .inl (SqL.of upd_same), rfl, rfl, _, rfl, inT hbx ?_⟩⟩
      have sl := same_new hl (o := .lst [V.str (Str.ofString "least"), V.str (Str.ofString "turns")])
      refine ⟨_, rfl, _, _, 0, _, rfl, rfl, SqT.of (sl _ _ e), atI_nat (j := 0) rfl, _, rfl, b, rfl, ⟨_, SqL.of (sl _ _ hb)⟩, fun D hD => ?_⟩
      have sD := same_new hD (o := .lst [])
      generalize hH2 : upd H l (.lst [V.str (Str.ofString "least"), V.str (Str.ofString "turns")]) = H2 at *
      refine lc_list (xs := nV os) (fun i H3 => H3 D = some (.lst ((pick (os.take i) wl).map V.int)) ∧ Same H2 H3) ⟨upd_same, sD⟩ (fun i H3 _ ⟨_, s⟩ => SqL.of (s _ _ (sl _ _ hb))) ?_ ?_
      · rintro i y H3 hx ⟨g1, g2⟩
        unfold nV at hx
        rw [List.getElem?_map] at hx
        cases hc : os[i]? with
        | none => rw [hc] at hx; cases hx
        | some o =>
        rw [hc] at hx
        cases hx
        have hlt : o < wl.length := by rw [hwl]; exact hos o (List.mem_of_getElem? hc)
        have hio := (List.getElem?_eq_some_iff.mp hc).1
        have hg : wl.getD o 0 = wl[o] := by simp [List.getD, List.getElem?_eq_getElem hlt]
        refine ⟨rfl, _, rfl, _, _, 1, _, rfl, rfl, SqT.of (g2 _ _ (sl _ _ e)), atI_nat (j := 1) rfl, _, rfl, wa, _, _, V.int wl[o], rfl, rfl, SqL.of (g2 _ _ (sl _ _ hwa)), at_of (j := o) rfl (by rw [List.getElem?_map, List.getElem?_eq_getElem hlt]; rfl), _, g1, ?_, ?_, same_add g2 hD⟩
        · rw [List.length_map, pick_len, List.length_take]
          exact Nat.lt_of_le_of_lt (show _ ≤ 1000000 by omega) (by decide)
        · rw [upd_same, take_succ_of hc]
          unfold pick
          rw [List.map_append, List.map_append, ← hg]
          rfl
      · rintro H3 ⟨g1, g2⟩
        rw [show (nV os).length = os.length from List.length_map _, List.take_length] at g1
        refine ⟨(by show 2 ≤ sizeLine; decide), fun p1 hp1 => ?_⟩
        have s1 := same_new hp1 (o := .tup [V.str x, V.ref D])
        refine ⟨_, rfl, 2, rfl, _, _, rfl, SqT.of (s1 _ _ (g2 _ _ (sl _ _ e))), cut2_not, fun p2 hp2 => ?_⟩
        rw [cut2] at *
        have s2 := same_new hp2 (o := .tup vs2)
        have sA := ((sl.trans g2).trans s1).trans s2
        refine ⟨p1, p2, _, _, rfl, rfl, SqT.of (s2 _ _ upd_same), SqT.of upd_same, by simp, ?_, fun h0 => ?_, fun _ p hp => ?_⟩
        · rw [hr2]
          exact Nat.le_trans (show _ ≤ 1000 by simp only [List.length_cons, List.length_nil]; omega) (by decide)
        · rw [h0] at hr2
          exact absurd (List.length_eq_zero_iff.mp hr2.symm) hd2
        have s3 := same_new hp (o := .tup ([V.str x, V.ref D] ++ vs2))
        have hDn : H D = none := sl.free hD
        have dD := dt_intsL (ok := fun b => H b = none) (s3 _ _ (s2 _ _ (s1 _ _ g1))) hDn (by rw [pick_len]; omega)
        have ev := dtAll_ints r
        refine q (.ref p) _ (sA.trans s3) (.tup upd_same (sA.free hp) ?_ (.cons (.str _) (.cons dD (by rw [ev]; exact dt_ints _))))
        simp only [List.length_append, List.length_cons, List.length_nil, hr2]
        omega
    · rw [hd] at ht
      rw [htn] at q
      unfold Cd.mk at ht q
      cases ht with
      | @tup ca cxs cds e _ _ r =>
      cases r with
      | @cons _ vs0 _ _ r0 r1 =>
      cases r0
      have lr := r1.len
      rw [List.length_map] at lr
      have hv0 : vs0 ≠ [] := fun h => by rw [h] at lr; exact hne (List.length_eq_zero_iff.mp lr.symm)
      refine ⟨_, rfl, _, _, 0, _, rfl, rfl, SqT.of e, atI_nat (j := 0) rfl, (by show 2 ≤ sizeLine; decide), fun l hl => ⟨l, _, rfl, .inl (SqL.of upd_same), rfl, rfl, _, rfl, inB (leaf_in x x1 x2) ?_⟩⟩
      have sl := same_new hl (o := .lst [V.str (Str.ofString "least"), V.str (Str.ofString "turns")])
      have hbl := sl _ _ hb
      have hel := sl _ _ e
      generalize hH2 : upd H l (.lst [V.str (Str.ofString "least"), V.str (Str.ofString "turns")]) = H2 at *
      have hcn : ¬ (HT.sIx (V.str x :: vs0).length 0 none = 0 ∧ HT.sIx (V.str x :: vs0).length (V.str x :: vs0).length (some 1) = (V.str x :: vs0).length) := by
        cases vs0 with
        | nil => exact absurd rfl hv0
        | cons y ys => exact cutE1_not
      refine ⟨_, rfl, 1, rfl, _, _, rfl, SqT.of hel, hcn, fun p1 hp1 => ?_⟩
      rw [cutE1] at *
      have s1 := same_new hp1 (o := .tup [V.str x])
      refine ⟨_, rfl, 1, rfl, _, _, rfl, SqT.of (s1 _ _ hel), cut1_not, fun pt hpt => ⟨pt, rfl, ⟨_, SqT.of upd_same⟩, fun D hD => ?_⟩⟩
      rw [cut1] at *
      have s2 := same_new hpt (o := .tup vs0)
      have hp2 := upd_same (H := upd H2 p1 (.tup [V.str x])) (a := pt) (o := .tup vs0)
      have hp1b := s2 _ _ (upd_same (H := H2) (a := p1) (o := .tup [V.str x]))
      have sD := same_new hD (o := .lst [])
      generalize hH3 : upd (upd H2 p1 (.tup [V.str x])) pt (.tup vs0) = H3 at *
      refine lc_tup (xs := vs0) (fun i H4 => ∃ acc, H4 D = some (.lst acc) ∧ DtAll (fun b => H b = none ∧ b ≠ D) H4 acc (((cs.take i).map (Cd.turn os)).map Cd.dat) ∧ Same H3 H4) ⟨[], upd_same, .nil, sD⟩ (fun i H4 _ ⟨_, _, _, s⟩ => SqT.of (s _ _ hp2)) ?_ ?_
      · rintro i y H4 hx ⟨acc, g1, g2, g3⟩
        obtain ⟨d1, hd1, hx2⟩ := r1.getV hx
        rw [List.getElem?_map] at hd1
        cases hc : cs[i]? with
        | none => rw [hc] at hd1; cases hd1
        | some c1 =>
        rw [hc] at hd1
        cases hd1
        have hm := mxd_mem (List.mem_of_getElem? hc)
        have hic := (List.getElem?_eq_some_iff.mp hc).1
        have sA := ((sl.trans s1).trans s2).trans g3
        have la := g2.len
        rw [List.length_map, List.length_map, List.length_take] at la
        refine ⟨rfl, _, rfl, _, rfl, y, b, c1, sn, os, rfl, hx2.same sA, sA _ _ hb, hcs _ hok c1 (List.mem_of_getElem? hc), hos, ho6, hs6, by omega, fun rr H5 s5 dr => ⟨acc, s5 _ _ g1, Nat.lt_of_le_of_lt (show acc.length ≤ 1000000 by omega) (by decide), acc ++ [rr], upd_same, ?_, same_add (g3.trans s5) hD⟩⟩
        rw [take_succ_of hc, List.map_append, List.map_append]
        have dr2 : Dt (fun b => H b = none ∧ b ≠ D) H5 rr (c1.turn os).dat := dr.weak fun b hb => ⟨sA.free hb, fun e => by rw [e, g1] at hb; cases hb⟩
        exact ((g2.same s5).snoc dr2).keep (upd_keep fun b h => h.2)
      · rintro H4 ⟨acc, g1, g2, g3⟩
        rw [lr, List.take_length] at g2
        have la := g2.len
        rw [List.length_map, List.length_map] at la
        refine ⟨D, acc, rfl, .inl ⟨SqL.of g1, fun p2 hp2' => ?_⟩⟩
        have s4 := same_new hp2' (o := .tup acc)
        refine ⟨p1, p2, _, _, rfl, rfl, SqT.of (s4 _ _ (g3 _ _ hp1b)), SqT.of upd_same, by simp, ?_, fun h0 => ?_, fun _ p hp => ?_⟩
        · rw [la]
          exact Nat.le_trans (show _ ≤ 1000 by simp only [List.length_cons, List.length_nil]; omega) (by decide)
        · rw [h0] at la
          exact absurd (List.length_eq_zero_iff.mp la.symm) hne
        have s5 := same_new hp (o := .tup ([V.str x] ++ acc))
        refine q (.ref p) _ ((((((sl.trans s1).trans s2).trans g3).trans s4)).trans s5) (.tup upd_same (((((sl.trans s1).trans s2).trans g3).trans s4).free hp) ?_ (.cons (.str _) (((g2.same s4).same s5).weak fun _ h => h.1)))
        simp only [List.length_append, List.length_cons, List.length_nil, la]
        omega
end

theorem lay_bools : ∀ xs : List Bool, PyData.canLayAll0 (xs.map PyData.bool) = true
  | [] => by simp only [List.map_nil, PyData.canLayAll0]
  | x :: r => by simp only [List.map_cons, PyData.canLayAll0, PyData.canLay0, lay_bools r, Bool.and_self]
theorem dep_bools : ∀ xs : List Bool, PyData.depthAll (xs.map PyData.bool) = 0
  | [] => by simp only [List.map_nil, PyData.depthAll]
  | x :: r => by simp only [List.map_cons, PyData.depthAll, PyData.depth, dep_bools r, Nat.max_self]
theorem shaped_bools (xs : List Bool) : SeqAt.shaped (.list (xs.map PyData.bool)) = true := by
  unfold SeqAt.shaped
  rw [Bool.and_eq_true]
  refine ⟨by simp only [PyData.canLay0]; exact lay_bools xs, decide_eq_true ?_⟩
  simp only [PyData.depth, dep_bools]
  omega
theorem dp_bools {K : PySem.W.Frag} {H : Hp} : ∀ xs : List Bool, DpAll K H (xs.map V.bl) (xs.map PyData.bool)
  | [] => .nil
  | x :: r => .cons (.bl x) (dp_bools r)
theorem dp_boolsL {K : PySem.W.Frag} {H : Hp} {a : Addr} {xs : List Bool} (h : H a = some (.lst (xs.map V.bl))) : Dp K H (.ref a) (.list (xs.map PyData.bool)) := .lst (SqL.of h) (dp_bools xs)
theorem mod_only {x : Int} {m : Nat} (h : 1 ≤ m) : (List.range m).filter (fun r : Nat => decide (x % (m : Int) = (r : Int))) = [(x % (m : Int)).toNat] := by
  have h0 : 0 ≤ x % (m : Int) := Int.emod_nonneg _ (by omega)
  have h1 : x % (m : Int) < m := Int.emod_lt_of_pos _ (by omega)
  generalize x % (m : Int) = y at h0 h1
  obtain ⟨k, rfl⟩ : ∃ k : Nat, y = k := ⟨y.toNat, by omega⟩
  have hk : k < m := by omega
  have e1 : List.range m = List.range k ++ k :: (List.range (m - k - 1)).map (fun i => k + 1 + i) := by
    apply List.ext_getElem?
    intro i
    by_cases h : i < k
    · rw [List.getElem?_append_left (by rw [List.length_range]; exact h), List.getElem?_range (by omega), List.getElem?_range h]
    · rw [List.getElem?_append_right (by rw [List.length_range]; omega), List.length_range]
      by_cases h2 : i = k
      · subst h2
        rw [Nat.sub_self, List.getElem?_range hk]
        rfl
      · obtain ⟨j, hj⟩ : ∃ j, i - k = j + 1 := ⟨i - k - 1, by omega⟩
        rw [hj, List.getElem?_cons_succ, List.getElem?_map]
        by_cases h3 : i < m
        · rw [List.getElem?_range h3, List.getElem?_range (by omega)]
          simp only [Option.map_some]
          congr 1
          omega
        · rw [List.getElem?_eq_none (by rw [List.length_range]; omega), List.getElem?_eq_none (by rw [List.length_range]; omega)]
          rfl
  rw [e1, List.filter_append, List.filter_cons]
  have f1 : (List.range k).filter (fun r : Nat => decide (((k : Nat) : Int) = (r : Int))) = [] := by
    rw [List.filter_eq_nil_iff]
    intro r hr
    rw [List.mem_range] at hr
    simp only [decide_eq_true_eq]
    omega
  have f2 : ((List.range (m - k - 1)).map (fun i => k + 1 + i)).filter (fun r : Nat => decide (((k : Nat) : Int) = (r : Int))) = [] := by
    rw [List.filter_eq_nil_iff]
    intro r hr
    obtain ⟨j, _, rfl⟩ := List.mem_map.mp hr
    simp only [decide_eq_true_eq]
    omega
  rw [f1, f2]
  simp
def sp__law_sums_right : Sp := fun vs H Q _ => ∃ (a b : Addr) (w ns : List Int) (s : Nat), vs = [.ref a, .ref b] ∧ H a = some (.lst (w.map V.int)) ∧ H b = some (.lst (ns.map V.int)) ∧ wOk s w ∧ ns.length = s ∧ s ≤ 6 ∧ ∀ H', Same H H' → Q (.bl true) H'
section
variable {P : Program} {w : World} {K : PySem.W.Frag} {mg : Str → Option Value} {base : Heap}
theorem ok__law_sums_right (T : Txt K mg) : FnOk P w K mg base CX0 6 T.f__law_sums_right T.d__law_sums_right ["weights", "numbers"] sp__law_sums_right := by
  have G_condition_holds : FnOk P w K mg base CX0 2 T.f_condition_holds T.d_condition_holds ["condition", "numbers"] (sp_condition_holds 1) := ok_condition_holds T 1
  refine T.F__law_sums_right.ok sc__law_sums_right (fun vs H Q E h => ?_) (fun cdv A outer s H vs Q E hr h => ?_)
  · obtain ⟨a, b, w, ns, s, rfl, _⟩ := h
    rfl
  obtain ⟨a, b, w, ns, n, rfl, ha, hb, hw, hn, h6, q⟩ := h
  refine ⟨_, (pss_cons (ps_set (i := 2) sc__law_sums_right.nd rfl (Or.inr rfl) (pe_callB (cr_sum rfl) (by rfl) T.z_sum (by decide +kernel) (pa_cons (pe_lc (own := [("weight", 6), ("number", 7)]) (g := gTup K 2 (gCons (gName 6) (gCons (gName 7) gNil))) (tt := tYes) rfl sc__law_sums_right.nd (pi_zip (by rfl) T.z_zip (pa_cons (pv 0) (pa_cons (pv 1) pa_nil))) (blkOk_by (own := [("weight", 6), ("number", 7)]) (N := ["weights", "numbers", "total", "least", "m", "rests", "weight", "number", "b", "r"]) (sc := (defScope s__law_sums_right)) (by decide +kernel)) (fun _ _ _ _ _ => (pg_tup rfl (pgs_cons (pg_name (i := 6) sc__law_sums_right.nd rfl (Or.inl rfl)) (pgs_cons (pg_name (i := 7) sc__law_sums_right.nd rfl (Or.inl rfl)) pgs_nil)))) (fun _ _ _ _ _ => pts_nil) (fun _ _ _ _ _ => (pe_op op_mul (pv 6) (pv 7)))) pa_nil))) (pss_cons (ps_setLc (i := 3) (own := [("b", 8)]) (g := gName 8) (tt := tYes) rfl sc__law_sums_right.nd rfl rfl (sw_true rfl rfl rfl (by decide +kernel)) (pi_range1 (by rfl) T.z_range (pa_cons pe_int pa_nil)) (blkOk_by (own := [("b", 8)]) (N := ["weights", "numbers", "total", "least", "m", "rests", "weight", "number", "b", "r"]) (sc := (defScope s__law_sums_right)) (by decide +kernel)) (fun _ _ _ _ _ => (pg_name (i := 8) sc__law_sums_right.nd rfl (Or.inl rfl))) (fun _ _ _ _ _ => pts_nil) (fun _ _ _ _ _ => (pe_call G_condition_holds (hr.mono (by omega)) (by rfl) T.m_condition_holds T.F_condition_holds.kp T.b_condition_holds .nil pass0 (pa_cons (pe_tup (pa_cons pe_str (pa_cons (pv 0) (pa_cons (pv 8) pa_nil)))) (pa_cons (pv 1) pa_nil))))) (pss_cons (ps_if (pt_cmpR (op_neD hr.units) (pv 3) (pe_lc (own := [("b", 8)]) (g := gName 8) (tt := tYes) rfl sc__law_sums_right.nd (pi_range1 (by rfl) T.z_range (pa_cons pe_int pa_nil)) (blkOk_by (own := [("b", 8)]) (N := ["weights", "numbers", "total", "least", "m", "rests", "weight", "number", "b", "r"]) (sc := (defScope s__law_sums_right)) (by decide +kernel)) (fun _ _ _ _ _ => (pg_name (i := 8) sc__law_sums_right.nd rfl (Or.inl rfl))) (fun _ _ _ _ _ => pts_nil) (fun _ _ _ _ _ => (pe_cmpR op_ge (pv 2) (pv 8) (nomark _)))) (nomark _)) (pss_one (ps_ret pe_bl)) pss_nil) (pss_cons (ps_for PassesOwn.never rfl (pi_range2 (by rfl) T.z_range (pa_cons pe_int (pa_cons pe_int pa_nil))) (pg_name (i := 4) sc__law_sums_right.nd rfl (Or.inr rfl)) (pss_cons (ps_setLc (i := 5) (own := [("r", 9)]) (g := gName 9) rfl sc__law_sums_right.nd rfl rfl (sw_true rfl rfl rfl (by decide +kernel)) (pi_range1 (by rfl) T.z_range (pa_cons (pv 4) pa_nil)) (blkOk_by (own := [("r", 9)]) (N := ["weights", "numbers", "total", "least", "m", "rests", "weight", "number", "b", "r"]) (sc := (defScope s__law_sums_right)) (by decide +kernel)) (fun _ _ _ _ _ => (pg_name (i := 9) sc__law_sums_right.nd rfl (Or.inl rfl))) (fun _ _ _ _ _ => pts_one (pt_val (pe_call G_condition_holds (hr.mono (by omega)) (by rfl) T.m_condition_holds T.F_condition_holds.kp T.b_condition_holds .nil pass0 (pa_cons (pe_tup (pa_cons pe_str (pa_cons (pv 0) (pa_cons (pv 4) (pa_cons (pv 9) pa_nil))))) (pa_cons (pv 1) pa_nil))))) (fun _ _ _ _ _ => (pv 9))) (pss_one (ps_if (pt_cmpR (op_neD hr.units) (pv 5) (pe_lst (pa_cons (pe_op op_mod (pv 2) (pv 4)) pa_nil)) (nomark _)) (pss_one (ps_ret pe_bl)) pss_nil)))) (pss_one (ps_ret pe_bl)))))), ?_⟩
  have hlen : w.length = ns.length := by rw [hw.1, hn]
  refine ⟨_, rfl, _, rfl, a, b, _, _, rfl, SqL.of ha, SqL.of hb, fun D hD => ?_⟩
  refine lc_zip (xs := w.map V.int) (ys := ns.map V.int) (by rw [List.length_map, List.length_map, hlen]) (fun i H2 => H2 D = some (.lst (((prods w ns).take i).map V.int)) ∧ Same H H2) ⟨upd_same, same_new hD⟩ (fun i H2 _ ⟨_, s⟩ => ⟨SqL.of (s _ _ ha), SqL.of (s _ _ hb)⟩) ?_ ?_
  · rintro i x y Tt H2 hx hy ⟨g1, g2⟩ hT
    rw [List.getElem?_map] at hx hy
    cases hc : w[i]? with
    | none => rw [hc] at hx; cases hx
    | some x1 =>
    cases hc2 : ns[i]? with
    | none => rw [hc2] at hy; cases hy
    | some y1 =>
    rw [hc] at hx
    rw [hc2] at hy
    cases hx
    cases hy
    have g3 : Same H (upd H2 Tt (.tup [V.int x1, V.int y1])) := same_add g2 (g2.free hT)
    have hb4 := hw.2 x1 (List.mem_of_getElem? hc)
    refine ⟨_, _, rfl, SqT.of upd_same, rfl, _, _, rfl, _, _, rfl, rfl, rfl, _, rfl, _, rfl, _, _, rfl, rfl, .inl ⟨by omega, by omega⟩, ?_⟩
    refine ⟨_, by rw [upd_ne (ne_of_none g1 hT)]; exact g1, ?_, ?_, ?_⟩
    · rw [List.length_map, List.length_take, prods_len hlen]
      exact Nat.lt_of_le_of_lt (show _ ≤ 1000000 by omega) (by decide)
    · rw [upd_same, take_succ_of (prods_at hc hc2), List.map_append]
      rfl
    · exact same_add g3 hD
  · rintro H2 ⟨g1, g2⟩
    rw [List.length_map, hlen, ← prods_len hlen, List.take_length] at g1
    refine ⟨D, _, rfl, SqL.of g1, ?_⟩
    have ed : (prods w ns).sum = dot w ns := rfl
    rw [ed]
    have tk : ∀ (f : Nat → Bool) (i : Nat), (List.range (i + 1)).map f = (List.range i).map f ++ [f i] := fun f i => by rw [List.range_succ, List.map_append]; rfl
    refine ⟨5, rfl, by decide, by decide, fun D2 hD2 => lc_range (lo := 0) (n := 5) (fun i H3 => H3 D2 = some (.lst (((List.range i).map fun b : Nat => decide (dot w ns ≥ (b : Int))).map V.bl)) ∧ Same H2 H3) ⟨upd_same, same_new hD2⟩ ?_ ?_⟩
    · rintro i H3 hi ⟨k1, k2⟩
      have s3 := g2.trans k2
      refine ⟨rfl, _, rfl, _, rfl, (by show 3 ≤ sizeLine; decide), fun t ht => ?_⟩
      have sT := same_new ht (o := .tup [V.str (Str.ofString "least"), V.ref a, V.int (0 + (i : Int))])
      have s3T := s3.trans sT
      have w6 : w.length ≤ 1000 := by have := hw.1; omega
      have dt : Dt (fun _ => True) (upd H3 t (.tup [V.str (Str.ofString "least"), V.ref a, V.int (0 + (i : Int))])) (.ref t) (Cd.least w (0 + (i : Int))).dat := .tup upd_same trivial (Nat.le_add_left _ 997) (.cons (.str _) (.cons (dt_intsL (s3T _ _ ha) trivial w6) (.cons (.int _) .nil)))
      refine ⟨_, rfl, .ref t, b, .least w (0 + (i : Int)), ns, n, rfl, dt, s3T _ _ hb, ⟨hw, by omega, by omega⟩, hn, h6, by simp only [Cd.deep]; omega, fun H4 s4 => ⟨_, s4 _ _ (sT _ _ k1), ?_, ?_, same_add ((k2.trans sT).trans s4) hD2⟩⟩
      · rw [List.length_map, List.length_map, List.length_range]
        exact Nat.lt_of_le_of_lt (show _ ≤ 1000000 by omega) (by decide)
      · rw [upd_same, tk, List.map_append, Int.zero_add]
        rfl
    · rintro H3 ⟨k1, k2⟩
      have s3 := g2.trans k2
      refine ⟨_, rfl, 5, rfl, by decide, by decide, fun D3 hD3 => lc_range (lo := 0) (n := 5) (fun i H4 => H4 D3 = some (.lst (((List.range i).map fun b : Nat => decide (dot w ns ≥ (b : Int))).map V.bl)) ∧ Same H3 H4) ⟨upd_same, same_new hD3⟩ ?_ ?_⟩
      · rintro i H4 hi ⟨l1, l2⟩
        refine ⟨rfl, _, rfl, _, rfl, _, _, rfl, rfl, _, l1, ?_, ?_, same_add l2 hD3⟩
        · rw [List.length_map, List.length_map, List.length_range]
          exact Nat.lt_of_le_of_lt (show _ ≤ 1000000 by omega) (by decide)
        · rw [upd_same, tk, List.map_append, Int.zero_add]
          rfl
      · rintro H4 ⟨l1, l2⟩
        refine ⟨_, _, dp_boolsL (l2 _ _ k1), dp_boolsL l1, shaped_bools _, shaped_bools _, _, rfl, ?_⟩
        rw [eqv_self (shaped_bools _)]
        have s4 := s3.trans l2
        refine iteF ⟨1, 5, rfl, by decide, for_range (lo := 1) (n := 4) (fun i σ H' => ∃ y4 y5 y6 y7 y8 y9, σ = [some (.ref a), some (.ref b), some (.int (dot w ns)), some (.ref D2), y4, y5, y6, y7, y8, y9] ∧ Same H H') ⟨_, _, _, _, _, _, rfl, s4⟩ ?_ ?_⟩
        · rintro i σ H5 hi ⟨y4, y5, y6, y7, y8, y9, rfl, s5⟩
          have em : (1 + (i : Int)) = ((i + 1 : Nat) : Int) := by omega
          refine ⟨_, rfl, 1 + (i : Int), rfl, by omega, by omega, fun D4 hD4 => lc_range (lo := 0) (n := (1 + (i : Int)).toNat) (fun k H6 => H6 D4 = some (.lst ((((List.range k).filter fun r : Nat => decide (dot w ns % ((i + 1 : Nat) : Int) = (r : Int))).map fun r : Nat => (r : Int)).map V.int)) ∧ Same H5 H6) ⟨upd_same, same_new hD4⟩ ?_ ?_⟩
          · rintro k H6 hk ⟨m1, m2⟩
            have s6 := s5.trans m2
            refine ⟨rfl, _, rfl, _, rfl, _, rfl, (by show 4 ≤ sizeLine; decide), fun t ht => ?_⟩
            have sT := same_new ht (o := .tup [V.str (Str.ofString "turns"), V.ref a, V.int (1 + (i : Int)), V.int (0 + (k : Int))])
            have s6T := s6.trans sT
            have w6 : w.length ≤ 1000 := by have := hw.1; omega
            have dt : Dt (fun _ => True) (upd H6 t (.tup [V.str (Str.ofString "turns"), V.ref a, V.int (1 + (i : Int)), V.int (0 + (k : Int))])) (.ref t) (Cd.turns w (1 + (i : Int)) (0 + (k : Int))).dat := .tup upd_same trivial (Nat.le_add_left _ 996) (.cons (.str _) (.cons (dt_intsL (s6T _ _ ha) trivial w6) (.cons (.int _) (.cons (.int _) .nil))))
            refine ⟨_, rfl, .ref t, b, .turns w (1 + (i : Int)) (0 + (k : Int)), ns, n, rfl, dt, s6T _ _ hb, ⟨hw, by omega, by omega, by omega, by omega⟩, hn, h6, by simp only [Cd.deep]; omega, fun H7 s7 => ⟨_, rfl, ?_⟩⟩
            have ev : (Cd.turns w (1 + (i : Int)) (0 + (k : Int))).val ns = decide (dot w ns % ((i + 1 : Nat) : Int) = (k : Int)) := by
              simp only [Cd.val]
              rw [em, Int.zero_add]
            rw [ev]
            refine ite2 (fun h => ?_) (fun h => ?_)
            · refine ⟨_, rfl, _, s7 _ _ (sT _ _ m1), ?_, ?_, same_add ((m2.trans sT).trans s7) hD4⟩
              · rw [List.length_map, List.length_map]
                exact Nat.lt_of_le_of_lt (Nat.le_trans (List.length_filter_le _ _) (show _ ≤ 1000000 by rw [List.length_range]; omega)) (by decide)
              · rw [upd_same, List.range_succ, List.filter_append, List.filter_cons, if_pos h, List.map_append, List.map_append, Int.zero_add]
                rfl
            · refine ⟨?_, (m2.trans sT).trans s7⟩
              rw [List.range_succ, List.filter_append, List.filter_cons, if_neg h, List.filter_nil, List.append_nil]
              exact s7 _ _ (sT _ _ m1)
          · rintro H6 ⟨m1, m2⟩
            rw [show (1 + (i : Int)).toNat = i + 1 by omega, mod_only (by omega)] at m1
            refine ⟨_, rfl, _, rfl, _, rfl, _, _, rfl, rfl, (by show (0 : Int) < 1 + (i : Int); omega), (by show 1 ≤ sizeLine; decide), fun l hl => ?_⟩
            have sl := same_new hl (o := .lst [V.int (dot w ns % (1 + (i : Int)))])
            have h0 : 0 ≤ dot w ns % (1 + (i : Int)) := Int.emod_nonneg _ (by omega)
            have e1 : ([(dot w ns % ((i + 1 : Nat) : Int)).toNat].map fun r : Nat => (r : Int)) = [dot w ns % (1 + (i : Int))] := by
              rw [List.map_cons, List.map_nil, ← em, Int.toNat_of_nonneg h0]
            rw [e1] at m1
            refine ⟨_, _, dp_intsL (SqL.of (sl _ _ m1)), dp_intsL (xs := [dot w ns % (1 + (i : Int))]) (SqL.of upd_same), shaped_ints _, shaped_ints _, _, rfl, ?_⟩
            rw [eqv_self (shaped_ints _)]
            exact iteF ⟨_, _, _, _, _, _, rfl, (s5.trans m2).trans sl⟩
        · rintro σ H5 ⟨y4, y5, y6, y7, y8, y9, rfl, s5⟩
          exact q _ s5
end

theorem map_erase {α β : Type} (f : α → β) : ∀ (l : List α) (k : Nat), (l.map f).eraseIdx k = (l.eraseIdx k).map f
  | [], k => rfl
  | a :: r, 0 => rfl
  | a :: r, k + 1 => by
    simp only [List.map_cons, List.eraseIdx_cons_succ, map_erase f r k]
theorem erase_permN {α : Type} : ∀ (l : List α) (i : Nat) (h : i < l.length), l.Perm (l[i] :: l.eraseIdx i)
  | a :: r, 0, _ => .refl _
  | a :: r, i + 1, h => by
    have ih := erase_permN r i (by simpa using h)
    exact (ih.cons a).trans (.swap _ _ _)

theorem andV {b1 b2 : Bool} {σ : L2.St} {i : Nat} {H : Hp} {Q : VK} (h : σ[i]? = some (some (V.bl b2))) (k : Q (.bl (b1 && b2)) H) : if b1 = true then tVar i σ H Q else Q (.bl false) H := by
  cases b1 with
  | true => exact iteT ⟨_, h, k⟩
  | false => exact iteF k
theorem orV {b1 b2 : Bool} {σ : L2.St} {i : Nat} {H : Hp} {Q : VK} (h : σ[i]? = some (some (V.bl b2))) (k : Q (.bl (b1 || b2)) H) : if b1 = true then Q (.bl true) H else tVar i σ H Q := by
  cases b1 with
  | true => exact iteT k
  | false => exact iteF ⟨_, h, k⟩
def sp__law_pair_right : Sp := fun vs H Q _ => ∃ (v1 v2 : V) (b o : Addr) (c1 c2 : Cd) (ns : List Int) (s : Nat) (os : List Nat), vs = [v1, v2, .ref b, .ref o] ∧ Dt (fun _ => True) H v1 c1.dat ∧ Dt (fun _ => True) H v2 c2.dat ∧ H b = some (.lst (ns.map V.int)) ∧ H o = some (.lst (nV os)) ∧
  c1.ok s ∧ c2.ok s ∧ c1.deep ≤ 3 ∧ c2.deep ≤ 3 ∧ ns.length = s ∧ os.Perm (List.range s) ∧ s ≤ 6 ∧ ∀ H', Same H H' → Q (.bl true) H'
section
variable {P : Program} {w : World} {K : PySem.W.Frag} {mg : Str → Option Value} {base : Heap}
theorem ok__law_pair_right (T : Txt K mg) : FnOk P w K mg base CX0 8 T.f__law_pair_right T.d__law_pair_right ["one", "other", "numbers", "order"] sp__law_pair_right := by
  have G_condition_holds : FnOk P w K mg base CX0 5 T.f_condition_holds T.d_condition_holds ["condition", "numbers"] (sp_condition_holds 4) := ok_condition_holds T 4
  have G__law_deep : FnOk P w K mg base CX0 6 T.f__law_deep T.d__law_deep ["condition"] (sp__law_deep 6) := ok__law_deep T 6
  have G__law_turned : FnOk P w K mg base CX0 3 T.f__law_turned T.d__law_turned ["condition", "order"] (sp__law_turned 3) := ok__law_turned T 3
  refine T.F__law_pair_right.ok sc__law_pair_right (fun vs H Q E h => ?_) (fun cdv A outer s H vs Q E hr h => ?_)
  · obtain ⟨v1, v2, b, o, c1, c2, ns, s, os, rfl, _⟩ := h
    rfl
  obtain ⟨v1, v2, b, o, c1, c2, ns, n, os, rfl, t1, t2, hb, ho, k1, k2, d1, d2, hn, hp, h6, q⟩ := h
  refine ⟨_, (pss_cons (ps_set (i := 4) sc__law_pair_right.nd rfl (Or.inl rfl) (pe_call G_condition_holds (hr.mono (by omega)) (by rfl) T.m_condition_holds T.F_condition_holds.kp T.b_condition_holds .nil pass0 (pa_cons (pv 0) (pa_cons (pv 2) pa_nil)))) (pss_cons (ps_set (i := 5) sc__law_pair_right.nd rfl (Or.inl rfl) (pe_call G_condition_holds (hr.mono (by omega)) (by rfl) T.m_condition_holds T.F_condition_holds.kp T.b_condition_holds .nil pass0 (pa_cons (pv 1) (pa_cons (pv 2) pa_nil)))) (pss_cons (ps_set (i := 6) sc__law_pair_right.nd rfl (Or.inl rfl) (pe_lst (pa_cons (pe_call G_condition_holds (hr.mono (by omega)) (by rfl) T.m_condition_holds T.F_condition_holds.kp T.b_condition_holds .nil pass0 (pa_cons (pe_tup (pa_cons pe_str (pa_cons (pv 0) pa_nil))) (pa_cons (pv 2) pa_nil))) (pa_cons (pe_call G_condition_holds (hr.mono (by omega)) (by rfl) T.m_condition_holds T.F_condition_holds.kp T.b_condition_holds .nil pass0 (pa_cons (pe_tup (pa_cons pe_str (pa_cons (pv 0) (pa_cons (pv 1) pa_nil)))) (pa_cons (pv 2) pa_nil))) pa_nil)))) (pss_cons (ps_expr (pe_bm PySem.F.plainAttrs_list PySem.F.slot_list_append PySem.F.type_list_append mt_append (pv 6) (pa_cons (pe_call G_condition_holds (hr.mono (by omega)) (by rfl) T.m_condition_holds T.F_condition_holds.kp T.b_condition_holds .nil pass0 (pa_cons (pe_tup (pa_cons pe_str (pa_cons (pv 0) (pa_cons (pv 1) pa_nil)))) (pa_cons (pv 2) pa_nil))) pa_nil))) (pss_cons (ps_if (pt_cmpR (op_neD hr.units) (pv 6) (pe_lst (pa_cons (pe_not (pv 4)) (pa_cons (pe_and (pv 4) (pe_one (pv 5))) (pa_cons (pe_or (pv 4) (pe_one (pv 5))) pa_nil)))) (nomark _)) (pss_one (ps_ret pe_bl)) pss_nil) (pss_cons (ps_set (i := 7) sc__law_pair_right.nd rfl (Or.inl rfl) (pe_tup (pa_cons pe_str (pa_cons (pe_tup (pa_cons pe_str (pa_cons (pe_tup (pa_cons pe_str (pa_cons (pv 0) pa_nil))) (pa_cons (pe_tup (pa_cons pe_str (pa_cons (pv 1) pa_nil))) pa_nil)))) pa_nil)))) (C8.pss_cut (ps_if (PW.pt (pw_and (pt_cmpR op_lt (pe_call G__law_deep (hr.mono (by omega)) (by rfl) T.m__law_deep T.F__law_deep.kp T.b__law_deep .nil pass0 (pa_cons (pv 7) pa_nil)) pe_int (nomark _)) (pw_and1 (pt_cmpR op_ne (pe_call G_condition_holds (hr.mono (by omega)) (by rfl) T.m_condition_holds T.F_condition_holds.kp T.b_condition_holds .nil pass0 (pa_cons (pv 7) (pa_cons (pv 2) pa_nil))) (pe_ix ix_list (pv 6) pe_int (fun _ _ => rfl)) (nomark _))))) (pss_one (ps_ret pe_bl)) pss_nil) (pss_cons (ps_setLc (i := 8) (own := [("at", 9)]) (g := gName 9) (te := tOp (rIxL K) (tVar 2) (tVar 9)) (tt := tYes) rfl sc__law_pair_right.nd rfl rfl (sw_true rfl rfl rfl (by decide +kernel)) (pi_list (pv 3)) (blkOk_by (own := [("at", 9)]) (N := ["one", "other", "numbers", "order", "first", "second", "told", "neither", "turned", "at"]) (sc := (defScope s__law_pair_right)) (by decide +kernel)) (fun _ _ _ _ _ => (pg_name (i := 9) sc__law_pair_right.nd rfl (Or.inl rfl))) (fun _ _ _ _ _ => pts_nil) (fun _ _ _ _ _ => (pe_ix ix_list (pv 2) (pv 9) (fun _ _ => rfl)))) (pss_one (ps_ret (pe_cmpR op_eq (pe_call G_condition_holds (hr.mono (by omega)) (by rfl) T.m_condition_holds T.F_condition_holds.kp T.b_condition_holds .nil pass0 (pa_cons (pe_call G__law_turned (hr.mono (by omega)) (by rfl) T.m__law_turned T.F__law_turned.kp T.b__law_turned .nil pass0 (pa_cons (pv 0) (pa_cons (pv 3) pa_nil))) (pa_cons (pv 8) pa_nil))) (pv 4) (nomark _)))))))))))), ?_⟩
  refine ⟨_, rfl, _, rfl, v1, b, c1, ns, n, rfl, t1, hb, k1, hn, h6, by omega, fun H1 s1 => ?_⟩
  refine ⟨_, rfl, _, rfl, v2, b, c2, ns, n, rfl, t2.same s1, s1 _ _ hb, k2, hn, h6, by omega, fun H2 s2 => ?_⟩
  have sA := s1.trans s2
  refine ⟨_, rfl, (by show 2 ≤ sizeLine; decide), fun a1 ha1 => ?_⟩
  have sa1 := same_new ha1 (o := .tup [V.str (Str.ofString "not"), v1])
  have sB := sA.trans sa1
  have N1 : Dt (fun _ => True) (upd H2 a1 (.tup [V.str (Str.ofString "not"), v1])) (.ref a1) (Cd.neg c1).dat := .tup upd_same trivial (Nat.le_add_left _ 998) (.cons (.str _) (.cons (t1.same sB) .nil))
  refine ⟨_, rfl, .ref a1, b, .neg c1, ns, n, rfl, N1, sB _ _ hb, k1, hn, h6, by simp only [Cd.deep]; omega, fun H3 s3 => ?_⟩
  have sC := sB.trans s3
  refine ⟨_, rfl, _, rfl, (by show 3 ≤ sizeLine; decide), fun a2 ha2 => ?_⟩
  have sa2 := same_new ha2 (o := .tup [V.str (Str.ofString "both"), v1, v2])
  have sD := sC.trans sa2
  have N2 : Dt (fun _ => True) (upd H3 a2 (.tup [V.str (Str.ofString "both"), v1, v2])) (.ref a2) (Cd.both c1 c2).dat := .tup upd_same trivial (Nat.le_add_left _ 997) (.cons (.str _) (.cons (t1.same sD) (.cons (t2.same sD) .nil)))
  refine ⟨_, rfl, .ref a2, b, .both c1 c2, ns, n, rfl, N2, sD _ _ hb, ⟨k1, k2⟩, hn, h6, by simp only [Cd.deep]; omega, fun H4 s4 => ?_⟩
  have sE := sD.trans s4
  refine ⟨(by show 2 ≤ sizeLine; decide), fun L hL => ?_⟩
  have sL := same_new hL (o := .lst [V.bl ((Cd.neg c1).val ns), V.bl ((Cd.both c1 c2).val ns)])
  have hLX := upd_same (H := H4) (a := L) (o := .lst [V.bl ((Cd.neg c1).val ns), V.bl ((Cd.both c1 c2).val ns)])
  have sF := sE.trans sL
  generalize hH5 : upd H4 L (.lst [V.bl ((Cd.neg c1).val ns), V.bl ((Cd.both c1 c2).val ns)]) = H5 at *
  refine ⟨_, rfl, .inl ⟨rfl, _, SqL.of hLX⟩, _, rfl, _, rfl, (by show 3 ≤ sizeLine; decide), fun a3 ha3 => ?_⟩
  have sa3 := same_new ha3 (o := .tup [V.str (Str.ofString "either"), v1, v2])
  have sG := sF.trans sa3
  have N3 : Dt (fun _ => True) (upd H5 a3 (.tup [V.str (Str.ofString "either"), v1, v2])) (.ref a3) (Cd.either c1 c2).dat := .tup upd_same trivial (Nat.le_add_left _ 997) (.cons (.str _) (.cons (t1.same sG) (.cons (t2.same sG) .nil)))
  refine ⟨_, rfl, .ref a3, b, .either c1 c2, ns, n, rfl, N3, sG _ _ hb, ⟨k1, k2⟩, hn, h6, by simp only [Cd.deep]; omega, fun H6 s6 => ?_⟩
  have sH := sG.trans s6
  have hL6 := s6 _ _ (sa3 _ _ hLX)
  refine ⟨L, _, _, rfl, rfl, hL6, (by show 2 < sizeLine; decide), ?_⟩
  have hLn : H L = none := sE.free hL
  have hL7 : (upd H6 L (.lst ([V.bl ((Cd.neg c1).val ns), V.bl ((Cd.both c1 c2).val ns)] ++ [V.bl ((Cd.either c1 c2).val ns)]))) L = some (.lst ([!c1.val ns, c1.val ns && c2.val ns, c1.val ns || c2.val ns].map V.bl)) := upd_same
  have sI : Same H (upd H6 L (.lst ([V.bl ((Cd.neg c1).val ns), V.bl ((Cd.both c1 c2).val ns)] ++ [V.bl ((Cd.either c1 c2).val ns)]))) := same_add sH hLn
  generalize hH7 : upd H6 L (.lst ([V.bl ((Cd.neg c1).val ns), V.bl ((Cd.both c1 c2).val ns)] ++ [V.bl ((Cd.either c1 c2).val ns)])) = H7 at *
  refine ⟨_, rfl, _, rfl, _, rfl, _, rfl, _, rfl, andV (b2 := c2.val ns) rfl ⟨_, rfl, _, rfl, orV (b2 := c2.val ns) rfl ⟨(by show 3 ≤ sizeLine; decide), fun l2 hl2 => ?_⟩⟩⟩
  have sl2 := same_new hl2 (o := .lst [V.bl (!c1.val ns), V.bl (c1.val ns && c2.val ns), V.bl (c1.val ns || c2.val ns)])
  refine ⟨_, _, dp_boolsL (sl2 _ _ hL7), dp_boolsL (xs := [!c1.val ns, c1.val ns && c2.val ns, c1.val ns || c2.val ns]) upd_same, shaped_bools _, shaped_bools _, _, rfl, ?_⟩
  rw [eqv_self (shaped_bools _)]
  have sJ := sI.trans sl2
  have hL8 := sl2 _ _ hL7
  generalize hH8 : upd H7 l2 (.lst [V.bl (!c1.val ns), V.bl (c1.val ns && c2.val ns), V.bl (c1.val ns || c2.val ns)]) = H8 at *
  refine iteF ⟨_, rfl, (by show 2 ≤ sizeLine; decide), fun n1 hn1 => ⟨_, rfl, (by show 2 ≤ sizeLine; decide), fun n2 hn2 => ⟨(by show 3 ≤ sizeLine; decide), fun ei hei => ⟨(by show 2 ≤ sizeLine; decide), fun ne hne => ?_⟩⟩⟩⟩
  have z1 := same_new hn1 (o := .tup [V.str (Str.ofString "not"), v1])
  have z2 := same_new hn2 (o := .tup [V.str (Str.ofString "not"), v2])
  have z3 := same_new hei (o := .tup [V.str (Str.ofString "either"), V.ref n1, V.ref n2])
  have z4 := same_new hne (o := .tup [V.str (Str.ofString "not"), V.ref ei])
  have M1 : Dt (fun _ => True) (upd H8 n1 (.tup [V.str (Str.ofString "not"), v1])) (.ref n1) (Cd.neg c1).dat := .tup upd_same trivial (Nat.le_add_left _ 998) (.cons (.str _) (.cons (t1.same (sJ.trans z1)) .nil))
  have M2 : Dt (fun _ => True) _ (.ref n2) (Cd.neg c2).dat := .tup upd_same trivial (Nat.le_add_left _ 998) (.cons (.str _) (.cons (t2.same ((sJ.trans z1).trans z2)) .nil))
  have M3 : Dt (fun _ => True) _ (.ref ei) (Cd.either (.neg c1) (.neg c2)).dat := .tup upd_same trivial (Nat.le_add_left _ 997) (.cons (.str _) (.cons (M1.same (z2.trans z3)) (.cons (M2.same z3) .nil)))
  have M4 : Dt (fun _ => True) _ (.ref ne) (Cd.neg (.either (.neg c1) (.neg c2))).dat := .tup upd_same trivial (Nat.le_add_left _ 998) (.cons (.str _) (.cons (M3.same z4) .nil))
  have zz := ((z1.trans z2).trans z3).trans z4
  have sK := sJ.trans zz
  have hL9 := zz _ _ hL8
  generalize hH9 : upd (upd (upd (upd H8 n1 (.tup [V.str (Str.ofString "not"), v1])) n2 (.tup [V.str (Str.ofString "not"), v2])) ei (.tup [V.str (Str.ofString "either"), V.ref n1, V.ref n2])) ne (.tup [V.str (Str.ofString "not"), V.ref ei]) = H9 at *
  refine ⟨fun σ2 H2 => σ2 = [some v1, some v2, some (.ref b), some (.ref o), some (.bl (c1.val ns)), some (.bl (c2.val ns)), some (.ref L), some (.ref ne), none, none] ∧ Same H H2, ?_, ?_⟩
  · refine ⟨_, rfl, .ref ne, .neg (.either (.neg c1) (.neg c2)), rfl, M4, by simp only [Cd.deep]; omega, fun H10 s10 => ⟨_, _, rfl, rfl, _, rfl, ite2 (fun hd => ?_) (fun hd => ?_)⟩⟩
    · have hd' : (Cd.neg (.either (.neg c1) (.neg c2))).deep < 5 := by
        have := of_decide_eq_true hd
        omega
      refine ⟨_, rfl, _, rfl, .ref ne, b, .neg (.either (.neg c1) (.neg c2)), ns, n, rfl, M4.same s10, s10 _ _ (sK _ _ hb), ⟨k1, k2⟩, hn, h6, by omega, fun H11 s11 => ?_⟩
      have e : (Cd.neg (.either (.neg c1) (.neg c2))).val ns = (c1.val ns && c2.val ns) := by simp only [Cd.val]; cases c1.val ns <;> cases c2.val ns <;> rfl
      refine ⟨_, rfl, L, _, 1, _, rfl, rfl, SqL.of (s11 _ _ (s10 _ _ hL9)), atI_nat (j := 1) rfl, rfl, _, rfl, iteNS (congrArg V.bl e) ?_⟩
      exact ⟨rfl, (sK.trans s10).trans s11⟩
    · exact iteF ⟨rfl, sK.trans s10⟩
  · rintro σ2 H10 ⟨rfl, sM⟩
    refine ⟨_, rfl, o, rfl, ⟨_, SqL.of (sM _ _ ho)⟩, fun D hD => ?_⟩
    have ho6 : os.length = n := by rw [hp.length_eq, List.length_range]
    refine lc_list (xs := nV os) (fun i H3 => H3 D = some (.lst ((pick (os.take i) ns).map V.int)) ∧ Same H10 H3) ⟨upd_same, same_new hD⟩ (fun i H3 _ ⟨_, s⟩ => SqL.of (s _ _ (sM _ _ ho))) ?_ ?_
    · rintro i y H3 hx ⟨g1, g2⟩
      unfold nV at hx
      rw [List.getElem?_map] at hx
      cases hc : os[i]? with
      | none => rw [hc] at hx; cases hx
      | some oi =>
      rw [hc] at hx
      cases hx
      have hlt : oi < ns.length := by
        have := hp.mem_iff.mp (List.mem_of_getElem? hc)
        rw [List.mem_range] at this
        omega
      have hio := (List.getElem?_eq_some_iff.mp hc).1
      have hg : ns.getD oi 0 = ns[oi] := by simp [List.getD, List.getElem?_eq_getElem hlt]
      refine ⟨rfl, _, rfl, _, rfl, b, _, _, V.int ns[oi], rfl, rfl, SqL.of (g2 _ _ (sM _ _ hb)), at_of (j := oi) rfl (by rw [List.getElem?_map, List.getElem?_eq_getElem hlt]; rfl), _, g1, ?_, ?_, same_add g2 hD⟩
      · rw [List.length_map, pick_len, List.length_take]
        exact Nat.lt_of_le_of_lt (show _ ≤ 1000000 by omega) (by decide)
      · rw [upd_same, take_succ_of hc]
        unfold pick
        rw [List.map_append, List.map_append, ← hg]
        rfl
    · rintro H3 ⟨g1, g2⟩
      rw [show (nV os).length = os.length from List.length_map _, List.take_length] at g1
      have sN := sM.trans g2
      refine ⟨_, rfl, _, rfl, v1, o, c1, n, os, rfl, t1.same sN, sN _ _ ho, k1, fun x hx => List.mem_range.mp (hp.mem_iff.mp hx), by omega, h6, d1, fun r H4 s4 dr => ?_⟩
      refine ⟨_, rfl, r, D, c1.turn os, pick os ns, n, rfl, dr.any, s4 _ _ g1, turn_ok ho6 k1, by rw [pick_len, ho6], h6, by rw [turn_deep]; omega, fun H5 s5 => ⟨_, rfl, rfl, ?_⟩⟩
      rw [val_turn hp hn k1, decide_eq_true rfl]
      exact q _ ((sN.trans s4).trans s5)
end


def rLenS (K : PySem.W.Frag) : List V → Hp → VK → Prop := fun xs H Q => ∃ p ys, xs = [.ref p] ∧ (SqL K H p ys ∨ SqT K H p ys) ∧ Q (.int ys.length) H
theorem call_lenS {X : Cx} : CallR X (.builtin "len") (rLenS X.K) := call_len_seq
theorem rgV_nV (s : Int) : rgV 0 s = nV (List.range s.toNat) := by
  unfold rgV nV
  rw [show s - 0 = s by omega]
  apply List.map_congr_left
  intro i _
  rw [Int.zero_add]
section
variable {P : Program} {w : World} {K : PySem.W.Frag} {mg : Str → Option Value} {base : Heap}
theorem ok_law (T : Txt K mg) (M : KTab K w T.a_MADE_OF_OTHERS made) : FnOk P w K mg base CX0 12 T.f_law T.d_law ["script"] (spLaw K) := by
  have G__law_cell_at : FnOk P w K mg base CX0 1 T.f__law_cell_at T.d__law_cell_at ["script", "k"] (sp__law_cell_at K) := ok__law_cell_at T
  have G__law_deck : FnOk P w K mg base CX0 2 T.f__law_deck T.d__law_deck ["cell", "many"] sp__law_numbers := ok__law_deck T
  have G__law_take : FnOk P w K mg base CX0 1 T.f__law_take T.d__law_take ["deck", "many"] sp__law_take := ok__law_take T
  have G__law_condition : FnOk P w K mg base CX0 5 T.f__law_condition T.d__law_condition ["deck", "s", "deep"] (sp__law_condition 3) := ok__law_condition T 3
  have G__law_deep : FnOk P w K mg base CX0 5 T.f__law_deep T.d__law_deep ["condition"] (sp__law_deep 5) := ok__law_deep T 5
  have G__law_pair_right : FnOk P w K mg base CX0 8 T.f__law_pair_right T.d__law_pair_right ["one", "other", "numbers", "order"] sp__law_pair_right := ok__law_pair_right T
  have G__law_sums_right : FnOk P w K mg base CX0 6 T.f__law_sums_right T.d__law_sums_right ["weights", "numbers"] sp__law_sums_right := ok__law_sums_right T
  have G_is_condition : FnOk P w K mg base CX0 10 T.f_is_condition T.d_is_condition ["thing", "s"] sp_is_condition := ok_is_condition T M
  refine T.F_law.ok sc_law (fun vs H Q E h => ?_) (fun cdv A outer s H vs Q E hr h => ?_)
  · obtain ⟨a, ns, rfl, _⟩ := h
    rfl
  obtain ⟨a, ns, rfl, hS, h63, q⟩ := h
  refine ⟨_, (pss_cons (ps_for PassesOwn.never rfl (pi_range1 (by rfl) T.z_range (pa_cons (pe_callB (call_max2 rfl) (by rfl) T.z_max (by decide +kernel) (pa_cons pe_int (pa_cons (pe_callB (call_min2 rfl) (by rfl) T.z_min (by decide +kernel) (pa_cons (pe_callB call_len_seq (by rfl) T.z_len PySem.boot_len (pa_cons (pv 0) pa_nil)) (pa_cons pe_int pa_nil))) pa_nil))) pa_nil)) (pg_name (i := 1) sc_law.nd rfl (Or.inl rfl)) (pss_cons (ps_set (i := 2) sc_law.nd rfl (Or.inr rfl) (pe_call G__law_deck (hr.mono (by omega)) (by rfl) T.m__law_deck T.F__law_deck.kp T.b__law_deck .nil pass0 (pa_cons (pe_call G__law_cell_at (hr.mono (by omega)) (by rfl) T.m__law_cell_at T.F__law_cell_at.kp T.b__law_cell_at .nil pass0 (pa_cons (pv 0) (pa_cons (pv 1) pa_nil))) (pa_cons pe_int pa_nil)))) (pss_cons (ps_set (i := 3) sc_law.nd rfl (Or.inl rfl) (pe_op op_add pe_int (pe_call G__law_take (hr.mono (by omega)) (by rfl) T.m__law_take T.F__law_take.kp T.b__law_take .nil pass0 (pa_cons (pv 2) (pa_cons pe_int pa_nil))))) (pss_cons (ps_set (i := 4) sc_law.nd rfl (Or.inl rfl) (pe_call G__law_condition (hr.mono (by omega)) (by rfl) T.m__law_condition T.F__law_condition.kp T.b__law_condition .nil pass0 (pa_cons (pv 2) (pa_cons (pv 3) (pa_cons (pe_op op_add pe_int (pe_call G__law_take (hr.mono (by omega)) (by rfl) T.m__law_take T.F__law_take.kp T.b__law_take .nil pass0 (pa_cons (pv 2) (pa_cons pe_int pa_nil)))) pa_nil))))) (pss_cons (ps_set (i := 5) sc_law.nd rfl (Or.inl rfl) (pe_call G__law_condition (hr.mono (by omega)) (by rfl) T.m__law_condition T.F__law_condition.kp T.b__law_condition .nil pass0 (pa_cons (pv 2) (pa_cons (pv 3) (pa_cons (pe_op op_add pe_int (pe_call G__law_take (hr.mono (by omega)) (by rfl) T.m__law_take T.F__law_take.kp T.b__law_take .nil pass0 (pa_cons (pv 2) (pa_cons pe_int pa_nil)))) pa_nil))))) (pss_cons (ps_set (i := 6) sc_law.nd rfl (Or.inr rfl) (pe_listRg rfl (by rfl) T.z_list (prg_1 (by rfl) T.z_range (pv 3)))) (pss_cons (ps_setLc (i := 7) (own := [("turn", 8)]) (g := gName 8) (te := tBM K "list" rPopAt (tVar 6) (tCons (tCall sp__law_take [] E0 (tCons (tVar 2) (tCons (tCB (rLenS K) (tCons (tVar 6) tNil)) tNil))) tNil)) (tt := tYes) rfl sc_law.nd rfl rfl (sw_true rfl rfl rfl (by decide +kernel)) (pi_range1 (by rfl) T.z_range (pa_cons (pv 3) pa_nil)) (blkOk_by (own := [("turn", 8)]) (N := ["script", "k", "deck", "s", "one", "other", "left", "order", "turn", "condition", "numbers", "at"]) (sc := (defScope s_law)) (by decide +kernel)) (fun _ _ _ _ _ => (pg_name (i := 8) sc_law.nd rfl (Or.inl rfl))) (fun _ _ _ _ _ => pts_nil) (fun _ _ _ _ _ => (by exact (pe_bm PySem.F.plainAttrs_list PySem.F.slot_list_pop PySem.F.type_list_pop mt_popAt (pv 6) (pa_cons (pe_call G__law_take (hr.mono (by omega)) (by rfl) T.m__law_take T.F__law_take.kp T.b__law_take .nil pass0 (pa_cons (pv 2) (pa_cons (pe_callB call_lenS (by rfl) T.z_len PySem.boot_len (pa_cons (pv 6) pa_nil)) pa_nil))) pa_nil))))) (pss_cons (ps_for PassesOwn.never rfl (pi_list (pe_lst (pa_cons (pe_tup (pa_cons pe_str (pa_cons (pv 4) pa_nil))) (pa_cons (pe_tup (pa_cons pe_str (pa_cons (pv 4) (pa_cons (pv 5) pa_nil)))) (pa_cons (pe_tup (pa_cons pe_str (pa_cons (pv 5) (pa_cons (pv 4) pa_nil)))) (pa_cons (pe_tup (pa_cons pe_str (pa_cons (pe_tup (pa_cons pe_str (pa_cons (pv 5) pa_nil))) pa_nil))) pa_nil)))))) (pg_name (i := 9) sc_law.nd rfl (Or.inl rfl)) (pss_one (ps_if (pt_cmpR op_ne (pe_call G_is_condition (hr.mono (by omega)) (by rfl) T.m_is_condition T.F_is_condition.kp T.b_is_condition .nil pass0 (pa_cons (pv 9) (pa_cons (pv 3) pa_nil))) (pe_cmpR op_lt (pe_call G__law_deep (hr.mono (by omega)) (by rfl) T.m__law_deep T.F__law_deep.kp T.b__law_deep .nil pass0 (pa_cons (pv 9) pa_nil)) pe_int (nomark _)) (nomark _)) (pss_one (ps_ret pe_bl)) pss_nil))) (pss_one (ps_for PassesOwn.never rfl (pi_range1 (by rfl) T.z_range (pa_cons pe_int pa_nil)) (pg_name (i := 8) sc_law.nd rfl (Or.inr rfl)) (pss_cons (ps_setLc (i := 10) (own := [("at", 11)]) (g := gName 11) (te := tCall sp__law_take [] E0 (tCons (tVar 2) (tCons (tOp (rIxL K) (tLst (tCons (tC (.int 3)) (tCons (tC (.int 6)) (tCons (tC (.int 40)) tNil)))) (tOp (rI (fun _ j => 0 < j) fun i j => .int (i % j)) (tVar 8) (tC (.int 3)))) tNil))) (tt := tYes) rfl sc_law.nd rfl rfl (sw_true rfl rfl rfl (by decide +kernel)) (pi_range1 (by rfl) T.z_range (pa_cons (pv 3) pa_nil)) (blkOk_by (own := [("at", 11)]) (N := ["script", "k", "deck", "s", "one", "other", "left", "order", "turn", "condition", "numbers", "at"]) (sc := (defScope s_law)) (by decide +kernel)) (fun _ _ _ _ _ => (pg_name (i := 11) sc_law.nd rfl (Or.inl rfl))) (fun _ _ _ _ _ => pts_nil) (fun _ _ _ _ _ => (pe_call G__law_take (hr.mono (by omega)) (by rfl) T.m__law_take T.F__law_take.kp T.b__law_take .nil pass0 (pa_cons (pv 2) (pa_cons (pe_ix ix_list (pe_lst (pa_cons pe_int (pa_cons pe_int (pa_cons pe_int pa_nil)))) (pe_op op_mod (pv 8) pe_int) (fun _ _ => rfl)) pa_nil))))) (pss_cons (ps_if (pt_not (pt_val (pe_call G__law_pair_right (hr.mono (by omega)) (by rfl) T.m__law_pair_right T.F__law_pair_right.kp T.b__law_pair_right .nil pass0 (pa_cons (pv 4) (pa_cons (pv 5) (pa_cons (pv 10) (pa_cons (pv 7) pa_nil))))))) (pss_one (ps_ret pe_bl)) pss_nil) (pss_one (ps_if (pt_not (pt_val (pe_call G__law_sums_right (hr.mono (by omega)) (by rfl) T.m__law_sums_right T.F__law_sums_right.kp T.b__law_sums_right .nil pass0 (pa_cons (pe_lc (own := [("at", 11)]) (g := gName 11) (tt := tYes) rfl sc_law.nd (pi_range1 (by rfl) T.z_range (pa_cons (pv 3) pa_nil)) (blkOk_by (own := [("at", 11)]) (N := ["script", "k", "deck", "s", "one", "other", "left", "order", "turn", "condition", "numbers", "at"]) (sc := (defScope s_law)) (by decide +kernel)) (fun _ _ _ _ _ => (pg_name (i := 11) sc_law.nd rfl (Or.inl rfl))) (fun _ _ _ _ _ => pts_nil) (fun _ _ _ _ _ => (pe_call G__law_take (hr.mono (by omega)) (by rfl) T.m__law_take T.F__law_take.kp T.b__law_take .nil pass0 (pa_cons (pv 2) (pa_cons pe_int pa_nil))))) (pa_cons (pv 10) pa_nil))))) (pss_one (ps_ret pe_bl)) pss_nil)))))))))))))) (pss_one (ps_ret pe_bl))), ?_⟩
  have hl : (ns.map V.int).length = ns.length := List.length_map _
  obtain ⟨j, hj, hj0, hj1⟩ : ∃ j : Int, (if (if ((ns.map V.int).length : Int) > 10 then 10 else ((ns.map V.int).length : Int)) > 1 then (if ((ns.map V.int).length : Int) > 10 then 10 else ((ns.map V.int).length : Int)) else 1) = j ∧ 0 ≤ j ∧ j ≤ 30 := ⟨_, rfl, by split <;> split <;> omega, by split <;> split <;> omega⟩
  refine ⟨_, rfl, a, _, rfl, .inl hS, _, _, rfl, _, _, rfl, j, congrArg (fun z => [V.int z]) hj, by omega, by omega, for_range (lo := 0) (n := j.toNat) (fun i σ H' => (∃ y1 y2 y3 y4 y5 y6 y7 y8 y9 y10 y11, σ = [some (.ref a), y1, y2, y3, y4, y5, y6, y7, y8, y9, y10, y11]) ∧ SqL K H' a (ns.map V.int)) ⟨⟨_, _, _, _, _, _, _, _, _, _, _, rfl⟩, hS⟩ ?_ ?_⟩
  · rintro i σ H0 hi ⟨⟨y1, y2, y3, y4, y5, y6, y7, y8, y9, y10, y11, rfl⟩, hS0⟩
    refine ⟨_, rfl, _, rfl, a, ns, _, rfl, hS0, by omega, fun x => ⟨x, 200, rfl, by decide, by decide, fun p xs H1 s1 hp hx => ?_⟩⟩
    have D1 : Dk H1 p := ⟨xs, hx⟩
    refine ⟨_, rfl, p, 6, rfl, D1, by decide, fun r H2 r0 r1 f2 d2 => ⟨1, r, rfl, rfl, ?_⟩⟩
    have hs1 : 1 ≤ 1 + r := by omega
    have hs6 : 1 + r ≤ 6 := by omega
    refine ⟨_, rfl, _, rfl, _, rfl, p, 3, rfl, d2, by decide, fun m H3 m0 m1 f3 d3 => ⟨1, m, rfl, rfl, p, 1 + r, 1 + m, rfl, d3, hs1, hs6, by omega, by omega, fun v1 c1 H4 f4 d4 t1 k1 e1 => ?_⟩⟩
    refine ⟨_, rfl, _, rfl, _, rfl, p, 3, rfl, d4, by decide, fun m2 H5 n0 n1 f5 d5 => ⟨1, m2, rfl, rfl, p, 1 + r, 1 + m2, rfl, d5, hs1, hs6, by omega, by omega, fun v2 c2 H6 f6 d6 t2 k2 e2 => ?_⟩⟩
    have t1' : Dt (fun b => b ≠ p) H6 v1 c1.dat := t1.keep fun b o h e => f6 b o h (f5 b o h e)
    have g1 : c1.deep ≤ 3 := by omega
    have g2 : c2.deep ≤ 3 := by omega
    have F6 : Fr p H0 H6 := (((((Fr.same s1).trans f2).trans f3).trans f4).trans f5).trans f6
    refine ⟨_, rfl, 1 + r, rfl, ⟨by omega, by omega, by omega, by omega, by omega⟩, fun l hl6 => ?_⟩
    rw [rgV_nV]
    have nlp : l ≠ p := d6.ne hl6
    have sl := same_new hl6 (o := .lst (nV (List.range (1 + r).toNat)))
    have hll := upd_same (H := H6) (a := l) (o := .lst (nV (List.range (1 + r).toNat)))
    have d7 := d6.keep sl
    generalize hH7 : upd H6 l (.lst (nV (List.range (1 + r).toNat))) = H7 at *
    refine ⟨_, rfl, 1 + r, rfl, by omega, by omega, fun D hD => lc_range (lo := 0) (n := (1 + r).toNat) (fun i2 H' => ∃ L os : List Nat, H' l = some (.lst (nV L)) ∧ H' D = some (.lst (nV os)) ∧ (os ++ L).Perm (List.range (1 + r).toNat) ∧ os.length = i2 ∧ Fr p H6 H' ∧ Dk H' p)
      ⟨List.range (1 + r).toNat, [], by rw [upd_ne (ne_of_none hll hD)]; exact hll, upd_same, .refl _, rfl, (Fr.same sl).new (sl.free hD), d7.keep (same_new hD)⟩ ?_ ?_⟩
    · rintro i2 H8 hi2 ⟨L, os, w1, w2, w3, w4, w5, w6⟩
      have hlen := w3.length_eq
      rw [List.length_append, List.length_range] at hlen
      have nDp : D ≠ p := d7.ne hD
      have nDl : D ≠ l := fun e => by rw [e, hll] at hD; cases hD
      have hLl : (nV L).length = L.length := List.length_map _
      refine ⟨rfl, _, rfl, .inl ⟨rfl, _, SqL.of w1⟩, _, rfl, _, rfl, l, _, rfl, .inl (SqL.of w1), p, _, rfl, w6, by omega, fun x H9 x0 x1 f9 d9 => ?_⟩
      obtain ⟨kx, rfl⟩ : ∃ kx : Nat, x = (kx : Int) := ⟨x.toNat, by omega⟩
      have hkx : kx < L.length := by omega
      have hl9 := f9 _ _ nlp w1
      have hD9 := f9 _ _ nDp w2
      refine ⟨l, nV L, kx, kx, .int L[kx], rfl, rfl, hl9, by omega, by omega, PySem.seqIndex_of (by omega) (by omega) |>.trans (by simp), by unfold nV; rw [List.getElem?_map, List.getElem?_eq_getElem hkx]; rfl, ?_⟩
      refine ⟨_, by rw [upd_ne nDl]; exact hD9, ?_, L.eraseIdx kx, os ++ [L[kx]], ?_, ?_, ?_, by simp [w4], ?_, (d9.upd nlp).upd nDp⟩
      · unfold nV
        rw [List.length_map]
        exact Nat.lt_of_le_of_lt (show _ ≤ 1000000 by omega) (by decide)
      · rw [upd_ne (fun e => nDl e.symm), upd_same]
        unfold nV
        rw [map_erase]
      · rw [upd_same]
        unfold nV
        rw [List.map_append]
        rfl
      · refine List.Perm.trans ?_ w3
        rw [List.append_assoc]
        exact List.Perm.append_left _ (erase_permN L kx hkx).symm
      · intro b o hb e
        have eb := w5 b o hb e
        rw [upd_ne (ne_of_none e (sl.free hD)), upd_ne (ne_of_none e hl6)]
        exact f9 b o hb eb
    · rintro H8 ⟨L, os, w1, w2, w3, w4, w5, w6⟩
      have hL0 : L = [] := by
        have hlen := w3.length_eq
        rw [List.length_append, List.length_range, w4] at hlen
        exact List.length_eq_zero_iff.mp (by omega)
      subst hL0
      rw [List.append_nil] at w3
      have nDp : D ≠ p := d7.ne hD
      have t1a : Dt (fun b => b ≠ p) H8 v1 c1.dat := t1'.keep fun b o h e => w5 b o h e
      have t2a : Dt (fun b => b ≠ p) H8 v2 c2.dat := t2.keep fun b o h e => w5 b o h e
      have F8 : Fr p H0 H8 := F6.trans w5
      refine ⟨_, rfl, (by show 2 ≤ sizeLine; decide), fun a1 h1 => ⟨_, rfl, _, rfl, (by show 3 ≤ sizeLine; decide), fun a2 h2 => ⟨_, rfl, _, rfl, (by show 3 ≤ sizeLine; decide), fun a3 h3 => ⟨_, rfl, (by show 2 ≤ sizeLine; decide), fun a4 h4 => ⟨(by show 2 ≤ sizeLine; decide), fun a5 h5 => ⟨(by show 4 ≤ sizeLine; decide), fun cl hcl => ?_⟩⟩⟩⟩⟩⟩
      have z1 := same_new h1 (o := .tup [V.str (Str.ofString "not"), v1])
      have z2 := same_new h2 (o := .tup [V.str (Str.ofString "both"), v1, v2])
      have z3 := same_new h3 (o := .tup [V.str (Str.ofString "either"), v2, v1])
      have z4 := same_new h4 (o := .tup [V.str (Str.ofString "not"), v2])
      have z5 := same_new h5 (o := .tup [V.str (Str.ofString "not"), V.ref a4])
      have z6 := same_new hcl (o := .lst [V.ref a1, V.ref a2, V.ref a3, V.ref a5])
      have b1 := t1a.any
      have b2 := t2a.any
      have M1 : Dt (fun _ => True) _ (.ref a1) (Cd.neg c1).dat := .tup (upd_same (H := H8)) trivial (Nat.le_add_left _ 998) (.cons (.str _) (.cons (b1.same z1) .nil))
      have M2 : Dt (fun _ => True) _ (.ref a2) (Cd.both c1 c2).dat := .tup upd_same trivial (Nat.le_add_left _ 997) (.cons (.str _) (.cons (b1.same (z1.trans z2)) (.cons (b2.same (z1.trans z2)) .nil)))
      have M3 : Dt (fun _ => True) _ (.ref a3) (Cd.either c2 c1).dat := .tup upd_same trivial (Nat.le_add_left _ 997) (.cons (.str _) (.cons (b2.same ((z1.trans z2).trans z3)) (.cons (b1.same ((z1.trans z2).trans z3)) .nil)))
      have M4 : Dt (fun _ => True) _ (.ref a4) (Cd.neg c2).dat := .tup upd_same trivial (Nat.le_add_left _ 998) (.cons (.str _) (.cons (b2.same (((z1.trans z2).trans z3).trans z4)) .nil))
      have M5 : Dt (fun _ => True) _ (.ref a5) (Cd.neg (.neg c2)).dat := .tup upd_same trivial (Nat.le_add_left _ 998) (.cons (.str _) (.cons (M4.same z5) .nil))
      have four : ∀ (i : Nat) x, ([V.ref a1, V.ref a2, V.ref a3, V.ref a5] : List V)[i]? = some x → ∃ c : Cd, Dt (fun _ => True) (upd (upd (upd (upd (upd (upd H8 a1 (.tup [V.str (Str.ofString "not"), v1])) a2 (.tup [V.str (Str.ofString "both"), v1, v2])) a3 (.tup [V.str (Str.ofString "either"), v2, v1])) a4 (.tup [V.str (Str.ofString "not"), v2])) a5 (.tup [V.str (Str.ofString "not"), V.ref a4])) cl (.lst [V.ref a1, V.ref a2, V.ref a3, V.ref a5])) x c.dat ∧ c.ok (1 + r).toNat ∧ c.deep ≤ 5 := by
        intro i x hx
        match i, hx with
        | 0, hx => cases hx; exact ⟨_, M1.same ((((z2.trans z3).trans z4).trans z5).trans z6), k1, by simp only [Cd.deep]; omega⟩
        | 1, hx => cases hx; exact ⟨_, M2.same (((z3.trans z4).trans z5).trans z6), ⟨k1, k2⟩, by simp only [Cd.deep]; omega⟩
        | 2, hx => cases hx; exact ⟨_, M3.same ((z4.trans z5).trans z6), ⟨k2, k1⟩, by simp only [Cd.deep]; omega⟩
        | 3, hx => cases hx; exact ⟨_, M5.same z6, k2, by simp only [Cd.deep]; omega⟩
      have zz := ((((z1.trans z2).trans z3).trans z4).trans z5).trans z6
      have hclX := upd_same (H := upd (upd (upd (upd (upd H8 a1 (.tup [V.str (Str.ofString "not"), v1])) a2 (.tup [V.str (Str.ofString "both"), v1, v2])) a3 (.tup [V.str (Str.ofString "either"), v2, v1])) a4 (.tup [V.str (Str.ofString "not"), v2])) a5 (.tup [V.str (Str.ofString "not"), V.ref a4])) (a := cl) (o := .lst [V.ref a1, V.ref a2, V.ref a3, V.ref a5])
      generalize hH9 : upd (upd (upd (upd (upd (upd H8 a1 (.tup [V.str (Str.ofString "not"), v1])) a2 (.tup [V.str (Str.ofString "both"), v1, v2])) a3 (.tup [V.str (Str.ofString "either"), v2, v1])) a4 (.tup [V.str (Str.ofString "not"), v2])) a5 (.tup [V.str (Str.ofString "not"), V.ref a4])) cl (.lst [V.ref a1, V.ref a2, V.ref a3, V.ref a5]) = H9 at *
      refine ⟨cl, rfl, ⟨_, SqL.of hclX⟩, for_list (xs := [V.ref a1, V.ref a2, V.ref a3, V.ref a5]) (fun i3 σ H' => ∃ y8 y9 y10 y11, σ = [some (.ref a), some (.int (0 + i)), some (.ref p), some (.int (1 + r)), some v1, some v2, some (.ref l), some (.ref D), y8, y9, y10, y11] ∧ Same H9 H') ⟨_, _, _, _, rfl, Same.refl _⟩ (fun i3 σ H' _ ⟨_, _, _, _, _, s⟩ => SqL.of (s _ _ hclX)) ?_ ?_⟩
      · rintro i3 x σ HA hx ⟨y8, y9, y10, y11, rfl, sA⟩
        obtain ⟨c, ct, cok, cd⟩ := four i3 x hx
        refine ⟨_, rfl, _, rfl, x, .int (1 + r), c.dat, .int (1 + r), rfl, ct.same sA, .int _, fun HB sB => ?_⟩
        refine ⟨_, rfl, x, c, rfl, (ct.same sA).same sB, cd, fun HC sC => ⟨_, _, rfl, rfl, rfl, _, rfl, ?_⟩⟩
        have e : isCond c.dat (.int (1 + r)) = decide ((c.deep : Int) < 5) := by
          simp only [isCond, decide_eq_true hs1, decide_eq_true hs6, Bool.and_self, Bool.true_and]
          rw [isC_ok (by omega) c 4 cok]
          exact decide_eq_decide.mpr (by omega)
        exact iteNS (congrArg V.bl e) ⟨_, _, _, _, rfl, (sA.trans sB).trans sC⟩
      · rintro σ HA ⟨y8, y9, y10, y11, rfl, sA⟩
        have s8A := zz.trans sA
        have dA := w6.keep s8A
        have t1b := t1a.same s8A
        have t2b := t2a.same s8A
        have hDA := s8A _ _ w2
        have FA : Fr p H0 HA := F8.trans (Fr.same s8A)
        refine ⟨8, rfl, by decide, by decide, for_range (lo := 0) (n := 8) (fun i4 σ H' => ∃ y8 y9 y10 y11, σ = [some (.ref a), some (.int (0 + i)), some (.ref p), some (.int (1 + r)), some v1, some v2, some (.ref l), some (.ref D), y8, y9, y10, y11] ∧ Fr p HA H' ∧ Dk H' p) ⟨_, _, _, _, rfl, Fr.refl _ _, dA⟩ ?_ ?_⟩
        · rintro i4 σ HB hi4 ⟨z8, z9, z10, z11, rfl, fB, dB⟩
          obtain ⟨mm, hmm, hm0⟩ : ∃ mm : Int, atI [V.int 3, V.int 6, V.int 40] ((0 + (i4 : Int)) % 3) = some (V.int mm) ∧ 0 < mm := by
            rcases (by omega : (0 + (i4 : Int)) % 3 = 0 ∨ (0 + (i4 : Int)) % 3 = 1 ∨ (0 + (i4 : Int)) % 3 = 2) with h | h | h
            · rw [h]; exact ⟨3, at_of (j := 0) rfl rfl, by decide⟩
            · rw [h]; exact ⟨6, at_of (j := 1) rfl rfl, by decide⟩
            · rw [h]; exact ⟨40, at_of (j := 2) rfl rfl, by decide⟩
          refine ⟨_, rfl, 1 + r, rfl, by omega, by omega, fun D2 hD2 => lc_range (lo := 0) (n := (1 + r).toNat) (fun i5 H' => ∃ u : List Int, u.length = i5 ∧ H' D2 = some (.lst (u.map V.int)) ∧ Fr p HB H' ∧ Dk H' p) ⟨[], rfl, upd_same, (Fr.refl p HB).new hD2, dB.keep (same_new hD2)⟩ ?_ ?_⟩
          · rintro i5 HC hi5 ⟨u, u1, u2, u3, u4⟩
            have nD2 : D2 ≠ p := dB.ne hD2
            refine ⟨rfl, _, rfl, (by show 3 ≤ sizeLine; decide), fun l3 hl3 => ⟨_, rfl, _, _, rfl, rfl, (by show (0 : Int) < 3; decide), l3, _, _, V.int mm, rfl, rfl, SqL.of upd_same, hmm, ?_⟩⟩
            have s3 := same_new hl3 (o := .lst [V.int 3, V.int 6, V.int 40])
            refine ⟨p, mm, rfl, u4.keep s3, hm0, fun x HD x0 x1 fD dD => ⟨_, fD _ _ nD2 (s3 _ _ u2), ?_, u ++ [x], by simp [u1], by rw [upd_same, List.map_append]; rfl, ((u3.trans (Fr.same s3)).trans fD).new hD2, dD.upd nD2⟩⟩
            rw [List.length_map]
            exact Nat.lt_of_le_of_lt (show _ ≤ 1000000 by omega) (by decide)
          · rintro HC ⟨u, u1, u2, u3, u4⟩
            have nD2 : D2 ≠ p := dB.ne hD2
            have fC := fB.trans u3
            have T1 : Dt (fun b => b ≠ p) HC v1 c1.dat := t1b.keep fun b o h e => fC b o h e
            have T2 : Dt (fun b => b ≠ p) HC v2 c2.dat := t2b.keep fun b o h e => fC b o h e
            refine ⟨_, rfl, _, rfl, _, rfl, _, rfl, v1, v2, D2, D, c1, c2, u, (1 + r).toNat, os, rfl, T1.any, T2.any, u2, fC _ _ nDp hDA, k1, k2, g1, g2, u1, w3, by omega, fun HD sD => ⟨_, rfl, iteF ?_⟩⟩
            refine ⟨_, rfl, 1 + r, rfl, by omega, by omega, fun D3 hD3 => lc_range (lo := 0) (n := (1 + r).toNat) (fun i6 H' => ∃ w : List Int, w.length = i6 ∧ (∀ x ∈ w, 0 ≤ x ∧ x ≤ 4) ∧ H' D3 = some (.lst (w.map V.int)) ∧ Fr p HD H' ∧ Dk H' p) ⟨[], rfl, (fun _ h => by cases h), upd_same, (Fr.refl p HD).new hD3, (u4.keep sD).keep (same_new hD3)⟩ ?_ ?_⟩
            · rintro i6 HE hi6 ⟨wl, v1', v2', v3, v4, v5⟩
              have nD3 : D3 ≠ p := (u4.keep sD).ne hD3
              refine ⟨rfl, _, rfl, p, 5, rfl, v5, by decide, fun x HF x0 x1 fF dF => ⟨_, fF _ _ nD3 v3, ?_, wl ++ [x], by simp [v1'], ?_, by rw [upd_same, List.map_append]; rfl, (v4.trans fF).new hD3, dF.upd nD3⟩⟩
              · rw [List.length_map]
                exact Nat.lt_of_le_of_lt (show _ ≤ 1000000 by omega) (by decide)
              · intro y hy
                rcases List.mem_append.mp hy with hy | hy
                · exact v2' y hy
                · simp only [List.mem_singleton] at hy
                  omega
            · rintro HE ⟨wl, v1', v2', v3, v4, v5⟩
              refine ⟨_, rfl, D3, D2, wl, u, (1 + r).toNat, rfl, v3, v4 _ _ nD2 (sD _ _ u2), ⟨v1', v2'⟩, u1, by omega, fun HF sF => ⟨_, rfl, iteF ?_⟩⟩
              exact ⟨_, _, _, _, rfl, ((fC.trans (Fr.same sD)).trans v4).trans (Fr.same sF), v5.keep sF⟩
        · rintro σ HB ⟨z8, z9, z10, z11, rfl, fB, dB⟩
          exact ⟨⟨_, _, _, _, _, _, _, _, _, _, _, rfl⟩, (FA.trans fB).seq hp hS0⟩
  · rintro σ H0 ⟨⟨y1, y2, y3, y4, y5, y6, y7, y8, y9, y10, y11, rfl⟩, hS0⟩
    exact q _
end
theorem all_mk {l : PySem.W.OpenLaw} {w : World} {K : PySem.W.Frag} {h : Heap} {mg : Str → Option Value} {fa f0 f1 f2 f3 f4 f5 f6 f7 f8 f9 f10 f11 f12 f13 f14 f15 f16 f17 f18 f19 : Addr} (X : K.In h) (G : h.Ns mainGlobals mg) (hfa : mg "law" = some (.ref fa))
    {od0 an0 od1 an1 od2 an2 od3 an3 od4 an4 od5 an5 od6 an6 od7 an7 od8 an8 od9 an9 od10 an10 od11 an11 od12 an12 od13 an13 od14 an14 od15 an15 od16 an16 od17 an17 od18 an18 od19 an19 : Option Addr} {sl0 sl1 sl2 sl3 sl4 sl5 sl6 sl7 sl8 sl9 sl10 sl11 sl12 sl13 sl14 sl15 sl16 sl17 sl18 sl19 : Array (Option Value)} {oc0 kV0 dc0 pm0 cd0 ct0 oc1 kV1 dc1 pm1 cd1 ct1 oc2 kV2 dc2 pm2 cd2 ct2 oc3 kV3 dc3 pm3 cd3 ct3 oc4 kV4 dc4 pm4 cd4 ct4 oc5 kV5 dc5 pm5 cd5 ct5 oc6 kV6 dc6 pm6 cd6 ct6 oc7 kV7 dc7 pm7 cd7 ct7 oc8 kV8 dc8 pm8 cd8 ct8 oc9 kV9 dc9 pm9 cd9 ct9 oc10 kV10 dc10 pm10 cd10 ct10 oc11 kV11 dc11 pm11 cd11 ct11 oc12 kV12 dc12 pm12 cd12 ct12 oc13 kV13 dc13 pm13 cd13 ct13 oc14 kV14 dc14 pm14 cd14 ct14 oc15 kV15 dc15 pm15 cd15 ct15 oc16 kV16 dc16 pm16 cd16 ct16 oc17 kV17 dc17 pm17 cd17 ct17 oc18 kV18 dc18 pm18 cd18 ct18 oc19 kV19 dc19 pm19 cd19 ct19 : Value}
    {tk_MOST_STATES : Tok}
    {tk_MOST_WITHIN : Tok}
    {tk_MOST_WEIGHT : Tok}
    {tk_MOST_BOUND : Tok}
    {tk_MOST_M : Tok}
    {a_MADE_OF_OTHERS : Addr} {es_MADE_OF_OTHERS : Array DictEntry} {n_MADE_OF_OTHERS : Nat}
    (ak_MOST_STATES : PySem.W.nsIn K mainGlobals "MOST_STATES" = some (some (.int 6 tk_MOST_STATES)))
    (ak_MOST_WITHIN : PySem.W.nsIn K mainGlobals "MOST_WITHIN" = some (some (.int 4 tk_MOST_WITHIN)))
    (ak_MOST_WEIGHT : PySem.W.nsIn K mainGlobals "MOST_WEIGHT" = some (some (.int 4 tk_MOST_WEIGHT)))
    (ak_MOST_BOUND : PySem.W.nsIn K mainGlobals "MOST_BOUND" = some (some (.int 4 tk_MOST_BOUND)))
    (ak_MOST_M : PySem.W.nsIn K mainGlobals "MOST_M" = some (some (.int 4 tk_MOST_M)))
    (ak_MADE_OF_OTHERS : PySem.W.nsIn K mainGlobals "MADE_OF_OTHERS" = some (some (.ref a_MADE_OF_OTHERS)))
    (lk_MADE_OF_OTHERS : K.lookup a_MADE_OF_OTHERS = some ⟨.type "dict", none, .dict es_MADE_OF_OTHERS n_MADE_OF_OTHERS, #[]⟩) (kk_MADE_OF_OTHERS : PySem.W.KeysLit w.params es_MADE_OF_OTHERS.toList) (ek_MADE_OF_OTHERS : Ents es_MADE_OF_OTHERS.toList [(Str.ofString "not", 2), (Str.ofString "both", 3), (Str.ofString "either", 3)]) (sk_MADE_OF_OTHERS : (a_MADE_OF_OTHERS == sysModules) = false)
    (a0 : PySem.W.nsIn K mainGlobals "is_whole" = some (some (.ref f0))) (l0 : K.lookup f0 = some ⟨oc0, od0, .func (PySem.W.fnOf "is_whole" "is_whole" (defArgs s_is_whole) (defBody s_is_whole) (defScope s_is_whole) .none kV0 dc0 pm0 an0 cd0 ct0), sl0⟩) (c0 : PySem.W.codeIn K cd0 "is_whole" = true) (k0 : PySem.W.keepIn K (.ref f0) = true)
    (a1 : PySem.W.nsIn K mainGlobals "is_whole_within" = some (some (.ref f1))) (l1 : K.lookup f1 = some ⟨oc1, od1, .func (PySem.W.fnOf "is_whole_within" "is_whole_within" (defArgs s_is_whole_within) (defBody s_is_whole_within) (defScope s_is_whole_within) .none kV1 dc1 pm1 an1 cd1 ct1), sl1⟩) (c1 : PySem.W.codeIn K cd1 "is_whole_within" = true) (k1 : PySem.W.keepIn K (.ref f1) = true)
    (a2 : PySem.W.nsIn K mainGlobals "is_condition" = some (some (.ref f2))) (l2 : K.lookup f2 = some ⟨oc2, od2, .func (PySem.W.fnOf "is_condition" "is_condition" (defArgs s_is_condition) (defBody s_is_condition) (defScope s_is_condition) .none kV2 dc2 pm2 an2 cd2 ct2), sl2⟩) (c2 : PySem.W.codeIn K cd2 "is_condition" = true) (k2 : PySem.W.keepIn K (.ref f2) = true)
    (a3 : PySem.W.nsIn K mainGlobals "_is_condition_of" = some (some (.ref f3))) (l3 : K.lookup f3 = some ⟨oc3, od3, .func (PySem.W.fnOf "_is_condition_of" "_is_condition_of" (defArgs s__is_condition_of) (defBody s__is_condition_of) (defScope s__is_condition_of) .none kV3 dc3 pm3 an3 cd3 ct3), sl3⟩) (c3 : PySem.W.codeIn K cd3 "_is_condition_of" = true) (k3 : PySem.W.keepIn K (.ref f3) = true)
    (a4 : PySem.W.nsIn K mainGlobals "_is_least" = some (some (.ref f4))) (l4 : K.lookup f4 = some ⟨oc4, od4, .func (PySem.W.fnOf "_is_least" "_is_least" (defArgs s__is_least) (defBody s__is_least) (defScope s__is_least) .none kV4 dc4 pm4 an4 cd4 ct4), sl4⟩) (c4 : PySem.W.codeIn K cd4 "_is_least" = true) (k4 : PySem.W.keepIn K (.ref f4) = true)
    (a5 : PySem.W.nsIn K mainGlobals "_is_turns" = some (some (.ref f5))) (l5 : K.lookup f5 = some ⟨oc5, od5, .func (PySem.W.fnOf "_is_turns" "_is_turns" (defArgs s__is_turns) (defBody s__is_turns) (defScope s__is_turns) .none kV5 dc5 pm5 an5 cd5 ct5), sl5⟩) (c5 : PySem.W.codeIn K cd5 "_is_turns" = true) (k5 : PySem.W.keepIn K (.ref f5) = true)
    (a6 : PySem.W.nsIn K mainGlobals "_are_weights" = some (some (.ref f6))) (l6 : K.lookup f6 = some ⟨oc6, od6, .func (PySem.W.fnOf "_are_weights" "_are_weights" (defArgs s__are_weights) (defBody s__are_weights) (defScope s__are_weights) .none kV6 dc6 pm6 an6 cd6 ct6), sl6⟩) (c6 : PySem.W.codeIn K cd6 "_are_weights" = true) (k6 : PySem.W.keepIn K (.ref f6) = true)
    (a7 : PySem.W.nsIn K mainGlobals "condition_holds" = some (some (.ref f7))) (l7 : K.lookup f7 = some ⟨oc7, od7, .func (PySem.W.fnOf "condition_holds" "condition_holds" (defArgs s_condition_holds) (defBody s_condition_holds) (defScope s_condition_holds) .none kV7 dc7 pm7 an7 cd7 ct7), sl7⟩) (c7 : PySem.W.codeIn K cd7 "condition_holds" = true) (k7 : PySem.W.keepIn K (.ref f7) = true)
    (a8 : PySem.W.nsIn K mainGlobals "_weighed" = some (some (.ref f8))) (l8 : K.lookup f8 = some ⟨oc8, od8, .func (PySem.W.fnOf "_weighed" "_weighed" (defArgs s__weighed) (defBody s__weighed) (defScope s__weighed) .none kV8 dc8 pm8 an8 cd8 ct8), sl8⟩) (c8 : PySem.W.codeIn K cd8 "_weighed" = true) (k8 : PySem.W.keepIn K (.ref f8) = true)
    (a9 : PySem.W.nsIn K mainGlobals "_law_cell_at" = some (some (.ref f9))) (l9 : K.lookup f9 = some ⟨oc9, od9, .func (PySem.W.fnOf "_law_cell_at" "_law_cell_at" (defArgs s__law_cell_at) (defBody s__law_cell_at) (defScope s__law_cell_at) .none kV9 dc9 pm9 an9 cd9 ct9), sl9⟩) (c9 : PySem.W.codeIn K cd9 "_law_cell_at" = true) (k9 : PySem.W.keepIn K (.ref f9) = true)
    (a10 : PySem.W.nsIn K mainGlobals "_law_numbers" = some (some (.ref f10))) (l10 : K.lookup f10 = some ⟨oc10, od10, .func (PySem.W.fnOf "_law_numbers" "_law_numbers" (defArgs s__law_numbers) (defBody s__law_numbers) (defScope s__law_numbers) .none kV10 dc10 pm10 an10 cd10 ct10), sl10⟩) (c10 : PySem.W.codeIn K cd10 "_law_numbers" = true) (k10 : PySem.W.keepIn K (.ref f10) = true)
    (a11 : PySem.W.nsIn K mainGlobals "_law_deck" = some (some (.ref f11))) (l11 : K.lookup f11 = some ⟨oc11, od11, .func (PySem.W.fnOf "_law_deck" "_law_deck" (defArgs s__law_deck) (defBody s__law_deck) (defScope s__law_deck) .none kV11 dc11 pm11 an11 cd11 ct11), sl11⟩) (c11 : PySem.W.codeIn K cd11 "_law_deck" = true) (k11 : PySem.W.keepIn K (.ref f11) = true)
    (a12 : PySem.W.nsIn K mainGlobals "_law_take" = some (some (.ref f12))) (l12 : K.lookup f12 = some ⟨oc12, od12, .func (PySem.W.fnOf "_law_take" "_law_take" (defArgs s__law_take) (defBody s__law_take) (defScope s__law_take) .none kV12 dc12 pm12 an12 cd12 ct12), sl12⟩) (c12 : PySem.W.codeIn K cd12 "_law_take" = true) (k12 : PySem.W.keepIn K (.ref f12) = true)
    (a13 : PySem.W.nsIn K mainGlobals "_law_weights" = some (some (.ref f13))) (l13 : K.lookup f13 = some ⟨oc13, od13, .func (PySem.W.fnOf "_law_weights" "_law_weights" (defArgs s__law_weights) (defBody s__law_weights) (defScope s__law_weights) .none kV13 dc13 pm13 an13 cd13 ct13), sl13⟩) (c13 : PySem.W.codeIn K cd13 "_law_weights" = true) (k13 : PySem.W.keepIn K (.ref f13) = true)
    (a14 : PySem.W.nsIn K mainGlobals "_law_condition" = some (some (.ref f14))) (l14 : K.lookup f14 = some ⟨oc14, od14, .func (PySem.W.fnOf "_law_condition" "_law_condition" (defArgs s__law_condition) (defBody s__law_condition) (defScope s__law_condition) .none kV14 dc14 pm14 an14 cd14 ct14), sl14⟩) (c14 : PySem.W.codeIn K cd14 "_law_condition" = true) (k14 : PySem.W.keepIn K (.ref f14) = true)
    (a15 : PySem.W.nsIn K mainGlobals "_law_deep" = some (some (.ref f15))) (l15 : K.lookup f15 = some ⟨oc15, od15, .func (PySem.W.fnOf "_law_deep" "_law_deep" (defArgs s__law_deep) (defBody s__law_deep) (defScope s__law_deep) .none kV15 dc15 pm15 an15 cd15 ct15), sl15⟩) (c15 : PySem.W.codeIn K cd15 "_law_deep" = true) (k15 : PySem.W.keepIn K (.ref f15) = true)
    (a16 : PySem.W.nsIn K mainGlobals "_law_turned" = some (some (.ref f16))) (l16 : K.lookup f16 = some ⟨oc16, od16, .func (PySem.W.fnOf "_law_turned" "_law_turned" (defArgs s__law_turned) (defBody s__law_turned) (defScope s__law_turned) .none kV16 dc16 pm16 an16 cd16 ct16), sl16⟩) (c16 : PySem.W.codeIn K cd16 "_law_turned" = true) (k16 : PySem.W.keepIn K (.ref f16) = true)
    (a17 : PySem.W.nsIn K mainGlobals "_law_sums_right" = some (some (.ref f17))) (l17 : K.lookup f17 = some ⟨oc17, od17, .func (PySem.W.fnOf "_law_sums_right" "_law_sums_right" (defArgs s__law_sums_right) (defBody s__law_sums_right) (defScope s__law_sums_right) .none kV17 dc17 pm17 an17 cd17 ct17), sl17⟩) (c17 : PySem.W.codeIn K cd17 "_law_sums_right" = true) (k17 : PySem.W.keepIn K (.ref f17) = true)
    (a18 : PySem.W.nsIn K mainGlobals "_law_pair_right" = some (some (.ref f18))) (l18 : K.lookup f18 = some ⟨oc18, od18, .func (PySem.W.fnOf "_law_pair_right" "_law_pair_right" (defArgs s__law_pair_right) (defBody s__law_pair_right) (defScope s__law_pair_right) .none kV18 dc18 pm18 an18 cd18 ct18), sl18⟩) (c18 : PySem.W.codeIn K cd18 "_law_pair_right" = true) (k18 : PySem.W.keepIn K (.ref f18) = true)
    (a19 : PySem.W.nsIn K mainGlobals "law" = some (some (.ref f19))) (l19 : K.lookup f19 = some ⟨oc19, od19, .func (PySem.W.fnOf "law" "law" (defArgs s_law) (defBody s_law) (defScope s_law) .none kV19 dc19 pm19 an19 cd19 ct19), sl19⟩) (c19 : PySem.W.codeIn K cd19 "law" = true) (k19 : PySem.W.keepIn K (.ref f19) = true)
    (z_all : PySem.W.nsIn K mainGlobals "all" = some none)
    (z_bool : PySem.W.nsIn K mainGlobals "bool" = some none)
    (z_int : PySem.W.nsIn K mainGlobals "int" = some none)
    (z_isinstance : PySem.W.nsIn K mainGlobals "isinstance" = some none)
    (z_len : PySem.W.nsIn K mainGlobals "len" = some none)
    (z_list : PySem.W.nsIn K mainGlobals "list" = some none)
    (z_max : PySem.W.nsIn K mainGlobals "max" = some none)
    (z_min : PySem.W.nsIn K mainGlobals "min" = some none)
    (z_range : PySem.W.nsIn K mainGlobals "range" = some none)
    (z_str : PySem.W.nsIn K mainGlobals "str" = some none)
    (z_sum : PySem.W.nsIn K mainGlobals "sum" = some none)
    (z_tuple : PySem.W.nsIn K mainGlobals "tuple" = some none)
    (z_zip : PySem.W.nsIn K mainGlobals "zip" = some none)
    : ∃ fd : FuncData, (∀ (s : Shared) (v : Value), BindsTo s fd ⟨[v], []⟩ [("script", v)]) ∧ ∀ base : Heap, K.In base → base.Ns mainGlobals mg → FnOk l.prog w K mg base CX0 12 fa fd ["script"] (spLaw K) := by
  have e := hfa.symm.trans (PySem.W.mg_of X G a19)
  cases e
  have F0 := fun_mk (st := s_is_whole) l0 c0 k0
  have b0 := F0.binds (ps := ["thing"]) fun _ _ _ _ _ _ us hl => match us, hl with | [_], _ => rfl
  have F1 := fun_mk (st := s_is_whole_within) l1 c1 k1
  have b1 := F1.binds (ps := ["thing", "low", "high"]) fun _ _ _ _ _ _ us hl => match us, hl with | [_, _, _], _ => rfl
  have F2 := fun_mk (st := s_is_condition) l2 c2 k2
  have b2 := F2.binds (ps := ["thing", "s"]) fun _ _ _ _ _ _ us hl => match us, hl with | [_, _], _ => rfl
  have F3 := fun_mk (st := s__is_condition_of) l3 c3 k3
  have b3 := F3.binds (ps := ["thing", "s", "levels"]) fun _ _ _ _ _ _ us hl => match us, hl with | [_, _, _], _ => rfl
  have F4 := fun_mk (st := s__is_least) l4 c4 k4
  have b4 := F4.binds (ps := ["thing", "s"]) fun _ _ _ _ _ _ us hl => match us, hl with | [_, _], _ => rfl
  have F5 := fun_mk (st := s__is_turns) l5 c5 k5
  have b5 := F5.binds (ps := ["thing", "s"]) fun _ _ _ _ _ _ us hl => match us, hl with | [_, _], _ => rfl
  have F6 := fun_mk (st := s__are_weights) l6 c6 k6
  have b6 := F6.binds (ps := ["thing", "s"]) fun _ _ _ _ _ _ us hl => match us, hl with | [_, _], _ => rfl
  have F7 := fun_mk (st := s_condition_holds) l7 c7 k7
  have b7 := F7.binds (ps := ["condition", "numbers"]) fun _ _ _ _ _ _ us hl => match us, hl with | [_, _], _ => rfl
  have F8 := fun_mk (st := s__weighed) l8 c8 k8
  have b8 := F8.binds (ps := ["weights", "numbers"]) fun _ _ _ _ _ _ us hl => match us, hl with | [_, _], _ => rfl
  have F9 := fun_mk (st := s__law_cell_at) l9 c9 k9
  have b9 := F9.binds (ps := ["script", "k"]) fun _ _ _ _ _ _ us hl => match us, hl with | [_, _], _ => rfl
  have F10 := fun_mk (st := s__law_numbers) l10 c10 k10
  have b10 := F10.binds (ps := ["cell", "many"]) fun _ _ _ _ _ _ us hl => match us, hl with | [_, _], _ => rfl
  have F11 := fun_mk (st := s__law_deck) l11 c11 k11
  have b11 := F11.binds (ps := ["cell", "many"]) fun _ _ _ _ _ _ us hl => match us, hl with | [_, _], _ => rfl
  have F12 := fun_mk (st := s__law_take) l12 c12 k12
  have b12 := F12.binds (ps := ["deck", "many"]) fun _ _ _ _ _ _ us hl => match us, hl with | [_, _], _ => rfl
  have F13 := fun_mk (st := s__law_weights) l13 c13 k13
  have b13 := F13.binds (ps := ["deck", "s"]) fun _ _ _ _ _ _ us hl => match us, hl with | [_, _], _ => rfl
  have F14 := fun_mk (st := s__law_condition) l14 c14 k14
  have b14 := F14.binds (ps := ["deck", "s", "deep"]) fun _ _ _ _ _ _ us hl => match us, hl with | [_, _, _], _ => rfl
  have F15 := fun_mk (st := s__law_deep) l15 c15 k15
  have b15 := F15.binds (ps := ["condition"]) fun _ _ _ _ _ _ us hl => match us, hl with | [_], _ => rfl
  have F16 := fun_mk (st := s__law_turned) l16 c16 k16
  have b16 := F16.binds (ps := ["condition", "order"]) fun _ _ _ _ _ _ us hl => match us, hl with | [_, _], _ => rfl
  have F17 := fun_mk (st := s__law_sums_right) l17 c17 k17
  have b17 := F17.binds (ps := ["weights", "numbers"]) fun _ _ _ _ _ _ us hl => match us, hl with | [_, _], _ => rfl
  have F18 := fun_mk (st := s__law_pair_right) l18 c18 k18
  have b18 := F18.binds (ps := ["one", "other", "numbers", "order"]) fun _ _ _ _ _ _ us hl => match us, hl with | [_, _, _, _], _ => rfl
  have F19 := fun_mk (st := s_law) l19 c19 k19
  have b19 := F19.binds (ps := ["script"]) fun _ _ _ _ _ _ us hl => match us, hl with | [_], _ => rfl
  let T : Txt K mg := ⟨f0, _, F0, b0, PySem.W.mg_of X G a0, f1, _, F1, b1, PySem.W.mg_of X G a1, f2, _, F2, b2, PySem.W.mg_of X G a2, f3, _, F3, b3, PySem.W.mg_of X G a3, f4, _, F4, b4, PySem.W.mg_of X G a4, f5, _, F5, b5, PySem.W.mg_of X G a5, f6, _, F6, b6, PySem.W.mg_of X G a6, f7, _, F7, b7, PySem.W.mg_of X G a7, f8, _, F8, b8, PySem.W.mg_of X G a8, f9, _, F9, b9, PySem.W.mg_of X G a9, f10, _, F10, b10, PySem.W.mg_of X G a10, f11, _, F11, b11, PySem.W.mg_of X G a11, f12, _, F12, b12, PySem.W.mg_of X G a12, f13, _, F13, b13, PySem.W.mg_of X G a13, f14, _, F14, b14, PySem.W.mg_of X G a14, f15, _, F15, b15, PySem.W.mg_of X G a15, f16, _, F16, b16, PySem.W.mg_of X G a16, f17, _, F17, b17, PySem.W.mg_of X G a17, f18, _, F18, b18, PySem.W.mg_of X G a18, fa, _, F19, b19, PySem.W.mg_of X G a19, _, PySem.W.mg_of X G ak_MOST_STATES, _, PySem.W.mg_of X G ak_MOST_WITHIN, _, PySem.W.mg_of X G ak_MOST_WEIGHT, _, PySem.W.mg_of X G ak_MOST_BOUND, _, PySem.W.mg_of X G ak_MOST_M, _, PySem.W.mg_of X G ak_MADE_OF_OTHERS, PySem.W.mg_none_of X G z_all, PySem.W.mg_none_of X G z_bool, PySem.W.mg_none_of X G z_int, PySem.W.mg_none_of X G z_isinstance, PySem.W.mg_none_of X G z_len, PySem.W.mg_none_of X G z_list, PySem.W.mg_none_of X G z_max, PySem.W.mg_none_of X G z_min, PySem.W.mg_none_of X G z_range, PySem.W.mg_none_of X G z_str, PySem.W.mg_none_of X G z_sum, PySem.W.mg_none_of X G z_tuple, PySem.W.mg_none_of X G z_zip⟩
  exact ⟨PySem.W.fnOf "law" "law" (defArgs s_law) (defBody s_law) (defScope s_law) .none kV19 dc19 pm19 an19 cd19 ct19, fun s v => .of_eq rfl, fun base _ _ => ok_law T ⟨sk_MADE_OF_OTHERS, _, _, lk_MADE_OF_OTHERS, kk_MADE_OF_OTHERS, ek_MADE_OF_OTHERS⟩⟩
end My
open PySem PySem.W PyProof.Rows
set_option maxRecDepth 100000 in
set_option maxHeartbeats 0 in
theorem PySem.Challenge.cw_heaptrees_k21_whole_conditions_together_holds : PySem.Challenge.rw_heaptrees_k21_whole_conditions_together.Holds := by
  w_on; o_law; k_head; (case hw => w_witness2)
  k_fill
  refine L2.walk_of (l := PySem.Challenge.rw_heaptrees_k21_whole_conditions_together) (n := 63) (k := 12) (x := "script") (CX := fun _ => L2.CX0) (sp := fun w => My.spLaw _) rfl (by decide) rfl ⟨rfl, by decide, by decide⟩ (fun w h Y => PySem.W.kIn_of Y) ?F (fun _ _ a ns hl _ hS => ⟨a, ns, rfl, hS, hl, fun _ => rfl⟩) (fun _ _ _ _ _ h => h)
  case F =>
    intro w mg fa h KX G hmg
    refine' My.all_mk KX G hmg ?ak_MOST_STATES ?ak_MOST_WITHIN ?ak_MOST_WEIGHT ?ak_MOST_BOUND ?ak_MOST_M ?ak_MADE_OF_OTHERS ?lk_MADE_OF_OTHERS ?kk_MADE_OF_OTHERS ?ek_MADE_OF_OTHERS ?sk_MADE_OF_OTHERS ?a0 ?l0 ?c0 ?k0 ?a1 ?l1 ?c1 ?k1 ?a2 ?l2 ?c2 ?k2 ?a3 ?l3 ?c3 ?k3 ?a4 ?l4 ?c4 ?k4 ?a5 ?l5 ?c5 ?k5 ?a6 ?l6 ?c6 ?k6 ?a7 ?l7 ?c7 ?k7 ?a8 ?l8 ?c8 ?k8 ?a9 ?l9 ?c9 ?k9 ?a10 ?l10 ?c10 ?k10 ?a11 ?l11 ?c11 ?k11 ?a12 ?l12 ?c12 ?k12 ?a13 ?l13 ?c13 ?k13 ?a14 ?l14 ?c14 ?k14 ?a15 ?l15 ?c15 ?k15 ?a16 ?l16 ?c16 ?k16 ?a17 ?l17 ?c17 ?k17 ?a18 ?l18 ?c18 ?k18 ?a19 ?l19 ?c19 ?k19 ?z_all ?z_bool ?z_int ?z_isinstance ?z_len ?z_list ?z_max ?z_min ?z_range ?z_str ?z_sum ?z_tuple ?z_zip
    (case ak_MOST_STATES => k_is)
    (case ak_MOST_WITHIN => k_is)
    (case ak_MOST_WEIGHT => k_is)
    (case ak_MOST_BOUND => k_is)
    (case ak_MOST_M => k_is)
    (case ak_MADE_OF_OTHERS => k_is)
    (case lk_MADE_OF_OTHERS => k_is)
    (case kk_MADE_OF_OTHERS => k_keys)
    (case ek_MADE_OF_OTHERS => exact ⟨⟨_, _, _, rfl⟩, ⟨⟨_, _, _, rfl⟩, ⟨⟨_, _, _, rfl⟩, trivial⟩⟩⟩)
    (case sk_MADE_OF_OTHERS => rfl)
    (case a0 => k_is)
    (case l0 => k_is)
    (case c0 => k_is)
    (case k0 => k_is)
    (case a1 => k_is)
    (case l1 => k_is)
    (case c1 => k_is)
    (case k1 => k_is)
    (case a2 => k_is)
    (case l2 => k_is)
    (case c2 => k_is)
    (case k2 => k_is)
    (case a3 => k_is)
    (case l3 => k_is)
    (case c3 => k_is)
    (case k3 => k_is)
    (case a4 => k_is)
    (case l4 => k_is)
    (case c4 => k_is)
    (case k4 => k_is)
    (case a5 => k_is)
    (case l5 => k_is)
    (case c5 => k_is)
    (case k5 => k_is)
    (case a6 => k_is)
    (case l6 => k_is)
    (case c6 => k_is)
    (case k6 => k_is)
    (case a7 => k_is)
    (case l7 => k_is)
    (case c7 => k_is)
    (case k7 => k_is)
    (case a8 => k_is)
    (case l8 => k_is)
    (case c8 => k_is)
    (case k8 => k_is)
    (case a9 => k_is)
    (case l9 => k_is)
    (case c9 => k_is)
    (case k9 => k_is)
    (case a10 => k_is)
    (case l10 => k_is)
    (case c10 => k_is)
    (case k10 => k_is)
    (case a11 => k_is)
    (case l11 => k_is)
    (case c11 => k_is)
    (case k11 => k_is)
    (case a12 => k_is)
    (case l12 => k_is)
    (case c12 => k_is)
    (case k12 => k_is)
    (case a13 => k_is)
    (case l13 => k_is)
    (case c13 => k_is)
    (case k13 => k_is)
    (case a14 => k_is)
    (case l14 => k_is)
    (case c14 => k_is)
    (case k14 => k_is)
    (case a15 => k_is)
    (case l15 => k_is)
    (case c15 => k_is)
    (case k15 => k_is)
    (case a16 => k_is)
    (case l16 => k_is)
    (case c16 => k_is)
    (case k16 => k_is)
    (case a17 => k_is)
    (case l17 => k_is)
    (case c17 => k_is)
    (case k17 => k_is)
    (case a18 => k_is)
    (case l18 => k_is)
    (case c18 => k_is)
    (case k18 => k_is)
    (case a19 => k_is)
    (case l19 => k_is)
    (case c19 => k_is)
    (case k19 => k_is)
    (case z_all => k_is)
    (case z_bool => k_is)
    (case z_int => k_is)
    (case z_isinstance => k_is)
    (case z_len => k_is)
    (case z_list => k_is)
    (case z_max => k_is)
    (case z_min => k_is)
    (case z_range => k_is)
    (case z_str => k_is)
    (case z_sum => k_is)
    (case z_tuple => k_is)
    (case z_zip => k_is)
#print axioms PySem.Challenge.cw_heaptrees_k21_whole_conditions_together_holds
