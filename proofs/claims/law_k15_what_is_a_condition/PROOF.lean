
import PyProof.Rows.All
import Wide.All
import OpenK.AllK
import Wide.FinOn
import HandS.ForMost
import HandS.Wide
import HandS.IsInst
import HandS.Flow
import HandS.Style
import HandS.Codes
import HandS.Lambda
import HandS.EndTab
import HandS.SortKw
import HandS.FStr
import HandS.NoneIn
import HandS.More
import HandS.Zip
import HandS.Conv
import HandS.TupAny
import HandS.RaiseMore
import HandS.Walk
import HandS.Iter
import HandS.Dict
import PyProof.StrLawsRepr
import KE.SortKeyHeap
import PySem.Challenge.RW_heaptrees_k15_what_is_a_condition
set_option Elab.async false
set_option linter.all false
set_option maxRecDepth 100000
set_option maxHeartbeats 4000000
namespace My
open PySem PySem.Spec PyProof.Rows L2
def topS (i : Nat) : Stmt := PySem.Challenge.pw_heaptrees_k15_what_is_a_condition.main.body.getD i (.Pass ⟨0, 0, 0, 0⟩)
abbrev s_is_whole : Stmt := topS 1
theorem sc_is_whole : FnScope ["thing"] ["thing"] (defScope s_is_whole) := ⟨rfl, rfl, rfl, by decide +kernel, rfl, by decide +kernel, by decide +kernel⟩
abbrev s_is_whole_within : Stmt := topS 2
theorem sc_is_whole_within : FnScope ["thing", "low", "high"] ["thing", "low", "high"] (defScope s_is_whole_within) := ⟨rfl, rfl, rfl, by decide +kernel, rfl, by decide +kernel, by decide +kernel⟩
abbrev s_is_condition : Stmt := topS 10
theorem sc_is_condition : FnScope ["thing", "s"] ["thing", "s"] (defScope s_is_condition) := ⟨rfl, rfl, rfl, by decide +kernel, rfl, by decide +kernel, by decide +kernel⟩
abbrev s__is_condition_of : Stmt := topS 11
theorem sc__is_condition_of : FnScope ["thing", "s", "levels", "word", "part"] ["thing", "s", "levels"] (defScope s__is_condition_of) := ⟨rfl, rfl, rfl, by decide +kernel, rfl, by decide +kernel, by decide +kernel⟩
abbrev s__is_least : Stmt := topS 12
theorem sc__is_least : FnScope ["thing", "s"] ["thing", "s"] (defScope s__is_least) := ⟨rfl, rfl, rfl, by decide +kernel, rfl, by decide +kernel, by decide +kernel⟩
abbrev s__is_turns : Stmt := topS 13
theorem sc__is_turns : FnScope ["thing", "s"] ["thing", "s"] (defScope s__is_turns) := ⟨rfl, rfl, rfl, by decide +kernel, rfl, by decide +kernel, by decide +kernel⟩
abbrev s__are_weights : Stmt := topS 14
theorem sc__are_weights : FnScope ["thing", "s", "weight"] ["thing", "s"] (defScope s__are_weights) := ⟨rfl, rfl, rfl, by decide +kernel, rfl, by decide +kernel, by decide +kernel⟩
abbrev s__law_cell_at : Stmt := topS 16
theorem sc__law_cell_at : FnScope ["script", "k"] ["script", "k"] (defScope s__law_cell_at) := ⟨rfl, rfl, rfl, by decide +kernel, rfl, by decide +kernel, by decide +kernel⟩
abbrev s__law_numbers : Stmt := topS 17
theorem sc__law_numbers : FnScope ["cell", "many", "found", "rest", "stir", "k", "again"] ["cell", "many"] (defScope s__law_numbers) := ⟨rfl, rfl, rfl, by decide +kernel, rfl, by decide +kernel, by decide +kernel⟩
abbrev s__law_deck : Stmt := topS 18
theorem sc__law_deck : FnScope ["cell", "many"] ["cell", "many"] (defScope s__law_deck) := ⟨rfl, rfl, rfl, by decide +kernel, rfl, by decide +kernel, by decide +kernel⟩
abbrev s__law_take : Stmt := topS 19
theorem sc__law_take : FnScope ["deck", "many"] ["deck", "many"] (defScope s__law_take) := ⟨rfl, rfl, rfl, by decide +kernel, rfl, by decide +kernel, by decide +kernel⟩
abbrev s__law_weights : Stmt := topS 20
theorem sc__law_weights : FnScope ["deck", "s", "most", "k"] ["deck", "s"] (defScope s__law_weights) := ⟨rfl, rfl, rfl, by decide +kernel, rfl, by decide +kernel, by decide +kernel⟩
abbrev s__law_condition : Stmt := topS 21
theorem sc__law_condition : FnScope ["deck", "s", "deep", "way", "m", "one"] ["deck", "s", "deep"] (defScope s__law_condition) := ⟨rfl, rfl, rfl, by decide +kernel, rfl, by decide +kernel, by decide +kernel⟩
abbrev s__law_copy : Stmt := topS 22
theorem sc__law_copy : FnScope ["thing", "found", "key", "one"] ["thing"] (defScope s__law_copy) := ⟨rfl, rfl, rfl, by decide +kernel, rfl, by decide +kernel, by decide +kernel⟩
abbrev s__law_whole : Stmt := topS 23
theorem sc__law_whole : FnScope ["thing", "least", "most"] ["thing", "least", "most"] (defScope s__law_whole) := ⟨rfl, rfl, rfl, by decide +kernel, rfl, by decide +kernel, by decide +kernel⟩
abbrev s__law_is_condition : Stmt := topS 24
theorem sc__law_is_condition : FnScope ["thing", "s", "deep", "inner", "one"] ["thing", "s", "deep"] (defScope s__law_is_condition) := ⟨rfl, rfl, rfl, by decide +kernel, rfl, by decide +kernel, by decide +kernel⟩
abbrev s__law_odd : Stmt := topS 25
theorem sc__law_odd : FnScope ["deck"] ["deck"] (defScope s__law_odd) := ⟨rfl, rfl, rfl, by decide +kernel, rfl, by decide +kernel, by decide +kernel⟩
abbrev s__law_bad_sum : Stmt := topS 26
theorem sc__law_bad_sum : FnScope ["deck", "thing", "at", "weights", "place", "rows"] ["deck", "thing"] (defScope s__law_bad_sum) := ⟨rfl, rfl, rfl, by decide +kernel, rfl, by decide +kernel, by decide +kernel⟩
abbrev s__law_spoilt : Stmt := topS 27
theorem sc__law_spoilt : FnScope ["deck", "thing", "way", "some", "at"] ["deck", "thing"] (defScope s__law_spoilt) := ⟨rfl, rfl, rfl, by decide +kernel, rfl, by decide +kernel, by decide +kernel⟩
abbrev s_law : Stmt := topS 28
theorem sc_law : FnScope ["script", "k", "deck", "s", "thing", "things", "one", "many", "handed", "due", "found", "some", "turn"] ["script"] (defScope s_law) := ⟨rfl, rfl, rfl, by decide +kernel, rfl, by decide +kernel, by decide +kernel⟩
structure Txt (K : PySem.W.Frag) (mg : Str → Option Value) where
  f_is_whole : Addr
  d_is_whole : FuncData
  F_is_whole : Fun K "is_whole" "is_whole" s_is_whole f_is_whole d_is_whole
  b_is_whole : Binds K d_is_whole ["thing"] []
  m_is_whole : mg "is_whole" = some (.ref f_is_whole)
  f_is_whole_within : Addr
  d_is_whole_within : FuncData
  F_is_whole_within : Fun K "is_whole_within" "is_whole_within" s_is_whole_within f_is_whole_within d_is_whole_within
  b_is_whole_within : Binds K d_is_whole_within ["thing", "low", "high"] []
  m_is_whole_within : mg "is_whole_within" = some (.ref f_is_whole_within)
  f_is_condition : Addr
  d_is_condition : FuncData
  F_is_condition : Fun K "is_condition" "is_condition" s_is_condition f_is_condition d_is_condition
  b_is_condition : Binds K d_is_condition ["thing", "s"] []
  m_is_condition : mg "is_condition" = some (.ref f_is_condition)
  f__is_condition_of : Addr
  d__is_condition_of : FuncData
  F__is_condition_of : Fun K "_is_condition_of" "_is_condition_of" s__is_condition_of f__is_condition_of d__is_condition_of
  b__is_condition_of : Binds K d__is_condition_of ["thing", "s", "levels"] []
  m__is_condition_of : mg "_is_condition_of" = some (.ref f__is_condition_of)
  f__is_least : Addr
  d__is_least : FuncData
  F__is_least : Fun K "_is_least" "_is_least" s__is_least f__is_least d__is_least
  b__is_least : Binds K d__is_least ["thing", "s"] []
  m__is_least : mg "_is_least" = some (.ref f__is_least)
  f__is_turns : Addr
  d__is_turns : FuncData
  F__is_turns : Fun K "_is_turns" "_is_turns" s__is_turns f__is_turns d__is_turns
  b__is_turns : Binds K d__is_turns ["thing", "s"] []
  m__is_turns : mg "_is_turns" = some (.ref f__is_turns)
  f__are_weights : Addr
  d__are_weights : FuncData
  F__are_weights : Fun K "_are_weights" "_are_weights" s__are_weights f__are_weights d__are_weights
  b__are_weights : Binds K d__are_weights ["thing", "s"] []
  m__are_weights : mg "_are_weights" = some (.ref f__are_weights)
  f__law_cell_at : Addr
  d__law_cell_at : FuncData
  F__law_cell_at : Fun K "_law_cell_at" "_law_cell_at" s__law_cell_at f__law_cell_at d__law_cell_at
  b__law_cell_at : Binds K d__law_cell_at ["script", "k"] []
  m__law_cell_at : mg "_law_cell_at" = some (.ref f__law_cell_at)
  f__law_numbers : Addr
  d__law_numbers : FuncData
  F__law_numbers : Fun K "_law_numbers" "_law_numbers" s__law_numbers f__law_numbers d__law_numbers
  b__law_numbers : Binds K d__law_numbers ["cell", "many"] []
  m__law_numbers : mg "_law_numbers" = some (.ref f__law_numbers)
  f__law_deck : Addr
  d__law_deck : FuncData
  F__law_deck : Fun K "_law_deck" "_law_deck" s__law_deck f__law_deck d__law_deck
  b__law_deck : Binds K d__law_deck ["cell", "many"] []
  m__law_deck : mg "_law_deck" = some (.ref f__law_deck)
  f__law_take : Addr
  d__law_take : FuncData
  F__law_take : Fun K "_law_take" "_law_take" s__law_take f__law_take d__law_take
  b__law_take : Binds K d__law_take ["deck", "many"] []
  m__law_take : mg "_law_take" = some (.ref f__law_take)
  f__law_weights : Addr
  d__law_weights : FuncData
  F__law_weights : Fun K "_law_weights" "_law_weights" s__law_weights f__law_weights d__law_weights
  b__law_weights : Binds K d__law_weights ["deck", "s"] []
  m__law_weights : mg "_law_weights" = some (.ref f__law_weights)
  f__law_condition : Addr
  d__law_condition : FuncData
  F__law_condition : Fun K "_law_condition" "_law_condition" s__law_condition f__law_condition d__law_condition
  b__law_condition : Binds K d__law_condition ["deck", "s", "deep"] []
  m__law_condition : mg "_law_condition" = some (.ref f__law_condition)
  f__law_copy : Addr
  d__law_copy : FuncData
  F__law_copy : Fun K "_law_copy" "_law_copy" s__law_copy f__law_copy d__law_copy
  b__law_copy : Binds K d__law_copy ["thing"] []
  m__law_copy : mg "_law_copy" = some (.ref f__law_copy)
  f__law_whole : Addr
  d__law_whole : FuncData
  F__law_whole : Fun K "_law_whole" "_law_whole" s__law_whole f__law_whole d__law_whole
  b__law_whole : Binds K d__law_whole ["thing", "least", "most"] []
  m__law_whole : mg "_law_whole" = some (.ref f__law_whole)
  f__law_is_condition : Addr
  d__law_is_condition : FuncData
  F__law_is_condition : Fun K "_law_is_condition" "_law_is_condition" s__law_is_condition f__law_is_condition d__law_is_condition
  b__law_is_condition : Binds K d__law_is_condition ["thing", "s", "deep"] []
  m__law_is_condition : mg "_law_is_condition" = some (.ref f__law_is_condition)
  f__law_odd : Addr
  d__law_odd : FuncData
  F__law_odd : Fun K "_law_odd" "_law_odd" s__law_odd f__law_odd d__law_odd
  b__law_odd : Binds K d__law_odd ["deck"] []
  m__law_odd : mg "_law_odd" = some (.ref f__law_odd)
  f__law_bad_sum : Addr
  d__law_bad_sum : FuncData
  F__law_bad_sum : Fun K "_law_bad_sum" "_law_bad_sum" s__law_bad_sum f__law_bad_sum d__law_bad_sum
  b__law_bad_sum : Binds K d__law_bad_sum ["deck", "thing"] []
  m__law_bad_sum : mg "_law_bad_sum" = some (.ref f__law_bad_sum)
  f__law_spoilt : Addr
  d__law_spoilt : FuncData
  F__law_spoilt : Fun K "_law_spoilt" "_law_spoilt" s__law_spoilt f__law_spoilt d__law_spoilt
  b__law_spoilt : Binds K d__law_spoilt ["deck", "thing"] []
  m__law_spoilt : mg "_law_spoilt" = some (.ref f__law_spoilt)
  f_law : Addr
  d_law : FuncData
  F_law : Fun K "law" "law" s_law f_law d_law
  b_law : Binds K d_law ["script"] []
  m_law : mg "law" = some (.ref f_law)
  t_MOST_STATES : Tok
  g_MOST_STATES : mg "MOST_STATES" = some (.int 6 t_MOST_STATES)
  t_MOST_WITHIN : Tok
  g_MOST_WITHIN : mg "MOST_WITHIN" = some (.int 4 t_MOST_WITHIN)
  t_MOST_WEIGHT : Tok
  g_MOST_WEIGHT : mg "MOST_WEIGHT" = some (.int 4 t_MOST_WEIGHT)
  t_MOST_BOUND : Tok
  g_MOST_BOUND : mg "MOST_BOUND" = some (.int 4 t_MOST_BOUND)
  t_MOST_M : Tok
  g_MOST_M : mg "MOST_M" = some (.int 4 t_MOST_M)
  a_MADE_OF_OTHERS : Addr
  g_MADE_OF_OTHERS : mg "MADE_OF_OTHERS" = some (.ref a_MADE_OF_OTHERS)
  z_all : mg "all" = none
  z_bool : mg "bool" = none
  z_dict : mg "dict" = none
  z_int : mg "int" = none
  z_isinstance : mg "isinstance" = none
  z_len : mg "len" = none
  z_list : mg "list" = none
  z_max : mg "max" = none
  z_min : mg "min" = none
  z_range : mg "range" = none
  z_repr : mg "repr" = none
  z_str : mg "str" = none
  z_tuple : mg "tuple" = none
local macro_rules | `(tactic| walk_at "my rd") => `(tactic| repeat (first | refine ⟨_, rfl, ?_⟩ | refine ⟨_, _, rfl, rfl, ?_⟩ | refine ⟨rfl, ?_⟩))
local macro_rules | `(tactic| walk_at "my one") => `(tactic| first | refine ⟨_, rfl, ?_⟩ | refine ⟨_, _, rfl, rfl, ?_⟩ | refine ⟨rfl, ?_⟩)
def Chg (p : Addr) (H H' : Hp) : Prop := ∀ b, b ≠ p → H' b = H b
theorem Chg.refl (p : Addr) (H : Hp) : Chg p H H := fun _ _ => rfl
theorem Chg.trans {p : Addr} {H H1 H2 : Hp} (a : Chg p H H1) (b : Chg p H1 H2) : Chg p H H2 := fun c hc => (b c hc).trans (a c hc)
theorem Chg.upd {p : Addr} {H : Hp} {o : HO} : Chg p H (upd H p o) := fun _ h => upd_ne h
theorem Chg.at {p b : Addr} {H H' : Hp} {o : HO} (c : Chg p H H') (h : H b = some o) (n : b ≠ p) : H' b = some o := (c b n).trans h
theorem Chg.seq {K : PySem.W.Frag} {p a : Addr} {H H' : Hp} {xs : List V} (c : Chg p H H') (hp : H p = none) (h : SqL K H a xs) : SqL K H' a xs := by
  rcases h with (h | ⟨o, h⟩) | h
  · exact .inl (.inl (c.at h (ne_of_none h hp)))
  · exact .inl (.inr ⟨o, c.at h (ne_of_none h hp)⟩)
  · exact .inr h
theorem same_new {H : Hp} {p : Addr} {o : HO} (h : H p = none) : Same H (upd H p o) := fun b u q => by rw [upd_ne (ne_of_none q h)]; exact q
theorem nn_mul {a b A B : Int} (h0 : 0 ≤ a) (h1 : a ≤ A) (g0 : 0 ≤ b) (g1 : b ≤ B) : 0 ≤ a * b ∧ a * b ≤ A * B :=
  ⟨Int.mul_nonneg h0 g0, Int.mul_le_mul h1 g1 g0 (Int.le_trans h0 h1)⟩
theorem divW {i j : Int} (h : 0 < j) (h2 : j < 2 ^ 60) : CDivW i j := wide_div (b := 60) h (by omega) (by decide) (by decide)

theorem lay_ints : ∀ xs : List Int, PyData.canLayAll0 (xs.map PyData.int) = true
  | [] => by simp only [List.map_nil, PyData.canLayAll0]
  | x :: r => by simp only [List.map_cons, PyData.canLayAll0, PyData.canLay0, lay_ints r, Bool.and_self]
theorem dep_ints : ∀ xs : List Int, PyData.depthAll (xs.map PyData.int) ≤ 1
  | [] => by simp only [List.map_nil, PyData.depthAll]; omega
  | x :: r => by
    have := dep_ints r
    simp only [List.map_cons, PyData.depthAll, PyData.depth]
    omega
theorem shaped_ints (xs : List Int) : SeqAt.shaped (.list (xs.map PyData.int)) = true := by
  have a := lay_ints xs
  have b := dep_ints xs
  unfold SeqAt.shaped
  rw [Bool.and_eq_true]
  refine ⟨by simp only [PyData.canLay0]; exact a, decide_eq_true ?_⟩
  simp only [PyData.depth]
  omega
theorem dp_ints {K : PySem.W.Frag} {H : Hp} : ∀ xs : List Int, DpAll K H (xs.map V.int) (xs.map PyData.int)
  | [] => .nil
  | x :: r => .cons (.int x) (dp_ints r)
theorem dp_intsL {K : PySem.W.Frag} {H : Hp} {a : Addr} {xs : List Int} (h : SqL K H a (xs.map V.int)) : Dp K H (.ref a) (.list (xs.map PyData.int)) := .lst h (dp_ints xs)
theorem eqv_self {d : PyData} (h : SeqAt.shaped d = true) : PyData.eqv d d = true := SeqAt.eqv_refl d (SeqAt.canLay_of_shaped h)

inductive Tr where
  | node (c : Nat) (ks : List Tr)
def ch (c : Nat) : Str := ⟨#[c]⟩
mutual
def Tr.size : Tr → Nat
  | .node _ ks => 1 + sizes ks
def sizes : List Tr → Nat
  | [] => 0
  | t :: r => t.size + sizes r
end
mutual
def Tr.depth : Tr → Nat
  | .node _ ks => 1 + depths ks
def depths : List Tr → Nat
  | [] => 0
  | t :: r => max t.depth (depths r)
end
mutual
def Tr.post : Tr → List Tr
  | .node c ks => posts ks ++ [.node c ks]
def posts : List Tr → List Tr
  | [] => []
  | t :: r => t.post ++ posts r
end

mutual
def Tr.lets (p : Nat → Prop) : Tr → Prop
  | .node c ks => p c ∧ letss p ks
def letss (p : Nat → Prop) : List Tr → Prop
  | [] => True
  | t :: r => t.lets p ∧ letss p r
end
def Tr.kids : Tr → List Tr
  | .node _ ks => ks
def Tr.top : Tr → Nat
  | .node c _ => c
theorem sizes_append : ∀ a b : List Tr, sizes (a ++ b) = sizes a + sizes b
  | [], b => by simp only [List.nil_append, sizes]; omega
  | t :: r, b => by simp only [List.cons_append, sizes, sizes_append r b]; omega
theorem depths_append : ∀ a b : List Tr, depths (a ++ b) = max (depths a) (depths b)
  | [], b => by simp only [List.nil_append, depths]; omega
  | t :: r, b => by simp only [List.cons_append, depths, depths_append r b]; omega
theorem posts_append : ∀ a b : List Tr, posts (a ++ b) = posts a ++ posts b
  | [], b => by simp only [List.nil_append, posts]
  | t :: r, b => by simp only [List.cons_append, posts, posts_append r b, List.append_assoc]
theorem letss_append (p : Nat → Prop) : ∀ a b : List Tr, letss p (a ++ b) ↔ letss p a ∧ letss p b
  | [], b => by simp only [List.nil_append, letss, true_and]
  | t :: r, b => by simp only [List.cons_append, letss, letss_append p r b, and_assoc]
theorem size_pos : ∀ t : Tr, 1 ≤ t.size
  | .node c ks => by simp only [Tr.size]; omega
theorem len_sizes : ∀ ts : List Tr, ts.length ≤ sizes ts
  | [] => Nat.le_refl _
  | t :: r => by
    have a := size_pos t
    have b := len_sizes r
    simp only [List.length_cons, sizes]
    omega
mutual
theorem post_len : ∀ t : Tr, t.post.length = t.size
  | .node c ks => by simp only [Tr.post, List.length_append, posts_len ks, List.length_singleton, Tr.size]; omega
theorem posts_len : ∀ ts : List Tr, (posts ts).length = sizes ts
  | [] => rfl
  | t :: r => by simp only [posts, List.length_append, post_len t, posts_len r, sizes]
end
theorem sizes_mem : ∀ {ts : List Tr} {t : Tr}, t ∈ ts → t.size ≤ sizes ts
  | u :: r, t, h => by
    rcases List.mem_cons.mp h with e | h
    · subst e; simp only [sizes]; omega
    · have := sizes_mem h
      simp only [sizes]; omega
theorem depths_mem : ∀ {ts : List Tr} {t : Tr}, t ∈ ts → t.depth ≤ depths ts
  | u :: r, t, h => by
    rcases List.mem_cons.mp h with e | h
    · subst e; simp only [depths]; omega
    · have := depths_mem h
      simp only [depths]; omega
theorem letss_mem {p : Nat → Prop} : ∀ {ts : List Tr} {t : Tr}, letss p ts → t ∈ ts → t.lets p
  | u :: r, t, hl, h => by
    simp only [letss] at hl
    rcases List.mem_cons.mp h with e | h
    · subst e; exact hl.1
    · exact letss_mem hl.2 h
mutual
theorem lets_mono {p q : Nat → Prop} (h : ∀ c, p c → q c) : ∀ t : Tr, t.lets p → t.lets q
  | .node c ks, a => by
    simp only [Tr.lets] at a ⊢
    exact ⟨h _ a.1, letss_mono h ks a.2⟩
theorem letss_mono {p q : Nat → Prop} (h : ∀ c, p c → q c) : ∀ ts : List Tr, letss p ts → letss q ts
  | [], _ => trivial
  | t :: r, a => by
    simp only [letss] at a ⊢
    exact ⟨lets_mono h t a.1, letss_mono h r a.2⟩
end
mutual
inductive TrAt (ok : Addr → Prop) (H : Hp) : V → Tr → Prop
  | node {a l : Addr} {vs : List V} {c : Nat} {ks : List Tr} : H a = some (.tup [.str (ch c), .ref l]) → H l = some (.lst vs) → ok a → ok l → 97 ≤ c → c ≤ 122 → TrsAt ok H vs ks → TrAt ok H (.ref a) (.node c ks)
inductive TrsAt (ok : Addr → Prop) (H : Hp) : List V → List Tr → Prop
  | nil : TrsAt ok H [] []
  | cons {v : V} {vs : List V} {t : Tr} {ts : List Tr} : TrAt ok H v t → TrsAt ok H vs ts → TrsAt ok H (v :: vs) (t :: ts)
end
section
variable {ok ok' : Addr → Prop} {H H' : Hp}
mutual
theorem TrAt.imp (hk : ∀ b, ok b → ok' b) (h : ∀ b o, ok b → H b = some o → H' b = some o) : ∀ (t : Tr) (v : V), TrAt ok H v t → TrAt ok' H' v t
  | .node c ks, v, x => by
    cases x with
    | node h1 h2 k1 k2 c1 c2 r => exact .node (h _ _ k1 h1) (h _ _ k2 h2) (hk _ k1) (hk _ k2) c1 c2 (TrsAt.imp hk h ks _ r)
theorem TrsAt.imp (hk : ∀ b, ok b → ok' b) (h : ∀ b o, ok b → H b = some o → H' b = some o) : ∀ (ts : List Tr) (vs : List V), TrsAt ok H vs ts → TrsAt ok' H' vs ts
  | [], _, x => by cases x; exact .nil
  | t :: r, _, x => by
    cases x with
    | cons a b => exact .cons (TrAt.imp hk h t _ a) (TrsAt.imp hk h r _ b)
end
theorem TrAt.keep {v : V} {t : Tr} (x : TrAt ok H v t) (h : ∀ b o, ok b → H b = some o → H' b = some o) : TrAt ok H' v t := TrAt.imp (fun _ k => k) h t v x
theorem TrsAt.keep {vs : List V} {ts : List Tr} (x : TrsAt ok H vs ts) (h : ∀ b o, ok b → H b = some o → H' b = some o) : TrsAt ok H' vs ts := TrsAt.imp (fun _ k => k) h ts vs x
theorem TrAt.weak {v : V} {t : Tr} (x : TrAt ok H v t) (h : ∀ b, ok b → ok' b) : TrAt ok' H v t := TrAt.imp h (fun _ _ _ e => e) t v x
theorem TrsAt.weak {vs : List V} {ts : List Tr} (x : TrsAt ok H vs ts) (h : ∀ b, ok b → ok' b) : TrsAt ok' H vs ts := TrsAt.imp h (fun _ _ _ e => e) ts vs x
mutual
theorem TrAt.there : ∀ (t : Tr) (v : V), TrAt ok H v t → TrAt (fun b => ok b ∧ ∃ o, H b = some o) H v t
  | .node c ks, v, x => by
    cases x with
    | node h1 h2 k1 k2 c1 c2 r => exact .node h1 h2 ⟨k1, _, h1⟩ ⟨k2, _, h2⟩ c1 c2 (TrsAt.there ks _ r)
theorem TrsAt.there : ∀ (ts : List Tr) (vs : List V), TrsAt ok H vs ts → TrsAt (fun b => ok b ∧ ∃ o, H b = some o) H vs ts
  | [], _, x => by cases x; exact .nil
  | t :: r, _, x => by
    cases x with
    | cons a b => exact .cons (TrAt.there t _ a) (TrsAt.there r _ b)
end
theorem TrsAt.len : ∀ {vs : List V} {ts : List Tr}, TrsAt ok H vs ts → vs.length = ts.length
  | [], [], _ => rfl
  | v :: vs, t :: ts, h => by
    cases h with
    | cons a b => simp only [List.length_cons, TrsAt.len b]
  | [], _ :: _, h => by cases h
  | _ :: _, [], h => by cases h
theorem TrsAt.get : ∀ {vs : List V} {ts : List Tr} {i : Nat} {t : Tr}, TrsAt ok H vs ts → ts[i]? = some t → ∃ v, vs[i]? = some v ∧ TrAt ok H v t
  | _, _, i, t, .nil, e => by simp at e
  | _, _, 0, t, .cons a _, e => by simp at e; subst e; exact ⟨_, rfl, a⟩
  | _, _, i + 1, t, .cons _ b, e => by
    obtain ⟨v, h1, h2⟩ := TrsAt.get (i := i) (t := t) b (by simpa using e)
    exact ⟨v, by simpa using h1, h2⟩
theorem TrsAt.getV : ∀ {vs : List V} {ts : List Tr} {i : Nat} {v : V}, TrsAt ok H vs ts → vs[i]? = some v → ∃ t, ts[i]? = some t ∧ TrAt ok H v t
  | _, _, i, t, .nil, e => by simp at e
  | _, _, 0, t, .cons a _, e => by simp at e; subst e; exact ⟨_, rfl, a⟩
  | _, _, i + 1, t, .cons _ b, e => by
    obtain ⟨v, h1, h2⟩ := TrsAt.getV (i := i) (v := t) b (by simpa using e)
    exact ⟨v, by simpa using h1, h2⟩
theorem TrsAt.append : ∀ {vs ws : List V} {ts us : List Tr}, TrsAt ok H vs ts → TrsAt ok H ws us → TrsAt ok H (vs ++ ws) (ts ++ us)
  | [], _, [], _, _, h => h
  | v :: vs, _, t :: ts, _, h, g => by
    cases h with
    | cons a b => exact .cons a (TrsAt.append b g)
  | [], _, _ :: _, _, h, _ => by cases h
  | _ :: _, _, [], _, h, _ => by cases h
theorem TrsAt.split : ∀ {vs ws : List V} {ts : List Tr}, TrsAt ok H (vs ++ ws) ts → ∃ a b, ts = a ++ b ∧ TrsAt ok H vs a ∧ TrsAt ok H ws b
  | [], ws, ts, h => ⟨[], ts, rfl, .nil, h⟩
  | v :: vs, ws, _, h => by
    cases h with
    | cons x y =>
      obtain ⟨a, b, e, h1, h2⟩ := TrsAt.split y
      exact ⟨_ :: a, b, by rw [e]; rfl, .cons x h1, h2⟩
theorem TrsAt.perm {vs ws : List V} (p : vs.Perm ws) : ∀ {ts : List Tr}, TrsAt ok H vs ts → ∃ us, ts.Perm us ∧ TrsAt ok H ws us := by
  induction p with
  | nil => intro ts h; exact ⟨ts, .refl _, h⟩
  | cons x _ ih =>
    intro ts h
    cases h with
    | cons a b =>
      obtain ⟨us, p1, h1⟩ := ih b
      exact ⟨_ :: us, p1.cons _, .cons a h1⟩
  | swap x y l =>
    intro ts h
    cases h with
    | cons a b =>
      cases b with
      | cons c d => exact ⟨_, .swap _ _ _, .cons c (.cons a d)⟩
  | trans _ _ ih1 ih2 =>
    intro ts h
    obtain ⟨us, p1, h1⟩ := ih1 h
    obtain ⟨ws, p2, h2⟩ := ih2 h1
    exact ⟨ws, p1.trans p2, h2⟩
theorem TrsAt.rev {vs : List V} {ts : List Tr} (h : TrsAt ok H vs ts) : TrsAt ok H vs.reverse ts.reverse := by
  induction vs generalizing ts with
  | nil => cases h; exact .nil
  | cons v vs ih =>
    cases h with
    | cons a b =>
      rw [List.reverse_cons, List.reverse_cons]
      exact (ih b).append (.cons a .nil)
end
theorem sizes_perm {a b : List Tr} (p : a.Perm b) : sizes a = sizes b := by
  induction p with
  | nil => rfl
  | cons x _ ih => simp only [sizes, ih]
  | swap x y l => simp only [sizes]; omega
  | trans _ _ ih1 ih2 => exact ih1.trans ih2
theorem depths_perm {a b : List Tr} (p : a.Perm b) : depths a = depths b := by
  induction p with
  | nil => rfl
  | cons x _ ih => simp only [depths, ih]
  | swap x y l => simp only [depths]; omega
  | trans _ _ ih1 ih2 => exact ih1.trans ih2
theorem letss_perm {p : Nat → Prop} {a b : List Tr} (h : a.Perm b) : letss p a → letss p b := by
  induction h with
  | nil => exact id
  | cons x _ ih =>
    intro q
    simp only [letss] at q ⊢
    exact ⟨q.1, ih q.2⟩
  | swap x y l =>
    intro q
    simp only [letss] at q ⊢
    exact ⟨q.2.1, q.1, q.2.2⟩
  | trans _ _ ih1 ih2 => exact fun q => ih2 (ih1 q)
mutual
inductive Sh : Tr → Tr → Prop
  | node {c : Nat} {ks us ls : List Tr} : ks.Perm us → Shs us ls → Sh (.node c ks) (.node c ls)
inductive Shs : List Tr → List Tr → Prop
  | nil : Shs [] []
  | cons {t u : Tr} {ts us : List Tr} : Sh t u → Shs ts us → Shs (t :: ts) (u :: us)
end
mutual
theorem Sh.refl : ∀ t : Tr, Sh t t
  | .node c ks => .node (.refl _) (Shs.refl ks)
theorem Shs.refl : ∀ ts : List Tr, Shs ts ts
  | [] => .nil
  | t :: r => .cons (Sh.refl t) (Shs.refl r)
end
mutual
theorem Sh.size : ∀ {t u : Tr}, Sh t u → t.size = u.size
  | _, _, .node p h => by simp only [Tr.size, sizes_perm p, Shs.sizes h]
theorem Shs.sizes : ∀ {ts us : List Tr}, Shs ts us → My.sizes ts = My.sizes us
  | _, _, .nil => rfl
  | _, _, .cons a b => by simp only [My.sizes, Sh.size a, Shs.sizes b]
end
mutual
theorem Sh.depth : ∀ {t u : Tr}, Sh t u → t.depth = u.depth
  | _, _, .node p h => by simp only [Tr.depth, depths_perm p, Shs.depths h]
theorem Shs.depths : ∀ {ts us : List Tr}, Shs ts us → My.depths ts = My.depths us
  | _, _, .nil => rfl
  | _, _, .cons a b => by simp only [My.depths, Sh.depth a, Shs.depths b]
end
mutual
theorem Sh.lets {p : Nat → Prop} : ∀ {t u : Tr}, Sh t u → t.lets p → u.lets p
  | _, _, .node q h, a => by
    simp only [Tr.lets] at a ⊢
    exact ⟨a.1, Shs.letss h (letss_perm q a.2)⟩
theorem Shs.letss {p : Nat → Prop} : ∀ {ts us : List Tr}, Shs ts us → My.letss p ts → My.letss p us
  | _, _, .nil, a => a
  | _, _, .cons x y, a => by
    simp only [My.letss] at a ⊢
    exact ⟨Sh.lets x a.1, Shs.letss y a.2⟩
end
theorem Shs.len : ∀ {ts us : List Tr}, Shs ts us → ts.length = us.length
  | _, _, .nil => rfl
  | _, _, .cons a b => by simp only [List.length_cons, Shs.len b]
theorem Shs.append : ∀ {ts us ts' us' : List Tr}, Shs ts us → Shs ts' us' → Shs (ts ++ ts') (us ++ us')
  | _, _, _, _, .nil, h => h
  | _, _, _, _, .cons a b, h => .cons a (Shs.append b h)

def Fr (p : Addr) (H H' : Hp) : Prop := ∀ b o, b ≠ p → H b = some o → H' b = some o
theorem Fr.refl (p : Addr) (H : Hp) : Fr p H H := fun _ _ _ h => h
theorem Fr.trans {p : Addr} {H H1 H2 : Hp} (a : Fr p H H1) (b : Fr p H1 H2) : Fr p H H2 := fun c o n h => b c o n (a c o n h)
theorem Fr.same {p : Addr} {H H' : Hp} (s : Same H H') : Fr p H H' := fun b o _ h => s b o h
theorem Fr.chg {p : Addr} {H H' : Hp} (c : Chg p H H') : Fr p H H' := fun _ _ n h => c.at h n
theorem Fr.new {p q : Addr} {H H' : Hp} {o : HO} (f : Fr p H H') (h : H q = none) : Fr p H (upd H' q o) := fun b u n e => by
  rw [upd_ne (ne_of_none e h)]
  exact f b u n e
theorem same_add {q : Addr} {H H' : Hp} {o : HO} (f : Same H H') (h : H q = none) : Same H (upd H' q o) := fun b u e => by
  rw [upd_ne (ne_of_none e h)]
  exact f b u e
theorem Fr.free {p q : Addr} {H H' : Hp} (f : Fr p H H') (hp : H' p ≠ none) (h : H' q = none) : H q = none := by
  cases e : H q with
  | none => rfl
  | some o =>
    by_cases hq : q = p
    · subst hq; exact absurd h hp
    · rw [f q o hq e] at h; cases h
theorem Fr.seq {K : PySem.W.Frag} {p a : Addr} {H H' : Hp} {xs : List V} (c : Fr p H H') (hp : H p = none) (h : SqL K H a xs) : SqL K H' a xs := by
  rcases h with (h | ⟨o, h⟩) | h
  · exact .inl (.inl (c _ _ (ne_of_none h hp) h))
  · exact .inl (.inr ⟨o, c _ _ (ne_of_none h hp) h⟩)
  · exact .inr h
theorem TrAt.same {ok : Addr → Prop} {H H' : Hp} {v : V} {t : Tr} (x : TrAt ok H v t) (s : Same H H') : TrAt ok H' v t := x.keep fun b o _ h => s b o h
theorem TrsAt.same {ok : Addr → Prop} {H H' : Hp} {vs : List V} {ts : List Tr} (x : TrsAt ok H vs ts) (s : Same H H') : TrsAt ok H' vs ts := x.keep fun b o _ h => s b o h
theorem TrAt.off {ok : Addr → Prop} {H : Hp} {v : V} {t : Tr} {w : Addr} (x : TrAt ok H v t) (h : H w = none) : TrAt (fun b => ok b ∧ b ≠ w) H v t :=
  (TrAt.there t v x).weak fun b ⟨k, o, e⟩ => ⟨k, ne_of_none e h⟩
theorem TrsAt.off {ok : Addr → Prop} {H : Hp} {vs : List V} {ts : List Tr} {w : Addr} (x : TrsAt ok H vs ts) (h : H w = none) : TrsAt (fun b => ok b ∧ b ≠ w) H vs ts :=
  (TrsAt.there ts vs x).weak fun b ⟨k, o, e⟩ => ⟨k, ne_of_none e h⟩
theorem upd_keep {H : Hp} {w : Addr} {o : HO} {ok : Addr → Prop} (h : ∀ b, ok b → b ≠ w) : ∀ b u, ok b → H b = some u → (upd H w o) b = some u := fun b u k e => by
  rw [upd_ne (h b k)]
  exact e
theorem lc_outer {K : PySem.W.Frag} {a : Addr} {xs : List V} {Bd : V → Hp → (Hp → Prop) → Prop} {Qd : Hp → Prop} {H0 : Hp} (Pv : Nat → Hp → Prop) (h0 : Pv 0 H0) (hl : ∀ i H, i ≤ xs.length → Pv i H → SqL K H a xs)
    (hs : ∀ i x H, xs[i]? = some x → Pv i H → Bd x H (Pv (i + 1))) (hd : ∀ H, Pv xs.length H → Qd H) :
    ∃ W : Nat → Nat → Hp → Prop, (∃ m, W 0 m H0) ∧ ∀ i m H, W i m H → ((Itl K a).stop i H ∧ Qd H) ∨ ((Itl K a).go i H ∧ ∃ Nx : Hp → Prop, (∀ H', Nx H' → ∃ m', m' < m ∧ W (i + 1) m' H') ∧ ∀ x H', (Itl K a).yld i H x H' → Bd x H' Nx) := by
  refine ⟨fun i m H => m = xs.length - i ∧ i ≤ xs.length ∧ Pv i H, ⟨xs.length, by simp, Nat.zero_le _, h0⟩, ?_⟩
  rintro i m H ⟨rfl, hi, p⟩
  have q := hl i H hi p
  by_cases hlt : i < xs.length
  · refine .inr ⟨⟨xs, xs[i], q, by simp [hlt]⟩, Pv (i + 1), fun H' p' => ⟨xs.length - (i + 1), by omega, rfl, hlt, p'⟩, fun x H' y => ?_⟩
    obtain ⟨e, y⟩ := y
    subst e
    exact hs i x _ (y xs q) p
  · have e : i = xs.length := by omega
    subst e
    exact .inl ⟨⟨xs, q, Nat.le_refl _⟩, hd H p⟩
theorem take_succ_of {α : Type} {l : List α} {i : Nat} {x : α} (h : l[i]? = some x) : l.take (i + 1) = l.take i ++ [x] := by
  rw [List.take_add_one, h]
  rfl

mutual
def Tr.dat : Tr → PyData
  | .node c ks => .tuple [.str (ch c), .list (dats ks)]
def dats : List Tr → List PyData
  | [] => []
  | t :: r => t.dat :: dats r
end
mutual
theorem dat_depth : ∀ t : Tr, t.dat.depth ≤ 2 * t.depth
  | .node c ks => by
    have := dats_depth ks
    simp only [Tr.dat, PyData.depth, PyData.depthAll, Tr.depth]
    omega
theorem dats_depth : ∀ ts : List Tr, PyData.depthAll (dats ts) ≤ 2 * depths ts
  | [] => by simp only [dats, PyData.depthAll, depths]; omega
  | t :: r => by
    have a := dat_depth t
    have b := dats_depth r
    simp only [dats, PyData.depthAll, depths]
    omega
end
section
variable {ok : Addr → Prop} {H : Hp} {K : PySem.W.Frag}
theorem strOk_ch {c : Nat} (h : c ≤ 122) : PyData.strOk (ch c) = true := by
  unfold PyData.strOk ch
  simp
  omega
mutual
theorem TrAt.lay : ∀ (t : Tr) (v : V), TrAt ok H v t → t.dat.canLay0 = true
  | .node c ks, v, x => by
    cases x with
    | node h1 h2 k1 k2 c1 c2 r => simp only [Tr.dat, PyData.canLay0, PyData.canLayAll0, strOk_ch c2, TrsAt.lay ks _ r, Bool.and_self]
theorem TrsAt.lay : ∀ (ts : List Tr) (vs : List V), TrsAt ok H vs ts → PyData.canLayAll0 (dats ts) = true
  | [], _, _ => by simp only [dats, PyData.canLayAll0]
  | t :: r, _, x => by
    cases x with
    | cons a b => simp only [dats, PyData.canLayAll0, TrAt.lay t _ a, TrsAt.lay r _ b, Bool.and_self]
end
mutual
theorem TrAt.dp : ∀ (t : Tr) (v : V), TrAt ok H v t → Dp K H v t.dat
  | .node c ks, v, x => by
    cases x with
    | node h1 h2 k1 k2 c1 c2 r =>
      simp only [Tr.dat]
      exact .tup (SqT.of h1) (.cons (.str _) (.cons (.lst (SqL.of h2) (TrsAt.dp ks _ r)) .nil))
theorem TrsAt.dp : ∀ (ts : List Tr) (vs : List V), TrsAt ok H vs ts → DpAll K H vs (dats ts)
  | [], _, x => by cases x; exact .nil
  | t :: r, _, x => by
    cases x with
    | cons a b => exact .cons (TrAt.dp t _ a) (TrsAt.dp r _ b)
end
theorem shaped_tr {v : V} {t : Tr} (x : TrAt ok H v t) (h : t.depth ≤ 32) : SeqAt.shaped t.dat = true := by
  unfold SeqAt.shaped
  rw [Bool.and_eq_true]
  exact ⟨TrAt.lay t v x, decide_eq_true (by have := dat_depth t; omega)⟩
theorem shaped_trs {vs : List V} {ts : List Tr} (x : TrsAt ok H vs ts) (h : depths ts ≤ 31) : SeqAt.shaped (.list (dats ts)) = true := by
  unfold SeqAt.shaped
  rw [Bool.and_eq_true]
  refine ⟨by simp only [PyData.canLay0]; exact TrsAt.lay ts vs x, decide_eq_true ?_⟩
  have := dats_depth ts
  simp only [PyData.depth]
  omega
end
def DatOk (K : PySem.W.Frag) (H : Hp) (v : V) : Prop := ∃ d, Dp K H v d ∧ d.canLay0 = true ∧ d.depth ≤ 63
theorem DatOk.all {K : PySem.W.Frag} {H : Hp} : ∀ {vs : List V}, (∀ v ∈ vs, DatOk K H v) → ∃ ds, DpAll K H vs ds ∧ SeqAt.shaped (.list ds) = true ∧ ds.length = vs.length
  | [], _ => ⟨[], .nil, by decide +kernel, rfl⟩
  | v :: r, h => by
    obtain ⟨d, h1, h2, h3⟩ := h v List.mem_cons_self
    obtain ⟨ds, g1, g2, g3⟩ := DatOk.all (vs := r) fun u hu => h u (List.mem_cons_of_mem _ hu)
    unfold SeqAt.shaped at g2
    rw [Bool.and_eq_true] at g2
    have g4 := of_decide_eq_true g2.2
    have g5 := g2.1
    simp only [PyData.canLay0] at g5
    simp only [PyData.depth] at g4
    refine ⟨d :: ds, .cons h1 g1, ?_, by simp only [List.length_cons, g3]⟩
    unfold SeqAt.shaped
    rw [Bool.and_eq_true]
    refine ⟨by simp only [PyData.canLay0, PyData.canLayAll0, h2, g5, Bool.and_self], decide_eq_true ?_⟩
    simp only [PyData.depth, PyData.depthAll]
    omega
theorem datOk_int {K : PySem.W.Frag} {H : Hp} (i : Int) : DatOk K H (.int i) := ⟨.int i, .int i, by simp only [PyData.canLay0], by simp only [PyData.depth]; omega⟩
theorem datOk_tr {K : PySem.W.Frag} {H : Hp} {ok : Addr → Prop} {v : V} {t : Tr} (x : TrAt ok H v t) (h : t.depth ≤ 31) : DatOk K H v := ⟨t.dat, TrAt.dp t v x, TrAt.lay t v x, by have := dat_depth t; omega⟩
theorem eqv_nil (ds : List PyData) : PyData.eqv (.list ds) (.list []) = decide (ds.length = 0) := by
  cases ds with
  | nil => simp [PyData.eqv, PyData.eqvAll]
  | cons d r => simp [PyData.eqv, PyData.eqvAll]
theorem shaped_nil : SeqAt.shaped (.list []) = true := by decide +kernel
theorem dp_nil {K : PySem.W.Frag} {H : Hp} {a : Addr} (h : H a = some (.lst [])) : Dp K H (.ref a) (.list []) := .lst (SqL.of h) .nil

mutual
inductive Dt (ok : Addr → Prop) (H : Hp) : V → PyData → Prop
  | non : Dt ok H .non .none
  | bl (b : Bool) : Dt ok H (.bl b) (.bool b)
  | int (i : Int) : Dt ok H (.int i) (.int i)
  | str (x : Str) : Dt ok H (.str x) (.str x)
  | dic {a : Addr} : H a = some (.dK []) → ok a → Dt ok H (.ref a) (.dict [])
  | lst {a : Addr} {xs : List V} {ds : List PyData} : H a = some (.lst xs) → ok a → xs.length ≤ 1000 → DtAll ok H xs ds → Dt ok H (.ref a) (.list ds)
  | tup {a : Addr} {xs : List V} {ds : List PyData} : H a = some (.tup xs) → ok a → xs.length ≤ 1000 → DtAll ok H xs ds → Dt ok H (.ref a) (.tuple ds)
inductive DtAll (ok : Addr → Prop) (H : Hp) : List V → List PyData → Prop
  | nil : DtAll ok H [] []
  | cons {v : V} {vs : List V} {d : PyData} {ds : List PyData} : Dt ok H v d → DtAll ok H vs ds → DtAll ok H (v :: vs) (d :: ds)
end
section
variable {ok ok' : Addr → Prop} {H H' : Hp} {K : PySem.W.Frag}
mutual
theorem Dt.imp (hk : ∀ b o, ok b → H b = some o → ok' b) (h : ∀ b o, ok b → H b = some o → H' b = some o) : ∀ {v : V} {d : PyData}, Dt ok H v d → Dt ok' H' v d
  | _, _, .non => .non
  | _, _, .bl b => .bl b
  | _, _, .int i => .int i
  | _, _, .str x => .str x
  | _, _, .dic e k => .dic (h _ _ k e) (hk _ _ k e)
  | _, _, .lst e k l r => .lst (h _ _ k e) (hk _ _ k e) l (DtAll.imp hk h r)
  | _, _, .tup e k l r => .tup (h _ _ k e) (hk _ _ k e) l (DtAll.imp hk h r)
theorem DtAll.imp (hk : ∀ b o, ok b → H b = some o → ok' b) (h : ∀ b o, ok b → H b = some o → H' b = some o) : ∀ {vs : List V} {ds : List PyData}, DtAll ok H vs ds → DtAll ok' H' vs ds
  | _, _, .nil => .nil
  | _, _, .cons a b => .cons (Dt.imp hk h a) (DtAll.imp hk h b)
end
theorem Dt.keep {v : V} {d : PyData} (x : Dt ok H v d) (h : ∀ b o, ok b → H b = some o → H' b = some o) : Dt ok H' v d := x.imp (fun _ _ k _ => k) h
theorem Dt.same {v : V} {d : PyData} (x : Dt ok H v d) (s : Same H H') : Dt ok H' v d := x.keep fun b o _ h => s b o h
theorem Dt.weak {v : V} {d : PyData} (x : Dt ok H v d) (h : ∀ b, ok b → ok' b) : Dt ok' H v d := x.imp (fun b _ k _ => h b k) fun _ _ _ e => e
theorem Dt.any {v : V} {d : PyData} (x : Dt ok H v d) : Dt (fun _ => True) H v d := x.weak fun _ _ => trivial
theorem Dt.off {w : Addr} {v : V} {d : PyData} (x : Dt ok H v d) (h : H w = none) : Dt (fun b => ok b ∧ b ≠ w) H v d := x.imp (fun _ _ k e => ⟨k, ne_of_none e h⟩) fun _ _ _ e => e
theorem DtAll.keep {vs : List V} {ds : List PyData} (x : DtAll ok H vs ds) (h : ∀ b o, ok b → H b = some o → H' b = some o) : DtAll ok H' vs ds := x.imp (fun _ _ k _ => k) h
theorem DtAll.same {vs : List V} {ds : List PyData} (x : DtAll ok H vs ds) (s : Same H H') : DtAll ok H' vs ds := x.keep fun b o _ h => s b o h
theorem DtAll.weak {vs : List V} {ds : List PyData} (x : DtAll ok H vs ds) (h : ∀ b, ok b → ok' b) : DtAll ok' H vs ds := x.imp (fun b _ k _ => h b k) fun _ _ _ e => e
mutual
theorem Dt.dp : ∀ {v : V} {d : PyData}, Dt ok H v d → d.canLay0 = true → Dp K H v d
  | _, _, .non, _ => .non
  | _, _, .bl b, _ => .bl b
  | _, _, .int i, _ => .int i
  | _, _, .str x, _ => .str x
  | _, _, .dic _ _, h => by simp [PyData.canLay0] at h
  | _, _, .lst e _ _ r, h => .lst (SqL.of e) (DtAll.dp r (by simpa only [PyData.canLay0] using h))
  | _, _, .tup e _ _ r, h => .tup (SqT.of e) (DtAll.dp r (by simpa only [PyData.canLay0] using h))
theorem DtAll.dp : ∀ {vs : List V} {ds : List PyData}, DtAll ok H vs ds → PyData.canLayAll0 ds = true → DpAll K H vs ds
  | _, _, .nil, _ => .nil
  | _, _, .cons a b, h => by
    simp only [PyData.canLayAll0, Bool.and_eq_true] at h
    exact .cons (Dt.dp a h.1) (DtAll.dp b h.2)
end
theorem DtAll.len : ∀ {vs : List V} {ds : List PyData}, DtAll ok H vs ds → vs.length = ds.length
  | _, _, .nil => rfl
  | _, _, .cons _ b => by simp only [List.length_cons, DtAll.len b]
theorem DtAll.getV : ∀ {vs : List V} {ds : List PyData} {i : Nat} {x : V}, DtAll ok H vs ds → vs[i]? = some x → ∃ d, ds[i]? = some d ∧ Dt ok H x d
  | _, _, 0, _, .cons a _, h => by cases h; exact ⟨_, rfl, a⟩
  | _, _, i + 1, _, .cons _ b, h => by
    rw [List.getElem?_cons_succ] at h
    obtain ⟨d, h1, h2⟩ := DtAll.getV b h
    exact ⟨d, by rw [List.getElem?_cons_succ]; exact h1, h2⟩
theorem DtAll.snoc : ∀ {vs : List V} {ds : List PyData} {v : V} {d : PyData}, DtAll ok H vs ds → Dt ok H v d → DtAll ok H (vs ++ [v]) (ds ++ [d])
  | _, _, _, _, .nil, y => .cons y .nil
  | _, _, _, _, .cons a b, y => .cons a (DtAll.snoc b y)
theorem dt_ints : ∀ xs : List Int, DtAll ok H (xs.map V.int) (xs.map PyData.int)
  | [] => .nil
  | x :: r => .cons (.int x) (dt_ints r)
theorem dt_intsL {a : Addr} {xs : List Int} (h : H a = some (.lst (xs.map V.int))) (k : ok a) (l : xs.length ≤ 1000) : Dt ok H (.ref a) (.list (xs.map PyData.int)) := .lst h k (by rw [List.length_map]; exact l) (dt_ints xs)
theorem dtAll_ints : ∀ {w : List Int} {vs : List V}, DtAll ok H vs (w.map PyData.int) → vs = w.map V.int
  | [], _, h => by cases h; rfl
  | x :: r, _, h => by
    cases h with
    | cons a b =>
      cases a
      rw [dtAll_ints b]
      rfl
theorem Dt.intsL {v : V} {w : List Int} (h : Dt ok H v (.list (w.map PyData.int))) : ∃ a, v = .ref a ∧ H a = some (.lst (w.map V.int)) ∧ ok a := by
  cases h with
  | lst e k l r =>
    rw [dtAll_ints r] at e
    exact ⟨_, rfl, e, k⟩
end
theorem layAll_mem {d : PyData} : ∀ {ds : List PyData}, PyData.canLayAll0 ds = true → d ∈ ds → d.canLay0 = true
  | x :: r, h, hm => by
    simp only [PyData.canLayAll0, Bool.and_eq_true] at h
    rcases List.mem_cons.mp hm with rfl | hm
    · exact h.1
    · exact layAll_mem h.2 hm
theorem depthAll_mem {d : PyData} : ∀ {ds : List PyData}, d ∈ ds → d.depth ≤ PyData.depthAll ds
  | x :: r, h => by
    simp only [PyData.depthAll]
    rcases List.mem_cons.mp h with rfl | h
    · omega
    · have := depthAll_mem h
      omega
theorem eqT {x y : V} {i : Decidable (x = y)} {A B : Prop} (h : x = y) (k : A) : if (@decide (x = y) i) = true then A else B := by
  rw [decide_eq_true h]
  exact iteT k
theorem eqF {x y : V} {i : Decidable (x = y)} {A B : Prop} (h : x ≠ y) (k : B) : if (@decide (x = y) i) = true then A else B := by
  rw [decide_eq_false h]
  exact iteF k
theorem noneOf {sp : Sp} {P : Program} {w : World} {K : PySem.W.Frag} {mg : Str → Option Value} {base : Heap} {f : Addr} {fd : FuncData} {ps : List Str} {k : Nat} (no : ∀ vs H Q E, ¬ sp vs H Q E) : FnOk P w K mg base CX0 k f fd ps sp :=
  ⟨fun vs H Q E h => absurd h (no vs H Q E), fun A outer s H args us vs Q E _ _ _ _ h => absurd h (no vs H Q E)⟩

def spLaw (K : PySem.W.Frag) : Sp := fun vs H Q _ => ∃ (a : Addr) (ns : List Int), vs = [.ref a] ∧ SqL K H a (ns.map V.int) ∧ ns.length ≤ 63 ∧ ∀ H', Q (.bl true) H'


def Dk (H : Hp) (p : Addr) : Prop := ∃ xs : List Int, H p = some (.lst (xs.map V.int))
theorem Dk.some {H : Hp} {p : Addr} (h : Dk H p) : H p ≠ none := by obtain ⟨xs, e⟩ := h; rw [e]; simp
theorem Dk.ne {H : Hp} {p q : Addr} (h : Dk H p) (e : H q = none) : q ≠ p := fun e2 => h.some (by rw [← e2]; exact e)
theorem Dk.keep {H H' : Hp} {p : Addr} (h : Dk H p) (s : Same H H') : Dk H' p := by obtain ⟨xs, e⟩ := h; exact ⟨xs, s _ _ e⟩
theorem Dk.upd {H : Hp} {p q : Addr} {o : HO} (h : Dk H p) (n : q ≠ p) : Dk (upd H q o) p := by obtain ⟨xs, e⟩ := h; exact ⟨xs, by rw [upd_ne (fun e => n e.symm)]; exact e⟩
def sp__law_cell_at (K : PySem.W.Frag) : Sp := fun vs H Q _ => ∃ (a : Addr) (ns : List Int) (k : Int), vs = [.ref a, .int k] ∧ SqL K H a (ns.map V.int) ∧ 0 ≤ k ∧ ∀ x, Q (.int x) H
def sp__law_numbers : Sp := fun vs H Q _ => ∃ (c m : Int), vs = [.int c, .int m] ∧ 0 ≤ m ∧ m ≤ 1000 ∧ ∀ p (xs : List Int) H', Same H H' → H p = none → H' p = some (.lst (xs.map V.int)) → Q (.ref p) H'
def sp__law_take : Sp := fun vs H Q _ => ∃ (p : Addr) (m : Int), vs = [.ref p, .int m] ∧ Dk H p ∧ 0 < m ∧ ∀ r H', 0 ≤ r → r < m → Fr p H H' → Dk H' p → Q (.int r) H'
section
variable {P : Program} {w : World} {K : PySem.W.Frag} {mg : Str → Option Value} {base : Heap}
theorem ok__law_cell_at (T : Txt K mg) : FnOk P w K mg base CX0 1 T.f__law_cell_at T.d__law_cell_at ["script", "k"] (sp__law_cell_at K) := by
  refine T.F__law_cell_at.ok sc__law_cell_at (fun vs H Q E h => ?_) (fun cdv A outer s H vs Q E hr h => ?_)
  · obtain ⟨a, ns, k, rfl, _⟩ := h
    rfl
  obtain ⟨a, ns, k, rfl, hS, h0, q⟩ := h
  refine ⟨_, (pss_cons (ps_if (pt_cmpR op_lt (pv 1) (pe_callB call_len_seq (by rfl) T.z_len PySem.boot_len (pa_cons (pv 0) pa_nil)) (nomark _)) (pss_one (ps_ret (pe_ix ix_list (pv 0) (pv 1) (fun _ _ => rfl)))) pss_nil) (pss_one (ps_ret pe_int))), ?_⟩
  refine ⟨_, rfl, _, rfl, a, _, rfl, .inl hS, _, _, rfl, rfl, _, rfl, ?_⟩
  refine ite2 (fun c => ?_) (fun c => ?_)
  · have hk : k.toNat < ns.length := by
      have c' : k < (((ns.map V.int).length : Nat) : Int) := of_decide_eq_true c
      rw [List.length_map] at c'
      omega
    exact ⟨_, rfl, _, rfl, a, _, _, _, rfl, rfl, hS, at_of (j := k.toNat) (v := V.int ns[k.toNat]) (by omega) (by rw [List.getElem?_map, List.getElem?_eq_getElem hk]; rfl), q _⟩
  · exact q _
theorem ok__law_numbers (T : Txt K mg) : FnOk P w K mg base CX0 1 T.f__law_numbers T.d__law_numbers ["cell", "many"] sp__law_numbers := by
  refine T.F__law_numbers.ok sc__law_numbers (fun vs H Q E h => ?_) (fun cdv A outer s H vs Q E hr h => ?_)
  · obtain ⟨c, m, rfl, _⟩ := h
    rfl
  obtain ⟨c, m, rfl, h0, h1, q⟩ := h
  refine ⟨_, (pss_cons (ps_set (i := 2) sc__law_numbers.nd rfl (Or.inl rfl) (pe_lst pa_nil)) (pss_cons (ps_set (i := 3) sc__law_numbers.nd rfl (Or.inl rfl) (pv 0)) (pss_cons (ps_set (i := 4) sc__law_numbers.nd rfl (Or.inl rfl) (pe_op op_mod (pv 0) pe_int)) (pss_cons (ps_for PassesOwn.never rfl (pi_range1 (by rfl) T.z_range (pa_cons (pv 1) pa_nil)) (pg_name (i := 5) sc__law_numbers.nd rfl (Or.inl rfl)) (pss_one (ps_if (PW.pt (pw_and (pt_cmpR op_ge (pv 0) (pe_op op_pow pe_int pe_int) (nomark _)) (pw_and1 (pt_cmpR op_gt (pv 3) pe_int (nomark _))))) (pss_cons (ps_expr (pe_bm PySem.F.plainAttrs_list PySem.F.slot_list_append PySem.F.type_list_append mt_append (pv 2) (pa_cons (pe_op op_mod (pv 3) pe_int) pa_nil))) (pss_one (ps_set (i := 3) sc__law_numbers.nd rfl (Or.inl rfl) (pe_op op_fdivW (pv 3) pe_int)))) (pss_cons (ps_set (i := 4) sc__law_numbers.nd rfl (Or.inl rfl) (pe_op op_mod (pe_op op_mul (pe_op op_add (pe_op op_add (pv 4) (pe_op op_mul pe_int (pv 5))) pe_int) pe_int) pe_int)) (pss_cons (ps_set (i := 6) sc__law_numbers.nd rfl (Or.inl rfl) (pe_op op_mod (pe_op op_mul (pe_op op_mod (pe_op op_mul (pv 4) (pv 4)) pe_int) pe_int) pe_int)) (pss_one (ps_expr (pe_bm PySem.F.plainAttrs_list PySem.F.slot_list_append PySem.F.type_list_append mt_append (pv 2) (pa_cons (pe_op op_mod (pe_op op_fdivW (pv 6) pe_int) pe_int) pa_nil))))))))) (pss_one (ps_ret (pv 2))))))), ?_⟩
  refine ⟨(by show 0 ≤ sizeLine; decide), fun p hp => ?_⟩
  have s0 : 0 ≤ c % 2147483647 := Int.emod_nonneg _ (by decide)
  have s1 : c % 2147483647 < 2147483647 := Int.emod_lt_of_pos _ (by decide)
  refine ⟨_, rfl, _, rfl, _, _, rfl, rfl, (by show (0 : Int) < 2147483647; decide), ?_⟩
  refine ⟨_, rfl, m, rfl, by omega, by omega, for_range (lo := 0) (n := m.toNat) (fun i σ H' => ∃ (rest stir : Int) (xs : List Int) (y5 y6 : Option V), σ = [some (.int c), some (.int m), some (.ref p), some (.int rest), some (.int stir), y5, y6] ∧ 0 ≤ stir ∧ stir < 2147483647 ∧ H' p = some (.lst (xs.map V.int)) ∧ xs.length ≤ i ∧ Same H H')
    ⟨_, _, [], _, _, rfl, s0, s1, upd_same, Nat.le_refl _, same_new hp⟩ ?_ ?_⟩
  · rintro i σ H' hi ⟨rest, stir, xs, y5, y6, rfl, g0, g1, g2, g3, g4⟩
    have fits : (xs.map V.int).length < sizeLine := by
      rw [List.length_map]
      exact Nat.lt_of_le_of_lt (show _ ≤ 1000000 by omega) (by decide)
    have app : ∀ z : Int, xs.map V.int ++ [V.int z] = (xs ++ [z]).map V.int := fun z => by rw [List.map_append]; rfl
    have m1 : ∀ x : Int, 0 ≤ x % 2147483629 ∧ x % 2147483629 < 2147483629 := fun x => ⟨Int.emod_nonneg _ (by decide), Int.emod_lt_of_pos _ (by decide)⟩
    refine ⟨_, rfl, 10, 18, rfl, rfl, ⟨by decide, by decide, by decide⟩, _, _, rfl, rfl, _, rfl, ?_⟩
    refine ite2 (fun k1 => ⟨_, rfl, _, _, rfl, rfl, _, rfl, ite2 (fun k2 => ?A) (fun k2 => ?B)⟩) (fun k1 => ite2 (fun k2 => absurd k2 (by decide)) (fun k2 => ?C))
    case A =>
      refine ⟨_, rfl, .inl ⟨rfl, _, SqL.of g2⟩, _, rfl, _, _, rfl, rfl, (by show (0 : Int) < 64; decide), p, _, _, rfl, rfl, g2, fits, ?_⟩
      refine ⟨_, rfl, _, _, rfl, rfl, divW (by decide) (by decide), ?_⟩
      exact ⟨_, stir, xs ++ [rest % 64], _, _, rfl, g0, g1, by rw [upd_same, app], by rw [List.length_append, List.length_singleton]; omega, same_add g4 hp⟩
    all_goals
      refine ⟨_, rfl, _, rfl, 7, 0 + (i : Int), rfl, rfl, .inl ⟨by decide, by decide⟩, _, _, rfl, rfl, _, _, rfl, rfl, _, _, rfl, rfl, .inl ⟨by omega, by omega⟩, _, _, rfl, rfl, (by show (0 : Int) < 2147483647; decide), ?_⟩
      have t0 : 0 ≤ (stir + 7 * (0 + (i : Int)) + 3) * 48271 % 2147483647 := Int.emod_nonneg _ (by decide)
      have t1 : (stir + 7 * (0 + (i : Int)) + 3) * 48271 % 2147483647 < 2147483647 := Int.emod_lt_of_pos _ (by decide)
      refine ⟨_, rfl, _, rfl, _, _, rfl, rfl, .inl ⟨by omega, by omega⟩, _, _, rfl, rfl, (by show (0 : Int) < 2147483629; decide), _, _, rfl, rfl, .inl ⟨?_, ?_⟩, _, _, rfl, rfl, (by show (0 : Int) < 2147483587; decide), ?_⟩
      · exact Int.lt_of_lt_of_le (by decide) (m1 _).1
      · exact Int.lt_trans (m1 _).2 (by decide)
      refine ⟨_, rfl, .inl ⟨rfl, _, SqL.of g2⟩, _, rfl, _, _, rfl, rfl, divW (by decide) (by decide), _, _, rfl, rfl, (by show (0 : Int) < 720720; decide), p, _, _, rfl, rfl, g2, fits, ?_⟩
      exact ⟨rest, _, xs ++ [_], _, _, rfl, t0, t1, by rw [upd_same, app], by rw [List.length_append, List.length_singleton]; omega, same_add g4 hp⟩
  · rintro σ H' ⟨rest, stir, xs, y5, y6, rfl, g0, g1, g2, g3, g4⟩
    exact ⟨_, rfl, q p xs H' g4 hp g2⟩
theorem ok__law_deck (T : Txt K mg) : FnOk P w K mg base CX0 2 T.f__law_deck T.d__law_deck ["cell", "many"] sp__law_numbers := by
  have G__law_numbers : FnOk P w K mg base CX0 1 T.f__law_numbers T.d__law_numbers ["cell", "many"] sp__law_numbers := ok__law_numbers T
  refine T.F__law_deck.ok sc__law_deck (fun vs H Q E h => ?_) (fun cdv A outer s H vs Q E hr h => ?_)
  · obtain ⟨c, m, rfl, _⟩ := h
    rfl
  obtain ⟨c, m, rfl, h0, h1, q⟩ := h
  refine ⟨_, (pss_one (ps_ret (pe_revL (pe_call G__law_numbers (hr.mono (by omega)) (by rfl) T.m__law_numbers T.F__law_numbers.kp T.b__law_numbers .nil pass0 (pa_cons (pv 0) (pa_cons (pv 1) pa_nil)))))), ?_⟩
  refine ⟨_, rfl, _, rfl, c, m, rfl, h0, h1, fun p xs H' s hp hx => ⟨p, _, rfl, SqL.of hx, fun p2 hp2 => ?_⟩⟩
  exact q p2 xs.reverse _ (s.trans (same_new hp2)) (s.free hp2) (by rw [upd_same, List.map_reverse])
theorem ok__law_take (T : Txt K mg) : FnOk P w K mg base CX0 1 T.f__law_take T.d__law_take ["deck", "many"] sp__law_take := by
  refine T.F__law_take.ok sc__law_take (fun vs H Q E h => ?_) (fun cdv A outer s H vs Q E hr h => ?_)
  · obtain ⟨p, m, rfl, _⟩ := h
    rfl
  obtain ⟨p, m, rfl, ⟨xs, hp⟩, hm, q⟩ := h
  refine ⟨_, (pss_cons (ps_if (pt_cmpR (op_eqD hr.units) (pv 0) (pe_lst pa_nil) (nomark _)) (pss_one (ps_ret pe_int)) pss_nil) (pss_one (ps_ret (pe_op op_mod (pe_bm0 PySem.F.plainAttrs_list PySem.F.slot_list_pop PySem.F.type_list_pop mt_pop (pv 0)) (pv 1))))), ?_⟩
  refine ⟨_, rfl, (by show 0 ≤ sizeLine; decide), fun e he => ?_⟩
  have sE := same_new he (o := .lst [])
  refine ⟨_, _, dp_intsL (SqL.of (sE _ _ hp)), dp_nil upd_same, shaped_ints _, shaped_nil, _, rfl, ?_⟩
  rw [eqv_nil, List.length_map]
  by_cases hu : xs.length = 0
  · rw [decide_eq_true hu]
    exact iteT (q 0 _ (by omega) hm (Fr.same sE) ⟨xs, sE _ _ hp⟩)
  · rw [decide_eq_false hu]
    have hl : xs.length - 1 < xs.length := by omega
    refine iteF ⟨_, rfl, .inl ⟨rfl, _, SqL.of (sE _ _ hp)⟩, p, _, _, rfl, rfl, sE _ _ hp, by rw [List.length_map, List.getElem?_map, List.getElem?_eq_getElem hl]; rfl, ?_⟩
    refine ⟨_, rfl, _, _, rfl, rfl, hm, ?_⟩
    refine q _ _ (Int.emod_nonneg _ (by omega)) (Int.emod_lt_of_pos _ hm) (fun b o n h => by rw [upd_ne n]; exact sE _ _ h) ⟨xs.dropLast, ?_⟩
    rw [upd_same, List.map_dropLast]
end


inductive Cd
  | least (w : List Int) (b : Int)
  | turns (w : List Int) (m r : Int)
  | neg (c : Cd)
  | both (c d : Cd)
  | either (c d : Cd)
def Cd.dat : Cd → PyData
  | .least w b => .tuple [.str (Str.ofString "least"), .list (w.map PyData.int), .int b]
  | .turns w m r => .tuple [.str (Str.ofString "turns"), .list (w.map PyData.int), .int m, .int r]
  | .neg c => .tuple [.str (Str.ofString "not"), c.dat]
  | .both c d => .tuple [.str (Str.ofString "both"), c.dat, d.dat]
  | .either c d => .tuple [.str (Str.ofString "either"), c.dat, d.dat]
def wOk (s : Nat) (w : List Int) : Prop := w.length = s ∧ ∀ x ∈ w, 0 ≤ x ∧ x ≤ 4
def Cd.ok (s : Nat) : Cd → Prop
  | .least w b => wOk s w ∧ 0 ≤ b ∧ b ≤ 4
  | .turns w m r => wOk s w ∧ 1 ≤ m ∧ m ≤ 4 ∧ 0 ≤ r ∧ r < m
  | .neg c => c.ok s
  | .both c d => c.ok s ∧ d.ok s
  | .either c d => c.ok s ∧ d.ok s
def Cd.deep : Cd → Nat
  | .least _ _ => 1
  | .turns _ _ _ => 1
  | .neg c => 1 + c.deep
  | .both c d => 1 + max c.deep d.deep
  | .either c d => 1 + max c.deep d.deep
theorem Cd.deep_pos : ∀ c : Cd, 1 ≤ c.deep
  | .least _ _ => Nat.le_refl _
  | .turns _ _ _ => Nat.le_refl _
  | .neg c => by simp only [Cd.deep]; omega
  | .both c d => by simp only [Cd.deep]; omega
  | .either c d => by simp only [Cd.deep]; omega
theorem dep0 : ∀ xs : List Int, PyData.depthAll (xs.map PyData.int) = 0
  | [] => by simp only [List.map_nil, PyData.depthAll]
  | x :: r => by simp only [List.map_cons, PyData.depthAll, PyData.depth, dep0 r, Nat.max_self]
theorem Cd.dat_depth : ∀ c : Cd, c.dat.depth ≤ c.deep + 1
  | .least w b => by
    simp only [Cd.dat, PyData.depth, PyData.depthAll, Cd.deep, dep0]; omega
  | .turns w m r => by
    simp only [Cd.dat, PyData.depth, PyData.depthAll, Cd.deep, dep0]; omega
  | .neg c => by
    have := c.dat_depth
    simp only [Cd.dat, PyData.depth, PyData.depthAll, Cd.deep]; omega
  | .both c d => by
    have := c.dat_depth
    have := d.dat_depth
    simp only [Cd.dat, PyData.depth, PyData.depthAll, Cd.deep]; omega
  | .either c d => by
    have := c.dat_depth
    have := d.dat_depth
    simp only [Cd.dat, PyData.depth, PyData.depthAll, Cd.deep]; omega
theorem so_least : PyData.strOk (Str.ofString "least") = true := by decide +kernel
theorem so_turns : PyData.strOk (Str.ofString "turns") = true := by decide +kernel
theorem so_not : PyData.strOk (Str.ofString "not") = true := by decide +kernel
theorem so_both : PyData.strOk (Str.ofString "both") = true := by decide +kernel
theorem so_either : PyData.strOk (Str.ofString "either") = true := by decide +kernel
theorem Cd.lay : ∀ c : Cd, c.dat.canLay0 = true
  | .least w b => by simp only [Cd.dat, PyData.canLay0, PyData.canLayAll0, so_least, lay_ints, Bool.and_self]
  | .turns w m r => by simp only [Cd.dat, PyData.canLay0, PyData.canLayAll0, so_turns, lay_ints, Bool.and_self]
  | .neg c => by simp only [Cd.dat, PyData.canLay0, PyData.canLayAll0, so_not, c.lay, Bool.and_self]
  | .both c d => by simp only [Cd.dat, PyData.canLay0, PyData.canLayAll0, so_both, c.lay, d.lay, Bool.and_self]
  | .either c d => by simp only [Cd.dat, PyData.canLay0, PyData.canLayAll0, so_either, c.lay, d.lay, Bool.and_self]
theorem ine {a b : Int} (h : a ≠ b) : V.int a ≠ V.int b := fun e => h (V.int.inj e)
theorem sne {a b : Str} (h : a ≠ b) : V.str a ≠ V.str b := fun e => h (V.str.inj e)
def sp__law_weights : Sp := fun vs H Q _ => ∃ (p : Addr) (s : Int), vs = [.ref p, .int s] ∧ Dk H p ∧ 1 ≤ s ∧ s ≤ 6 ∧ ∀ a (w : List Int) H', wOk s.toNat w → H' a = some (.lst (w.map V.int)) → H a = none → Fr p H H' → Dk H' p → Q (.ref a) H'
def sp__law_condition (d : Nat) : Sp := fun vs H Q _ => ∃ (p : Addr) (s deep : Int), vs = [.ref p, .int s, .int deep] ∧ Dk H p ∧ 1 ≤ s ∧ s ≤ 6 ∧ 1 ≤ deep ∧ deep ≤ d ∧
  ∀ v (c : Cd) H', Fr p H H' → Dk H' p → Dt (fun b => b ≠ p) H' v c.dat → c.ok s.toNat → (c.deep : Int) ≤ deep → Q v H'
section
variable {P : Program} {w : World} {K : PySem.W.Frag} {mg : Str → Option Value} {base : Heap}
theorem ok__law_weights (T : Txt K mg) : FnOk P w K mg base CX0 2 T.f__law_weights T.d__law_weights ["deck", "s"] sp__law_weights := by
  have G__law_take : FnOk P w K mg base CX0 1 T.f__law_take T.d__law_take ["deck", "many"] sp__law_take := ok__law_take T
  refine T.F__law_weights.ok sc__law_weights (fun vs H Q E h => ?_) (fun cdv A outer s H vs Q E hr h => ?_)
  · obtain ⟨p, s, rfl, _⟩ := h
    rfl
  obtain ⟨p, s, rfl, hp, h1, h6, q⟩ := h
  refine ⟨_, (pss_cons (ps_set (i := 2) sc__law_weights.nd rfl (Or.inr rfl) (pe_ix ix_list (pe_lst (pa_cons pe_int (pa_cons pe_int (pa_cons pe_int pa_nil)))) (pe_call G__law_take (hr.mono (by omega)) (by rfl) T.m__law_take T.F__law_take.kp T.b__law_take .nil pass0 (pa_cons (pv 0) (pa_cons pe_int pa_nil))) (fun _ _ => rfl))) (pss_one (ps_ret (pe_lc (own := [("k", 3)]) (g := gName 3) (tt := tYes) rfl sc__law_weights.nd (pi_range1 (by rfl) T.z_range (pa_cons (pv 1) pa_nil)) (blkOk_by (own := [("k", 3)]) (N := ["deck", "s", "most", "k"]) (sc := (defScope s__law_weights)) (by decide +kernel)) (fun _ _ _ _ _ => (pg_name (i := 3) sc__law_weights.nd rfl (Or.inl rfl))) (fun _ _ _ _ _ => pts_nil) (fun _ _ _ _ _ => (pe_call G__law_take (hr.mono (by omega)) (by rfl) T.m__law_take T.F__law_take.kp T.b__law_take .nil pass0 (pa_cons (pv 0) (pa_cons (pv 2) pa_nil)))))))), ?_⟩
  refine ⟨(by show 3 ≤ sizeLine; decide), fun l hl => ?_⟩
  have sl := same_new hl (o := .lst [V.int 2, V.int 2, V.int 5])
  refine ⟨_, rfl, p, 3, rfl, hp.keep sl, by decide, fun r H2 r0 r1 f2 d2 => ?_⟩
  have hl2 := f2 l _ (hp.ne hl) upd_same
  obtain ⟨m, hm, hm0, hm5⟩ : ∃ m : Int, atI [V.int 2, V.int 2, V.int 5] r = some (V.int m) ∧ 0 < m ∧ m ≤ 5 := by
    rcases (by omega : r = 0 ∨ r = 1 ∨ r = 2) with rfl | rfl | rfl
    · exact ⟨2, at_of (j := 0) rfl rfl, by decide, by decide⟩
    · exact ⟨2, at_of (j := 1) rfl rfl, by decide, by decide⟩
    · exact ⟨5, at_of (j := 2) rfl rfl, by decide, by decide⟩
  refine ⟨l, _, r, V.int m, rfl, rfl, SqL.of hl2, hm, ?_⟩
  have F2 : Fr p H H2 := (Fr.same sl).trans f2
  refine ⟨_, rfl, s, rfl, by omega, by omega, fun D hD => lc_range (lo := 0) (n := s.toNat) (fun i H3 => ∃ w : List Int, w.length = i ∧ (∀ x ∈ w, 0 ≤ x ∧ x ≤ 4) ∧ H3 D = some (.lst (w.map V.int)) ∧ Fr p H H3 ∧ Dk H3 p)
    ⟨[], rfl, (fun _ h => by cases h), upd_same, F2.new (F2.free d2.some hD), d2.keep (same_new hD)⟩ ?_ ?_⟩
  · rintro i H3 hi ⟨w, g1, g2, g3, g4, g5⟩
    have nD : D ≠ p := d2.ne hD
    refine ⟨rfl, _, rfl, _, rfl, p, m, rfl, g5, hm0, fun x H4 x0 x1 f4 d4 => ⟨_, f4 _ _ nD g3, ?_, w ++ [x], by simp [g1], ?_, by rw [upd_same, List.map_append]; rfl, ?_, d4.upd nD⟩⟩
    · rw [List.length_map]
      exact Nat.lt_of_le_of_lt (show _ ≤ 1000000 by omega) (by decide)
    · intro y hy
      rcases List.mem_append.mp hy with hy | hy
      · exact g2 y hy
      · simp only [List.mem_singleton] at hy
        omega
    · exact (g4.trans f4).new (F2.free d2.some hD)
  · rintro H3 ⟨w, g1, g2, g3, g4, g5⟩
    exact q D w H3 ⟨g1, g2⟩ g3 (F2.free d2.some hD) g4 g5
theorem ok__law_condition (T : Txt K mg) : ∀ d : Nat, FnOk P w K mg base CX0 (d + 2) T.f__law_condition T.d__law_condition ["deck", "s", "deep"] (sp__law_condition d)
  | 0 => noneOf fun vs H Q E ⟨p, s, deep, _, _, _, _, h1, h2, _⟩ => by omega
  | d + 1 => by
    have G__law_condition : FnOk P w K mg base CX0 (d + 2) T.f__law_condition T.d__law_condition ["deck", "s", "deep"] (sp__law_condition d) := ok__law_condition T d
    have G__law_take : FnOk P w K mg base CX0 1 T.f__law_take T.d__law_take ["deck", "many"] sp__law_take := ok__law_take T
    have G__law_weights : FnOk P w K mg base CX0 2 T.f__law_weights T.d__law_weights ["deck", "s"] sp__law_weights := ok__law_weights T
    refine T.F__law_condition.ok sc__law_condition (fun vs H Q E h => ?_) (fun cdv A outer s H vs Q E hr h => ?_)
    · obtain ⟨p, s, deep, rfl, _⟩ := h
      rfl
    obtain ⟨p, s, deep, rfl, hp, h1, h6, hd1, hd, q⟩ := h
    refine ⟨_, (pss_cons (ps_set (i := 3) sc__law_condition.nd rfl (Or.inl rfl) (pe_call G__law_take (hr.mono (by omega)) (by rfl) T.m__law_take T.F__law_take.kp T.b__law_take .nil pass0 (pa_cons (pv 0) (pa_cons (pe_ix ix_list (pe_lst (pa_cons pe_int (pa_cons pe_int pa_nil))) (pe_callTy call_int1 (by rfl) T.z_int (by decide +kernel) (pa_cons (pe_cmpR op_gt (pv 2) pe_int (nomark _)) pa_nil)) (fun _ _ => rfl)) pa_nil)))) (pss_cons (ps_if (PW.pt (pw_or (pt_cmpR op_eq (pv 3) pe_int (nomark _)) (pw_or1 (pt_cmpR op_eq (pv 3) pe_int (nomark _))))) (pss_one (ps_ret (pe_tup (pa_cons pe_str (pa_cons (pe_call G__law_weights (hr.mono (by omega)) (by rfl) T.m__law_weights T.F__law_weights.kp T.b__law_weights .nil pass0 (pa_cons (pv 0) (pa_cons (pv 1) pa_nil))) (pa_cons (pe_call G__law_take (hr.mono (by omega)) (by rfl) T.m__law_take T.F__law_take.kp T.b__law_take .nil pass0 (pa_cons (pv 0) (pa_cons pe_int pa_nil))) pa_nil)))))) pss_nil) (pss_cons (ps_if (pt_cmpR op_eq (pv 3) pe_int (nomark _)) (pss_cons (ps_set (i := 4) sc__law_condition.nd rfl (Or.inl rfl) (pe_op op_add pe_int (pe_call G__law_take (hr.mono (by omega)) (by rfl) T.m__law_take T.F__law_take.kp T.b__law_take .nil pass0 (pa_cons (pv 0) (pa_cons pe_int pa_nil))))) (pss_one (ps_ret (pe_tup (pa_cons pe_str (pa_cons (pe_call G__law_weights (hr.mono (by omega)) (by rfl) T.m__law_weights T.F__law_weights.kp T.b__law_weights .nil pass0 (pa_cons (pv 0) (pa_cons (pv 1) pa_nil))) (pa_cons (pv 4) (pa_cons (pe_call G__law_take (hr.mono (by omega)) (by rfl) T.m__law_take T.F__law_take.kp T.b__law_take .nil pass0 (pa_cons (pv 0) (pa_cons (pv 4) pa_nil))) pa_nil)))))))) pss_nil) (pss_cons (ps_set (i := 5) sc__law_condition.nd rfl (Or.inl rfl) (pe_call G__law_condition (hr.mono (by omega)) (by rfl) T.m__law_condition T.F__law_condition.kp T.b__law_condition .nil pass0 (pa_cons (pv 0) (pa_cons (pv 1) (pa_cons (pe_op op_sub (pv 2) pe_int) pa_nil))))) (pss_cons (ps_if (pt_cmpR op_eq (pv 3) pe_int (nomark _)) (pss_one (ps_ret (pe_tup (pa_cons pe_str (pa_cons (pv 5) pa_nil))))) pss_nil) (pss_one (ps_ret (pe_tup (pa_cons (pe_ix ix_list (pe_lst (pa_cons pe_str (pa_cons pe_str pa_nil))) (pe_op op_sub (pv 3) pe_int) (fun _ _ => rfl)) (pa_cons (pv 5) (pa_cons (pe_call G__law_condition (hr.mono (by omega)) (by rfl) T.m__law_condition T.F__law_condition.kp T.b__law_condition .nil pass0 (pa_cons (pv 0) (pa_cons (pv 1) (pa_cons (pe_op op_sub (pv 2) pe_int) pa_nil)))) pa_nil))))))))))), ?_⟩
    obtain ⟨M, hM, hM2⟩ : ∃ M : Int, (M = 2 ∧ ¬ 1 < deep ∨ M = 6 ∧ 1 < deep) ∧ atI [V.int 2, V.int 6] (if (decide (1 < deep)) = true then 1 else 0) = some (V.int M) := by
      by_cases h : 1 < deep
      · rw [decide_eq_true h]
        exact ⟨6, .inr ⟨rfl, h⟩, at_of (j := 1) rfl rfl⟩
      · rw [decide_eq_false h]
        exact ⟨2, .inl ⟨rfl, h⟩, at_of (j := 0) rfl rfl⟩
    refine ⟨_, rfl, (by show 2 ≤ sizeLine; decide), fun l hl => ⟨_, rfl, _, _, rfl, rfl, .inr ⟨_, rfl, l, _, _, V.int M, rfl, rfl, SqL.of upd_same, hM2, ?_⟩⟩⟩
    have sl := same_new hl (o := .lst [V.int 2, V.int 6])
    refine ⟨p, M, rfl, hp.keep sl, by omega, fun way H2 w0 w1 f2 d2 => ?_⟩
    have F2 : Fr p H H2 := (Fr.same sl).trans f2
    by_cases h05 : way = 0 ∨ way = 5
    · rcases h05 with rfl | rfl
      case' inl => refine ⟨_, rfl, rfl, _, rfl, eqT rfl (iteT ?_)⟩
      case' inr => refine ⟨_, rfl, rfl, _, rfl, eqF (ine (by decide)) ⟨_, rfl, rfl, _, rfl, eqT rfl ?_⟩⟩
      all_goals
        refine ⟨_, rfl, _, rfl, p, s, rfl, d2, h1, h6, fun a w H3 hw ha hna f3 d3 => ?_⟩
        refine ⟨_, rfl, p, 5, rfl, d3, by decide, fun b H4 b0 b1 f4 d4 => ⟨(by show 3 ≤ sizeLine; decide), fun t ht => ?_⟩⟩
        have nap : a ≠ p := d2.ne hna
        have sT := same_new ht (o := .tup [.str (Str.ofString "least"), .ref a, .int b])
        have hw6 : w.length ≤ 1000 := by have := hw.1; omega
        exact q (.ref t) (.least w b) _ (((F2.trans f3).trans f4).trans (Fr.same sT)) (d4.keep sT) (.tup upd_same (d4.ne ht) (Nat.le_add_left _ 997) (.cons (.str _) (.cons (dt_intsL (sT _ _ (f4 _ _ nap ha)) nap hw6) (.cons (.int b) .nil)))) ⟨hw, b0, by omega⟩ (by simp only [Cd.deep]; omega)
    rw [not_or] at h05
    refine ⟨_, rfl, rfl, _, rfl, eqF (ine h05.1) ⟨_, rfl, rfl, _, rfl, eqF (ine h05.2) ?_⟩⟩
    by_cases hw1 : way = 1
    · subst hw1
      refine ⟨_, rfl, rfl, _, rfl, eqT rfl ?_⟩
      refine ⟨_, rfl, p, 4, rfl, d2, by decide, fun m H3 m0 m1 f3 d3 => ⟨1, m, rfl, rfl, ?_⟩⟩
      refine ⟨_, rfl, _, rfl, p, s, rfl, d3, h1, h6, fun a w H4 hw ha hna f4 d4 => ?_⟩
      refine ⟨_, rfl, _, rfl, _, rfl, p, 1 + m, rfl, d4, by omega, fun r H5 r0 r1 f5 d5 => ⟨(by show 4 ≤ sizeLine; decide), fun t ht => ?_⟩⟩
      have nap : a ≠ p := d3.ne hna
      have sT := same_new ht (o := .tup [.str (Str.ofString "turns"), .ref a, .int (1 + m), .int r])
      have hw6 : w.length ≤ 1000 := by have := hw.1; omega
      exact q (.ref t) (.turns w (1 + m) r) _ ((((F2.trans f3).trans f4).trans f5).trans (Fr.same sT)) (d5.keep sT) (.tup upd_same (d5.ne ht) (Nat.le_add_left _ 996) (.cons (.str _) (.cons (dt_intsL (sT _ _ (f5 _ _ nap ha)) nap hw6) (.cons (.int _) (.cons (.int r) .nil))))) ⟨hw, by omega, by omega, r0, r1⟩ (by simp only [Cd.deep]; omega)
    refine ⟨_, rfl, rfl, _, rfl, eqF (ine hw1) ?_⟩
    have hdp : 1 < deep := by omega
    refine ⟨_, rfl, _, rfl, _, rfl, _, _, rfl, rfl, p, s, deep - 1, rfl, d2, h1, h6, by omega, by omega, fun v c H3 f3 d3 hv hc hcd => ?_⟩
    by_cases hw2 : way = 2
    · subst hw2
      refine ⟨_, rfl, rfl, _, rfl, eqT rfl ?_⟩
      refine ⟨_, rfl, (by show 2 ≤ sizeLine; decide), fun t ht => ?_⟩
      have sT := same_new ht (o := .tup [.str (Str.ofString "not"), v])
      exact q (.ref t) (.neg c) _ ((F2.trans f3).trans (Fr.same sT)) (d3.keep sT) (.tup upd_same (d3.ne ht) (Nat.le_add_left _ 998) (.cons (.str _) (.cons (hv.same sT) .nil))) hc (by simp only [Cd.deep]; omega)
    refine ⟨_, rfl, rfl, _, rfl, eqF (ine hw2) ?_⟩
    refine ⟨(by show 2 ≤ sizeLine; decide), fun l2 hl2 => ?_⟩
    have s2 := same_new hl2 (o := .lst [.str (Str.ofString "both"), .str (Str.ofString "either")])
    have d3' := d3.keep s2
    have hv' := hv.same s2
    rcases (by omega : way = 3 ∨ way = 4) with rfl | rfl
    · refine ⟨_, rfl, _, _, rfl, rfl, l2, _, _, .str (Str.ofString "both"), rfl, rfl, SqL.of upd_same, at_of (j := 0) rfl rfl, ?_⟩
      refine ⟨_, rfl, _, rfl, _, rfl, _, rfl, _, _, rfl, rfl, p, s, deep - 1, rfl, d3', h1, h6, by omega, by omega, fun v2 c2 H4 f4 d4 hv2 hc2 hcd2 => ⟨(by show 3 ≤ sizeLine; decide), fun t ht => ?_⟩⟩
      have sT := same_new ht (o := .tup [.str (Str.ofString "both"), v, v2])
      exact q (.ref t) (.both c c2) _ ((((F2.trans f3).trans (Fr.same s2)).trans f4).trans (Fr.same sT)) (d4.keep sT) (.tup upd_same (d4.ne ht) (Nat.le_add_left _ 997) (.cons (.str _) (.cons ((hv'.keep fun b o h e => f4 b o h e).same sT) (.cons (hv2.same sT) .nil)))) ⟨hc, hc2⟩ (by simp only [Cd.deep]; omega)
    · refine ⟨_, rfl, _, _, rfl, rfl, l2, _, _, .str (Str.ofString "either"), rfl, rfl, SqL.of upd_same, at_of (j := 1) rfl rfl, ?_⟩
      refine ⟨_, rfl, _, rfl, _, rfl, _, rfl, _, _, rfl, rfl, p, s, deep - 1, rfl, d3', h1, h6, by omega, by omega, fun v2 c2 H4 f4 d4 hv2 hc2 hcd2 => ⟨(by show 3 ≤ sizeLine; decide), fun t ht => ?_⟩⟩
      have sT := same_new ht (o := .tup [.str (Str.ofString "either"), v, v2])
      exact q (.ref t) (.either c c2) _ ((((F2.trans f3).trans (Fr.same s2)).trans f4).trans (Fr.same sT)) (d4.keep sT) (.tup upd_same (d4.ne ht) (Nat.le_add_left _ 997) (.cons (.str _) (.cons ((hv'.keep fun b o h e => f4 b o h e).same sT) (.cons (hv2.same sT) .nil)))) ⟨hc, hc2⟩ (by simp only [Cd.deep]; omega)
end

def Ents : List DictEntry → List (Str × Int) → Prop
  | [], [] => True
  | e :: r, q :: qs => (∃ h t u, e = ⟨h, .str q.1 t, .int q.2 u⟩) ∧ Ents r qs
  | [], _ :: _ => False
  | _ :: _, [] => False
def look : List (Str × Int) → Str → Option V
  | [], _ => none
  | q :: qs, x => if q.1 = x then some (.int q.2) else look qs x
def KTab (K : PySem.W.Frag) (w : World) (a : Addr) (qs : List (Str × Int)) : Prop :=
  (a == sysModules) = false ∧ ∃ es n, K.lookup a = some ⟨.type "dict", none, .dict es n, #[]⟩ ∧ PySem.W.KeysLit w.params es.toList ∧ Ents es.toList qs
def tKGet2 (K : PySem.W.Frag) (w : World) (td ty tx : TE) : TE := fun σ H Q => td σ H fun x H1 => ∃ a qs, x = .ref a ∧ KTab K w a qs ∧ ty σ H1 fun y H2 => tx σ H2 fun z H3 => ∃ s, y = .str s ∧ Q ((look qs s).getD z) H3
theorem ents_find : ∀ {es : List DictEntry} {qs : List (Str × Int)}, Ents es qs → ∀ (x : Str), RelO (look qs x) ((es.find? fun e => Value.isStrOf x e.key).map (·.val))
  | [], [], _, x => True.intro
  | e :: r, q :: qs, h, x => by
    obtain ⟨⟨hh, t, u, rfl⟩, h2⟩ := h
    have ih := ents_find h2 x
    unfold look
    rw [List.find?_cons]
    by_cases hx : q.1 = x
    · rw [if_pos hx]
      have e1 : Value.isStrOf x (Value.str q.1 t) = true := by show (q.1 == x) = true; rw [hx]; exact beq_self_eq_true x
      simp only [e1]
      exact ⟨u, rfl⟩
    · rw [if_neg hx]
      have e1 : Value.isStrOf x (Value.str q.1 t) = false := by show (q.1 == x) = false; exact beq_eq_false_iff_ne.mpr hx
      simp only [e1]
      exact ih
  | [], _ :: _, h, _ => h.elim
  | _ :: _, [], h, _ => h.elim
theorem pe_kget2 {X : Cx} {o e f : Expr} {apos cpos : Pos} {td ty tx : TE} (hc : X.calm = true) (ho : PE X o td) (he : PE X e ty) (hf : PE X f tx) (m : M2 X o "get" apos e f cpos) : PE X (.Call (.Attribute o "get" apos) [e, f] [] cpos) (tKGet2 X.K X.w td ty tx) := by
  refine ⟨fun pins s σ H Q I h => ?_⟩
  refine wpAny_Call_method m.base m.few m.line PySem.F.plainAttrs_dict PySem.F.slot_dict_get PySem.F.type_dict_get (thn (ho.run pins s σ H _ I h) fun u s1 ⟨x, H1, I1, rx, a, qs, ex, ⟨hs, es, n, hl, hk, hE⟩, q1⟩ => ?_)
  subst ex
  obtain rfl : u = Value.ref a := rx
  have hm1 := PySem.W.mapOf_K (prog := X.prog) (w := X.w) I1.kIn hl hk
  refine ⟨hm1.typeIs, fun b q => by cases q; exact ⟨_, I1.kIn _ _ hl, rfl⟩, ?_⟩
  rw [m.trees]
  refine Calls.callWith_builtin rfl (Calls.evalArgs_plain (Calls.spliced_cons (thn (he.run pins s1 σ H1 _ I1 q1) fun iv s2 ⟨y, H2, I2, ry, q2⟩ =>
    Calls.spliced_cons (thn (hf.run pins s2 σ H2 _ I2 q2) fun fv s3 ⟨z, H3, I3, rz, sx, ey, q3⟩ => Calls.spliced_nil ?_))))
  subst ey
  obtain ⟨t, rfl⟩ := (show ∃ t, iv = Value.str sx t from ry)
  have hm3 := PySem.W.mapOf_K (prog := X.prog) (w := X.w) I3.kIn hl hk
  refine call_meetsIn PySem.F.slot_dict_get hm3.typeIs PySem.F.entry_dict_get (PySem.F.args_dict_get_3 _ _ _) (meets_dict_get_default (strKind X.prog X.w) a (strKind_is X.prog X.w sx t) hs fv) ⟨_, hm3, ?_⟩
  refine ⟨_, H3, I3.tok _, ?_, q3⟩
  have r := ents_find hE sx
  have e2 : findBy Value.isStrOf es sx = (es.toList.find? fun e => Value.isStrOf sx e.key).map (·.val) := by
    unfold findBy
    rw [← Array.find?_toList]
  rw [e2]
  exact r.getD rz


def tyN : PyData → String
  | .none => "NoneType"
  | .bool _ => "bool"
  | .int _ => "int"
  | .str _ => "str"
  | .list _ => "list"
  | .tuple _ => "tuple"
  | .dict _ => "dict"
theorem Dt.ty {ok : Addr → Prop} {H : Hp} {K : PySem.W.Frag} {v : V} {d : PyData} (h : Dt ok H v d) : TyX K H v (.type (tyN d)) := by
  cases h with
  | non => exact .base .non
  | bl b => exact .base (.bl b)
  | int i => exact .base (.int i)
  | str x => exact .base (.str x)
  | lst e _ _ _ => exact .base (.lst e)
  | tup e _ _ _ => exact .base (.tup e)
  | dic e _ => exact .base (.dK e)
def isIntD : PyData → Bool
  | .int _ => true
  | .bool _ => true
  | _ => false
def isBoolD : PyData → Bool
  | .bool _ => true
  | _ => false
def isStrD : PyData → Bool
  | .str _ => true
  | _ => false
def isListD : PyData → Bool
  | .list _ => true
  | _ => false
def isTupD : PyData → Bool
  | .tuple _ => true
  | _ => false
def isDictD : PyData → Bool
  | .dict _ => true
  | _ => false
section
variable {K : PySem.W.Frag}
theorem k_int (d : PyData) : PySem.W.kitOne K (.type (tyN d)) (.type "int") = some (isIntD d) := by cases d <;> exact kit_ty (by dsimp only [tyN, isIntD]; decide +kernel)
theorem k_bool (d : PyData) : PySem.W.kitOne K (.type (tyN d)) (.type "bool") = some (isBoolD d) := by cases d <;> exact kit_ty (by dsimp only [tyN, isBoolD]; decide +kernel)
theorem k_str (d : PyData) : PySem.W.kitOne K (.type (tyN d)) (.type "str") = some (isStrD d) := by cases d <;> exact kit_ty (by dsimp only [tyN, isStrD]; decide +kernel)
theorem k_list (d : PyData) : PySem.W.kitOne K (.type (tyN d)) (.type "list") = some (isListD d) := by cases d <;> exact kit_ty (by dsimp only [tyN, isListD]; decide +kernel)
theorem k_tuple (d : PyData) : PySem.W.kitOne K (.type (tyN d)) (.type "tuple") = some (isTupD d) := by cases d <;> exact kit_ty (by dsimp only [tyN, isTupD]; decide +kernel)
theorem k_dict (d : PyData) : PySem.W.kitOne K (.type (tyN d)) (.type "dict") = some (isDictD d) := by cases d <;> exact kit_ty (by dsimp only [tyN, isDictD]; decide +kernel)
end

def isW : PyData → Bool
  | .int _ => true
  | _ => false
def inR (lo hi : Int) : PyData → Bool
  | .int i => decide (lo ≤ i) && decide (i ≤ hi)
  | _ => false
def areW (s : Int) : PyData → Bool
  | .list xs => decide ((xs.length : Int) = s) && xs.all (inR 0 4)
  | _ => false
def isLeastD (s : Int) : List PyData → Bool
  | [_, w, b] => areW s w && inR 0 4 b
  | _ => false
def isTurnsD (s : Int) : List PyData → Bool
  | [_, w, m, r] => areW s w && (match m with | .int i => inR 1 4 (.int i) && inR 0 (i - 1) r | _ => false)
  | _ => false
def made : List (Str × Int) := [(Str.ofString "not", 2), (Str.ofString "both", 3), (Str.ofString "either", 3)]
def arity (x : Str) : Int := match look made x with | some (.int i) => i | _ => 0
def isC : Nat → Int → PyData → Bool
  | 0, _, _ => false
  | n + 1, s, .tuple (.str x :: r) =>
    if x = Str.ofString "least" then isLeastD s (.str x :: r) else if x = Str.ofString "turns" then isTurnsD s (.str x :: r)
    else if ((r.length : Int) + 1 = arity x) then r.all (fun d => isC n s d) else false
  | _ + 1, _, _ => false
def isCond (d : PyData) : PyData → Bool
  | .int s => (decide (1 ≤ s) && decide (s ≤ 6)) && isC 4 s d
  | _ => false
def sp_is_whole : Sp := fun vs H Q _ => ∃ (v : V) (d : PyData), vs = [v] ∧ Dt (fun _ => True) H v d ∧ Q (.bl (isW d)) H
def sp_is_whole_within : Sp := fun vs H Q _ => ∃ (v : V) (d : PyData) (lo hi : Int), vs = [v, .int lo, .int hi] ∧ Dt (fun _ => True) H v d ∧ Q (.bl (inR lo hi d)) H
def sp__are_weights : Sp := fun vs H Q _ => ∃ (v : V) (d : PyData) (s : Int), vs = [v, .int s] ∧ Dt (fun _ => True) H v d ∧ ∀ H', Same H H' → Q (.bl (areW s d)) H'
def sp__is_least : Sp := fun vs H Q _ => ∃ (v : V) (ds : List PyData) (s : Int), vs = [v, .int s] ∧ Dt (fun _ => True) H v (.tuple ds) ∧ ∀ H', Same H H' → Q (.bl (isLeastD s ds)) H'
def sp__is_turns : Sp := fun vs H Q _ => ∃ (v : V) (ds : List PyData) (s : Int), vs = [v, .int s] ∧ Dt (fun _ => True) H v (.tuple ds) ∧ ∀ H', Same H H' → Q (.bl (isTurnsD s ds)) H'
def sp__is_condition_of (n : Nat) : Sp := fun vs H Q _ => ∃ (v : V) (d : PyData) (s lv : Int), vs = [v, .int s, .int lv] ∧ Dt (fun _ => True) H v d ∧ 0 ≤ lv ∧ lv ≤ n ∧ ∀ H', Same H H' → Q (.bl (isC lv.toNat s d)) H'
def sp_is_condition : Sp := fun vs H Q _ => ∃ (v u : V) (d e : PyData), vs = [v, u] ∧ Dt (fun _ => True) H v d ∧ Dt (fun _ => True) H u e ∧ ∀ H', Same H H' → Q (.bl (isCond d e)) H'
section
variable {P : Program} {w : World} {K : PySem.W.Frag} {mg : Str → Option Value} {base : Heap}
theorem ok_is_whole (T : Txt K mg) : FnOk P w K mg base CX0 1 T.f_is_whole T.d_is_whole ["thing"] sp_is_whole := by
  refine T.F_is_whole.ok sc_is_whole (fun vs H Q E h => ?_) (fun cdv A outer s H vs Q E hr h => ?_)
  · obtain ⟨v, d, rfl, _⟩ := h
    rfl
  obtain ⟨v, d, rfl, ht, q⟩ := h
  refine ⟨_, (pss_one (ps_ret (pe_and (pe_callB call_isi (by rfl) T.z_isinstance (by decide +kernel) (pa_cons (pv 0) (pa_cons (pe_bltn (v := .ty "int") (by rfl) T.z_int (by decide +kernel) rfl) pa_nil))) (pe_one (pe_not (pe_callB call_isi (by rfl) T.z_isinstance (by decide +kernel) (pa_cons (pv 0) (pa_cons (pe_bltn (v := .ty "bool") (by rfl) T.z_bool (by decide +kernel) rfl) pa_nil)))))))), ?_⟩
  refine ⟨_, rfl, _, _, _, _, _, rfl, .ty "int", ht.ty, k_int d, _, rfl, ite2 (fun h => ?_) (fun h => ?_)⟩
  · refine ⟨_, rfl, _, _, _, _, _, rfl, .ty "bool", ht.ty, k_bool d, _, rfl, ?_⟩
    have e : (!isBoolD d) = isW d := by cases d <;> first | rfl | cases h
    rw [e]
    exact q
  · have e : isW d = false := by cases d <;> first | rfl | exact absurd rfl h
    rw [e] at q
    exact q
theorem ok_is_whole_within (T : Txt K mg) : FnOk P w K mg base CX0 2 T.f_is_whole_within T.d_is_whole_within ["thing", "low", "high"] sp_is_whole_within := by
  have G_is_whole : FnOk P w K mg base CX0 1 T.f_is_whole T.d_is_whole ["thing"] sp_is_whole := ok_is_whole T
  refine T.F_is_whole_within.ok sc_is_whole_within (fun vs H Q E h => ?_) (fun cdv A outer s H vs Q E hr h => ?_)
  · obtain ⟨v, d, lo, hi, rfl, _⟩ := h
    rfl
  obtain ⟨v, d, lo, hi, rfl, ht, q⟩ := h
  refine ⟨_, (pss_one (ps_ret (pe_and (pe_call G_is_whole (hr.mono (by omega)) (by rfl) T.m_is_whole T.F_is_whole.kp T.b_is_whole .nil pass0 (pa_cons (pv 0) pa_nil)) (pe_one (pe_chain op_le op_le (pv 1) (pv 0) (pv 2)))))), ?_⟩
  refine ⟨_, rfl, v, d, rfl, ht, _, rfl, ite2 (fun h => ?_) (fun h => ?_)⟩
  · cases ht with
    | int i =>
      refine ⟨_, rfl, _, rfl, _, _, rfl, rfl, _, rfl, ite2 (fun h1 => ?_) (fun h1 => ?_)⟩
      · refine ⟨_, rfl, _, _, rfl, rfl, ?_⟩
        have e : inR lo hi (.int i) = decide (i ≤ hi) := by simp only [inR, h1, Bool.true_and]
        rw [e] at q
        exact q
      · have e : inR lo hi (.int i) = false := by simp only [inR, Bool.eq_false_iff.mpr h1, Bool.false_and]
        rw [e] at q
        exact q
    | _ => cases h
  · have e : inR lo hi d = false := by cases d <;> first | rfl | exact absurd rfl h
    rw [e] at q
    exact q
theorem all_take {f : PyData → Bool} {ds : List PyData} {i : Nat} {d : PyData} (h : ds[i]? = some d) : (ds.take (i + 1)).map f = (ds.take i).map f ++ [f d] := by
  rw [take_succ_of h, List.map_append]
  rfl
theorem ok__are_weights (T : Txt K mg) : FnOk P w K mg base CX0 3 T.f__are_weights T.d__are_weights ["thing", "s"] sp__are_weights := by
  have G_is_whole_within : FnOk P w K mg base CX0 2 T.f_is_whole_within T.d_is_whole_within ["thing", "low", "high"] sp_is_whole_within := ok_is_whole_within T
  refine T.F__are_weights.ok sc__are_weights (fun vs H Q E h => ?_) (fun cdv A outer s H vs Q E hr h => ?_)
  · obtain ⟨v, d, s, rfl, _⟩ := h
    rfl
  obtain ⟨v, d, s, rfl, ht, q⟩ := h
  refine ⟨_, (pss_cons (ps_if (PW.pt (pw_or (pt_not (pt_val (pe_callB call_isi (by rfl) T.z_isinstance (by decide +kernel) (pa_cons (pv 0) (pa_cons (pe_bltn (v := .ty "list") (by rfl) T.z_list (by decide +kernel) rfl) pa_nil))))) (pw_or1 (pt_cmpR op_ne (pe_callB call_len_seq (by rfl) T.z_len PySem.boot_len (pa_cons (pv 0) pa_nil)) (pv 1) (nomark _))))) (pss_one (ps_ret pe_bl)) pss_nil) (pss_one (ps_ret (pe_callB (cr_all rfl) (by rfl) T.z_all (by decide +kernel) (pa_cons (pe_lc (own := [("weight", 2)]) (g := gName 2) (tt := tYes) rfl sc__are_weights.nd (pi_list (pv 0)) (blkOk_by (own := [("weight", 2)]) (N := ["thing", "s", "weight"]) (sc := (defScope s__are_weights)) (by decide +kernel)) (fun _ _ _ _ _ => (pg_name (i := 2) sc__are_weights.nd rfl (Or.inl rfl))) (fun _ _ _ _ _ => pts_nil) (fun _ _ _ _ _ => (pe_call G_is_whole_within (hr.mono (by omega)) (by rfl) T.m_is_whole_within T.F_is_whole_within.kp T.b_is_whole_within .nil pass0 (pa_cons (pv 2) (pa_cons pe_int (pa_cons (pe_glob (v := .int (4)) rfl T.g_MOST_WEIGHT ⟨_, rfl⟩) pa_nil)))))) pa_nil))))), ?_⟩
  refine ⟨_, rfl, _, _, _, _, _, rfl, .ty "list", ht.ty, k_list d, _, rfl, ?_⟩
  cases hl : isListD d with
  | false =>
    have e : areW s d = false := by cases d <;> first | rfl | cases hl
    rw [e] at q
    exact iteT (q _ (Same.refl _))
  | true =>
    cases ht with
    | lst e k l r =>
      rename_i a xs ds
      have lr := r.len
      refine iteF ⟨_, rfl, _, _, rfl, .inl (SqL.of e), _, rfl, rfl, _, rfl, ?_⟩
      rw [lr]
      by_cases hs : (ds.length : Int) = s
      · rw [decide_eq_true (congrArg V.int hs)]
        refine iteF ⟨_, rfl, a, rfl, ⟨_, SqL.of e⟩, fun D hD => ?_⟩
        refine lc_list (xs := xs) (fun i H2 => H2 D = some (.lst (((ds.take i).map (inR 0 4)).map V.bl)) ∧ Same H H2) ⟨upd_same, same_new hD⟩ (fun i H2 _ ⟨_, s⟩ => SqL.of (s _ _ e)) ?_ ?_
        · rintro i x H2 hx ⟨g1, g2⟩
          obtain ⟨d1, hd1, hx2⟩ := r.getV hx
          have hi := (List.getElem?_eq_some_iff.mp hd1).1
          refine ⟨rfl, _, rfl, x, d1, 0, 4, rfl, hx2.same g2, _, g1, ?_, ?_, same_add g2 hD⟩
          · rw [List.length_map, List.length_map, List.length_take]
            exact Nat.lt_of_le_of_lt (show _ ≤ 1000000 by omega) (by decide)
          · rw [upd_same, all_take hd1, List.map_append]
            rfl
        · rintro H2 ⟨g1, g2⟩
          rw [lr, List.take_length] at g1
          refine ⟨D, _, rfl, SqL.of g1, ?_⟩
          have e2 : areW s (.list ds) = (ds.map (inR 0 4)).all id := by
            simp only [areW, decide_eq_true hs, Bool.true_and, List.all_map]
            rfl
          rw [← e2]
          exact q _ g2
      · rw [decide_eq_false (ine hs)]
        have e2 : areW s (.list ds) = false := by simp only [areW, decide_eq_false hs, Bool.false_and]
        rw [e2] at q
        exact iteT (q _ (Same.refl _))
    | _ => cases hl
theorem ok__is_least (T : Txt K mg) : FnOk P w K mg base CX0 4 T.f__is_least T.d__is_least ["thing", "s"] sp__is_least := by
  have G_is_whole_within : FnOk P w K mg base CX0 2 T.f_is_whole_within T.d_is_whole_within ["thing", "low", "high"] sp_is_whole_within := ok_is_whole_within T
  have G__are_weights : FnOk P w K mg base CX0 3 T.f__are_weights T.d__are_weights ["thing", "s"] sp__are_weights := ok__are_weights T
  refine T.F__is_least.ok sc__is_least (fun vs H Q E h => ?_) (fun cdv A outer s H vs Q E hr h => ?_)
  · obtain ⟨v, ds, s, rfl, _⟩ := h
    rfl
  obtain ⟨v, ds, s, rfl, ht, q⟩ := h
  refine ⟨_, (pss_cons (ps_if (pt_cmpR op_ne (pe_callB call_len_seq (by rfl) T.z_len PySem.boot_len (pa_cons (pv 0) pa_nil)) pe_int (nomark _)) (pss_one (ps_ret pe_bl)) pss_nil) (pss_one (ps_ret (pe_and (pe_call G__are_weights (hr.mono (by omega)) (by rfl) T.m__are_weights T.F__are_weights.kp T.b__are_weights .nil pass0 (pa_cons (pe_ix ix_tup (pv 0) pe_int (fun _ _ => rfl)) (pa_cons (pv 1) pa_nil))) (pe_one (pe_call G_is_whole_within (hr.mono (by omega)) (by rfl) T.m_is_whole_within T.F_is_whole_within.kp T.b_is_whole_within .nil pass0 (pa_cons (pe_ix ix_tup (pv 0) pe_int (fun _ _ => rfl)) (pa_cons pe_int (pa_cons (pe_glob (v := .int (4)) rfl T.g_MOST_BOUND ⟨_, rfl⟩) pa_nil))))))))), ?_⟩
  cases ht with
  | tup e _ _ r =>
  have lr := r.len
  refine ⟨_, rfl, _, _, rfl, .inr (SqT.of e), rfl, _, rfl, ?_⟩
  by_cases h3 : ds.length = 3
  · match ds, h3 with
    | [d0, d1, d2], _ =>
      cases r with
      | cons r0 r =>
      cases r with
      | cons r1 r =>
      cases r with
      | cons r2 r =>
      cases r
      refine iteNS rfl ?_
      refine ⟨_, rfl, _, _, 1, _, rfl, rfl, SqT.of e, atI_nat (j := 1) rfl, _, rfl, _, d1, s, rfl, r1, fun H1 s1 => ⟨_, rfl, ite2 (fun h => ?_) (fun h => ?_)⟩⟩
      · refine ⟨_, rfl, _, _, 2, _, rfl, rfl, SqT.of (s1 _ _ e), atI_nat (j := 2) rfl, _, d2, 0, 4, rfl, r2.same s1, ?_⟩
        have e1 : isLeastD s [d0, d1, d2] = inR 0 4 d2 := by simp only [isLeastD, h, Bool.true_and]
        rw [← e1]
        exact q _ s1
      · have e1 : isLeastD s [d0, d1, d2] = false := by simp only [isLeastD, Bool.eq_false_iff.mpr h, Bool.false_and]
        rw [← e1]
        exact q _ s1
  · have e1 : isLeastD s ds = false := by
      match ds, h3 with
      | [], _ => rfl
      | [_], _ => rfl
      | [_, _], _ => rfl
      | _ :: _ :: _ :: _ :: _, _ => rfl
    rw [lr, decide_eq_false (ine (show (ds.length : Int) ≠ 3 by omega))]
    rw [e1] at q
    exact iteT (q _ (Same.refl _))
theorem ok__is_turns (T : Txt K mg) : FnOk P w K mg base CX0 4 T.f__is_turns T.d__is_turns ["thing", "s"] sp__is_turns := by
  have G_is_whole_within : FnOk P w K mg base CX0 2 T.f_is_whole_within T.d_is_whole_within ["thing", "low", "high"] sp_is_whole_within := ok_is_whole_within T
  have G__are_weights : FnOk P w K mg base CX0 3 T.f__are_weights T.d__are_weights ["thing", "s"] sp__are_weights := ok__are_weights T
  refine T.F__is_turns.ok sc__is_turns (fun vs H Q E h => ?_) (fun cdv A outer s H vs Q E hr h => ?_)
  · obtain ⟨v, ds, s, rfl, _⟩ := h
    rfl
  obtain ⟨v, ds, s, rfl, ht, q⟩ := h
  refine ⟨_, (pss_cons (ps_if (PW.pt (pw_or (pt_cmpR op_ne (pe_callB call_len_seq (by rfl) T.z_len PySem.boot_len (pa_cons (pv 0) pa_nil)) pe_int (nomark _)) (pw_or1 (pt_not (pt_val (pe_call G__are_weights (hr.mono (by omega)) (by rfl) T.m__are_weights T.F__are_weights.kp T.b__are_weights .nil pass0 (pa_cons (pe_ix ix_tup (pv 0) pe_int (fun _ _ => rfl)) (pa_cons (pv 1) pa_nil)))))))) (pss_one (ps_ret pe_bl)) pss_nil) (pss_one (ps_ret (pe_and (pe_call G_is_whole_within (hr.mono (by omega)) (by rfl) T.m_is_whole_within T.F_is_whole_within.kp T.b_is_whole_within .nil pass0 (pa_cons (pe_ix ix_tup (pv 0) pe_int (fun _ _ => rfl)) (pa_cons pe_int (pa_cons (pe_glob (v := .int (4)) rfl T.g_MOST_M ⟨_, rfl⟩) pa_nil)))) (pe_one (pe_call G_is_whole_within (hr.mono (by omega)) (by rfl) T.m_is_whole_within T.F_is_whole_within.kp T.b_is_whole_within .nil pass0 (pa_cons (pe_ix ix_tup (pv 0) pe_int (fun _ _ => rfl)) (pa_cons pe_int (pa_cons (pe_op op_sub (pe_ix ix_tup (pv 0) pe_int (fun _ _ => rfl)) pe_int) pa_nil))))))))), ?_⟩
  cases ht with
  | tup e _ _ r =>
  have lr := r.len
  refine ⟨_, rfl, _, _, rfl, .inr (SqT.of e), rfl, _, rfl, ?_⟩
  by_cases h4 : ds.length = 4
  · match ds, h4 with
    | [d0, d1, d2, d3], _ =>
      cases r with
      | cons r0 r =>
      cases r with
      | cons r1 r =>
      cases r with
      | cons r2 r =>
      cases r with
      | cons r3 r =>
      cases r
      refine iteNS rfl ?_
      refine ⟨_, rfl, _, _, 1, _, rfl, rfl, SqT.of e, atI_nat (j := 1) rfl, _, rfl, _, d1, s, rfl, r1, fun H1 s1 => ⟨_, rfl, ?_⟩⟩
      cases h : areW s d1 with
      | true =>
        refine iteF ⟨_, rfl, _, _, 2, _, rfl, rfl, SqT.of (s1 _ _ e), atI_nat (j := 2) rfl, _, d2, 1, 4, rfl, r2.same s1, _, rfl, ite2 (fun h2 => ?_) (fun h2 => ?_)⟩
        · cases r2 with
          | int m =>
            refine ⟨_, rfl, _, _, 3, _, rfl, rfl, SqT.of (s1 _ _ e), atI_nat (j := 3) rfl, _, rfl, _, _, 2, _, rfl, rfl, SqT.of (s1 _ _ e), atI_nat (j := 2) rfl, _, _, rfl, rfl, _, d3, 0, m - 1, rfl, r3.same s1, ?_⟩
            have e1 : isTurnsD s [d0, d1, .int m, d3] = inR 0 (m - 1) d3 := by simp only [isTurnsD, h, h2, Bool.true_and]
            rw [← e1]
            exact q _ s1
          | _ => cases h2
        · have e1 : isTurnsD s [d0, d1, d2, d3] = false := by
            simp only [isTurnsD, h, Bool.true_and]
            cases d2 <;> first | rfl | simp only [Bool.eq_false_iff.mpr h2, Bool.false_and]
          rw [← e1]
          exact q _ s1
      | false =>
        have e1 : isTurnsD s [d0, d1, d2, d3] = false := by simp only [isTurnsD, h, Bool.false_and]
        rw [e1] at q
        exact iteT (q _ s1)
  · have e1 : isTurnsD s ds = false := by
      match ds, h4 with
      | [], _ => rfl
      | [_], _ => rfl
      | [_, _], _ => rfl
      | [_, _, _], _ => rfl
      | _ :: _ :: _ :: _ :: _ :: _, _ => rfl
    rw [lr]
    have e2 : (!decide (V.int (ds.length : Int) = V.int 4)) = true := by rw [decide_eq_false (ine (show (ds.length : Int) ≠ 4 by omega))]; rfl
    rw [e1] at q
    first
      | (rw [decide_eq_false (ine (show (ds.length : Int) ≠ 4 by omega))]; exact iteT (q _ (Same.refl _)))
      | (rw [e2]; exact iteT (iteT (q _ (Same.refl _))))
theorem cut1 {x : V} {r : List V} : cutV (x :: r) (some 1) none = r := by
  have h1 : HT.sIx (x :: r).length 0 (some 1) = 1 := by
    have := HT.sIx_nat (x :: r).length 0 1
    rw [show ((1 : Nat) : Int) = 1 from rfl] at this
    rw [this, List.length_cons]
    omega
  unfold cutV
  rw [h1, HT.sIx_none, List.length_cons, List.drop_succ_cons, List.drop_zero, Nat.add_sub_cancel, List.take_length]
theorem cut1_not {x : V} {r : List V} : ¬ (HT.sIx (x :: r).length 0 (some 1) = 0 ∧ HT.sIx (x :: r).length (x :: r).length none = (x :: r).length) := by
  have h1 : HT.sIx (x :: r).length 0 (some 1) = 1 := by
    have := HT.sIx_nat (x :: r).length 0 1
    rw [show ((1 : Nat) : Int) = 1 from rfl] at this
    rw [this, List.length_cons]
    omega
  rw [h1]
  omega
theorem look_int (x : Str) : ∀ qs : List (Str × Int), look qs x = none ∨ ∃ i, look qs x = some (.int i)
  | [] => .inl rfl
  | q :: qs => by
    unfold look
    split
    · exact .inr ⟨_, rfl⟩
    · exact look_int x qs
theorem look_made (x : Str) : (look made x).getD (.int 0) = .int (arity x) := by
  unfold arity
  rcases look_int x made with h | ⟨i, h⟩
  · rw [h]
    rfl
  · rw [h]
    rfl
theorem ok__is_condition_of (T : Txt K mg) (M : KTab K w T.a_MADE_OF_OTHERS made) : ∀ n : Nat, FnOk P w K mg base CX0 (n + 5) T.f__is_condition_of T.d__is_condition_of ["thing", "s", "levels"] (sp__is_condition_of n)
  | n => by
    have G__is_least : FnOk P w K mg base CX0 4 T.f__is_least T.d__is_least ["thing", "s"] sp__is_least := ok__is_least T
    have G__is_turns : FnOk P w K mg base CX0 4 T.f__is_turns T.d__is_turns ["thing", "s"] sp__is_turns := ok__is_turns T
    have G__is_condition_of : FnOk P w K mg base CX0 (n + 4) T.f__is_condition_of T.d__is_condition_of ["thing", "s", "levels"] (fun vs H Q E => 0 < n ∧ sp__is_condition_of (n - 1) vs H Q E) := by
      cases n with
      | zero => exact noneOf fun vs H Q E h => absurd h.1 (Nat.lt_irrefl 0)
      | succ m => exact (ok__is_condition_of T M m).imp fun vs H Q E h => h.2
    refine T.F__is_condition_of.ok sc__is_condition_of (fun vs H Q E h => ?_) (fun cdv A outer s H vs Q E hr h => ?_)
    · obtain ⟨v, d, s, lv, rfl, _⟩ := h
      rfl
    obtain ⟨v, d, s, lv, rfl, ht, h0, hn, q⟩ := h
    refine ⟨_, (pss_cons (ps_if (PW.pt (pw_or (pt_cmpR op_eq (pv 2) pe_int (nomark _)) (pw_or (pt_not (pt_val (pe_callB call_isi (by rfl) T.z_isinstance (by decide +kernel) (pa_cons (pv 0) (pa_cons (pe_bltn (v := .ty "tuple") (by rfl) T.z_tuple (by decide +kernel) rfl) pa_nil))))) (pw_or1 (pt_not (pt_truth (pv 0) (by intro _; rfl))))))) (pss_one (ps_ret pe_bl)) pss_nil) (pss_cons (ps_set (i := 3) sc__is_condition_of.nd rfl (Or.inl rfl) (pe_ix ix_tup (pv 0) pe_int (fun _ _ => rfl))) (pss_cons (ps_if (pt_not (pt_val (pe_callB call_isi (by rfl) T.z_isinstance (by decide +kernel) (pa_cons (pv 3) (pa_cons (pe_bltn (v := .ty "str") (by rfl) T.z_str (by decide +kernel) rfl) pa_nil))))) (pss_one (ps_ret pe_bl)) pss_nil) (pss_cons (ps_if (pt_cmpR op_eq (pv 3) pe_str (nomark _)) (pss_one (ps_ret (pe_call G__is_least (hr.mono (by omega)) (by rfl) T.m__is_least T.F__is_least.kp T.b__is_least .nil pass0 (pa_cons (pv 0) (pa_cons (pv 1) pa_nil))))) pss_nil) (pss_cons (ps_if (pt_cmpR op_eq (pv 3) pe_str (nomark _)) (pss_one (ps_ret (pe_call G__is_turns (hr.mono (by omega)) (by rfl) T.m__is_turns T.F__is_turns.kp T.b__is_turns .nil pass0 (pa_cons (pv 0) (pa_cons (pv 1) pa_nil))))) pss_nil) (pss_cons (ps_if (pt_cmpR op_ne (pe_callB call_len_seq (by rfl) T.z_len PySem.boot_len (pa_cons (pv 0) pa_nil)) (pe_kget2 rfl (pe_glob (v := .ref T.a_MADE_OF_OTHERS) rfl T.g_MADE_OF_OTHERS rfl) (pv 3) pe_int ⟨rfl, rfl, rfl, rfl⟩) (nomark _)) (pss_one (ps_ret pe_bl)) pss_nil) (pss_one (ps_ret (pe_callB (cr_all rfl) (by rfl) T.z_all (by decide +kernel) (pa_cons (pe_lc (own := [("part", 4)]) (g := gName 4) (tt := tYes) rfl sc__is_condition_of.nd (pi_tup (pe_slice sl_tup (pv 0) (po_some pe_int) po_none)) (blkOk_by (own := [("part", 4)]) (N := ["thing", "s", "levels", "word", "part"]) (sc := (defScope s__is_condition_of)) (by decide +kernel)) (fun _ _ _ _ _ => (pg_name (i := 4) sc__is_condition_of.nd rfl (Or.inl rfl))) (fun _ _ _ _ _ => pts_nil) (fun _ _ _ _ _ => (pe_call G__is_condition_of (hr.mono (by omega)) (by rfl) T.m__is_condition_of T.F__is_condition_of.kp T.b__is_condition_of .nil pass0 (pa_cons (pv 4) (pa_cons (pv 1) (pa_cons (pe_op op_sub (pv 2) pe_int) pa_nil)))))) pa_nil)))))))))), ?_⟩
    by_cases hz : lv = 0
    · subst hz
      exact ⟨_, rfl, rfl, _, rfl, eqT rfl (iteT (q _ (Same.refl _)))⟩
    refine ⟨_, rfl, rfl, _, rfl, eqF (ine hz) ?_⟩
    obtain ⟨m, hm⟩ : ∃ m, lv.toNat = m + 1 := ⟨lv.toNat - 1, by omega⟩
    rw [hm] at q
    refine ⟨_, rfl, _, _, _, _, _, rfl, .ty "tuple", ht.ty, k_tuple d, _, rfl, ?_⟩
    cases hT : isTupD d with
    | false =>
      have e1 : isC (m + 1) s d = false := by cases d <;> first | rfl | cases hT
      rw [e1] at q
      exact iteT (iteT (q _ (Same.refl _)))
    | true =>
    refine iteF ?_
    have ht2 := ht
    cases ht with
    | tup e _ _ r =>
      rename_i a xs ds
      have lr := r.len
      refine ⟨_, rfl, _, .inr (.inl ⟨_, SqT.of e, rfl⟩), ?_⟩
      cases r with
      | nil => exact iteT (q _ (Same.refl _))
      | cons r0 r1 =>
      rename_i v0 vs0 d0 ds0
      refine iteF ?_
      refine ⟨_, rfl, _, _, 0, _, rfl, rfl, SqT.of e, atI_nat (j := 0) rfl, ?_⟩
      refine ⟨_, rfl, _, _, _, _, _, rfl, .ty "str", r0.ty, k_str d0, _, rfl, ?_⟩
      cases hS : isStrD d0 with
      | false =>
        have e1 : isC (m + 1) s (.tuple (d0 :: ds0)) = false := by cases d0 <;> first | rfl | cases hS
        rw [e1] at q
        exact iteT (q _ (Same.refl _))
      | true =>
      refine iteF ?_
      cases r0 with
      | str x =>
        by_cases x1 : x = Str.ofString "least"
        · subst x1
          refine ⟨_, rfl, rfl, _, rfl, eqT rfl ?_⟩
          have e1 : isC (m + 1) s (.tuple (.str (Str.ofString "least") :: ds0)) = isLeastD s (.str (Str.ofString "least") :: ds0) := by simp only [isC, if_true]
          rw [e1] at q
          exact ⟨_, rfl, _, rfl, _, _, s, rfl, ht2, q⟩
        refine ⟨_, rfl, rfl, _, rfl, eqF (sne x1) ?_⟩
        by_cases x2 : x = Str.ofString "turns"
        · subst x2
          refine ⟨_, rfl, rfl, _, rfl, eqT rfl ?_⟩
          have e1 : isC (m + 1) s (.tuple (.str (Str.ofString "turns") :: ds0)) = isTurnsD s (.str (Str.ofString "turns") :: ds0) := by simp only [isC, if_neg x1, if_true]
          rw [e1] at q
          exact ⟨_, rfl, _, rfl, _, _, s, rfl, ht2, q⟩
        refine ⟨_, rfl, rfl, _, rfl, eqF (sne x2) ?_⟩
        refine ⟨_, rfl, _, _, rfl, .inr (SqT.of e), _, made, rfl, M, _, rfl, x, rfl, ?_⟩
        rw [look_made]
        refine ⟨rfl, _, rfl, ?_⟩
        simp only [List.length_cons] at lr
        have lr2 : vs0.length = ds0.length := by omega
        by_cases hA : (ds0.length : Int) + 1 = arity x
        · have e2 : ((V.str x :: vs0).length : Int) = arity x := by rw [List.length_cons, lr2, ← hA]; rfl
          refine iteNS (congrArg V.int e2) ?_
          refine ⟨_, rfl, 1, rfl, _, _, rfl, SqT.of e, cut1_not, fun pt hpt => ⟨pt, rfl, ⟨_, SqT.of upd_same⟩, fun D hD => ?_⟩⟩
          rw [cut1] at hD ⊢
          have sp := same_new hpt (o := .tup vs0)
          have sD := same_new hD (o := .lst [])
          have hp2 := upd_same (H := H) (a := pt) (o := .tup vs0)
          refine lc_tup (xs := vs0) (fun i H2 => H2 D = some (.lst (((ds0.take i).map (fun d => isC m s d)).map V.bl)) ∧ Same (upd H pt (.tup vs0)) H2) ⟨upd_same, sD⟩ (fun i H2 _ ⟨_, s⟩ => SqT.of (s _ _ hp2)) ?_ ?_
          · rintro i y H2 hx ⟨g1, g2⟩
            obtain ⟨d1, hd1, hx2⟩ := r1.getV hx
            have hi := (List.getElem?_eq_some_iff.mp hd1).1
            refine ⟨rfl, _, rfl, _, rfl, _, rfl, _, _, rfl, rfl, by omega, y, d1, s, lv - 1, rfl, hx2.same (sp.trans g2), by omega, by omega, fun H3 s3 => ⟨_, s3 _ _ g1, ?_, ?_, same_add (g2.trans s3) hD⟩⟩
            · rw [List.length_map, List.length_map, List.length_take]
              exact Nat.lt_of_le_of_lt (show _ ≤ 1000000 by omega) (by decide)
            · have e3 : (lv - 1).toNat = m := by omega
              rw [upd_same, all_take hd1, List.map_append, e3]
              rfl
          · rintro H2 ⟨g1, g2⟩
            rw [lr2, List.take_length] at g1
            refine ⟨D, _, rfl, SqL.of g1, ?_⟩
            have e3 : isC (m + 1) s (.tuple (.str x :: ds0)) = (ds0.map (fun d => isC m s d)).all id := by
              simp only [isC, if_neg x1, if_neg x2, if_pos hA, List.all_map]
              rfl
            rw [← e3]
            exact q _ (sp.trans g2)
        · have e2 : ((V.str x :: vs0).length : Int) ≠ arity x := by rw [List.length_cons, lr2]; exact fun h => hA (by rw [← h]; rfl)
          rw [decide_eq_false (ine e2)]
          have e3 : isC (m + 1) s (.tuple (.str x :: ds0)) = false := by simp only [isC, if_neg x1, if_neg x2, if_neg hA]
          rw [e3] at q
          exact iteT (q _ (Same.refl _))
      | _ => cases hS
    | _ => cases hT
theorem ok_is_condition (T : Txt K mg) (M : KTab K w T.a_MADE_OF_OTHERS made) : FnOk P w K mg base CX0 10 T.f_is_condition T.d_is_condition ["thing", "s"] sp_is_condition := by
  have G_is_whole_within : FnOk P w K mg base CX0 2 T.f_is_whole_within T.d_is_whole_within ["thing", "low", "high"] sp_is_whole_within := ok_is_whole_within T
  have G__is_condition_of : FnOk P w K mg base CX0 9 T.f__is_condition_of T.d__is_condition_of ["thing", "s", "levels"] (sp__is_condition_of 4) := ok__is_condition_of T M 4
  refine T.F_is_condition.ok sc_is_condition (fun vs H Q E h => ?_) (fun cdv A outer s H vs Q E hr h => ?_)
  · obtain ⟨v, u, d, e, rfl, _⟩ := h
    rfl
  obtain ⟨v, u, d, e, rfl, ht, hu, q⟩ := h
  refine ⟨_, (pss_one (ps_ret (pe_and (pe_call G_is_whole_within (hr.mono (by omega)) (by rfl) T.m_is_whole_within T.F_is_whole_within.kp T.b_is_whole_within .nil pass0 (pa_cons (pv 1) (pa_cons pe_int (pa_cons (pe_glob (v := .int (6)) rfl T.g_MOST_STATES ⟨_, rfl⟩) pa_nil)))) (pe_one (pe_call G__is_condition_of (hr.mono (by omega)) (by rfl) T.m__is_condition_of T.F__is_condition_of.kp T.b__is_condition_of .nil pass0 (pa_cons (pv 0) (pa_cons (pv 1) (pa_cons (pe_glob (v := .int (4)) rfl T.g_MOST_WITHIN ⟨_, rfl⟩) pa_nil)))))))), ?_⟩
  refine ⟨_, rfl, u, e, 1, 6, rfl, hu, _, rfl, ite2 (fun h => ?_) (fun h => ?_)⟩
  · cases hu with
    | int i =>
      refine ⟨_, rfl, _, rfl, v, d, i, 4, rfl, ht, by decide, by decide, fun H1 s1 => ?_⟩
      have e1 : isCond d (.int i) = isC 4 i d := by
        simp only [inR] at h
        simp only [isCond, h, Bool.true_and]
      rw [e1] at q
      exact q _ s1
    | _ => cases h
  · have e1 : isCond d e = false := by
      cases e with
      | int i =>
        simp only [inR] at h
        simp only [isCond, Bool.eq_false_iff.mpr h, Bool.false_and]
      | _ => rfl
    rw [e1] at q
    exact q _ (Same.refl _)
end

def RunG (P : Program) (w : World) (K : PySem.W.Frag) (mg : Str → Option Value) (bh : Heap) (k : Nat) (fa : Addr) (fd : FuncData) (x : Str) (sp : Sp) : Prop :=
  ∀ (A : Around) (ou : List Env) (s : Shared) (H : Hp) (ar : Args) (us : List Value) (vs : List V) (Q : VK) (E : XK), A.guards = some [] → Room k A → Env0 P w K mg bh A ou s H → BindsTo s fd ar ([x].zip us) → Vals vs us → sp vs H Q E →
    codeAny (model P w) A (.call (.ref fa) ar) (CR CX0 ou P w H s Q E) s
theorem runG_of {P : Program} {w : World} {K : PySem.W.Frag} {mg : Str → Option Value} {bh : Heap} {x nm : Str} {st : Stmt} {fa : Addr} {fd : FuncData} {N : List Str} {k : Nat} {sp : Sp} (F : Fun K nm nm st fa fd) (S : FnScope N [x] (defScope st)) (hlen : ∀ vs H Q E, sp vs H Q E → vs.length = 1)
    (hbd : ∀ (cdv : Value) (A : Around) (ou : List Env) (s : Shared) (H : Hp) (vs : List V) (Q : VK) (E : XK), A.guards = some [] → Room k (A.deeper (envOfC nm (defScope st) s.heap.objs.size fa cdv)) → sp vs H Q E →
      ∃ t, PSs (cxOf CX0 P w K mg bh N nm (defScope st) fa cdv A ou s H E).nox (defBody st) t ∧ t { nx := fun _ H' => Q .non H', rt := Q } (L2.start N vs) H) : RunG P w K mg bh (k + 1) fa fd x sp := by
  obtain ⟨oc, od, kV, dc, pm, an, cdv, ct, osl, rfl, lk0, hc0⟩ := F.ex
  intro A ou s H ar us vs Q E hG hR env0 hB hV hsp
  have ln : vs.length = [x].length := hlen _ _ _ _ hsp
  have kx : K.In s.heap := env0.mod.kin.keeps fun b ob eb => (env0.bs b ob eb).1
  have lm : s.heap.NoLimit := env0.mod.nolimit.keeps fun b ob eb => (env0.bs b ob eb).1
  have kinds : ∀ z ∈ [x].zip us, (defScope st).names.lookup z.1 = some .local ∨ ((defScope st).names.lookup z.1 = some .cell ∧ ((cellsFrom (s.heap.objs.size + 1) (defScope st).names []).lookup z.1).isSome = true) := by
    rintro ⟨zn, zv⟩ hz
    rcases S.par zn (List.of_mem_zip hz).1 with hq | hq
    · exact .inl hq
    · exact .inr ⟨hq, PySem.W.cellsFrom_some _ _ _ (.inl hq)⟩
  refine codeAny_call_function hR.depth (kx _ _ lk0) rfl S.co S.gen rfl (PySem.W.codeRec_of kx hc0) (hB _ _ _ _ (wpAny_newFunctionEnv_cells S.kind kinds fun ev hev s1 xx => ?_))
  subst hev
  refine ⟨lm.keeps xx.toInCall.keep, codeAny_func ?_⟩
  obtain ⟨t, hT, hQ⟩ := hbd cdv A ou s H vs Q E hG (hR.deeper _) hsp
  have iv : Inv (cxOf CX0 P w K mg bh N nm (defScope st) fa cdv A ou s H E) [] (L2.start N vs) H s1 := inv_start S hR.hd env0 ln hV xx
  refine wpAny_mono (hT.nox.run [] s1 (L2.start N vs) H _ iv hQ) (fun flw s2 hs2 => ?_) fun e s2 hs2 => hs2
  have done : ∀ {σ2 : L2.St} {H2 : Hp} {v : V} {u : Value}, Inv (cxOf CX0 P w K mg bh N nm (defScope st) fa cdv A ou s H E) [] σ2 H2 s2 → RelV v u → Q v H2 → CE ou P w H s Q u s2 :=
    fun {σ2 H2 v u} J2 rv2 q2 => ⟨v, H2, J2.os, J2.bare, J2.base, J2.hok, rv2, q2⟩
  cases flw with
  | ret u =>
    obtain ⟨v, σ2, H2, J2, rv2, q2⟩ := hs2
    exact done J2 rv2 q2
  | next =>
    obtain ⟨σ2, H2, J2, q2⟩ := hs2
    exact done (v := V.non) (u := Value.none) J2 rfl q2
  | brk => exact (let ⟨_, _, _, q2⟩ := hs2; False.elim q2)
  | cont => exact (let ⟨_, _, _, q2⟩ := hs2; False.elim q2)
theorem callG {P : Program} {w : World} {K : PySem.W.Frag} {mg mb : Str → Option Value} {k : Nat} {fa sa : Addr} {fd : FuncData} {x : Str} {sp : Sp} {s0 : Shared} {vs : List Value} {zs : List Int}
    (kx : K.In s0.heap) (hn : s0.heap.Ns mainGlobals mg) (hbn : s0.heap.Ns builtinsNs mb) (hbt : ∀ y : Str, y ≠ "__name__" → mb y = bootBuiltins y) (hlm : s0.heap.NoLimit) (hgn : s0.gens = #[])
    (hsa : s0.heap.get? sa = some { cls := .type "list", data := .seq vs.toArray }) (hia : IntsAre vs zs) (hln : zs.length ≤ sizeLine) (hrm : Room k callerA)
    (hsm : ∃ es ep ob, s0.heap.get? sysModules = some ob ∧ ob.data = .dict es ep) (F : ∀ bh : Heap, K.In bh → bh.Ns mainGlobals mg → (∃ ob, bh.get? sysModules = some ob) → RunG P w K mg bh k fa fd x sp) (hbd : ∀ (s : Shared) (u : Value), BindsTo s fd ⟨[u], []⟩ [(x, u)])
    (hspr : ∀ H : Hp, SqL K H sa (zs.map V.int) → sp [.ref sa] H (fun v _ => v = .bl true) fun _ _ _ => False) :
    codeAny (model P w) callerA (.call (.ref fa) ⟨[.ref sa], []⟩) (fun rr s' => rr = .ok (.ret (.bool true)) ∧ OldK s0.heap s'.heap ∧ s'.os = s0.os ∧ AllBare s'.gens) s0 := by
  have rvs := vals_ints hia
  have lnV := hia.length
  have inner : ∀ H : Hp, Only H → SqL K H sa (zs.map V.int) → HOk P w H s0.heap → (∀ b, H b ≠ none → b = sa) → (H sa ≠ none → K.lookup sa = none) →
      codeAny (model P w) callerA (.call (.ref fa) ⟨[.ref sa], []⟩) (fun rr s' => rr = .ok (.ret (.bool true)) ∧ OldK s0.heap s'.heap ∧ s'.os = s0.os ∧ AllBare s'.gens) s0 := by
    intro H only hSq hHok honly hKn
    have toBase : ∀ {b : Addr} {ob : Obj}, s0.heap.get? b = some ob → H b = none → (hidT s0.heap H).get? b = some ob := fun he hn => hidT_get he hn
    have notDict : ∀ {b : Addr} {ob : Obj} {es : Array DictEntry} {ep : Nat}, s0.heap.get? b = some ob → ob.data = .dict es ep → H b = none := by
      intro b ob es ep he hd
      cases hb : H b with
      | none => rfl
      | some uu =>
        obtain rfl : b = sa := honly b (by rw [hb]; simp)
        rw [hsa] at he
        cases he
        have bad : Data.seq vs.toArray _ = Data.dict es ep := hd
        cases bad
    have nss : ∀ {b : Addr} {mm : Str → Option Value}, s0.heap.Ns b mm → (hidT s0.heap H).Ns b mm := by
      rintro b mm ⟨ob, es, ep, he, hd, hr⟩
      exact ⟨ob, es, ep, toBase he (notDict he hd), hd, hr⟩
    have kb : K.In (hidT s0.heap H) := by
      intro b ob he
      refine toBase (kx b ob he) ?_
      cases hb : H b with
      | none => rfl
      | some uu =>
        obtain rfl : b = sa := honly b (by rw [hb]; simp)
        rw [hKn (by rw [hb]; simp)] at he
        cases he
    obtain ⟨mc, l1, l2⟩ := hlm
    have env0 : Env0 P w K mg (hidT s0.heap H) callerA [] s0 H := ⟨rfl, ⟨kb, nss hn, ⟨mb, nss hbn, hbt⟩, ⟨mc, nss l1, l2⟩⟩, fun b ob he => of_hidT he, Nat.le_of_eq (hidT_size _ _), trivial, fun b hb => (List.not_mem_nil hb).elim, hHok, .of_eq hgn⟩
    refine codeAny_mono (F _ kb (nss hn) (let ⟨es, ep, ob, he, hd⟩ := hsm; ⟨ob, toBase he (notDict he hd)⟩) callerA [] s0 H ⟨[.ref sa], []⟩ [.ref sa] [.ref sa] _ _ rfl hrm env0 (hbd s0 (.ref sa)) (.cons rfl .nil) (hspr H hSq)) fun rr s' hh => ?_
    match rr, hh with
    | .error e, hh => exact (show False from hh).elim
    | .ok .next, hh => exact (show False from hh).elim
    | .ok .brk, hh => exact (show False from hh).elim
    | .ok .cont, hh => exact (show False from hh).elim
    | .ok (.ret u), hh =>
      obtain ⟨v, H2, hos, hbare, hun, hok2, hrv, hvq⟩ := hh
      obtain rfl : v = .bl true := hvq
      obtain rfl : u = Value.bool true := hrv
      refine ⟨rfl, OldK.of_keep fun b ob he => ?_, hos, hbare⟩
      cases hb : H b with
      | none => exact hun.keep b ob he hb (fun hz => (List.not_mem_nil hz).elim) (List.not_mem_nil)
      | some uu =>
        rcases only b with hz | ⟨o2, xs2, hz⟩
        · rw [hb] at hz
          cases hz
        · obtain ⟨e1, _⟩ := hHok b _ hz
          obtain ⟨e2, _⟩ := hok2 b _ (hun.frzs b o2 _ hz)
          rw [he] at e1
          cases e1
          exact e2
  cases hlk : K.lookup sa with
  | some oo =>
    have hx := kx sa oo hlk
    rw [hsa] at hx
    cases hx
    refine inner (fun _ => none) (fun _ => .inl rfl) (.inr ⟨_, vs.toArray, _, hlk, rfl, rfl, rfl, by rw [List.size_toArray, lnV]; exact hln, by simpa using rvs⟩) (fun b u hz => ?_) (fun b hz => absurd rfl hz) fun hz => absurd rfl hz
    have : (none : Option HO) = some u := hz
    cases this
  | none =>
    refine inner (fun b => if b = sa then some (.frz { cls := .type "list", data := .seq vs.toArray } (.lst (zs.map V.int))) else none) (fun b => ?_) (.inl (.inr ⟨{ cls := .type "list", data := .seq vs.toArray }, if_pos rfl⟩)) (fun b u hz => ?_) (fun b hz => ?_) fun _ => hlk
    · by_cases heq : b = sa
      · exact .inr ⟨_, _, if_pos heq⟩
      · exact .inl (if_neg heq)
    · by_cases heq : b = sa
      · have hz2 := (if_pos heq).symm.trans hz
        cases hz2
        subst heq
        exact ⟨hsa, by rw [List.length_map]; exact hln, vs, _, rvs, hsa⟩
      · have hz2 := (if_neg heq).symm.trans hz
        cases hz2
    · by_cases heq : b = sa
      · exact heq
      · exact absurd (if_neg heq) hz
theorem sysMod_of {h : Heap} (x : h.NoSeer) : ∃ es ep ob, h.get? sysModules = some ob ∧ ob.data = .dict es ep := by
  obtain ⟨m, hns, _⟩ := x.mods
  obtain ⟨ob, es, ep, he, hd, _⟩ := hns
  exact ⟨es, ep, ob, he, hd⟩
theorem walkG {l : PySem.W.OpenLaw} {n k : Nat} {q : Program} {loose : List Str} {XP : (Str → Option Value) → Heap → Prop} {YP : World → Heap → Prop} {d : DefRec} {K : Params → PySem.W.Frag} {x : Str}
    (hm : l.most = some n) (hz : n ≤ sizeLine) (h63 : n ≤ 63) (hin : importsNone q = true) (hdd : d.params.defaults = []) (hrm : Room k callerA) (hY : ∀ w h, YP w h → (K w.params).In h)
    (F : ∀ (w : World) (mg : Str → Option Value) (fa : Addr) (hh : Heap), (K w.params).In hh → hh.Ns mainGlobals mg → mg d.name = some (.ref fa) →
      ∃ fd : FuncData, (∀ (s : Shared) (u : Value), BindsTo s fd ⟨[u], []⟩ [(x, u)]) ∧ ∀ bh : Heap, (K w.params).In bh → bh.Ns mainGlobals mg → (∃ ob, bh.get? sysModules = some ob) → RunG l.prog w (K w.params) mg bh k fa fd x (spLaw (K w.params))) :
    PySem.W.WalkO q loose XP YP l.row.toRowW d [] fun f vs => PySem.call f vs := by
  refine Att.attach_call hm hdd fun w s0 s1 mg mb fa o pm cd dc a vs ns G Y ho hod hcd hmg hob hiz hlen hgn => ?_
  obtain ⟨fd, hB, hF⟩ := F w mg fa _ (hY w _ Y) G.T.g hmg
  exact callG (hY w _ Y) G.T.g G.T.b G.T.builtins G.T.nolimit hgn hob hiz (Nat.le_trans hlen hz) hrm (sysMod_of (G.T.seer hin)) hF hB fun H hS => ⟨a, ns, rfl, hS, Nat.le_trans hlen h63, fun _ => rfl⟩

theorem inv_sysMod {X : Cx} {pins : List (Addr × Obj)} {σ : L2.St} {H : Hp} {s : Shared} (hM : ∃ ob, X.base.get? sysModules = some ob) (I : Inv X pins σ H s) : H sysModules = none := let ⟨_, hg⟩ := hM; (I.bs _ _ hg).2
mutual
theorem Dt.reads {X : Cx} {pins : List (Addr × Obj)} {σ : L2.St} {H : Hp} {s : Shared} {ok : Addr → Prop} (hM : ∃ ob, X.base.get? sysModules = some ob) (I : Inv X pins σ H s) : ∀ {d : PyData} {v : V} {u : Value}, Dt ok H v d → RelV v u → ∃ as, Reads s.heap u d as ∧ sysModules ∉ as
  | _, _, _, .non, r => by cases r; exact ⟨_, Reads.none, List.not_mem_nil⟩
  | _, _, _, .bl b, r => by cases r; exact ⟨_, Reads.bool b, List.not_mem_nil⟩
  | _, _, _, .int i, r => by obtain ⟨t, rfl⟩ := r; exact ⟨_, Reads.int i t, List.not_mem_nil⟩
  | _, _, _, .str x, r => by obtain ⟨t, rfl⟩ := r; exact ⟨_, Reads.str x t, List.not_mem_nil⟩
  | _, _, _, .dic e _, r => by
    cases r
    obtain ⟨_, hd, vs, rel, o, es, ep, h1, h2, h3, h4⟩ := dk_of I.hok e
    cases rel
    obtain ⟨_, hp, _⟩ := h4
    have he : es.toList = [] := by
      generalize es.toList = l at hp
      cases hp
      rfl
    exact ⟨_, Reads.dict (kvs := []) (as := []) (bs := []) h1 h2.1 h3 (by rw [he]; exact .nil) (by rw [he]; exact .nil), fun hm => by
      rcases List.mem_cons.mp hm with hq | hq
      · rw [← hq] at hd
        simp at hd
      · cases hq⟩
  | _, _, _, .lst e _ _ rr, r => by
    cases r
    obtain ⟨its, rv, ⟨o, n, ho, hc, _, hd⟩, _⟩ := I.list (SqL.of e)
    obtain ⟨as, h1, h2⟩ := DtAll.reads hM I rr rv
    refine ⟨_, Reads.list ho hc hd h1, fun hm => ?_⟩
    rcases List.mem_cons.mp hm with hq | hq
    · rw [← hq, inv_sysMod hM I] at e
      cases e
    · exact h2 hq
  | _, _, _, .tup e _ _ rr, r => by
    cases r
    obtain ⟨its, rv, ⟨o, ho, hc, n, hd⟩, _⟩ := I.tuple (SqT.of e)
    obtain ⟨as, h1, h2⟩ := DtAll.reads hM I rr rv
    exact ⟨_, Reads.tuple ho hc hd h1, h2⟩
theorem DtAll.reads {X : Cx} {pins : List (Addr × Obj)} {σ : L2.St} {H : Hp} {s : Shared} {ok : Addr → Prop} (hM : ∃ ob, X.base.get? sysModules = some ob) (I : Inv X pins σ H s) : ∀ {ds : List PyData} {vs : List V} {us : List Value}, DtAll ok H vs ds → Vals vs us → ∃ as, ReadsAll s.heap us ds as ∧ sysModules ∉ as
  | _, _, _, .nil, r => by cases r; exact ⟨_, ReadsAll.nil, List.not_mem_nil⟩
  | _, _, _, .cons a b, r => by
    cases r with
    | cons r1 r2 =>
      obtain ⟨as, q1, q2⟩ := Dt.reads hM I a r1
      obtain ⟨bs, q3, q4⟩ := DtAll.reads hM I b r2
      exact ⟨_, ReadsAll.cons q1 q3, fun hm => (List.mem_append.mp hm).elim q2 q4⟩
end
def rReprD : List V → Hp → VK → Prop := fun xs H Q => ∃ (v : V) (d : PyData), xs = [v] ∧ Dt (fun _ => True) H v d ∧ d.showable = true ∧ d.shown.length ≤ sizeLine ∧ d.depth ≤ 60 ∧ Q (.str d.shown) H
theorem call_reprD {X : Cx} (hg : X.A.guards = some []) (hu : X.A.units + 64 < cLine) (hM : ∃ ob, X.base.get? sysModules = some ob) : CallR X (.builtin "repr") rReprD := by
  intro pins s σ H xs us Q I r h
  obtain ⟨v, d, rfl, ht, hs, hz, hd, q⟩ := h
  obtain ⟨u, rfl, rv⟩ := vals1 r
  obtain ⟨as, h1, h2⟩ := Dt.reads hM I ht rv
  have refs : ∀ a, u = Value.ref a → wpAny (model X.prog X.w) X.A (call (.builtin "repr") [u]) (fun x s' => ∃ v H', Inv X pins σ H' s' ∧ RelV v x ∧ Q v H') X.xe s := by
    rintro a rfl
    exact repr_of_reads' h1 hs (fun _ => h2) hg (by omega) (fun _ _ e => e) (fun h' t tk hk => ⟨.str d.shown, H, I.kept hk, ⟨t, rfl⟩, q⟩) hz
  cases ht with
  | non => cases rv; exact PySem.P.repr_of_none ⟨.str _, H, I.tok _, ⟨_, rfl⟩, q⟩
  | bl b => cases rv; exact PySem.P.repr_of_bool ⟨.str _, H, I.tok _, ⟨_, rfl⟩, q⟩
  | int i =>
    obtain ⟨t, rfl⟩ := rv
    exact PySem.P.repr_of_int (by simpa only [PyData.showable, decide_eq_true_eq] using hs) ⟨.str _, H, I.tok _, ⟨_, rfl⟩, q⟩
  | str x =>
    obtain ⟨t, rfl⟩ := rv
    exact PySem.P.repr_of_str ⟨.str _, H, I.tok _, ⟨_, rfl⟩, q⟩ hz
  | dic _ _ => exact refs _ rv
  | lst _ _ _ _ => exact refs _ rv
  | tup _ _ _ _ => exact refs _ rv


def sp__law_copy (n : Nat) : Sp := fun vs H Q _ => ∃ (v : V) (d : PyData), vs = [v] ∧ Dt (fun _ => True) H v d ∧ d.depth < n ∧ ∀ r H', Same H H' → Dt (fun b => H b = none) H' r d → Q r H'
section
variable {P : Program} {w : World} {K : PySem.W.Frag} {mg : Str → Option Value} {base : Heap}
theorem ok__law_copy (T : Txt K mg) : ∀ n : Nat, FnOk P w K mg base CX0 n T.f__law_copy T.d__law_copy ["thing"] (sp__law_copy n)
  | 0 => noneOf fun vs H Q E ⟨v, d, _, _, h, _⟩ => by omega
  | n + 1 => by
    have G__law_copy : FnOk P w K mg base CX0 n T.f__law_copy T.d__law_copy ["thing"] (sp__law_copy n) := ok__law_copy T n
    refine T.F__law_copy.ok sc__law_copy (fun vs H Q E h => ?_) (fun cdv A outer s H vs Q E hr h => ?_)
    · obtain ⟨v, d, rfl, _⟩ := h
      rfl
    obtain ⟨v, d, rfl, ht, hd, q⟩ := h
    refine ⟨_, (pss_cons (ps_if (pt_val (pe_callB call_isi (by rfl) T.z_isinstance (by decide +kernel) (pa_cons (pv 0) (pa_cons (pe_bltn (v := .ty "list") (by rfl) T.z_list (by decide +kernel) rfl) pa_nil)))) (pss_one (ps_ret (pe_lc (own := [("one", 3)]) (g := gName 3) (tt := tYes) rfl sc__law_copy.nd (pi_list (pv 0)) (blkOk_by (own := [("one", 3)]) (N := ["thing", "found", "key", "one"]) (sc := (defScope s__law_copy)) (by decide +kernel)) (fun _ _ _ _ _ => (pg_name (i := 3) sc__law_copy.nd rfl (Or.inl rfl))) (fun _ _ _ _ _ => pts_nil) (fun _ _ _ _ _ => (pe_call G__law_copy (hr.mono (by omega)) (by rfl) T.m__law_copy T.F__law_copy.kp T.b__law_copy .nil pass0 (pa_cons (pv 3) pa_nil)))))) pss_nil) (pss_cons (ps_if (pt_val (pe_callB call_isi (by rfl) T.z_isinstance (by decide +kernel) (pa_cons (pv 0) (pa_cons (pe_bltn (v := .ty "tuple") (by rfl) T.z_tuple (by decide +kernel) rfl) pa_nil)))) (pss_one (ps_ret (pe_callTy call_tuple_of (by rfl) T.z_tuple (by decide +kernel) (pa_cons (pe_lc (own := [("one", 3)]) (g := gName 3) (tt := tYes) rfl sc__law_copy.nd (pi_tup (pv 0)) (blkOk_by (own := [("one", 3)]) (N := ["thing", "found", "key", "one"]) (sc := (defScope s__law_copy)) (by decide +kernel)) (fun _ _ _ _ _ => (pg_name (i := 3) sc__law_copy.nd rfl (Or.inl rfl))) (fun _ _ _ _ _ => pts_nil) (fun _ _ _ _ _ => (pe_call G__law_copy (hr.mono (by omega)) (by rfl) T.m__law_copy T.F__law_copy.kp T.b__law_copy .nil pass0 (pa_cons (pv 3) pa_nil)))) pa_nil)))) pss_nil) (pss_cons (ps_if (pt_not (pt_val (pe_callB call_isi (by rfl) T.z_isinstance (by decide +kernel) (pa_cons (pv 0) (pa_cons (pe_bltn (v := .ty "dict") (by rfl) T.z_dict (by decide +kernel) rfl) pa_nil))))) (pss_one (ps_ret (pv 0))) pss_nil) (pss_cons (ps_set (i := 1) sc__law_copy.nd rfl (Or.inl rfl) pe_dnewK) (pss_cons (ps_lock (ps_for PassesOwn.never rfl (pi_keys (pv 0)) (pg_name (i := 2) sc__law_copy.nd rfl (Or.inl rfl)) (pss_one ps_never))) (pss_one (ps_ret (pv 1)))))))), ?_⟩
    cases ht with
    | non =>
      refine ⟨_, rfl, _, _, _, _, false, rfl, .ty "list", .base .non, kit_ty (by decide +kernel), _, rfl, iteF ?_⟩
      refine ⟨_, rfl, _, _, _, _, false, rfl, .ty "tuple", .base .non, kit_ty (by decide +kernel), _, rfl, iteF ?_⟩
      refine ⟨_, rfl, _, _, _, _, false, rfl, .ty "dict", .base .non, kit_ty (by decide +kernel), _, rfl, iteT ?_⟩
      exact ⟨_, rfl, q _ _ (Same.refl _) .non⟩
    | bl i =>
      refine ⟨_, rfl, _, _, _, _, false, rfl, .ty "list", .base (.bl _), kit_ty (by decide +kernel), _, rfl, iteF ?_⟩
      refine ⟨_, rfl, _, _, _, _, false, rfl, .ty "tuple", .base (.bl _), kit_ty (by decide +kernel), _, rfl, iteF ?_⟩
      refine ⟨_, rfl, _, _, _, _, false, rfl, .ty "dict", .base (.bl _), kit_ty (by decide +kernel), _, rfl, iteT ?_⟩
      exact ⟨_, rfl, q _ _ (Same.refl _) (.bl i)⟩
    | @dic a e k =>
      refine ⟨_, rfl, _, _, _, _, false, rfl, .ty "list", .base (.dK e), kit_ty (by decide +kernel), _, rfl, iteF ?_⟩
      refine ⟨_, rfl, _, _, _, _, false, rfl, .ty "tuple", .base (.dK e), kit_ty (by decide +kernel), _, rfl, iteF ?_⟩
      refine ⟨_, rfl, _, _, _, _, true, rfl, .ty "dict", .base (.dK e), kit_ty (by decide +kernel), _, rfl, iteF ?_⟩
      refine fun p hp => ?_
      have nap : a ≠ p := ne_of_none e hp
      refine ⟨a, .dK [], by rw [upd_ne nap]; exact e, trivial, fun od => ?_⟩
      refine ⟨_, rfl, a, od, rfl, .inl ⟨[], upd_same, ?_⟩⟩
      refine for_it (walk_keys (kvs := [])) (fun i σ H' => (∃ y z, σ = [some (.ref a), some (.ref p), y, z]) ∧ H' = upd (upd H p (.dK [])) a (.frz od (.dK []))) ⟨⟨_, _, rfl⟩, rfl⟩ (fun i σ H' _ h => by rw [h.2]; exact upd_same) (fun i x σ H' H'' hi => absurd hi (Nat.not_lt_zero _)) ?_
      rintro σ H' ⟨⟨y, z, rfl⟩, rfl⟩
      refine ⟨upd_same, _, rfl, ?_⟩
      have eH : upd (upd (upd H p (.dK [])) a (.frz od (.dK []))) a (.dK []) = upd H p (.dK []) := by
        funext b
        by_cases hb : b = a
        · subst hb; rw [upd_same, upd_ne nap]; exact e.symm
        · rw [upd_ne hb, upd_ne hb]
      rw [eH]
      exact q (.ref p) _ (same_new hp) (.dic upd_same hp)
    | int i =>
      refine ⟨_, rfl, _, _, _, _, false, rfl, .ty "list", .base (.int _), kit_ty (by decide +kernel), _, rfl, iteF ?_⟩
      refine ⟨_, rfl, _, _, _, _, false, rfl, .ty "tuple", .base (.int _), kit_ty (by decide +kernel), _, rfl, iteF ?_⟩
      refine ⟨_, rfl, _, _, _, _, false, rfl, .ty "dict", .base (.int _), kit_ty (by decide +kernel), _, rfl, iteT ?_⟩
      exact ⟨_, rfl, q _ _ (Same.refl _) (.int i)⟩
    | str x =>
      refine ⟨_, rfl, _, _, _, _, false, rfl, .ty "list", .base (.str _), kit_ty (by decide +kernel), _, rfl, iteF ?_⟩
      refine ⟨_, rfl, _, _, _, _, false, rfl, .ty "tuple", .base (.str _), kit_ty (by decide +kernel), _, rfl, iteF ?_⟩
      refine ⟨_, rfl, _, _, _, _, false, rfl, .ty "dict", .base (.str _), kit_ty (by decide +kernel), _, rfl, iteT ?_⟩
      exact ⟨_, rfl, q _ _ (Same.refl _) (.str x)⟩
    | lst e k l r =>
      rename_i a xs ds
      simp only [PyData.depth] at hd
      have lr := r.len
      refine ⟨_, rfl, _, _, _, _, true, rfl, .ty "list", .base (.lst e), kit_ty (by decide +kernel), _, rfl, iteT ?_⟩
      refine ⟨_, rfl, a, rfl, ⟨_, SqL.of e⟩, fun D hD => ?_⟩
      refine lc_list (xs := xs) (fun i H2 => ∃ acc, H2 D = some (.lst acc) ∧ DtAll (fun b => H b = none ∧ b ≠ D) H2 acc (ds.take i) ∧ Same H H2) ⟨[], upd_same, .nil, same_new hD⟩ (fun i H2 _ ⟨_, _, _, s⟩ => SqL.of (s _ _ e)) ?_ ?_
      · rintro i x H2 hx ⟨acc, g1, g2, g3⟩
        obtain ⟨d1, hd1, hx2⟩ := r.getV hx
        have dd := depthAll_mem (List.mem_of_getElem? hd1)
        have la := g2.len
        rw [List.length_take] at la
        refine ⟨rfl, _, rfl, x, d1, rfl, hx2.same g3, by omega, fun y H3 s3 hy => ⟨acc, s3 _ _ g1, Nat.lt_of_le_of_lt (show acc.length ≤ 1000000 by omega) (by decide), acc ++ [y], upd_same, ?_, same_add (g3.trans s3) hD⟩⟩
        rw [take_succ_of hd1]
        have hy2 : Dt (fun b => H b = none ∧ b ≠ D) H3 y d1 := hy.weak fun b hb => ⟨g3.free hb, fun e => by rw [e, g1] at hb; cases hb⟩
        exact ((g2.same s3).snoc hy2).keep (upd_keep fun b h => h.2)
      · rintro H2 ⟨acc, g1, g2, g3⟩
        rw [lr, List.take_length] at g2
        exact q (.ref D) H2 g3 (.lst g1 hD (by rw [g2.len]; omega) (g2.weak fun b h => h.1))
    | tup e k l r =>
      rename_i a xs ds
      simp only [PyData.depth] at hd
      have lr := r.len
      refine ⟨_, rfl, _, _, _, _, false, rfl, .ty "list", .base (.tup e), kit_ty (by decide +kernel), _, rfl, iteF ?_⟩
      refine ⟨_, rfl, _, _, _, _, true, rfl, .ty "tuple", .base (.tup e), kit_ty (by decide +kernel), _, rfl, iteT ?_⟩
      refine ⟨_, rfl, a, rfl, ⟨_, SqT.of e⟩, fun D hD => ?_⟩
      refine lc_tup (xs := xs) (fun i H2 => ∃ acc, H2 D = some (.lst acc) ∧ DtAll (fun b => H b = none ∧ b ≠ D) H2 acc (ds.take i) ∧ Same H H2) ⟨[], upd_same, .nil, same_new hD⟩ (fun i H2 _ ⟨_, _, _, s⟩ => SqT.of (s _ _ e)) ?_ ?_
      · rintro i x H2 hx ⟨acc, g1, g2, g3⟩
        obtain ⟨d1, hd1, hx2⟩ := r.getV hx
        have dd := depthAll_mem (List.mem_of_getElem? hd1)
        have la := g2.len
        rw [List.length_take] at la
        refine ⟨rfl, _, rfl, x, d1, rfl, hx2.same g3, by omega, fun y H3 s3 hy => ⟨acc, s3 _ _ g1, Nat.lt_of_le_of_lt (show acc.length ≤ 1000000 by omega) (by decide), acc ++ [y], upd_same, ?_, same_add (g3.trans s3) hD⟩⟩
        rw [take_succ_of hd1]
        have hy2 : Dt (fun b => H b = none ∧ b ≠ D) H3 y d1 := hy.weak fun b hb => ⟨g3.free hb, fun e => by rw [e, g1] at hb; cases hb⟩
        exact ((g2.same s3).snoc hy2).keep (upd_keep fun b h => h.2)
      · rintro H2 ⟨acc, g1, g2, g3⟩
        rw [lr, List.take_length] at g2
        refine ⟨D, acc, rfl, .inl ⟨SqL.of g1, fun t ht => ?_⟩⟩
        have sT := same_new ht (o := .tup acc)
        exact q (.ref t) _ (g3.trans sT) (.tup upd_same (g3.free ht) (by rw [g2.len]; omega) ((g2.same sT).weak fun b h => h.1))
end


inductive Ly : PyData → Prop
  | lay {d : PyData} : d.canLay0 = true → Ly d
  | dic : Ly (.dict [])
  | tup {ds : List PyData} : (∀ d ∈ ds, Ly d) → Ly (.tuple ds)
theorem Ly.mem {ds : List PyData} (h : Ly (.tuple ds)) : ∀ d ∈ ds, Ly d := by
  cases h with
  | lay h => intro d hd; exact .lay (layAll_mem (by simpa only [PyData.canLay0] using h) hd)
  | tup h => exact h
theorem Ly.lst {ds : List PyData} (h : Ly (.list ds)) : PyData.canLayAll0 ds = true := by
  cases h with
  | lay h => simpa only [PyData.canLay0] using h
def made2 : List (Key × V) := [(.inr (Str.ofString "not"), .int 1), (.inr (Str.ofString "both"), .int 2), (.inr (Str.ofString "either"), .int 2)]
def inn (x : Str) : Int := if x = Str.ofString "not" then 1 else if x = Str.ofString "both" then 2 else if x = Str.ofString "either" then 2 else 0
theorem merge_made2 : mergeK [] made2 = made2 := by decide +kernel
theorem val_made2 (x : Str) : (valV (mergeK [] made2) (.inr x)).getD (.int 0) = .int (inn x) := by
  rw [merge_made2]
  unfold made2 inn
  by_cases h1 : x = Str.ofString "not"
  · rw [if_pos h1, valV_pos (by rw [h1])]; rfl
  rw [if_neg h1, valV_neg (fun e => h1 (Sum.inr.inj e).symm)]
  by_cases h2 : x = Str.ofString "both"
  · rw [if_pos h2, valV_pos (by rw [h2])]; rfl
  rw [if_neg h2, valV_neg (fun e => h2 (Sum.inr.inj e).symm)]
  by_cases h3 : x = Str.ofString "either"
  · rw [if_pos h3, valV_pos (by rw [h3])]; rfl
  rw [if_neg h3, valV_neg (fun e => h3 (Sum.inr.inj e).symm), valV_nil]
  rfl
theorem arity_inn (x : Str) : arity x = if 0 < inn x then inn x + 1 else 0 := by
  by_cases h1 : x = Str.ofString "not"
  · subst h1; decide +kernel
  by_cases h2 : x = Str.ofString "both"
  · subst h2; decide +kernel
  by_cases h3 : x = Str.ofString "either"
  · subst h3; decide +kernel
  have e1 : inn x = 0 := by unfold inn; rw [if_neg h1, if_neg h2, if_neg h3]
  have e2 : look made x = none := by
    unfold made
    simp only [look, if_neg (fun e => h1 (Eq.symm e)), if_neg (fun e => h2 (Eq.symm e)), if_neg (fun e => h3 (Eq.symm e))]
  rw [e1]
  unfold arity
  rw [e2]
  rfl
theorem inn_least : inn (Str.ofString "least") = 0 := by decide +kernel
theorem inn_turns : inn (Str.ofString "turns") = 0 := by decide +kernel
theorem inn_cases (x : Str) : inn x = 0 ∨ inn x = 1 ∨ inn x = 2 := by
  unfold inn
  split
  · omega
  split
  · omega
  split <;> omega
theorem isC_short {m : Nat} {s : Int} {ds : List PyData} (h : ds.length < 2) : isC (m + 1) s (.tuple ds) = false := by
  match ds, h with
  | [], _ => rfl
  | [d0], _ =>
    cases d0 with
    | str x =>
      have ha : ¬ ((([] : List PyData).length : Int) + 1 = arity x) := by
        rw [arity_inn]
        have := inn_cases x
        simp only [List.length_nil]
        split <;> omega
      simp only [isC, isLeastD, isTurnsD, if_neg ha, ite_self]
    | _ => rfl
theorem filt_all {α : Type} (p : α → Bool) : ∀ l : List α, decide ((l.filter fun d => !p d).length = 0) = l.all p
  | [] => rfl
  | x :: r => by
    have ih := filt_all p r
    cases hp : p x with
    | false => simp [hp]
    | true =>
      simp only [List.filter_cons, hp, Bool.not_true, Bool.false_eq_true, if_false, List.all_cons, Bool.true_and]
      exact ih
theorem filt_take {α : Type} {p : α → Bool} {l : List α} {i : Nat} {x : α} (h : l[i]? = some x) : (l.take (i + 1)).filter p = (l.take i).filter p ++ (if p x = true then [x] else []) := by
  rw [take_succ_of h, List.filter_append]
  congr 1
  by_cases hp : p x = true
  · rw [if_pos hp, List.filter_cons, if_pos hp, List.filter_nil]
  · rw [if_neg hp, List.filter_cons, if_neg hp, List.filter_nil]
theorem isLeastD_len {s : Int} {ds : List PyData} (h : ds.length ≠ 3) : isLeastD s ds = false := by
  match ds, h with
  | [], _ => rfl
  | [_], _ => rfl
  | [_, _], _ => rfl
  | _ :: _ :: _ :: _ :: _, _ => rfl
theorem isTurnsD_len {s : Int} {ds : List PyData} (h : ds.length ≠ 4) : isTurnsD s ds = false := by
  match ds, h with
  | [], _ => rfl
  | [_], _ => rfl
  | [_, _], _ => rfl
  | [_, _, _], _ => rfl
  | _ :: _ :: _ :: _ :: _ :: _, _ => rfl
theorem isC_noW {m : Nat} {s : Int} {x : Str} {d1 : PyData} {ds1 : List PyData} (hx : x = Str.ofString "least" ∨ x = Str.ofString "turns") (h : areW s d1 = false) : isC (m + 1) s (.tuple (.str x :: d1 :: ds1)) = false := by
  rcases hx with rfl | rfl
  · simp only [isC, if_true]
    match ds1 with
    | [] => rfl
    | [b] => simp only [isLeastD, h, Bool.false_and]
    | _ :: _ :: _ => rfl
  · simp only [isC, if_neg (show ¬ Str.ofString "turns" = Str.ofString "least" by decide +kernel), if_true]
    match ds1 with
    | [] => rfl
    | [_] => rfl
    | [_, _] => simp only [isTurnsD, h, Bool.false_and]
    | _ :: _ :: _ :: _ => rfl
theorem layAll_of : ∀ {ds : List PyData}, (∀ d ∈ ds, d.canLay0 = true) → PyData.canLayAll0 ds = true
  | [], _ => by simp only [PyData.canLayAll0]
  | x :: r, h => by
    simp only [PyData.canLayAll0, Bool.and_eq_true]
    exact ⟨h _ (List.mem_cons_self ..), layAll_of fun d hd => h d (List.mem_cons_of_mem _ hd)⟩
theorem depthAll_of {n : Nat} : ∀ {ds : List PyData}, (∀ d ∈ ds, d.depth ≤ n) → PyData.depthAll ds ≤ n
  | [], _ => by simp only [PyData.depthAll]; omega
  | x :: r, h => by
    have a := h _ (List.mem_cons_self ..)
    have b := depthAll_of (n := n) fun d hd => h d (List.mem_cons_of_mem x hd)
    simp only [PyData.depthAll]
    omega
def sp__law_is_condition (n : Nat) : Sp := fun vs H Q _ => ∃ (v : V) (d : PyData) (s lv : Int), vs = [v, .int s, .int lv] ∧ Dt (fun _ => True) H v d ∧ Ly d ∧ d.depth ≤ 60 ∧ 0 ≤ lv ∧ lv ≤ n ∧ ∀ H', Same H H' → Q (.bl (isC lv.toNat s d)) H'
section
variable {P : Program} {w : World} {K : PySem.W.Frag} {mg : Str → Option Value} {base : Heap}
theorem ok__law_whole (T : Txt K mg) : FnOk P w K mg base CX0 1 T.f__law_whole T.d__law_whole ["thing", "least", "most"] sp_is_whole_within := by
  refine T.F__law_whole.ok sc__law_whole (fun vs H Q E h => ?_) (fun cdv A outer s H vs Q E hr h => ?_)
  · obtain ⟨v, d, lo, hi, rfl, _⟩ := h
    rfl
  obtain ⟨v, d, lo, hi, rfl, ht, q⟩ := h
  refine ⟨_, (pss_one (ps_ret (pe_and (pe_callB call_isi (by rfl) T.z_isinstance (by decide +kernel) (pa_cons (pv 0) (pa_cons (pe_bltn (v := .ty "int") (by rfl) T.z_int (by decide +kernel) rfl) pa_nil))) (pe_and (pe_not (pe_callB call_isi (by rfl) T.z_isinstance (by decide +kernel) (pa_cons (pv 0) (pa_cons (pe_bltn (v := .ty "bool") (by rfl) T.z_bool (by decide +kernel) rfl) pa_nil)))) (pe_one (pe_chain op_le op_le (pv 1) (pv 0) (pv 2))))))), ?_⟩
  refine ⟨_, rfl, _, _, _, _, _, rfl, .ty "int", ht.ty, k_int d, _, rfl, ite2 (fun h => ?_) (fun h => ?_)⟩
  · refine ⟨_, rfl, _, _, _, _, _, rfl, .ty "bool", ht.ty, k_bool d, _, rfl, _, rfl, ite2 (fun h2 => ?_) (fun h2 => ?_)⟩
    · cases ht with
      | int i =>
        refine ⟨_, rfl, _, rfl, _, _, rfl, rfl, _, rfl, ite2 (fun h1 => ?_) (fun h1 => ?_)⟩
        · refine ⟨_, rfl, _, _, rfl, rfl, ?_⟩
          have e : inR lo hi (.int i) = decide (i ≤ hi) := by simp only [inR, h1, Bool.true_and]
          rw [e] at q
          exact q
        · have e : inR lo hi (.int i) = false := by simp only [inR, Bool.eq_false_iff.mpr h1, Bool.false_and]
          rw [e] at q
          exact q
      | bl b => cases h2
      | _ => cases h
    · have e : inR lo hi d = false := by cases d <;> first | rfl | exact absurd rfl h2
      rw [e] at q
      exact q
  · have e : inR lo hi d = false := by cases d <;> first | rfl | exact absurd rfl h
    rw [e] at q
    exact q
theorem ok__law_is_condition (T : Txt K mg) : ∀ n : Nat, FnOk P w K mg base CX0 (n + 2) T.f__law_is_condition T.d__law_is_condition ["thing", "s", "deep"] (sp__law_is_condition n)
  | n => by
    have G__law_whole : FnOk P w K mg base CX0 1 T.f__law_whole T.d__law_whole ["thing", "least", "most"] sp_is_whole_within := ok__law_whole T
    have G__law_is_condition : FnOk P w K mg base CX0 (n + 1) T.f__law_is_condition T.d__law_is_condition ["thing", "s", "deep"] (fun vs H Q E => 0 < n ∧ sp__law_is_condition (n - 1) vs H Q E) := by
      cases n with
      | zero => exact noneOf fun vs H Q E h => absurd h.1 (Nat.lt_irrefl 0)
      | succ m => exact (ok__law_is_condition T m).imp fun vs H Q E h => h.2
    refine T.F__law_is_condition.ok sc__law_is_condition (fun vs H Q E h => ?_) (fun cdv A outer s H vs Q E hr h => ?_)
    · obtain ⟨v, d, s, lv, rfl, _⟩ := h
      rfl
    obtain ⟨v, d, s, lv, rfl, ht, hL, hdp, h0, hn, q⟩ := h
    refine ⟨_, (pss_cons (ps_if (PW.pt (pw_or (pt_cmpR op_eq (pv 2) pe_int (nomark _)) (pw_or (pt_not (pt_val (pe_callB call_isi (by rfl) T.z_isinstance (by decide +kernel) (pa_cons (pv 0) (pa_cons (pe_bltn (v := .ty "tuple") (by rfl) T.z_tuple (by decide +kernel) rfl) pa_nil))))) (pw_or (pt_cmpR op_lt (pe_callB call_len_seq (by rfl) T.z_len PySem.boot_len (pa_cons (pv 0) pa_nil)) pe_int (nomark _)) (pw_or1 (pt_not (pt_val (pe_callB call_isi (by rfl) T.z_isinstance (by decide +kernel) (pa_cons (pe_ix ix_tup (pv 0) pe_int (fun _ _ => rfl)) (pa_cons (pe_bltn (v := .ty "str") (by rfl) T.z_str (by decide +kernel) rfl) pa_nil)))))))))) (pss_one (ps_ret pe_bl)) pss_nil) (pss_cons (ps_set (i := 3) sc__law_is_condition.nd rfl (Or.inl rfl) (pe_dget2 (hu_of hr) (pe_disp (pps_cons pe_str pe_int (pps_cons pe_str pe_int (pps_cons pe_str pe_int pps_nil))) rfl rfl (by simp) (by decide)) (pe_ix ix_tup (pv 0) pe_int (fun _ _ => rfl)) pe_int ⟨rfl, rfl, rfl, rfl⟩)) (pss_cons (ps_if (pt_cmpR op_gt (pv 3) pe_int (nomark _)) (pss_one (ps_ret (pe_and (pe_cmpR op_eq (pe_callB call_len_seq (by rfl) T.z_len PySem.boot_len (pa_cons (pv 0) pa_nil)) (pe_op op_add pe_int (pv 3)) (nomark _)) (pe_one (pe_cmpR (op_eqD hr.units) (pe_lc (own := [("one", 4)]) (g := gName 4) rfl sc__law_is_condition.nd (pi_tup (pe_slice sl_tup (pv 0) (po_some pe_int) po_none)) (blkOk_by (own := [("one", 4)]) (N := ["thing", "s", "deep", "inner", "one"]) (sc := (defScope s__law_is_condition)) (by decide +kernel)) (fun _ _ _ _ _ => (pg_name (i := 4) sc__law_is_condition.nd rfl (Or.inl rfl))) (fun _ _ _ _ _ => pts_one (pt_not (pt_val (pe_call G__law_is_condition (hr.mono (by omega)) (by rfl) T.m__law_is_condition T.F__law_is_condition.kp T.b__law_is_condition .nil pass0 (pa_cons (pv 4) (pa_cons (pv 1) (pa_cons (pe_op op_sub (pv 2) pe_int) pa_nil))))))) (fun _ _ _ _ _ => pe_int)) (pe_lst pa_nil) (nomark _)))))) pss_nil) (pss_cons (ps_if (PW.pt (pw_or (pt_cmpR op_notIn_seq (pe_ix ix_tup (pv 0) pe_int (fun _ _ => rfl)) (pe_lst (pa_cons pe_str (pa_cons pe_str pa_nil))) (by rfl)) (pw_or1 (pt_cmpR op_ne (pe_callB call_len_seq (by rfl) T.z_len PySem.boot_len (pa_cons (pv 0) pa_nil)) (pe_ix ix_list (pe_lst (pa_cons pe_int (pa_cons pe_int pa_nil))) (pe_callTy call_int1 (by rfl) T.z_int (by decide +kernel) (pa_cons (pe_cmpR op_eq (pe_ix ix_tup (pv 0) pe_int (fun _ _ => rfl)) pe_str (nomark _)) pa_nil)) (fun _ _ => rfl)) (nomark _))))) (pss_one (ps_ret pe_bl)) pss_nil) (pss_cons (ps_if (PW.pt (pw_or (pt_not (pt_val (pe_callB call_isi (by rfl) T.z_isinstance (by decide +kernel) (pa_cons (pe_ix ix_tup (pv 0) pe_int (fun _ _ => rfl)) (pa_cons (pe_bltn (v := .ty "list") (by rfl) T.z_list (by decide +kernel) rfl) pa_nil))))) (pw_or1 (pt_cmpR op_ne (pe_callB call_len_seq (by rfl) T.z_len PySem.boot_len (pa_cons (pe_ix ix_tup (pv 0) pe_int (fun _ _ => rfl)) pa_nil)) (pv 1) (nomark _))))) (pss_one (ps_ret pe_bl)) pss_nil) (pss_cons (ps_if (pt_cmpR (op_neD hr.units) (pe_lc (own := [("one", 4)]) (g := gName 4) rfl sc__law_is_condition.nd (pi_list (pe_ix ix_tup (pv 0) pe_int (fun _ _ => rfl))) (blkOk_by (own := [("one", 4)]) (N := ["thing", "s", "deep", "inner", "one"]) (sc := (defScope s__law_is_condition)) (by decide +kernel)) (fun _ _ _ _ _ => (pg_name (i := 4) sc__law_is_condition.nd rfl (Or.inl rfl))) (fun _ _ _ _ _ => pts_one (pt_not (pt_val (pe_call G__law_whole (hr.mono (by omega)) (by rfl) T.m__law_whole T.F__law_whole.kp T.b__law_whole .nil pass0 (pa_cons (pv 4) (pa_cons pe_int (pa_cons pe_int pa_nil))))))) (fun _ _ _ _ _ => (pv 4))) (pe_lst pa_nil) (nomark _)) (pss_one (ps_ret pe_bl)) pss_nil) (pss_cons (ps_if (pt_cmpR op_eq (pe_ix ix_tup (pv 0) pe_int (fun _ _ => rfl)) pe_str (nomark _)) (pss_one (ps_ret (pe_call G__law_whole (hr.mono (by omega)) (by rfl) T.m__law_whole T.F__law_whole.kp T.b__law_whole .nil pass0 (pa_cons (pe_ix ix_tup (pv 0) pe_int (fun _ _ => rfl)) (pa_cons pe_int (pa_cons pe_int pa_nil)))))) pss_nil) (pss_one (ps_ret (pe_and (pe_call G__law_whole (hr.mono (by omega)) (by rfl) T.m__law_whole T.F__law_whole.kp T.b__law_whole .nil pass0 (pa_cons (pe_ix ix_tup (pv 0) pe_int (fun _ _ => rfl)) (pa_cons pe_int (pa_cons pe_int pa_nil)))) (pe_one (pe_call G__law_whole (hr.mono (by omega)) (by rfl) T.m__law_whole T.F__law_whole.kp T.b__law_whole .nil pass0 (pa_cons (pe_ix ix_tup (pv 0) pe_int (fun _ _ => rfl)) (pa_cons pe_int (pa_cons (pe_op op_sub (pe_ix ix_tup (pv 0) pe_int (fun _ _ => rfl)) pe_int) pa_nil))))))))))))))), ?_⟩
    by_cases hz : lv = 0
    · subst hz
      exact ⟨_, rfl, rfl, _, rfl, eqT rfl (iteT (q _ (Same.refl _)))⟩
    refine ⟨_, rfl, rfl, _, rfl, eqF (ine hz) ?_⟩
    obtain ⟨m, hm⟩ : ∃ m, lv.toNat = m + 1 := ⟨lv.toNat - 1, by omega⟩
    rw [hm] at q
    refine ⟨_, rfl, _, _, _, _, _, rfl, .ty "tuple", ht.ty, k_tuple d, _, rfl, ?_⟩
    cases hT : isTupD d with
    | false =>
      have e1 : isC (m + 1) s d = false := by cases d <;> first | rfl | cases hT
      rw [e1] at q
      exact iteT (iteT (q _ (Same.refl _)))
    | true =>
    refine iteF ?_
    have ht2 := ht
    cases ht with
    | @tup a xs ds e _ hlen r =>
      have lr := r.len
      have hLm := hL.mem
      simp only [PyData.depth] at hdp
      refine ⟨_, rfl, _, _, rfl, .inr (SqT.of e), _, _, rfl, rfl, _, rfl, ?_⟩
      by_cases h2 : ds.length < 2
      · rw [decide_eq_true (by rw [lr]; omega)]
        rw [isC_short h2] at q
        exact iteT (iteT (q _ (Same.refl _)))
      rw [decide_eq_false (by rw [lr]; omega)]
      refine iteF ?_
      cases r with
      | nil => exact absurd (by decide) h2
      | @cons v0 vs0 d0 ds0 r0 r1 =>
      refine ⟨_, rfl, _, _, 0, _, rfl, rfl, SqT.of e, atI_nat (j := 0) rfl, ?_⟩
      refine ⟨_, _, _, _, _, rfl, .ty "str", r0.ty, k_str d0, _, rfl, ?_⟩
      cases hS : isStrD d0 with
      | false =>
        have e1 : isC (m + 1) s (.tuple (d0 :: ds0)) = false := by cases d0 <;> first | rfl | cases hS
        rw [e1] at q
        exact iteT (q _ (Same.refl _))
      | true =>
      refine iteF ?_
      cases r0 with
      | str x =>
        refine fun p hp => ⟨upd_same, made2, rfl, by decide, p, rfl, .inl ⟨_, .inl upd_same⟩, ?_⟩
        have s1 : Same H (upd (upd H p (.dK [])) p (.dK (mergeK [] made2))) := same_add (same_new hp) hp
        refine ⟨_, rfl, _, _, 0, _, rfl, rfl, SqT.of (s1 _ _ e), atI_nat (j := 0) rfl, _, .inl ⟨_, .inr x, .inl upd_same, rfl, rfl⟩, ?_⟩
        rw [val_made2]
        generalize upd (upd H p (.dK [])) p (.dK (mergeK [] made2)) = H1 at *
        simp only [List.length_cons] at lr h2
        have lr2 : vs0.length = ds0.length := by omega
        have hdpm : ∀ d ∈ ds0, d.depth ≤ 60 := fun d hd => by
          have := depthAll_mem (List.mem_cons_of_mem (PyData.str x) hd)
          omega
        have hLy0 : ∀ d ∈ ds0, Ly d := fun d hd => hLm d (List.mem_cons_of_mem _ hd)
        refine ⟨_, rfl, _, _, rfl, rfl, _, rfl, ?_⟩
        by_cases hI : inn x > 0
        · rw [decide_eq_true hI]
          refine iteT ?_
          have x1 : x ≠ Str.ofString "least" := fun h => by rw [h, inn_least] at hI; omega
          have x2 : x ≠ Str.ofString "turns" := fun h => by rw [h, inn_turns] at hI; omega
          have ha : arity x = inn x + 1 := by rw [arity_inn, if_pos hI]
          refine ⟨_, rfl, _, _, rfl, .inr (SqT.of (s1 _ _ e)), _, rfl, _, _, rfl, rfl, rfl, _, rfl, ?_⟩
          by_cases hA : (ds0.length : Int) + 1 = arity x
          · have e2 : ((V.str x :: vs0).length : Int) = 1 + inn x := by rw [List.length_cons, lr2]; omega
            rw [decide_eq_true (congrArg V.int e2)]
            refine iteT ?_
            refine ⟨_, rfl, 1, rfl, _, _, rfl, SqT.of (s1 _ _ e), cut1_not, fun pt hpt => ⟨pt, rfl, ⟨_, SqT.of upd_same⟩, fun D hD => ?_⟩⟩
            rw [cut1] at hD ⊢
            have sp := same_new hpt (o := .tup vs0)
            have sD := same_new hD (o := .lst [])
            have hp2 := upd_same (H := H1) (a := pt) (o := .tup vs0)
            refine lc_tup (xs := vs0) (fun i H2 => H2 D = some (.lst ((((ds0.take i).filter (fun d => !isC m s d)).map (fun _ => (1 : Int))).map V.int)) ∧ Same (upd H1 pt (.tup vs0)) H2) ⟨upd_same, sD⟩ (fun i H2 _ ⟨_, s⟩ => SqT.of (s _ _ hp2)) ?_ ?_
            · rintro i y H2 hx ⟨g1, g2⟩
              obtain ⟨d1, hd1, hx2⟩ := r1.getV hx
              have hi := (List.getElem?_eq_some_iff.mp hd1).1
              have hmem := List.mem_of_getElem? hd1
              refine ⟨rfl, _, rfl, _, rfl, _, rfl, _, _, rfl, rfl, by omega, y, d1, s, lv - 1, rfl, hx2.same ((s1.trans sp).trans g2), hLy0 _ hmem, hdpm _ hmem, by omega, by omega, fun H3 s3 => ?_⟩
              have e3 : (lv - 1).toNat = m := by omega
              rw [e3, filt_take hd1, List.map_append, List.map_append]
              cases hb : isC m s d1 with
              | true => exact ⟨_, rfl, iteF ⟨by rw [s3 _ _ g1]; simp, g2.trans s3⟩⟩
              | false =>
                refine ⟨_, rfl, iteT ⟨_, s3 _ _ g1, ?_, by rw [upd_same]; rfl, same_add (g2.trans s3) hD⟩⟩
                simp only [List.length_cons] at hlen
                rw [List.length_map, List.length_map]
                exact Nat.lt_of_le_of_lt (Nat.le_trans (List.length_filter_le _ _) (show (ds0.take i).length ≤ 1000000 by rw [List.length_take]; omega)) (by decide)
            · rintro H2 ⟨g1, g2⟩
              rw [lr2, List.take_length] at g1
              refine ⟨(by show 0 ≤ sizeLine; decide), fun z hz2 => ?_⟩
              have s2 := same_new hz2 (o := .lst [])
              refine ⟨_, _, dp_intsL (SqL.of (s2 _ _ g1)), dp_nil upd_same, shaped_ints _, shaped_nil, ?_⟩
              rw [eqv_nil, List.length_map, List.length_map, filt_all]
              have e4 : isC (m + 1) s (.tuple (.str x :: ds0)) = ds0.all (fun d => isC m s d) := by simp only [isC, if_neg x1, if_neg x2, if_pos hA]
              rw [← e4]
              exact q _ (((s1.trans sp).trans g2).trans s2)
          · have e2 : ((V.str x :: vs0).length : Int) ≠ 1 + inn x := by rw [List.length_cons, lr2]; exact fun h => hA (by rw [ha]; omega)
            rw [decide_eq_false (ine e2)]
            have e3 : isC (m + 1) s (.tuple (.str x :: ds0)) = false := by simp only [isC, if_neg x1, if_neg x2, if_neg hA]
            rw [e3] at q
            exact iteF (q _ s1)
        · rw [decide_eq_false hI]
          refine iteF ?_
          refine ⟨_, rfl, _, _, 0, _, rfl, rfl, SqT.of (s1 _ _ e), atI_nat (j := 0) rfl, (by show 2 ≤ sizeLine; decide), fun l hl => ?_⟩
          have s2 := s1.trans (same_new hl (o := .lst [.str (Str.ofString "least"), .str (Str.ofString "turns")]))
          refine ⟨l, _, rfl, .inl (SqL.of upd_same), rfl, rfl, _, rfl, ?_⟩
          by_cases hx : ¬ (x = Str.ofString "least" ∨ x = Str.ofString "turns")
          · rw [not_or] at hx
            have e1 : inV (V.str x) [.str (Str.ofString "least"), .str (Str.ofString "turns")] = false := by
              show ((Str.ofString "least" == x) || ((Str.ofString "turns" == x) || false)) = false
              rw [beq_eq_false_iff_ne.mpr (Ne.symm hx.1), beq_eq_false_iff_ne.mpr (Ne.symm hx.2)]
              rfl
            have e2 : isC (m + 1) s (.tuple (.str x :: ds0)) = false := by
              simp only [isC, if_neg hx.1, if_neg hx.2]
              rw [arity_inn, if_neg hI, if_neg (by omega)]
            rw [e2] at q
            rw [e1]
            exact iteT (iteT (q _ s2))
          · have hx : x = Str.ofString "least" ∨ x = Str.ofString "turns" := Classical.not_not.mp hx
            have e1 : inV (V.str x) [.str (Str.ofString "least"), .str (Str.ofString "turns")] = true := by
              rcases hx with rfl | rfl <;> decide +kernel
            rw [e1]
            refine iteF ?_
            obtain ⟨N, hN, hN2⟩ : ∃ N : Int, atI [V.int 3, V.int 4] (if decide (V.str x = V.str (Str.ofString "turns")) = true then 1 else 0) = some (V.int N) ∧ (x = Str.ofString "least" ∧ N = 3 ∨ x = Str.ofString "turns" ∧ N = 4) := by
              rcases hx with rfl | rfl
              · refine ⟨3, ?_, .inl ⟨rfl, rfl⟩⟩
                rw [decide_eq_false (sne (by decide +kernel))]
                exact at_of (j := 0) rfl rfl
              · refine ⟨4, ?_, .inr ⟨rfl, rfl⟩⟩
                rw [decide_eq_true rfl]
                exact at_of (j := 1) rfl rfl
            have e2 := s2 _ _ e
            generalize upd H1 l (.lst [.str (Str.ofString "least"), .str (Str.ofString "turns")]) = H2 at *
            refine ⟨_, rfl, _, _, rfl, .inr (SqT.of e2), (by show 2 ≤ sizeLine; decide), fun l2 hl2 => ?_⟩
            have s3 := s2.trans (same_new hl2 (o := .lst [.int 3, .int 4]))
            have e3 := s3 _ _ e
            refine ⟨_, rfl, _, _, 0, _, rfl, rfl, SqT.of e3, atI_nat (j := 0) rfl, rfl, .inr ⟨_, rfl, l2, _, _, V.int N, rfl, rfl, SqL.of upd_same, hN, rfl, _, rfl, ?_⟩⟩
            generalize upd H2 l2 (.lst [.int 3, .int 4]) = H3 at *
            by_cases hlN : (ds0.length : Int) + 1 = N
            · have e4 : ((V.str x :: vs0).length : Int) = N := by rw [List.length_cons, lr2]; omega
              rw [decide_eq_true (congrArg V.int e4)]
              refine iteF ?_
              cases r1 with
              | nil => simp only [List.length_nil] at hlN; omega
              | @cons v1 vs1 d1 ds1 r2 r3 =>
              refine ⟨_, rfl, _, _, 1, _, rfl, rfl, SqT.of e3, atI_nat (j := 1) rfl, ?_⟩
              refine ⟨_, _, _, _, _, rfl, .ty "list", (r2.same s3).ty, k_list d1, _, rfl, ?_⟩
              cases hLs : isListD d1 with
              | false =>
                rw [isC_noW hx (by cases d1 <;> first | rfl | cases hLs)] at q
                exact iteT (iteT (q _ s3))
              | true =>
              refine iteF ?_
              cases r2 with
              | @lst b ys es eb _ hlb rr =>
                have lrr := rr.len
                refine ⟨_, rfl, _, _, 1, _, rfl, rfl, SqT.of e3, atI_nat (j := 1) rfl, _, _, rfl, .inl (SqL.of (s3 _ _ eb)), ?_⟩
                refine ⟨_, rfl, rfl, _, rfl, ?_⟩
                by_cases hes : (es.length : Int) = s
                · rw [lrr, decide_eq_true (congrArg V.int hes)]
                  refine iteF ?_
                  have hLes := Ly.lst (hLy0 _ (List.mem_cons_self ..))
                  have hdes := hdpm _ (List.mem_cons_self ..)
                  simp only [PyData.depth] at hdes
                  refine ⟨_, rfl, _, _, 1, _, rfl, rfl, SqT.of e3, atI_nat (j := 1) rfl, b, rfl, ⟨_, SqL.of (s3 _ _ eb)⟩, fun D hD => ?_⟩
                  refine lc_list (xs := ys) (fun i H4 => ∃ acc, H4 D = some (.lst acc) ∧ DtAll (fun b => True ∧ b ≠ D) H4 acc ((es.take i).filter (fun d => !inR 0 4 d)) ∧ Same H3 H4) ⟨[], upd_same, .nil, same_new hD⟩ (fun i H4 _ ⟨_, _, _, z⟩ => SqL.of (z _ _ (s3 _ _ eb))) ?_ ?_
                  · rintro i y H4 hy ⟨acc, g1, g2, g3⟩
                    obtain ⟨d2, hd2, hy2⟩ := rr.getV hy
                    have hi := (List.getElem?_eq_some_iff.mp hd2).1
                    have la := g2.len
                    have lf := List.length_filter_le (fun d => !inR 0 4 d) (es.take i)
                    rw [List.length_take] at lf
                    have hy3 : Dt (fun b => True ∧ b ≠ D) H4 y d2 := ((hy2.same s3).off hD).same g3
                    refine ⟨rfl, _, rfl, y, d2, 0, 4, rfl, hy2.same (s3.trans g3), ?_⟩
                    rw [filt_take hd2]
                    cases hb : inR 0 4 d2 with
                    | true =>
                      refine ⟨_, rfl, iteF ⟨acc, g1, ?_, g3⟩⟩
                      rw [if_neg (by decide), List.append_nil]
                      exact g2
                    | false =>
                      refine ⟨_, rfl, iteT ⟨_, rfl, acc, g1, Nat.lt_of_le_of_lt (show acc.length ≤ 1000000 by omega) (by decide), acc ++ [y], upd_same, ?_, same_add g3 hD⟩⟩
                      rw [if_pos (show (!false) = true from rfl)]
                      exact (g2.snoc hy3).keep (upd_keep fun b h => h.2)
                  · rintro H4 ⟨acc, g1, g2, g3⟩
                    rw [lrr, List.take_length] at g2
                    refine ⟨(by show 0 ≤ sizeLine; decide), fun z hz2 => ?_⟩
                    have s4 := same_new hz2 (o := .lst [])
                    have hLf : PyData.canLayAll0 (es.filter (fun d => !inR 0 4 d)) = true := layAll_of fun d hd => layAll_mem hLes (List.mem_filter.mp hd).1
                    have hdf : PyData.depthAll (es.filter (fun d => !inR 0 4 d)) ≤ 60 := depthAll_of fun d hd => by
                      have := depthAll_mem (List.mem_filter.mp hd).1
                      omega
                    have shp : SeqAt.shaped (.list (es.filter (fun d => !inR 0 4 d))) = true := by
                      unfold SeqAt.shaped
                      rw [Bool.and_eq_true]
                      exact ⟨by simpa only [PyData.canLay0] using hLf, decide_eq_true (by simp only [PyData.depth]; omega)⟩
                    refine ⟨_, _, .lst (SqL.of (s4 _ _ g1)) ((g2.same s4).dp hLf), dp_nil upd_same, shp, shaped_nil, _, rfl, ?_⟩
                    rw [eqv_nil, filt_all]
                    have s5 := (s3.trans g3).trans s4
                    have e5 := s5 _ _ e
                    generalize upd H4 z (.lst []) = H5 at *
                    cases hall : es.all (inR 0 4) with
                    | false =>
                      rw [isC_noW hx (by simp only [areW, hall, Bool.and_false])] at q
                      exact iteT (q _ s5)
                    | true =>
                      refine iteF ?_
                      have hW : areW s (.list es) = true := by simp only [areW, hall, decide_eq_true hes, Bool.and_self]
                      refine ⟨_, rfl, _, _, 0, _, rfl, rfl, SqT.of e5, atI_nat (j := 0) rfl, rfl, _, rfl, ?_⟩
                      rcases hN2 with ⟨rfl, rfl⟩ | ⟨rfl, rfl⟩
                      · match ds1, r3, hlN with
                        | [d2], .cons r4 .nil, _ =>
                          refine eqT rfl ?_
                          refine ⟨_, rfl, _, _, 2, _, rfl, rfl, SqT.of e5, atI_nat (j := 2) rfl, _, d2, 0, 4, rfl, r4.same s5, ?_⟩
                          have e6 : isC (m + 1) s (.tuple [.str (Str.ofString "least"), .list es, d2]) = inR 0 4 d2 := by simp only [isC, if_true, isLeastD, hW, Bool.true_and]
                          rw [← e6]
                          exact q _ s5
                        | [], _, h => simp only [List.length_cons, List.length_nil] at h; omega
                        | _ :: _ :: _, _, h => simp only [List.length_cons] at h; omega
                      · match ds1, r3, hlN with
                        | [d2, d3], .cons r4 (.cons r5 .nil), _ =>
                          refine eqF (sne (by decide +kernel)) ?_
                          have nl : ¬ Str.ofString "turns" = Str.ofString "least" := by decide +kernel
                          refine ⟨_, rfl, _, _, 2, _, rfl, rfl, SqT.of e5, atI_nat (j := 2) rfl, _, d2, 1, 4, rfl, r4.same s5, _, rfl, ite2 (fun h2 => ?_) (fun h2 => ?_)⟩
                          · cases r4 with
                            | int mm =>
                              refine ⟨_, rfl, _, _, 3, _, rfl, rfl, SqT.of e5, atI_nat (j := 3) rfl, _, rfl, _, _, 2, _, rfl, rfl, SqT.of e5, atI_nat (j := 2) rfl, _, _, rfl, rfl, _, d3, 0, mm - 1, rfl, r5.same s5, ?_⟩
                              have e6 : isC (m + 1) s (.tuple [.str (Str.ofString "turns"), .list es, .int mm, d3]) = inR 0 (mm - 1) d3 := by simp only [isC, if_neg nl, if_true, isTurnsD, hW, h2, Bool.true_and]
                              rw [← e6]
                              exact q _ s5
                            | _ => cases h2
                          · have e6 : isC (m + 1) s (.tuple [.str (Str.ofString "turns"), .list es, d2, d3]) = false := by
                              simp only [isC, if_neg nl, if_true, isTurnsD, hW, Bool.true_and]
                              cases d2 <;> first | rfl | simp only [Bool.eq_false_iff.mpr h2, Bool.false_and]
                            rw [← e6]
                            exact q _ s5
                        | [], _, h => simp only [List.length_cons, List.length_nil] at h; omega
                        | [_], _, h => simp only [List.length_cons, List.length_nil] at h; omega
                        | _ :: _ :: _ :: _, _, h => simp only [List.length_cons] at h; omega
                · rw [lrr, decide_eq_false (ine hes)]
                  rw [isC_noW hx (by simp only [areW, decide_eq_false hes, Bool.false_and])] at q
                  exact iteT (q _ s3)
              | _ => cases hLs
            · have e4 : ((V.str x :: vs0).length : Int) ≠ N := by rw [List.length_cons, lr2]; omega
              rw [decide_eq_false (ine e4)]
              have e5 : isC (m + 1) s (.tuple (.str x :: ds0)) = false := by
                rcases hN2 with ⟨rfl, rfl⟩ | ⟨rfl, rfl⟩
                · simp only [isC, if_true]
                  exact isLeastD_len (by simp only [List.length_cons]; omega)
                · simp only [isC, if_neg (show ¬ Str.ofString "turns" = Str.ofString "least" by decide +kernel), if_true]
                  exact isTurnsD_len (by simp only [List.length_cons]; omega)
              rw [e5] at q
              exact iteT (q _ s3)
      | _ => cases hS
    | _ => cases hT
end

def mxd : List Cd → Nat
  | [] => 0
  | c :: r => max c.deep (mxd r)
theorem mxd_mem {c : Cd} : ∀ {cs : List Cd}, c ∈ cs → c.deep ≤ mxd cs
  | x :: r, h => by
    simp only [mxd]
    rcases List.mem_cons.mp h with rfl | h
    · omega
    · have := mxd_mem h
      omega
theorem mxd_in : ∀ {cs : List Cd}, cs ≠ [] → mxd cs ∈ cs.map Cd.deep
  | [c], _ => by simp [mxd]
  | c :: d :: r, _ => by
    have ih := mxd_in (cs := d :: r) (by simp)
    rw [List.map_cons, List.mem_cons]
    have e : mxd (c :: d :: r) = max c.deep (mxd (d :: r)) := rfl
    rw [e]
    by_cases h : c.deep ≤ mxd (d :: r)
    · rw [Nat.max_eq_right h]; exact .inr ih
    · rw [Nat.max_eq_left (by omega)]; exact .inl rfl
def Cd.mk (x : Str) (cs : List Cd) : PyData := .tuple (.str x :: cs.map Cd.dat)
def Inner (c : Cd) (x : Str) (cs : List Cd) : Prop := c.dat = Cd.mk x cs ∧ x ≠ Str.ofString "least" ∧ x ≠ Str.ofString "turns" ∧ cs ≠ [] ∧ cs.length ≤ 2 ∧ c.deep = 1 + mxd cs
theorem Cd.view (c : Cd) : (∃ w b, c = .least w b) ∨ (∃ w m r, c = .turns w m r) ∨ ∃ x cs, Inner c x cs := by
  cases c with
  | least w b => exact .inl ⟨_, _, rfl⟩
  | turns w m r => exact .inr (.inl ⟨_, _, _, rfl⟩)
  | neg c => exact .inr (.inr ⟨_, [c], rfl, by decide +kernel, by decide +kernel, by simp, by simp, by simp only [Cd.deep, mxd]; omega⟩)
  | both c d => exact .inr (.inr ⟨_, [c, d], rfl, by decide +kernel, by decide +kernel, by simp, by simp, by simp only [Cd.deep, mxd]; omega⟩)
  | either c d => exact .inr (.inr ⟨_, [c, d], rfl, by decide +kernel, by decide +kernel, by simp, by simp, by simp only [Cd.deep, mxd]; omega⟩)
theorem ar_not : arity (Str.ofString "not") = 2 := by decide +kernel
theorem ar_both : arity (Str.ofString "both") = 3 := by decide +kernel
theorem ar_either : arity (Str.ofString "either") = 3 := by decide +kernel
theorem inR_all : ∀ {w : List Int}, (∀ x ∈ w, 0 ≤ x ∧ x ≤ 4) → (w.map PyData.int).all (inR 0 4) = true
  | [], _ => rfl
  | x :: r, h => by
    have h1 := h x List.mem_cons_self
    rw [List.map_cons, List.all_cons, inR_all fun y hy => h y (List.mem_cons_of_mem _ hy)]
    simp only [inR, decide_eq_true h1.1, decide_eq_true h1.2, Bool.and_self]
theorem areW_ok {s : Int} {w : List Int} (h0 : 0 ≤ s) (h : wOk s.toNat w) : areW s (.list (w.map PyData.int)) = true := by
  simp only [areW, inR_all h.2, List.length_map, Bool.and_true]
  exact decide_eq_true (by have := h.1; omega)
theorem isC_ok {s : Int} (h0 : 0 ≤ s) : ∀ (c : Cd) (n : Nat), c.ok s.toNat → isC n s c.dat = decide (c.deep ≤ n)
  | c, 0, _ => by
    have := c.deep_pos
    rw [decide_eq_false (by omega)]
    cases c <;> rfl
  | .least w b, n + 1, h => by
    simp only [Cd.ok] at h
    rw [decide_eq_true (by simp only [Cd.deep]; omega)]
    simp only [Cd.dat, isC, if_true, isLeastD, areW_ok h0 h.1, inR, decide_eq_true h.2.1, decide_eq_true h.2.2, Bool.and_self]
  | .turns w m r, n + 1, h => by
    simp only [Cd.ok] at h
    obtain ⟨h1, h2, h3, h4, h5⟩ := h
    rw [decide_eq_true (by simp only [Cd.deep]; omega)]
    have e : ¬ Str.ofString "turns" = Str.ofString "least" := by decide +kernel
    simp only [Cd.dat, isC, if_neg e, if_true, isTurnsD, areW_ok h0 h1, inR, decide_eq_true h2, decide_eq_true h3, decide_eq_true h4, decide_eq_true (show r ≤ m - 1 by omega), Bool.and_self]
  | .neg c, n + 1, h => by
    have e1 : ¬ Str.ofString "not" = Str.ofString "least" := by decide +kernel
    have e2 : ¬ Str.ofString "not" = Str.ofString "turns" := by decide +kernel
    simp only [Cd.dat, isC, if_neg e1, if_neg e2, ar_not, List.length_cons, List.length_nil, List.all_cons, List.all_nil, Bool.and_true, isC_ok h0 c n h]
    rw [if_pos (by decide)]
    simp only [Cd.deep]
    exact decide_eq_decide.mpr (by omega)
  | .both c d, n + 1, h => by
    have e1 : ¬ Str.ofString "both" = Str.ofString "least" := by decide +kernel
    have e2 : ¬ Str.ofString "both" = Str.ofString "turns" := by decide +kernel
    simp only [Cd.dat, isC, if_neg e1, if_neg e2, ar_both, List.length_cons, List.length_nil, List.all_cons, List.all_nil, Bool.and_true, isC_ok h0 c n h.1, isC_ok h0 d n h.2]
    rw [if_pos (by decide), ← Bool.decide_and]
    simp only [Cd.deep]
    exact decide_eq_decide.mpr (by omega)
  | .either c d, n + 1, h => by
    have e1 : ¬ Str.ofString "either" = Str.ofString "least" := by decide +kernel
    have e2 : ¬ Str.ofString "either" = Str.ofString "turns" := by decide +kernel
    simp only [Cd.dat, isC, if_neg e1, if_neg e2, ar_either, List.length_cons, List.length_nil, List.all_cons, List.all_nil, Bool.and_true, isC_ok h0 c n h.1, isC_ok h0 d n h.2]
    rw [if_pos (by decide), ← Bool.decide_and]
    simp only [Cd.deep]
    exact decide_eq_decide.mpr (by omega)

mutual
def cnt : PyData → Nat
  | .none => 1
  | .bool _ => 1
  | .int _ => 1
  | .str _ => 1
  | .list ds => cntAll ds + 1
  | .tuple ds => cntAll ds + 1
  | .dict _ => 1
def cntAll : List PyData → Nat
  | [] => 0
  | d :: r => cnt d + cntAll r
end
mutual
def fineD : PyData → Bool
  | .none => true
  | .bool _ => true
  | .int i => decide (i.natAbs ≤ 10 ^ 20)
  | .str x => PyData.strOk x && decide (x.length ≤ 10)
  | .list ds => fineAll ds && PyData.canLayAll0 ds
  | .tuple ds => fineAll ds
  | .dict kvs => kvs.isEmpty
def fineAll : List PyData → Bool
  | [] => true
  | d :: r => fineD d && fineAll r
end
theorem textFrom_up : ∀ (ts : List Str) (k : Nat) (acc : Str), (textFrom k acc ts).length ≤ acc.length + piled ts
  | [], k, acc => by show acc.length ≤ acc.length + 0; omega
  | t :: r, k, acc => by
    have ih := textFrom_up r (k + 1) (acc ++ (if k > 0 then ", " else "" : String) ++ t)
    have e : (textFrom k acc (t :: r)).length = (textFrom (k + 1) (acc ++ (if k > 0 then ", " else "" : String) ++ t) r).length := rfl
    rw [e, piled_cons]
    rw [strLen_append, strLen_append] at ih
    have h : ((if k > 0 then ", " else "" : String) : Str).length ≤ 2 := by split <;> decide
    omega
theorem listText_up (ts : List Str) : (listText ts).length ≤ piled ts + 2 := by
  unfold listText
  have h := textFrom_up ts 0 "["
  have e1 : ("[" : Str).length = 1 := by decide
  have e2 : ("]" : Str).length = 1 := by decide
  rw [strLen_append]
  omega
theorem tupleText_up (ts : List Str) : (tupleText ts).length ≤ piled ts + 3 := by
  unfold tupleText
  rw [strLen_append, strLen_append]
  have e1 : ("(" : Str).length = 1 := by decide
  have e2 : ((if ts.length == 1 then ",)" else ")" : String) : Str).length ≤ 2 := by split <;> decide
  by_cases h : ts = []
  · subst h
    have e3 : (Str.join ", " []).length = 0 := by decide
    have e4 : ((if ([] : List Str).length == 1 then ",)" else ")" : String) : Str).length = 1 := by decide
    omega
  · have := join_length_add ts h
    omega
theorem lt_log2 {n : Nat} (h : n ≤ 10 ^ 20) : n.log2 < 1920 := by
  by_cases h0 : n = 0
  · subst h0; decide
  · have h1 : n < 2 ^ 100 := Nat.lt_of_le_of_lt h (by decide)
    have := (Nat.log2_lt h0).mpr h1
    omega
mutual
theorem fine_shown : ∀ {d : PyData}, fineD d = true → d.showable = true ∧ d.shown.length + 2 ≤ 150 * cnt d
  | .none, _ => ⟨rfl, by decide⟩
  | .bool true, _ => ⟨rfl, by decide⟩
  | .bool false, _ => ⟨rfl, by decide⟩
  | .int i, h => by
    simp only [fineD, decide_eq_true_eq] at h
    refine ⟨by simp only [PyData.showable, decide_eq_true_eq]; exact lt_log2 h, ?_⟩
    have h1 := int_text_length_le10 (a := i) (k := 21) (by decide) (Nat.lt_of_le_of_lt h (by decide))
    have e : (PyData.int i).shown.length = (toString i).length := by
      have e1 : (PyData.int i).shown = Str.ofString (toString i) := by simp only [PyData.shown]
      rw [e1, PySem.ofString_length]
    rw [e]
    simp only [cnt]
    omega
  | .str x, h => by
    simp only [fineD, Bool.and_eq_true, decide_eq_true_eq] at h
    refine ⟨rfl, ?_⟩
    have h1 := PySem.StrLaws.reprText_len x (fun c hc => by
      have h2 := h.1
      unfold PyData.strOk at h2
      rw [← Array.all_toList, List.all_eq_true] at h2
      have := of_decide_eq_true (h2 c hc)
      omega)
    have e : (PyData.str x).shown.length = (reprText x).length := by simp only [PyData.shown]
    rw [e]
    simp only [cnt]
    omega
  | .list ds, h => by
    simp only [fineD, Bool.and_eq_true] at h
    obtain ⟨a, b⟩ := fineAll_shown h.1
    refine ⟨by simp only [PyData.showable]; exact a, ?_⟩
    have := listText_up (PyData.shownAll ds)
    simp only [PyData.shown, cnt]
    omega
  | .tuple ds, h => by
    simp only [fineD] at h
    obtain ⟨a, b⟩ := fineAll_shown h
    refine ⟨by simp only [PyData.showable]; exact a, ?_⟩
    have := tupleText_up (PyData.shownAll ds)
    simp only [PyData.shown, cnt]
    omega
  | .dict [], _ => ⟨by simp only [PyData.showable, PyData.showableKv], by simp only [PyData.shown, PyData.shownKv, cnt]; decide⟩
  | .dict (_ :: _), h => by simp only [fineD, List.isEmpty_cons] at h; cases h
theorem fineAll_shown : ∀ {ds : List PyData}, fineAll ds = true → PyData.showableAll ds = true ∧ piled (PyData.shownAll ds) ≤ 150 * cntAll ds
  | [], _ => ⟨by simp only [PyData.showableAll], by simp only [PyData.shownAll, piled_nil]; omega⟩
  | d :: r, h => by
    simp only [fineAll, Bool.and_eq_true] at h
    obtain ⟨a, b⟩ := fine_shown h.1
    obtain ⟨a2, b2⟩ := fineAll_shown h.2
    refine ⟨by simp only [PyData.showableAll, a, a2, Bool.and_self], ?_⟩
    simp only [PyData.shownAll, piled_cons, cntAll]
    omega
end
theorem fineAll_mem {d : PyData} : ∀ {ds : List PyData}, fineAll ds = true → d ∈ ds → fineD d = true
  | x :: r, h, hm => by
    simp only [fineAll, Bool.and_eq_true] at h
    rcases List.mem_cons.mp hm with rfl | hm
    · exact h.1
    · exact fineAll_mem h.2 hm
theorem fineAll_of : ∀ {ds : List PyData}, (∀ d ∈ ds, fineD d = true) → fineAll ds = true
  | [], _ => by simp only [fineAll]
  | x :: r, h => by
    simp only [fineAll, Bool.and_eq_true]
    exact ⟨h _ (List.mem_cons_self ..), fineAll_of fun d hd => h d (List.mem_cons_of_mem _ hd)⟩
theorem cntAll_app : ∀ (a b : List PyData), cntAll (a ++ b) = cntAll a + cntAll b
  | [], b => by simp only [List.nil_append, cntAll]; omega
  | x :: r, b => by simp only [List.cons_append, cntAll, cntAll_app r b]; omega
theorem cntAll_take (n : Nat) : ∀ ds : List PyData, cntAll (ds.take n) ≤ cntAll ds := fun ds => by
  have h := cntAll_app (ds.take n) (ds.drop n)
  rw [List.take_append_drop] at h
  omega
theorem cntAll_drop (n : Nat) : ∀ ds : List PyData, cntAll (ds.drop n) ≤ cntAll ds := fun ds => by
  have h := cntAll_app (ds.take n) (ds.drop n)
  rw [List.take_append_drop] at h
  omega

theorem fine_ly : ∀ {d : PyData}, fineD d = true → Ly d
  | .none, _ => .lay (by simp only [PyData.canLay0])
  | .bool _, _ => .lay (by simp only [PyData.canLay0])
  | .int _, _ => .lay (by simp only [PyData.canLay0])
  | .str x, h => by
    simp only [fineD, Bool.and_eq_true] at h
    exact .lay (by simp only [PyData.canLay0]; exact h.1)
  | .list ds, h => by
    simp only [fineD, Bool.and_eq_true] at h
    exact .lay (by simp only [PyData.canLay0]; exact h.2)
  | .tuple ds, h => .tup fun d hd => fine_ly (fineAll_mem (by simpa only [fineD] using h) hd)
  | .dict [], _ => .dic
  | .dict (_ :: _), h => by simp only [fineD, List.isEmpty_cons] at h; cases h
def putD (ds : List PyData) (i : Nat) (d : PyData) : List PyData := ds.take i ++ d :: ds.drop (i + 1)
theorem cnt_put {d x : PyData} : ∀ {ds : List PyData} {i : Nat}, ds[i]? = some x → cntAll (putD ds i d) + cnt x = cntAll ds + cnt d
  | y :: r, 0, h => by
    cases h
    simp only [putD, List.take_zero, List.nil_append, List.drop_succ_cons, List.drop_zero, cntAll]
    omega
  | y :: r, i + 1, h => by
    rw [List.getElem?_cons_succ] at h
    have ih := cnt_put (d := d) h
    simp only [putD, List.take_succ_cons, List.cons_append, List.drop_succ_cons, cntAll] at ih ⊢
    omega
theorem put_mem {ds : List PyData} {i : Nat} {d y : PyData} (h : y ∈ putD ds i d) : y ∈ ds ∨ y = d := by
  unfold putD at h
  rcases List.mem_append.mp h with h | h
  · exact .inl (List.mem_of_mem_take h)
  · rcases List.mem_cons.mp h with h | h
    · exact .inr h
    · exact .inl (List.mem_of_mem_drop h)
structure Sm (N D : Nat) (d : PyData) : Prop where
  fine : fineD d = true
  cn : cnt d ≤ N
  dp : d.depth ≤ D
theorem Sm.mono {N D N' D' : Nat} {d : PyData} (h : Sm N D d) (a : N ≤ N') (b : D ≤ D') : Sm N' D' d := ⟨h.fine, Nat.le_trans h.cn a, Nat.le_trans h.dp b⟩
theorem Sm.put {ds : List PyData} {i : Nat} {d x : PyData} {N D M : Nat} (h : Sm N D (.tuple ds)) (hx : ds[i]? = some x) (hd : Sm M D d) (hD : 1 ≤ D) (hd2 : d.depth + 1 ≤ D) : Sm (N + M) D (.tuple (putD ds i d)) := by
  obtain ⟨h1, h2, h3⟩ := h
  simp only [fineD, cnt, PyData.depth] at h1 h2 h3
  refine ⟨?_, ?_, ?_⟩
  · simp only [fineD]
    refine fineAll_of fun y hy => ?_
    rcases put_mem hy with hy | rfl
    · exact fineAll_mem h1 hy
    · exact hd.fine
  · have := cnt_put (d := d) hx
    have := hd.cn
    simp only [cnt]
    omega
  · simp only [PyData.depth]
    have : PyData.depthAll (putD ds i d) ≤ D - 1 := depthAll_of fun y hy => by
      rcases put_mem hy with hy | rfl
      · have := depthAll_mem hy
        omega
      · omega
    omega
theorem fine_ints : ∀ {w : List Int}, (∀ x ∈ w, 0 ≤ x ∧ x ≤ 4) → fineAll (w.map PyData.int) = true
  | [], _ => by simp only [List.map_nil, fineAll]
  | x :: r, h => by
    have h1 := h x (List.mem_cons_self ..)
    have h2 := fine_ints fun y hy => h y (List.mem_cons_of_mem x hy)
    simp only [List.map_cons, fineAll, fineD, h2, Bool.and_true, decide_eq_true_eq]
    omega
theorem cnt_ints : ∀ w : List Int, cntAll (w.map PyData.int) = w.length
  | [] => by simp only [List.map_nil, cntAll, List.length_nil]
  | x :: r => by simp only [List.map_cons, cntAll, cnt, cnt_ints r, List.length_cons]; omega
def fineS (x : Str) : Bool := PyData.strOk x && decide (x.length ≤ 10)
theorem fs_least : fineS (Str.ofString "least") = true := by decide +kernel
theorem fs_turns : fineS (Str.ofString "turns") = true := by decide +kernel
theorem fs_not : fineS (Str.ofString "not") = true := by decide +kernel
theorem fs_both : fineS (Str.ofString "both") = true := by decide +kernel
theorem fs_either : fineS (Str.ofString "either") = true := by decide +kernel
theorem fineD_str (x : Str) : fineD (.str x) = fineS x := by simp only [fineD, fineS]
theorem fineD_nat {i : Int} (h0 : 0 ≤ i) (h : i ≤ 1000) : fineD (.int i) = true := by
  simp only [fineD, decide_eq_true_eq]
  have : i.natAbs ≤ 1000 := by omega
  exact Nat.le_trans this (by decide)
theorem Cd.fine {s : Nat} (hs : s ≤ 6) : ∀ c : Cd, c.ok s → fineD c.dat = true
  | .least w b, h => by
    obtain ⟨⟨_, h1⟩, h2, h3⟩ := h
    simp only [Cd.dat]
    rw [fineD]
    simp only [fineAll, fineD_str, fs_least, fineD_nat h2 (by omega), Bool.and_true, Bool.true_and]
    simp only [fineD, fine_ints h1, lay_ints, Bool.and_self]
  | .turns w m r, h => by
    obtain ⟨⟨_, h1⟩, h2, h3, h4, h5⟩ := h
    simp only [Cd.dat]
    rw [fineD]
    simp only [fineAll, fineD_str, fs_turns, fineD_nat (show 0 ≤ m by omega) (by omega), fineD_nat h4 (show r ≤ 1000 by omega), Bool.and_true, Bool.true_and]
    simp only [fineD, fine_ints h1, lay_ints, Bool.and_self]
  | .neg c, h => by
    have h1 := Cd.fine hs c h
    simp only [Cd.dat]
    rw [fineD]
    simp only [fineAll, fineD_str, fs_not, h1, Bool.and_self]
  | .both c d, h => by
    have h1 := Cd.fine hs c h.1
    have h2 := Cd.fine hs d h.2
    simp only [Cd.dat]
    rw [fineD]
    simp only [fineAll, fineD_str, fs_both, h1, h2, Bool.and_self]
  | .either c d, h => by
    have h1 := Cd.fine hs c h.1
    have h2 := Cd.fine hs d h.2
    simp only [Cd.dat]
    rw [fineD]
    simp only [fineAll, fineD_str, fs_either, h1, h2, Bool.and_self]
theorem Cd.cnt_le {s : Nat} (hs : s ≤ 6) : ∀ c : Cd, c.ok s → cnt c.dat + 2 ≤ 13 * 2 ^ (c.deep - 1)
  | .least w b, h => by
    have := h.1.1
    simp only [Cd.dat, cnt, cntAll, cnt_ints, Cd.deep]
    omega
  | .turns w m r, h => by
    have := h.1.1
    simp only [Cd.dat, cnt, cntAll, cnt_ints, Cd.deep]
    omega
  | .neg c, h => by
    have h1 := Cd.cnt_le hs c h
    have hp := c.deep_pos
    have e : (Cd.neg c).deep - 1 = (c.deep - 1) + 1 := by simp only [Cd.deep]; omega
    rw [e, Nat.pow_succ]
    simp only [Cd.dat, cnt, cntAll]
    have : 13 ≤ 13 * 2 ^ (c.deep - 1) := Nat.le_mul_of_pos_right _ (Nat.pos_of_ne_zero (by simp))
    omega
  | .both c d, h => by
    have h1 := Cd.cnt_le hs c h.1
    have h2 := Cd.cnt_le hs d h.2
    have e : (Cd.both c d).deep - 1 = (max c.deep d.deep - 1) + 1 := by
      have := c.deep_pos
      simp only [Cd.deep]; omega
    rw [e, Nat.pow_succ]
    have a1 : 2 ^ (c.deep - 1) ≤ 2 ^ (max c.deep d.deep - 1) := Nat.pow_le_pow_right (by decide) (by omega)
    have a2 : 2 ^ (d.deep - 1) ≤ 2 ^ (max c.deep d.deep - 1) := Nat.pow_le_pow_right (by decide) (by omega)
    simp only [Cd.dat, cnt, cntAll]
    omega
  | .either c d, h => by
    have h1 := Cd.cnt_le hs c h.1
    have h2 := Cd.cnt_le hs d h.2
    have e : (Cd.either c d).deep - 1 = (max c.deep d.deep - 1) + 1 := by
      have := c.deep_pos
      simp only [Cd.deep]; omega
    rw [e, Nat.pow_succ]
    have a1 : 2 ^ (c.deep - 1) ≤ 2 ^ (max c.deep d.deep - 1) := Nat.pow_le_pow_right (by decide) (by omega)
    have a2 : 2 ^ (d.deep - 1) ≤ 2 ^ (max c.deep d.deep - 1) := Nat.pow_le_pow_right (by decide) (by omega)
    simp only [Cd.dat, cnt, cntAll]
    omega
theorem Cd.sm {s : Nat} (hs : s ≤ 6) {c : Cd} (h : c.ok s) : Sm (cnt c.dat) (c.deep + 1) c.dat := ⟨c.fine hs h, Nat.le_refl _, c.dat_depth⟩


section
variable {ok : Addr → Prop} {H H' : Hp}
theorem DtAll.take : ∀ {vs : List V} {ds : List PyData} (n : Nat), DtAll ok H vs ds → DtAll ok H (vs.take n) (ds.take n)
  | _, _, 0, _ => .nil
  | _, _, n + 1, .nil => .nil
  | _, _, n + 1, .cons a b => .cons a (DtAll.take n b)
theorem DtAll.drop : ∀ {vs : List V} {ds : List PyData} (n : Nat), DtAll ok H vs ds → DtAll ok H (vs.drop n) (ds.drop n)
  | _, _, 0, h => h
  | _, _, n + 1, .nil => .nil
  | _, _, n + 1, .cons a b => DtAll.drop n b
theorem DtAll.app : ∀ {vs us : List V} {ds es : List PyData}, DtAll ok H vs ds → DtAll ok H us es → DtAll ok H (vs ++ us) (ds ++ es)
  | _, _, _, _, .nil, y => y
  | _, _, _, _, .cons a b, y => .cons a (DtAll.app b y)
theorem DtAll.at {vs : List V} {ds : List PyData} {r : Int} (h : DtAll ok H vs ds) (h0 : 0 ≤ r) (h1 : r < ds.length) : ∃ v d, atI vs r = some v ∧ ds[r.toNat]? = some d ∧ Dt ok H v d := by
  have hl := h.len
  have hn : r.toNat < vs.length := by omega
  obtain ⟨d, hd, hv⟩ := h.getV (List.getElem?_eq_getElem hn)
  exact ⟨_, d, at_of (j := r.toNat) (by omega) (List.getElem?_eq_getElem hn), hd, hv⟩
end
theorem cut_hi {xs : List V} {k : Nat} (h : k ≤ xs.length) : cutV xs none (some (k : Int)) = xs.take k := by
  unfold cutV
  rw [HT.sIx_none, HT.sIx_nat, List.drop_zero, Nat.sub_zero, Nat.min_eq_left h]
theorem cut_lo {xs : List V} {k : Nat} (h : k ≤ xs.length) : cutV xs (some (k : Int)) none = xs.drop k := by
  unfold cutV
  rw [HT.sIx_nat, HT.sIx_none, Nat.min_eq_left h, List.take_of_length_le (by rw [List.length_drop]; omega)]
theorem cut_m1 {xs : List V} : cutV xs none (some (-1)) = xs.take (xs.length - 1) := by
  have h : HT.sIx xs.length xs.length (some (-1)) = xs.length - 1 := by
    show (if (-1 : Int) < 0 then ((-1 : Int) + (xs.length : Int)).toNat else min (-1 : Int).toNat xs.length) = xs.length - 1
    rw [if_pos (by decide)]
    omega
  unfold cutV
  rw [HT.sIx_none, h, List.drop_zero, Nat.sub_zero]
theorem cut_whole {xs : List V} {lo hi : Option Int} (h : HT.sIx xs.length 0 lo = 0 ∧ HT.sIx xs.length xs.length hi = xs.length) : cutV xs lo hi = xs := by
  unfold cutV
  rw [h.1, h.2, List.drop_zero, Nat.sub_zero, List.take_length]
theorem slA {K : PySem.W.Frag} {H : Hp} {a : Addr} {xs : List V} {lo hi : Option Int} {Q : VK} (hx : H a = some (.tup xs))
    (q : ∀ t H', Same H H' → H' t = some (.tup (cutV xs lo hi)) → (t = a ∨ H t = none) → Q (.ref t) H') : rSlA K (.ref a) lo hi H Q :=
  ⟨a, xs, rfl, SqT.of hx, fun hw => q a H (Same.refl _) (by rw [cut_whole hw]; exact hx) (.inl rfl), fun _ p hp => q p _ (same_new hp) upd_same (.inr hp)⟩
theorem catA {K : PySem.W.Frag} {H : Hp} {a b : Addr} {xs ys : List V} {Q : VK} (ha : H a = some (.tup xs)) (hb : H b = some (.tup ys)) (hz : xs.length + ys.length ≤ 3000)
    (q : ∀ t H', Same H H' → H' t = some (.tup (xs ++ ys)) → (t = a ∨ t = b ∨ H t = none) → Q (.ref t) H') : rCatA K (.ref a) (.ref b) H Q :=
  ⟨a, b, xs, ys, rfl, rfl, SqT.of ha, SqT.of hb, Nat.le_trans hz (by decide), fun e => q b H (Same.refl _) (by rw [e]; exact hb) (.inr (.inl rfl)), fun _ e => q a H (Same.refl _) (by rw [e, List.append_nil]; exact ha) (.inl rfl),
    fun _ _ p hp => q p _ (same_new hp) upd_same (.inr (.inr hp))⟩

def oddDs : List PyData := [.bool true, .bool false, .int (-1), .int 5, .none, .str (Str.ofString "1"), .list [.int 1], .int (10 ^ (20 : Int).toNat), .tuple [], .int 0, .int 4, .int 2, .int 3]
theorem odd_all : oddDs.all (fun d => fineD d && decide (cnt d ≤ 3) && decide (d.depth ≤ 1) && d.canLay0) = true := by decide +kernel
theorem odd_ok {d : PyData} (h : d ∈ oddDs) : Sm 3 1 d ∧ d.canLay0 = true := by
  have h1 := List.all_eq_true.mp odd_all d h
  simp only [Bool.and_eq_true, decide_eq_true_eq] at h1
  exact ⟨⟨h1.1.1.1, h1.1.1.2, h1.1.2⟩, h1.2⟩
def sp__law_odd : Sp := fun vs H Q _ => ∃ p, vs = [.ref p] ∧ Dk H p ∧ ∀ v d H', Fr p H H' → Dk H' p → Dt (fun b => H b = none) H' v d → Sm 3 1 d → d.canLay0 = true → Q v H'
section
variable {P : Program} {w : World} {K : PySem.W.Frag} {mg : Str → Option Value} {base : Heap}
theorem ok__law_odd (T : Txt K mg) : FnOk P w K mg base CX0 2 T.f__law_odd T.d__law_odd ["deck"] sp__law_odd := by
  have G__law_take : FnOk P w K mg base CX0 1 T.f__law_take T.d__law_take ["deck", "many"] sp__law_take := ok__law_take T
  refine T.F__law_odd.ok sc__law_odd (fun vs H Q E h => ?_) (fun cdv A outer s H vs Q E hr h => ?_)
  · obtain ⟨p, rfl, _⟩ := h
    rfl
  obtain ⟨p, rfl, hp, q⟩ := h
  refine ⟨_, (pss_one (ps_ret (pe_ix ix_list (pe_lst (pa_cons pe_bl (pa_cons pe_bl (pa_cons (pe_un un_neg pe_int) (pa_cons pe_int (pa_cons pe_non (pa_cons pe_str (pa_cons (pe_lst (pa_cons pe_int pa_nil)) (pa_cons (pe_op op_pow pe_int pe_int) (pa_cons (pe_tup pa_nil) (pa_cons pe_int (pa_cons pe_int (pa_cons pe_int (pa_cons pe_int pa_nil)))))))))))))) (pe_call G__law_take (hr.mono (by omega)) (by rfl) T.m__law_take T.F__law_take.kp T.b__law_take .nil pass0 (pa_cons (pv 0) (pa_cons pe_int pa_nil))) (fun _ _ => rfl)))), ?_⟩
  refine ⟨_, rfl, (by show 1 ≤ sizeLine; decide), fun l hl => ?_⟩
  refine ⟨10, 20, rfl, rfl, ⟨by decide, by decide, by decide⟩, (by show 0 ≤ sizeLine; decide), fun t ht => ?_⟩
  refine ⟨(by show 13 ≤ sizeLine; decide), fun L hL => ?_⟩
  have s1 := same_new hl (o := .lst [.int 1])
  have s2 := same_new ht (o := .tup [])
  have s3 := same_new hL (o := .lst [.bl true, .bl false, .int (-1), .int 5, .non, .str (Str.ofString "1"), .ref l, .int (10 ^ (20 : Int).toNat), .ref t, .int 0, .int 4, .int 2, .int 3])
  have el := (s2.trans s3) _ _ (upd_same (H := H) (a := l) (o := .lst [.int 1]))
  have et := s3 _ _ (upd_same (H := upd H l (.lst [.int 1])) (a := t) (o := .tup []))
  have eL := upd_same (H := upd (upd H l (.lst [.int 1])) t (.tup [])) (a := L) (o := .lst [.bl true, .bl false, .int (-1), .int 5, .non, .str (Str.ofString "1"), .ref l, .int (10 ^ (20 : Int).toNat), .ref t, .int 0, .int 4, .int 2, .int 3])
  have S3 := (s1.trans s2).trans s3
  generalize upd (upd (upd H l (.lst [.int 1])) t (.tup [])) L (.lst [.bl true, .bl false, .int (-1), .int 5, .non, .str (Str.ofString "1"), .ref l, .int (10 ^ (20 : Int).toNat), .ref t, .int 0, .int 4, .int 2, .int 3]) = H3 at *
  have all : DtAll (fun b => H b = none) H3 [.bl true, .bl false, .int (-1), .int 5, .non, .str (Str.ofString "1"), .ref l, .int (10 ^ (20 : Int).toNat), .ref t, .int 0, .int 4, .int 2, .int 3] oddDs :=
    .cons (.bl _) (.cons (.bl _) (.cons (.int _) (.cons (.int _) (.cons .non (.cons (.str _) (.cons (.lst el hl (by decide) (.cons (.int 1) .nil)) (.cons (.int _) (.cons (.tup et (s1.free ht) (by decide) .nil) (.cons (.int _) (.cons (.int _) (.cons (.int _) (.cons (.int _) .nil))))))))))))
  have nLp : L ≠ p := hp.ne ((s1.trans s2).free hL)
  refine ⟨_, rfl, p, 13, rfl, hp.keep S3, by decide, fun r H4 r0 r1 f4 d4 => ?_⟩
  obtain ⟨v, d, hv, hd, hdt⟩ := all.at r0 (by show r < 13; omega)
  obtain ⟨k1, k2⟩ := odd_ok (List.mem_of_getElem? hd)
  exact ⟨L, _, r, v, rfl, rfl, SqL.of (f4 _ _ nLp eL), hv, q v d _ ((Fr.same S3).trans f4) d4 (hdt.keep fun b o h e => f4 b o (hp.ne h) e) k1 k2⟩
end

theorem ne_of_none' {H : Hp} {b w : Addr} {o : HO} (h : H b = none) (e : H w = some o) : b ≠ w := fun z => by rw [z, e] at h; cases h
theorem sum_sm {x : Str} {w : List Int} {tl : List PyData} (h1 : fineS x = true) (h2 : w.length ≤ 6) (h3 : ∀ y ∈ w, 0 ≤ y ∧ y ≤ 4) (h4 : tl.length ≤ 2) (h5 : ∀ d ∈ tl, ∃ i : Int, d = .int i ∧ 0 ≤ i ∧ i ≤ 4) : Sm 11 2 (.tuple (.str x :: .list (w.map PyData.int) :: tl)) := by
  have ft : fineAll tl = true := fineAll_of fun d hd => by
    obtain ⟨i, rfl, a, b⟩ := h5 d hd
    exact fineD_nat a (by omega)
  have ct : cntAll tl ≤ 2 := by
    match tl, h4, h5 with
    | [], _, _ => decide
    | [a], _, h5 =>
      obtain ⟨i, rfl, _⟩ := h5 a (by simp)
      simp only [cntAll, cnt]; omega
    | [a, b], _, h5 =>
      obtain ⟨i, rfl, _⟩ := h5 a (by simp)
      obtain ⟨j, rfl, _⟩ := h5 b (by simp)
      simp only [cntAll, cnt]; omega
    | _ :: _ :: _ :: _, h, _ => simp only [List.length_cons] at h; omega
  have dt : PyData.depthAll tl ≤ 0 := depthAll_of fun d hd => by
    obtain ⟨i, rfl, _⟩ := h5 d hd
    simp only [PyData.depth]; omega
  refine ⟨?_, ?_, ?_⟩
  · rw [fineD]
    simp only [fineAll, fineD_str, h1, ft, Bool.and_true, Bool.true_and]
    simp only [fineD, fine_ints h3, lay_ints, Bool.and_self]
  · simp only [cnt, cntAll, cnt_ints]; omega
  · simp only [PyData.depth, PyData.depthAll, dep0]; omega
theorem fine_listInts {w : List Int} (h3 : ∀ y ∈ w, 0 ≤ y ∧ y ≤ 4) : fineD (.list (w.map PyData.int)) = true := by
  simp only [fineD, fine_ints h3, lay_ints, Bool.and_self]
theorem sm_listInts {w : List Int} (h2 : w.length ≤ 7) (h3 : ∀ y ∈ w, 0 ≤ y ∧ y ≤ 4) : Sm 12 2 (.list (w.map PyData.int)) :=
  ⟨fine_listInts h3, by simp only [cnt, cnt_ints]; omega, by simp only [PyData.depth, dep0]; omega⟩
structure Dz (z : Addr) (H : Hp) (p : Addr) : Prop where
  dk : Dk H p
  hz : H z ≠ none
theorem Dz.some {z : Addr} {H : Hp} {p : Addr} (h : Dz z H p) : H p ≠ none := h.dk.some
theorem Dz.ne {z : Addr} {H : Hp} {p q : Addr} (h : Dz z H p) (e : H q = none) : q ≠ p ∧ q ≠ z := ⟨h.dk.ne e, fun e2 => h.hz (by rw [← e2]; exact e)⟩
theorem Dz.keep {z : Addr} {H H' : Hp} {p : Addr} (h : Dz z H p) (s : Same H H') : Dz z H' p := ⟨h.dk.keep s, fun e => by
  cases hh : H z with
  | none => exact h.hz hh
  | some o => rw [s _ _ hh] at e; cases e⟩
theorem Dz.go {z : Addr} {H H' : Hp} {p : Addr} (h : Dz z H p) (f : Fr p H H') (d : Dk H' p) : Dz z H' p := ⟨d, fun e => by
  cases hh : H z with
  | none => exact h.hz hh
  | some o =>
    by_cases hzp : z = p
    · rw [hzp] at e; exact d.some e
    · rw [f _ _ hzp hh] at e; cases e⟩
theorem Dz.upd {z : Addr} {H : Hp} {p q : Addr} {o : HO} (h : Dz z H p) (n : q ≠ p ∧ q ≠ z) : Dz z (upd H q o) p := ⟨h.dk.upd n.1, by rw [upd_ne (fun e => n.2 e.symm)]; exact h.hz⟩
def wordDs : List PyData := [.str (Str.ofString "turns"), .str (Str.ofString "least"), .str (Str.ofString "not"), .str (Str.ofString "Least"), .str (Str.ofString "both"), .str (Str.ofString ""), .none, .int 0, .list [.str (Str.ofString "least")]]
theorem word_all : wordDs.all (fun d => fineD d && decide (cnt d ≤ 3) && decide (d.depth ≤ 1)) = true := by decide +kernel
theorem word_ok {d : PyData} (h : d ∈ wordDs) : Sm 3 1 d := by
  have h1 := List.all_eq_true.mp word_all d h
  simp only [Bool.and_eq_true, decide_eq_true_eq] at h1
  exact ⟨h1.1.1, h1.1.2, h1.2⟩
def sp__law_bad_sum : Sp := fun vs H Q _ => ∃ (p z : Addr) (v : V) (x : Str) (w : List Int) (tl : List PyData), vs = [.ref p, v] ∧ Dz z H p ∧ Dt (fun b => b ≠ p ∧ b ≠ z) H v (.tuple (.str x :: .list (w.map PyData.int) :: tl)) ∧
  fineS x = true ∧ 1 ≤ w.length ∧ w.length ≤ 6 ∧ (∀ y ∈ w, 0 ≤ y ∧ y ≤ 4) ∧ 1 ≤ tl.length ∧ tl.length ≤ 2 ∧ (∀ d ∈ tl, ∃ i : Int, d = .int i ∧ 0 ≤ i ∧ i ≤ 4) ∧
  ∀ r d H', Fr p H H' → Dk H' p → Dt (fun b => b ≠ p ∧ b ≠ z) H' r d → Sm 40 3 d → Q r H'
section
variable {P : Program} {w : World} {K : PySem.W.Frag} {mg : Str → Option Value} {base : Heap}
theorem ok__law_bad_sum (T : Txt K mg) : FnOk P w K mg base CX0 3 T.f__law_bad_sum T.d__law_bad_sum ["deck", "thing"] sp__law_bad_sum := by
  have G__law_take : FnOk P w K mg base CX0 1 T.f__law_take T.d__law_take ["deck", "many"] sp__law_take := ok__law_take T
  have G__law_odd : FnOk P w K mg base CX0 2 T.f__law_odd T.d__law_odd ["deck"] sp__law_odd := ok__law_odd T
  refine T.F__law_bad_sum.ok sc__law_bad_sum (fun vs H Q E h => ?_) (fun cdv A outer s H vs Q E hr h => ?_)
  · obtain ⟨p, z, v, x, w, tl, rfl, _⟩ := h
    rfl
  obtain ⟨p, z, v, x, w, tl, rfl, hp, ht, fx, w1, w6, w04, t1, t2, tI, q⟩ := h
  refine ⟨_, (pss_cons (ps_set (i := 2) sc__law_bad_sum.nd rfl (Or.inl rfl) (pe_call G__law_take (hr.mono (by omega)) (by rfl) T.m__law_take T.F__law_take.kp T.b__law_take .nil pass0 (pa_cons (pv 0) (pa_cons (pe_callB call_len_seq (by rfl) T.z_len PySem.boot_len (pa_cons (pv 1) pa_nil)) pa_nil)))) (pss_cons (ps_set (i := 3) sc__law_bad_sum.nd rfl (Or.inl rfl) (pe_callTy call_list_of (by rfl) T.z_list (by decide +kernel) (pa_cons (pe_ix ix_tup (pv 1) pe_int (fun _ _ => rfl)) pa_nil))) (pss_cons (ps_set (i := 4) sc__law_bad_sum.nd rfl (Or.inl rfl) (pe_call G__law_take (hr.mono (by omega)) (by rfl) T.m__law_take T.F__law_take.kp T.b__law_take .nil pass0 (pa_cons (pv 0) (pa_cons (pe_callB call_len_seq (by rfl) T.z_len PySem.boot_len (pa_cons (pv 3) pa_nil)) pa_nil)))) (pss_cons (ps_asg (pe_call G__law_odd (hr.mono (by omega)) (by rfl) T.m__law_odd T.F__law_odd.kp T.b__law_odd .nil pass0 (pa_cons (pv 0) pa_nil)) (pg_sub (pv 3) (pv 4) set_list)) (pss_cons (ps_set (i := 5) sc__law_bad_sum.nd rfl (Or.inl rfl) (pe_lst (pa_cons (pv 3) (pa_cons (pe_slice sl_list (pe_ix ix_tup (pv 1) pe_int (fun _ _ => rfl)) po_none (po_some (pe_un un_neg pe_int))) (pa_cons (pe_op op_cat (pe_ix ix_tup (pv 1) pe_int (fun _ _ => rfl)) (pe_lst (pa_cons pe_int pa_nil))) (pa_cons (pe_callTy call_tuple_of (by rfl) T.z_tuple (by decide +kernel) (pa_cons (pe_ix ix_tup (pv 1) pe_int (fun _ _ => rfl)) pa_nil)) (pa_cons pe_non (pa_cons pe_dnewK (pa_cons (pe_lst (pa_cons (pe_ix ix_tup (pv 1) pe_int (fun _ _ => rfl)) pa_nil)) pa_nil))))))))) (pss_cons (ps_if (pt_cmpR op_eq (pv 2) pe_int (nomark _)) (pss_one (ps_ret (pe_op op_catA (pe_op op_catA (pe_slice sl_tupA (pv 1) po_none (po_some pe_int)) (pe_tup (pa_cons (pe_ix ix_list (pv 5) (pe_call G__law_take (hr.mono (by omega)) (by rfl) T.m__law_take T.F__law_take.kp T.b__law_take .nil pass0 (pa_cons (pv 0) (pa_cons pe_int pa_nil))) (fun _ _ => rfl)) pa_nil))) (pe_slice sl_tupA (pv 1) (po_some pe_int) po_none)))) pss_nil) (pss_cons (ps_if (pt_cmpR op_eq (pv 2) pe_int (nomark _)) (pss_one (ps_ret (pe_op op_catA (pe_tup (pa_cons (pe_ix ix_list (pe_lst (pa_cons pe_str (pa_cons pe_str (pa_cons pe_str (pa_cons pe_str (pa_cons pe_str (pa_cons pe_str (pa_cons pe_non (pa_cons pe_int (pa_cons (pe_lst (pa_cons pe_str pa_nil)) pa_nil)))))))))) (pe_call G__law_take (hr.mono (by omega)) (by rfl) T.m__law_take T.F__law_take.kp T.b__law_take .nil pass0 (pa_cons (pv 0) (pa_cons pe_int pa_nil))) (fun _ _ => rfl)) pa_nil)) (pe_slice sl_tupA (pv 1) (po_some pe_int) po_none)))) pss_nil) (pss_one (ps_ret (pe_op op_catA (pe_op op_catA (pe_slice sl_tupA (pv 1) po_none (po_some (pv 2))) (pe_tup (pa_cons (pe_call G__law_odd (hr.mono (by omega)) (by rfl) T.m__law_odd T.F__law_odd.kp T.b__law_odd .nil pass0 (pa_cons (pv 0) pa_nil)) pa_nil))) (pe_slice sl_tupA (pv 1) (po_some (pe_op op_add (pv 2) pe_int)) po_none))))))))))), ?_⟩
  have sm := sum_sm fx w6 w04 t2 tI
  cases ht with
  | @tup a xs ds e na _ r =>
  have lr := r.len
  simp only [List.length_cons] at lr
  have ra := r
  cases r with
  | @cons v0 vs0 d0 ds0 r0 r1 =>
  cases r1 with
  | @cons v1 vs1 d1 ds1 r2 r3 =>
  cases r0
  obtain ⟨wa, rfl, hwa, nwa⟩ := r2.intsL
  refine ⟨_, rfl, _, rfl, _, _, rfl, .inr (SqT.of e), p, _, rfl, hp.dk, by simp only [List.length_cons]; omega, fun at1 H1 a0 a1 f1 D1' => ?_⟩
  have D1 := hp.go f1 D1'
  have e1 := f1 _ _ na.1 e
  have wa1 := f1 _ _ nwa.1 hwa
  refine ⟨_, rfl, _, _, 1, _, rfl, rfl, SqT.of e1, atI_nat (j := 1) rfl, wa, _, rfl, .inl (SqL.of wa1), fun W hW => ?_⟩
  have nWp : W ≠ p ∧ W ≠ z := D1.ne hW
  have sW := same_new hW (o := .lst (w.map V.int))
  have eW := upd_same (H := H1) (a := W) (o := .lst (w.map V.int))
  have F2 : Fr p H (upd H1 W (.lst (w.map V.int))) := f1.trans (Fr.same sW)
  have D2 := D1.keep sW
  have fW : H W = none := f1.free D1.some hW
  generalize upd H1 W (.lst (w.map V.int)) = H2 at *
  have lw : (w.map V.int).length = w.length := List.length_map _
  refine ⟨_, rfl, _, rfl, _, _, rfl, .inl (SqL.of eW), p, _, rfl, D2.dk, by omega, fun pl H3 p0 p1 f3 D3' => ?_⟩
  have D3 := D2.go f3 D3'
  have eW3 := f3 _ _ nWp.1 eW
  refine ⟨_, rfl, p, rfl, D3.dk, fun ov od H4 f4 D4' hov sov lov => ?_⟩
  have D4 := D3.go f4 D4'
  have eW4 := f4 _ _ nWp.1 eW3
  refine ⟨_, rfl, _, rfl, W, _, _, pl.toNat, rfl, rfl, eW4, ?_, ?_⟩
  · unfold ixN
    rw [if_pos p0, if_pos (by omega)]
  have hpl : pl.toNat < w.length := by omega
  have F5 : Fr p H (upd H4 W (.lst ((w.map V.int).set pl.toNat ov))) := ((F2.trans f3).trans f4).new fW
  have D5 : Dz z (upd H4 W (.lst ((w.map V.int).set pl.toNat ov))) p := D4.upd nWp
  have eset : (w.map V.int).set pl.toNat ov = (w.map V.int).take pl.toNat ++ ov :: (w.map V.int).drop (pl.toNat + 1) := List.set_eq_take_append_cons_drop.trans (if_pos (by omega))
  have hov5 : Dt (fun b => b ≠ p ∧ b ≠ z) (upd H4 W (.lst ((w.map V.int).set pl.toNat ov))) ov od := (hov.keep (upd_keep fun b hb => ne_of_none' hb eW3)).weak fun b hb => D3.ne hb
  have hWD : Dt (fun b => b ≠ p ∧ b ≠ z) (upd H4 W (.lst ((w.map V.int).set pl.toNat ov))) (.ref W) (.list (putD (w.map PyData.int) pl.toNat od)) := by
    refine .lst upd_same nWp (by rw [List.length_set]; omega) ?_
    have h := (DtAll.take pl.toNat (dt_ints (ok := fun b => b ≠ p ∧ b ≠ z) (H := upd H4 W (.lst ((w.map V.int).set pl.toNat ov))) w)).app (.cons hov5 ((dt_ints w).drop (pl.toNat + 1)))
    rw [← eset] at h
    exact h
  have hwi : (w.map PyData.int)[pl.toNat]? = some (.int w[pl.toNat]) := by rw [List.getElem?_map, List.getElem?_eq_getElem hpl]; rfl
  have sWD : Sm 12 2 (.list (putD (w.map PyData.int) pl.toNat od)) := by
    have hc := cnt_put (d := od) hwi
    have hcn := sov.cn
    have hdp := sov.dp
    simp only [cnt, cnt_ints] at hc
    refine ⟨?_, by simp only [cnt]; omega, ?_⟩
    · simp only [fineD, Bool.and_eq_true]
      refine ⟨fineAll_of fun y hy => ?_, layAll_of fun y hy => ?_⟩
      · rcases put_mem hy with hy | rfl
        · exact fineAll_mem (fine_ints w04) hy
        · exact sov.fine
      · rcases put_mem hy with hy | rfl
        · exact layAll_mem (lay_ints w) hy
        · exact lov
    · simp only [PyData.depth]
      have : PyData.depthAll (putD (w.map PyData.int) pl.toNat od) ≤ 1 := depthAll_of fun y hy => by
        rcases put_mem hy with hy | rfl
        · have := depthAll_mem hy
          rw [dep0] at this
          omega
        · exact hdp
      omega
  generalize upd H4 W (.lst ((w.map V.int).set pl.toNat ov)) = H5 at *
  have e5 := F5 _ _ na.1 e
  have wa5 := F5 _ _ nwa.1 hwa
  refine ⟨_, rfl, _, rfl, _, _, 1, _, rfl, rfl, SqT.of e5, atI_nat (j := 1) rfl, _, rfl, _, rfl, wa, _, rfl, SqL.of wa5, fun q1 hq1 => ?_⟩
  rw [cut_m1, lw]
  have z1 := same_new hq1 (o := .lst ((w.map V.int).take (w.length - 1)))
  have k1 := upd_same (H := H5) (a := q1) (o := .lst ((w.map V.int).take (w.length - 1)))
  generalize upd H5 q1 (.lst ((w.map V.int).take (w.length - 1))) = H6 at *
  refine ⟨_, rfl, _, _, 1, _, rfl, rfl, SqT.of (z1 _ _ e5), atI_nat (j := 1) rfl, (by show 1 ≤ sizeLine; decide), fun q2 hq2 => ?_⟩
  have z2 := z1.trans (same_new hq2 (o := .lst [.int 1]))
  refine ⟨wa, q2, _, _, rfl, rfl, z2 _ _ wa5, upd_same, ?_, fun q3 hq3 => ?_⟩
  · rw [lw]
    exact Nat.le_trans (show _ ≤ 1000 by simp only [List.length_cons, List.length_nil]; omega) (by decide)
  have s3 := same_add (same_new hq2 (o := .lst [.int 1])) ((same_new hq2 (o := .lst [.int 1])).free hq3) (o := .lst (w.map V.int ++ [V.int 1]))
  have z3 := z1.trans s3
  have k3 := upd_same (H := upd H6 q2 (.lst [.int 1])) (a := q3) (o := .lst (w.map V.int ++ [V.int 1]))
  have k13 := s3 _ _ k1
  generalize upd (upd H6 q2 (.lst [.int 1])) q3 (.lst (w.map V.int ++ [V.int 1])) = H8 at *
  refine ⟨_, rfl, _, _, 1, _, rfl, rfl, SqT.of (z3 _ _ e5), atI_nat (j := 1) rfl, wa, _, rfl, .inl ⟨SqL.of (z3 _ _ wa5), fun q4 hq4 => ?_⟩⟩
  refine fun q5 hq5 => ⟨_, rfl, _, _, 1, _, rfl, rfl, SqT.of ((z3.trans ((same_new hq4).trans (same_new hq5))) _ _ e5), atI_nat (j := 1) rfl, (by show 1 ≤ sizeLine; decide), fun q6 hq6 => ⟨(by show 7 ≤ sizeLine; decide), fun R hR => ?_⟩⟩
  have z4 := same_new hq4 (o := .tup (w.map V.int))
  have z5 := same_new hq5 (o := .dK [])
  have z6 := same_new hq6 (o := .lst [.ref wa])
  have zR := same_new hR (o := .lst [.ref W, .ref q1, .ref q3, .ref q4, .non, .ref q5, .ref q6])
  have k4 := ((z5.trans z6).trans zR) _ _ (upd_same (H := H8) (a := q4) (o := .tup (w.map V.int)))
  have k5 := (z6.trans zR) _ _ (upd_same (H := upd H8 q4 (.tup (w.map V.int))) (a := q5) (o := .dK []))
  have k6 := zR _ _ (upd_same (H := upd (upd H8 q4 (.tup (w.map V.int))) q5 (.dK [])) (a := q6) (o := .lst [.ref wa]))
  have kR := upd_same (H := upd (upd (upd H8 q4 (.tup (w.map V.int))) q5 (.dK [])) q6 (.lst [.ref wa])) (a := R) (o := .lst [.ref W, .ref q1, .ref q3, .ref q4, .non, .ref q5, .ref q6])
  have zz := ((z4.trans z5).trans z6).trans zR
  have z9 := z3.trans zz
  have k19 := zz _ _ k13
  have k39 := zz _ _ k3
  have D9 := D5.keep z9
  have nq1 : q1 ≠ p ∧ q1 ≠ z := D5.ne hq1
  have nq3 : q3 ≠ p ∧ q3 ≠ z := (D5.keep z1).ne ((same_new hq2 (o := .lst [.int 1])).free hq3)
  have nq4 : q4 ≠ p ∧ q4 ≠ z := (D5.keep z3).ne hq4
  have nq5 : q5 ≠ p ∧ q5 ≠ z := (D5.keep (z3.trans z4)).ne hq5
  have nq6 : q6 ≠ p ∧ q6 ≠ z := (D5.keep ((z3.trans z4).trans z5)).ne hq6
  have nR : R ≠ p ∧ R ≠ z := (D5.keep (((z3.trans z4).trans z5).trans z6)).ne hR
  generalize upd (upd (upd (upd H8 q4 (.tup (w.map V.int))) q5 (.dK [])) q6 (.lst [.ref wa])) R (.lst [.ref W, .ref q1, .ref q3, .ref q4, .non, .ref q5, .ref q6]) = H9 at *
  have F9 : Fr p H H9 := F5.trans (Fr.same z9)
  have hall : DtAll (fun b => b ≠ p ∧ b ≠ z) H9 [.ref W, .ref q1, .ref q3, .ref q4, .non, .ref q5, .ref q6]
      [.list (putD (w.map PyData.int) pl.toNat od), .list ((w.map PyData.int).take (w.length - 1)), .list (w.map PyData.int ++ [.int 1]), .tuple (w.map PyData.int), .none, .dict [], .list [.list (w.map PyData.int)]] := by
    refine .cons (hWD.same z9) (.cons (.lst k19 nq1 (by rw [List.length_take]; omega) ((dt_ints w).take _)) (.cons (.lst k39 nq3 (by rw [List.length_append, lw]; simp only [List.length_cons, List.length_nil]; omega) ((dt_ints w).app (.cons (.int 1) .nil)))
      (.cons (.tup k4 nq4 (by omega) (dt_ints w)) (.cons .non (.cons (.dic k5 nq5) (.cons (.lst k6 nq6 (by simp) (.cons (dt_intsL (z9 _ _ wa5) nwa (by omega)) .nil)) .nil))))))
  have hsm : ∀ d ∈ [PyData.list (putD (w.map PyData.int) pl.toNat od), .list ((w.map PyData.int).take (w.length - 1)), .list (w.map PyData.int ++ [.int 1]), .tuple (w.map PyData.int), .none, .dict [], .list [.list (w.map PyData.int)]], Sm 12 2 d := by
    have w1s := sm_listInts (w := w) (by omega) w04
    intro d hd
    simp only [List.mem_cons, List.not_mem_nil, or_false] at hd
    rcases hd with rfl | rfl | rfl | rfl | rfl | rfl | rfl
    · exact sWD
    · rw [← List.map_take]
      exact sm_listInts (by rw [List.length_take]; omega) fun y hy => w04 y (List.mem_of_mem_take hy)
    · rw [show w.map PyData.int ++ [PyData.int 1] = (w ++ [1]).map PyData.int by rw [List.map_append]; rfl]
      refine sm_listInts (by simp; omega) fun y hy => ?_
      rcases List.mem_append.mp hy with hy | hy
      · exact w04 y hy
      · simp only [List.mem_singleton] at hy
        omega
    · refine ⟨by simp only [fineD]; exact fine_ints w04, by simp only [cnt, cnt_ints]; omega, by simp only [PyData.depth, dep0]; omega⟩
    · exact ⟨rfl, by decide, by decide⟩
    · exact ⟨rfl, by decide, by decide⟩
    · refine ⟨?_, by simp only [cnt, cntAll, cnt_ints]; omega, by simp only [PyData.depth, PyData.depthAll, dep0]; omega⟩
      rw [fineD]
      simp only [fineAll, fine_listInts w04, PyData.canLayAll0, PyData.canLay0, lay_ints, Bool.and_self]
  have fin : ∀ (k : Nat) (rv : V) (d : PyData) (t : Addr) (He : Hp), k < (PyData.str x :: .list (w.map PyData.int) :: tl).length → t ≠ p ∧ t ≠ z → Fr p H He → Dz z He p → Dt (fun b => b ≠ p ∧ b ≠ z) He rv d → Sm 12 2 d → He t = some (.tup ((V.str x :: .ref wa :: vs1).take k ++ [rv] ++ (V.str x :: .ref wa :: vs1).drop (k + 1))) → Q (.ref t) He := by
    intro k rv d t He hk ht F D hd hs he
    have raE := ra.keep (H' := He) fun b o h e => F b o h.1 e
    refine q (.ref t) (.tuple (putD (.str x :: .list (w.map PyData.int) :: tl) k d)) He F D.dk (.tup he ht ?_ ?_) ?_
    · simp only [List.length_append, List.length_take, List.length_drop, List.length_cons, List.length_nil] at lr ⊢
      omega
    · rw [List.append_assoc]
      exact (raE.take k).app (.cons hd (raE.drop (k + 1)))
    · exact ((sm.mono (Nat.le_refl _) (show 2 ≤ 3 by decide)).put (List.getElem?_eq_getElem hk) (hs.mono (Nat.le_refl _) (show 2 ≤ 3 by decide)) (by decide) (by have := hs.dp; omega)).mono (by decide) (Nat.le_refl _)
  have e9 := F9 _ _ na.1 e
  refine ⟨_, rfl, rfl, _, rfl, ?_⟩
  by_cases c1 : at1 = 1
  · subst c1
    refine eqT rfl ?_
    refine ⟨_, rfl, 1, rfl, slA e9 fun u1 Ha sa ha na1 => ?_⟩
    have cut1' : cutV (V.str x :: .ref wa :: vs1) none (some 1) = (V.str x :: .ref wa :: vs1).take 1 := cut_hi (k := 1) (by simp)
    have cut2 : cutV (V.str x :: .ref wa :: vs1) (some 2) none = (V.str x :: .ref wa :: vs1).drop (1 + 1) := cut_lo (k := 2) (by simp)
    rw [cut1'] at ha
    have hl1 : ((V.str x :: .ref wa :: vs1).take 1).length ≤ 1000 := by simp
    have nu1 : u1 ≠ p ∧ u1 ≠ z := na1.elim (fun e => by rw [e]; exact na) fun h => D9.ne h
    refine ⟨_, rfl, _, rfl, p, 7, rfl, (D9.keep sa).dk, by decide, fun r Hb r0 r1 fb Db' => ?_⟩
    have Db := (D9.keep sa).go fb Db'
    obtain ⟨rv, d, hv, hd, hdt⟩ := hall.at r0 (by show r < 7; omega)
    replace hdt : Dt (fun b => b ≠ p ∧ b ≠ z) Hb rv d := (hdt.same sa).keep fun b o h e => fb b o h.1 e
    have hds := hsm d (List.mem_of_getElem? hd)
    refine ⟨R, _, r, rv, rfl, rfl, SqL.of (fb _ _ nR.1 (sa _ _ kR)), hv, (by show 1 ≤ sizeLine; decide), fun u2 hu2 => ?_⟩
    have nu2 : u2 ≠ p ∧ u2 ≠ z := Db.ne hu2
    have sb := same_new hu2 (o := .tup [rv])
    have D2 := Db.keep sb
    refine catA (sb _ _ (fb _ _ nu1.1 ha)) upd_same (by simp only [List.length_cons, List.length_nil] at hl1 ⊢; omega) fun u3 Hc sc hc nc => ?_
    have nu3 : u3 ≠ p ∧ u3 ≠ z := nc.elim (fun e => by rw [e]; exact nu1) fun h => h.elim (fun e => by rw [e]; exact nu2) fun h => D2.ne h
    have S3 := sb.trans sc
    refine ⟨_, rfl, 2, rfl, ?_⟩
    dsimp only [tNoPart]
    refine slA (S3 _ _ (fb _ _ na.1 (sa _ _ e9))) fun u4 Hd sd hd4 nd => ?_
    rw [cut2] at hd4
    have nu4 : u4 ≠ p ∧ u4 ≠ z := nd.elim (fun e => by rw [e]; exact na) fun h => (D2.keep sc).ne h
    refine catA (sd _ _ hc) hd4 (by simp only [List.length_append, List.length_cons, List.length_nil, List.length_drop] at hl1 lr ⊢; omega) fun u5 He se he ne => ?_
    have nu5 : u5 ≠ p ∧ u5 ≠ z := ne.elim (fun e => by rw [e]; exact nu3) fun h => h.elim (fun e => by rw [e]; exact nu4) fun h => ((D2.keep sc).keep sd).ne h
    have S5 := (S3.trans sd).trans se
    exact fin 1 rv d u5 He (by simp only [List.length_cons]; omega) nu5 ((F9.trans (Fr.same sa)).trans (fb.trans (Fr.same S5))) (Db.keep S5) (hdt.same S5) (hds) he
  refine eqF (ine c1) ?_
  refine ⟨_, rfl, rfl, _, rfl, ?_⟩
  by_cases c0 : at1 = 0
  · subst c0
    refine eqT rfl ?_
    refine ⟨(by show 1 ≤ sizeLine; decide), fun l1 hl1 => ⟨(by show 9 ≤ sizeLine; decide), fun L hL => ?_⟩⟩
    have y1 := same_new hl1 (o := .lst [.str (Str.ofString "least")])
    have y2 := same_new hL (o := .lst [.str (Str.ofString "turns"), .str (Str.ofString "least"), .str (Str.ofString "not"), .str (Str.ofString "Least"), .str (Str.ofString "both"), .str (Str.ofString ""), .non, .int 0, .ref l1])
    have m1 := y2 _ _ (upd_same (H := H9) (a := l1) (o := .lst [.str (Str.ofString "least")]))
    have mL := upd_same (H := upd H9 l1 (.lst [.str (Str.ofString "least")])) (a := L) (o := .lst [.str (Str.ofString "turns"), .str (Str.ofString "least"), .str (Str.ofString "not"), .str (Str.ofString "Least"), .str (Str.ofString "both"), .str (Str.ofString ""), .non, .int 0, .ref l1])
    have nl1 : l1 ≠ p ∧ l1 ≠ z := D9.ne hl1
    have nL : L ≠ p ∧ L ≠ z := (D9.keep y1).ne hL
    have yy := y1.trans y2
    generalize upd (upd H9 l1 (.lst [.str (Str.ofString "least")])) L (.lst [.str (Str.ofString "turns"), .str (Str.ofString "least"), .str (Str.ofString "not"), .str (Str.ofString "Least"), .str (Str.ofString "both"), .str (Str.ofString ""), .non, .int 0, .ref l1]) = Ha at *
    have words : DtAll (fun b => b ≠ p ∧ b ≠ z) Ha [.str (Str.ofString "turns"), .str (Str.ofString "least"), .str (Str.ofString "not"), .str (Str.ofString "Least"), .str (Str.ofString "both"), .str (Str.ofString ""), .non, .int 0, .ref l1] wordDs :=
      .cons (.str _) (.cons (.str _) (.cons (.str _) (.cons (.str _) (.cons (.str _) (.cons (.str _) (.cons .non (.cons (.int 0) (.cons (.lst m1 nl1 (by decide) (.cons (.str _) .nil)) .nil))))))))
    refine ⟨_, rfl, p, 9, rfl, (D9.keep yy).dk, by decide, fun r Hb r0 r1 fb Db' => ?_⟩
    have Db := (D9.keep yy).go fb Db'
    obtain ⟨rv, d, hv, hd, hdt⟩ := words.at r0 (by show r < 9; omega)
    replace hdt : Dt (fun b => b ≠ p ∧ b ≠ z) Hb rv d := hdt.keep fun b o h e => fb b o h.1 e
    have hds := (word_ok (List.mem_of_getElem? hd)).mono (show 3 ≤ 12 by decide) (show 1 ≤ 2 by decide)
    refine ⟨L, _, r, rv, rfl, rfl, SqL.of (fb _ _ nL.1 mL), hv, (by show 1 ≤ sizeLine; decide), fun u2 hu2 => ?_⟩
    have nu2 : u2 ≠ p ∧ u2 ≠ z := Db.ne hu2
    have sb := same_new hu2 (o := .tup [rv])
    have D2 := Db.keep sb
    have cut2 : cutV (V.str x :: .ref wa :: vs1) (some 1) none = (V.str x :: .ref wa :: vs1).drop (0 + 1) := cut_lo (k := 1) (by simp)
    refine ⟨_, rfl, 1, rfl, ?_⟩
    dsimp only [tNoPart]
    refine slA (sb _ _ (fb _ _ na.1 (yy _ _ e9))) fun u4 Hd sd hd4 nd => ?_
    rw [cut2] at hd4
    have nu4 : u4 ≠ p ∧ u4 ≠ z := nd.elim (fun e => by rw [e]; exact na) fun h => D2.ne h
    refine catA (sd _ _ upd_same) hd4 (by simp only [List.length_cons, List.length_nil, List.length_drop] at lr ⊢; omega) fun u5 He se he ne => ?_
    have nu5 : u5 ≠ p ∧ u5 ≠ z := ne.elim (fun e => by rw [e]; exact nu2) fun h => h.elim (fun e => by rw [e]; exact nu4) fun h => (D2.keep sd).ne h
    have S5 := (sb.trans sd).trans se
    exact fin 0 rv d u5 He (by simp only [List.length_cons]; omega) nu5 ((F9.trans (Fr.same yy)).trans (fb.trans (Fr.same S5))) (Db.keep S5) (hdt.same S5) hds he
  refine eqF (ine c0) ?_
  obtain ⟨k, rfl⟩ : ∃ k : Nat, at1 = (k : Int) := ⟨at1.toNat, by omega⟩
  simp only [List.length_cons] at lr a1
  have hk2 : 2 ≤ k := by omega
  have hkn : k < vs1.length + 1 + 1 := by omega
  refine ⟨_, rfl, _, rfl, (k : Int), rfl, slA e9 fun u1 Ha sa ha na1 => ?_⟩
  · have cut1' : cutV (V.str x :: .ref wa :: vs1) none (some (k : Int)) = (V.str x :: .ref wa :: vs1).take k := cut_hi (by simp only [List.length_cons]; omega)
    have cutk : cutV (V.str x :: .ref wa :: vs1) (some ((k : Int) + 1)) none = (V.str x :: .ref wa :: vs1).drop (k + 1) := cut_lo (k := k + 1) (by simp only [List.length_cons]; omega)
    rw [cut1'] at ha
    have hl1 : ((V.str x :: .ref wa :: vs1).take k).length ≤ 1000 := by rw [List.length_take]; omega
    have nu1 : u1 ≠ p ∧ u1 ≠ z := na1.elim (fun e => by rw [e]; exact na) fun h => D9.ne h
    refine ⟨_, rfl, p, rfl, (D9.keep sa).dk, fun rv d Hb fb Db' hdt0 so _ => ⟨(by show 1 ≤ sizeLine; decide), fun u2 hu2 => ?_⟩⟩
    have Db := (D9.keep sa).go fb Db'
    have hdt : Dt (fun b => b ≠ p ∧ b ≠ z) Hb rv d := hdt0.weak fun b hb => (D9.keep sa).ne hb
    have hds := so.mono (show 3 ≤ 12 by decide) (show 1 ≤ 2 by decide)
    have nu2 : u2 ≠ p ∧ u2 ≠ z := Db.ne hu2
    have sb := same_new hu2 (o := .tup [rv])
    have D2 := Db.keep sb
    refine catA (sb _ _ (fb _ _ nu1.1 ha)) upd_same (by simp only [List.length_cons, List.length_nil] at hl1 ⊢; omega) fun u3 Hc sc hc nc => ?_
    have nu3 : u3 ≠ p ∧ u3 ≠ z := nc.elim (fun e => by rw [e]; exact nu1) fun h => h.elim (fun e => by rw [e]; exact nu2) fun h => D2.ne h
    have S3 := sb.trans sc
    refine ⟨_, rfl, _, rfl, _, _, rfl, rfl, (k : Int) + 1, rfl, ?_⟩
    dsimp only [tNoPart]
    refine slA (S3 _ _ (fb _ _ na.1 (sa _ _ e9))) fun u4 Hd sd hd4 nd => ?_
    rw [cutk] at hd4
    have nu4 : u4 ≠ p ∧ u4 ≠ z := nd.elim (fun e => by rw [e]; exact na) fun h => (D2.keep sc).ne h
    refine catA (sd _ _ hc) hd4 (by simp only [List.length_append, List.length_cons, List.length_nil, List.length_drop] at hl1 lr ⊢; omega) fun u5 He se he ne => ?_
    have nu5 : u5 ≠ p ∧ u5 ≠ z := ne.elim (fun e => by rw [e]; exact nu3) fun h => h.elim (fun e => by rw [e]; exact nu4) fun h => ((D2.keep sc).keep sd).ne h
    have S5 := (S3.trans sd).trans se
    exact fin k rv d u5 He (by simp only [List.length_cons]; omega) nu5 ((F9.trans (Fr.same sa)).trans (fb.trans (Fr.same S5))) (Db.keep S5) (hdt.same S5) (hds) he
end

theorem Cd.view2 {s : Nat} (c : Cd) (h : c.ok s) : (∃ x w tl, c.dat = .tuple (.str x :: .list (w.map PyData.int) :: tl) ∧ (x = Str.ofString "least" ∨ x = Str.ofString "turns") ∧ fineS x = true ∧ wOk s w ∧ 1 ≤ tl.length ∧ tl.length ≤ 2 ∧ ∀ d ∈ tl, ∃ i : Int, d = .int i ∧ 0 ≤ i ∧ i ≤ 4) ∨
    ∃ x cs, Inner c x cs ∧ (∀ c' ∈ cs, c'.ok s) ∧ fineS x = true := by
  cases c with
  | least w b =>
    refine .inl ⟨_, w, [.int b], rfl, .inl rfl, fs_least, h.1, by simp, by simp, fun d hd => ?_⟩
    simp only [List.mem_singleton] at hd
    exact ⟨b, hd, h.2⟩
  | turns w m r =>
    obtain ⟨h1, h2, h3, h4, h5⟩ := h
    refine .inl ⟨_, w, [.int m, .int r], rfl, .inr rfl, fs_turns, h1, by simp, by simp, fun d hd => ?_⟩
    simp only [List.mem_cons, List.not_mem_nil, or_false] at hd
    rcases hd with rfl | rfl
    · exact ⟨m, rfl, by omega, by omega⟩
    · exact ⟨r, rfl, by omega, by omega⟩
  | neg c => exact .inr ⟨_, [c], ⟨rfl, by decide +kernel, by decide +kernel, by simp, by simp, by simp only [Cd.deep, mxd]; omega⟩, fun c' hc => by simp only [List.mem_singleton] at hc; rw [hc]; exact h, fs_not⟩
  | both c d => exact .inr ⟨_, [c, d], ⟨rfl, by decide +kernel, by decide +kernel, by simp, by simp, by simp only [Cd.deep, mxd]; omega⟩, fun c' hc => by
      simp only [List.mem_cons, List.not_mem_nil, or_false] at hc
      rcases hc with rfl | rfl
      · exact h.1
      · exact h.2, fs_both⟩
  | either c d => exact .inr ⟨_, [c, d], ⟨rfl, by decide +kernel, by decide +kernel, by simp, by simp, by simp only [Cd.deep, mxd]; omega⟩, fun c' hc => by
      simp only [List.mem_cons, List.not_mem_nil, or_false] at hc
      rcases hc with rfl | rfl
      · exact h.1
      · exact h.2, fs_either⟩
theorem Cd.tup2 (c : Cd) : ∃ x d1 dl, c.dat = .tuple (.str x :: d1 :: dl) ∧ dl.length ≤ 2 := by
  cases c with
  | least w b => exact ⟨_, _, _, rfl, by simp⟩
  | turns w m r => exact ⟨_, _, _, rfl, by simp⟩
  | neg c => exact ⟨_, _, _, rfl, by simp⟩
  | both c d => exact ⟨_, _, _, rfl, by simp⟩
  | either c d => exact ⟨_, _, _, rfl, by simp⟩
def someDs (x : Str) (d1 : PyData) (dl : List PyData) : List PyData := [.tuple ((.str x :: d1 :: dl).take (dl.length + 1)), .tuple (.str x :: d1 :: dl ++ [.int 1]), .list (.str x :: d1 :: dl), .none, .tuple [], .str x,
  .tuple [.tuple (.str x :: d1 :: dl)], d1, .dict [], .tuple [.str (Str.ofString "not"), .tuple (.str x :: d1 :: dl), .tuple (.str x :: d1 :: dl)]]
theorem some_sm {N D : Nat} {x : Str} {d1 : PyData} {dl : List PyData} (h : Sm N D (.tuple (.str x :: d1 :: dl))) (hl : PyData.canLay0 (.tuple (.str x :: d1 :: dl)) = true) : ∀ d ∈ someDs x d1 dl, Sm (2 * N + 2) (D + 1) d := by
  obtain ⟨h1, h2, h3⟩ := h
  have g1 : fineAll (.str x :: d1 :: dl) = true := by simpa only [fineD] using h1
  have g2 : cntAll (.str x :: d1 :: dl) + 1 ≤ N := by simpa only [cnt] using h2
  have g3 : PyData.depthAll (.str x :: d1 :: dl) + 1 ≤ D := by simpa only [PyData.depth] using h3
  have l1 : PyData.canLayAll0 (.str x :: d1 :: dl) = true := by simpa only [PyData.canLay0] using hl
  intro d hd
  unfold someDs at hd
  generalize hds : PyData.str x :: d1 :: dl = ds at *
  have m1 : d1 ∈ ds := by rw [← hds]; simp
  have m0 : PyData.str x ∈ ds := by rw [← hds]; simp
  have c1 : cnt d1 ≤ cntAll ds := by rw [← hds]; simp only [cntAll]; omega
  have f0 := fineAll_mem g1 m0
  simp only [List.mem_cons, List.not_mem_nil, or_false] at hd
  rcases hd with rfl | rfl | rfl | rfl | rfl | rfl | rfl | rfl | rfl | rfl
  · refine ⟨?_, ?_, ?_⟩
    · simp only [fineD]; exact fineAll_of fun y hy => fineAll_mem g1 (List.mem_of_mem_take hy)
    · have := cntAll_take (dl.length + 1) ds
      simp only [cnt]; omega
    · have : PyData.depthAll (ds.take (dl.length + 1)) ≤ PyData.depthAll ds := depthAll_of fun y hy => depthAll_mem (List.mem_of_mem_take hy)
      simp only [PyData.depth]; omega
  · refine ⟨?_, ?_, ?_⟩
    · simp only [fineD]; exact fineAll_of fun y hy => by
        rcases List.mem_append.mp hy with hy | hy
        · exact fineAll_mem g1 hy
        · simp only [List.mem_singleton] at hy
          rw [hy]; decide
    · simp only [cnt, cntAll_app, cntAll]; omega
    · have : PyData.depthAll (ds ++ [.int 1]) ≤ PyData.depthAll ds := depthAll_of fun y hy => by
        rcases List.mem_append.mp hy with hy | hy
        · exact depthAll_mem hy
        · simp only [List.mem_singleton] at hy
          rw [hy]
          simp only [PyData.depth]; omega
      simp only [PyData.depth]; omega
  · refine ⟨?_, ?_, ?_⟩
    · simp only [fineD, g1, l1, Bool.and_self]
    · simp only [cnt]; omega
    · simp only [PyData.depth]; omega
  · exact ⟨rfl, by simp only [cnt]; omega, by simp only [PyData.depth]; omega⟩
  · exact ⟨rfl, by simp only [cnt, cntAll]; omega, by simp only [PyData.depth, PyData.depthAll]; omega⟩
  · exact ⟨f0, by simp only [cnt]; omega, by simp only [PyData.depth]; omega⟩
  · refine ⟨?_, by simp only [cnt, cntAll]; omega, by simp only [PyData.depth, PyData.depthAll]; omega⟩
    rw [fineD]
    simp only [fineAll, h1, Bool.and_self]
  · exact ⟨fineAll_mem g1 m1, by omega, by have := depthAll_mem m1; omega⟩
  · exact ⟨rfl, by simp only [cnt]; omega, by simp only [PyData.depth, PyData.depthKv]; omega⟩
  · refine ⟨?_, by simp only [cnt, cntAll]; omega, by simp only [PyData.depth, PyData.depthAll]; omega⟩
    rw [fineD]
    simp only [fineAll, fineD_str, fs_not, h1, Bool.and_self]
def word2Ds : List PyData := [.str (Str.ofString "not"), .str (Str.ofString "both"), .str (Str.ofString "either"), .str (Str.ofString "and"), .str (Str.ofString "least"), .str (Str.ofString "Not"), .none, .int 1]
theorem word2_all : word2Ds.all (fun d => fineD d && decide (cnt d ≤ 3) && decide (d.depth ≤ 1)) = true := by decide +kernel
theorem word2_ok {d : PyData} (h : d ∈ word2Ds) : Sm 3 1 d := by
  have h1 := List.all_eq_true.mp word2_all d h
  simp only [Bool.and_eq_true, decide_eq_true_eq] at h1
  exact ⟨h1.1.1, h1.1.2, h1.2⟩
theorem cnt_mem {d : PyData} : ∀ {ds : List PyData}, d ∈ ds → cnt d ≤ cntAll ds
  | x :: r, h => by
    simp only [cntAll]
    rcases List.mem_cons.mp h with rfl | h
    · omega
    · have := cnt_mem h
      omega
def sp__law_spoilt (n : Nat) : Sp := fun vs H Q _ => ∃ (p z : Addr) (v : V) (c : Cd) (s : Nat), vs = [.ref p, v] ∧ Dz z H p ∧ Dt (fun b => b ≠ p ∧ b ≠ z) H v c.dat ∧ c.ok s ∧ 1 ≤ s ∧ s ≤ 6 ∧ c.deep ≤ n ∧
  ∀ r d H', Fr p H H' → Dk H' p → Dt (fun b => b ≠ p ∧ b ≠ z) H' r d → Sm ((c.deep + 1) * cnt c.dat + 40) (c.deep + 4) d → Q r H'
section
variable {P : Program} {w : World} {K : PySem.W.Frag} {mg : Str → Option Value} {base : Heap}
theorem ok__law_spoilt (T : Txt K mg) : ∀ n : Nat, FnOk P w K mg base CX0 (n + 3) T.f__law_spoilt T.d__law_spoilt ["deck", "thing"] (sp__law_spoilt n)
  | 0 => noneOf fun vs H Q E ⟨p, z, v, c, s, _, _, _, _, _, _, h, _⟩ => by have := c.deep_pos; omega
  | n + 1 => by
    have G__law_spoilt : FnOk P w K mg base CX0 (n + 3) T.f__law_spoilt T.d__law_spoilt ["deck", "thing"] (sp__law_spoilt n) := ok__law_spoilt T n
    have G__law_take : FnOk P w K mg base CX0 1 T.f__law_take T.d__law_take ["deck", "many"] sp__law_take := ok__law_take T
    have G__law_bad_sum : FnOk P w K mg base CX0 3 T.f__law_bad_sum T.d__law_bad_sum ["deck", "thing"] sp__law_bad_sum := ok__law_bad_sum T
    refine T.F__law_spoilt.ok sc__law_spoilt (fun vs H Q E h => ?_) (fun cdv A outer s H vs Q E hr h => ?_)
    · obtain ⟨p, z, v, c, s, rfl, _⟩ := h
      rfl
    obtain ⟨p, z, v, c, s, rfl, hp, ht, hc, hs1, hs6, hn, q⟩ := h
    refine ⟨_, (pss_cons (ps_set (i := 2) sc__law_spoilt.nd rfl (Or.inl rfl) (pe_call G__law_take (hr.mono (by omega)) (by rfl) T.m__law_take T.F__law_take.kp T.b__law_take .nil pass0 (pa_cons (pv 0) (pa_cons pe_int pa_nil)))) (pss_cons (ps_if (pt_cmpR op_eq (pv 2) pe_int (nomark _)) (pss_cons (ps_set (i := 3) sc__law_spoilt.nd rfl (Or.inl rfl) (pe_lst (pa_cons (pe_slice sl_tupA (pv 1) po_none (po_some (pe_un un_neg pe_int))) (pa_cons (pe_op op_catA (pv 1) (pe_tup (pa_cons pe_int pa_nil))) (pa_cons (pe_callTy call_list_of (by rfl) T.z_list (by decide +kernel) (pa_cons (pv 1) pa_nil)) (pa_cons pe_non (pa_cons (pe_tup pa_nil) (pa_cons (pe_ix ix_tup (pv 1) pe_int (fun _ _ => rfl)) pa_nil)))))))) (pss_cons (ps_set (i := 3) sc__law_spoilt.nd rfl (Or.inl rfl) (pe_op op_cat (pv 3) (pe_lst (pa_cons (pe_tup (pa_cons (pv 1) pa_nil)) (pa_cons (pe_ix ix_tup (pv 1) pe_int (fun _ _ => rfl)) (pa_cons pe_dnewK (pa_cons (pe_tup (pa_cons pe_str (pa_cons (pv 1) (pa_cons (pv 1) pa_nil)))) pa_nil))))))) (pss_one (ps_ret (pe_ix ix_list (pv 3) (pe_call G__law_take (hr.mono (by omega)) (by rfl) T.m__law_take T.F__law_take.kp T.b__law_take .nil pass0 (pa_cons (pv 0) (pa_cons pe_int pa_nil))) (fun _ _ => rfl)))))) pss_nil) (pss_cons (ps_if (pt_cmpR op_in_seq (pe_ix ix_tup (pv 1) pe_int (fun _ _ => rfl)) (pe_lst (pa_cons pe_str (pa_cons pe_str pa_nil))) (by rfl)) (pss_one (ps_ret (pe_call G__law_bad_sum (hr.mono (by omega)) (by rfl) T.m__law_bad_sum T.F__law_bad_sum.kp T.b__law_bad_sum .nil pass0 (pa_cons (pv 0) (pa_cons (pv 1) pa_nil))))) pss_nil) (pss_cons (ps_if (pt_cmpR op_eq (pv 2) pe_int (nomark _)) (pss_one (ps_ret (pe_op op_catA (pe_tup (pa_cons (pe_ix ix_list (pe_lst (pa_cons pe_str (pa_cons pe_str (pa_cons pe_str (pa_cons pe_str (pa_cons pe_str (pa_cons pe_str (pa_cons pe_non (pa_cons pe_int pa_nil))))))))) (pe_call G__law_take (hr.mono (by omega)) (by rfl) T.m__law_take T.F__law_take.kp T.b__law_take .nil pass0 (pa_cons (pv 0) (pa_cons pe_int pa_nil))) (fun _ _ => rfl)) pa_nil)) (pe_slice sl_tupA (pv 1) (po_some pe_int) po_none)))) pss_nil) (pss_cons (ps_set (i := 4) sc__law_spoilt.nd rfl (Or.inl rfl) (pe_op op_add pe_int (pe_call G__law_take (hr.mono (by omega)) (by rfl) T.m__law_take T.F__law_take.kp T.b__law_take .nil pass0 (pa_cons (pv 0) (pa_cons (pe_op op_sub (pe_callB call_len_seq (by rfl) T.z_len PySem.boot_len (pa_cons (pv 1) pa_nil)) pe_int) pa_nil))))) (pss_one (ps_ret (pe_op op_catA (pe_op op_catA (pe_slice sl_tupA (pv 1) po_none (po_some (pv 4))) (pe_tup (pa_cons (pe_call G__law_spoilt (hr.mono (by omega)) (by rfl) T.m__law_spoilt T.F__law_spoilt.kp T.b__law_spoilt .nil pass0 (pa_cons (pv 0) (pa_cons (pe_ix ix_tup (pv 1) (pv 4) (fun _ _ => rfl)) pa_nil))) pa_nil))) (pe_slice sl_tupA (pv 1) (po_some (pe_op op_add (pv 4) pe_int)) po_none))))))))), ?_⟩
    have sm := Cd.sm hs6 hc
    have hlay := c.lay
    have hdp := c.deep_pos
    have hN : cnt c.dat ≤ c.deep * cnt c.dat := Nat.le_mul_of_pos_left _ hdp
    have hN2 : (c.deep + 1) * cnt c.dat = c.deep * cnt c.dat + cnt c.dat := Nat.succ_mul _ _
    refine ⟨_, rfl, p, 8, rfl, hp.dk, by decide, fun way H1 w0 w1 f1 D1' => ?_⟩
    have D1 := hp.go f1 D1'
    refine ⟨_, rfl, rfl, _, rfl, ?_⟩
    replace ht : Dt (fun b => b ≠ p ∧ b ≠ z) H1 v c.dat := ht.keep fun b o h e => f1 b o h.1 e
    by_cases c0 : way = 0
    · subst c0
      refine eqT rfl ?_
      obtain ⟨x, d1, dl, hdat, hdl⟩ := c.tup2
      have hsome := some_sm (N := cnt c.dat) (D := c.deep + 1) (by rw [← hdat]; exact sm) (by rw [← hdat]; exact hlay)
      have ht' := ht
      rw [hdat] at ht'
      cases ht' with
      | @tup a xs ds e na hlen r =>
      have ra := r
      have lr := r.len
      cases r with
      | @cons v0 vs0 _ _ r0 r1 =>
      cases r1 with
      | @cons v1 vs1 _ _ r2 r3 =>
      cases r0
      simp only [List.length_cons] at lr
      refine ⟨_, rfl, _, rfl, _, rfl, slA e fun u1 Ha sa ha na1 => ?_⟩
      have hcut : cutV (V.str x :: v1 :: vs1) none (some (-1)) = (V.str x :: v1 :: vs1).take (dl.length + 1) := by
        rw [cut_m1, List.length_cons, List.length_cons]
        congr 1
        omega
      rw [hcut] at ha
      have nu1 : u1 ≠ p ∧ u1 ≠ z := na1.elim (fun z => by rw [z]; exact na) fun h => D1.ne h
      refine ⟨_, rfl, (by show 1 ≤ sizeLine; decide), fun q1 hq1 => ?_⟩
      have sq := same_new hq1 (o := .tup [.int 1])
      refine catA (sq _ _ (sa _ _ e)) upd_same (by simp only [List.length_cons, List.length_nil]; omega) fun u2 Hb sb hb nb => ?_
      have Da := D1.keep sa
      have nu2 : u2 ≠ p ∧ u2 ≠ z := nb.elim (fun z => by rw [z]; exact na) fun h => h.elim (fun z => by rw [z]; exact Da.ne hq1) fun h => (Da.keep sq).ne h
      have Sb := (sa.trans sq).trans sb
      have kb1 := (sq.trans sb) _ _ ha
      have Db := D1.keep Sb
      refine ⟨_, rfl, a, _, rfl, .inr (SqT.of (Sb _ _ e)), fun u3 hu3 => ⟨(by show 0 ≤ sizeLine; decide), fun u4 hu4 => ?_⟩⟩
      have s3 := same_new hu3 (o := .lst (V.str x :: v1 :: vs1))
      have s4 := same_new hu4 (o := .tup [])
      refine ⟨_, rfl, _, _, 0, _, rfl, rfl, SqT.of ((Sb.trans (s3.trans s4)) _ _ e), atI_nat (j := 0) rfl, (by show 6 ≤ sizeLine; decide), fun S1 hS1 => ?_⟩
      have s5 := same_new hS1 (o := .lst [.ref u1, .ref u2, .ref u3, .non, .ref u4, .str x])
      have k3 := (s4.trans s5) _ _ (upd_same (H := Hb) (a := u3) (o := .lst (V.str x :: v1 :: vs1)))
      have k4 := s5 _ _ (upd_same (H := upd Hb u3 (.lst (V.str x :: v1 :: vs1))) (a := u4) (o := .tup []))
      have kS1 := upd_same (H := upd (upd Hb u3 (.lst (V.str x :: v1 :: vs1))) u4 (.tup [])) (a := S1) (o := .lst [.ref u1, .ref u2, .ref u3, .non, .ref u4, .str x])
      have S5 := (s3.trans s4).trans s5
      have nu3 : u3 ≠ p ∧ u3 ≠ z := Db.ne hu3
      have nu4 : u4 ≠ p ∧ u4 ≠ z := (Db.keep s3).ne hu4
      have Dc := Db.keep S5
      have Sc := Sb.trans S5
      have kc1 := S5 _ _ kb1
      have kc2 := S5 _ _ hb
      generalize upd (upd (upd Hb u3 (.lst (V.str x :: v1 :: vs1))) u4 (.tup [])) S1 (.lst [.ref u1, .ref u2, .ref u3, .non, .ref u4, .str x]) = Hc at *
      refine ⟨_, rfl, _, rfl, (by show 1 ≤ sizeLine; decide), fun u5 hu5 => ?_⟩
      have s6 := same_new hu5 (o := .tup [V.ref a])
      refine ⟨_, rfl, _, _, 1, _, rfl, rfl, SqT.of ((Sc.trans s6) _ _ e), atI_nat (j := 1) rfl, fun u6 hu6 => ?_⟩
      refine ⟨_, rfl, _, rfl, (by show 3 ≤ sizeLine; decide), fun u7 hu7 => ⟨(by show 4 ≤ sizeLine; decide), fun S2 hS2 => ?_⟩⟩
      have s7 := same_new hu6 (o := .dK [])
      have s8 := same_new hu7 (o := .tup [V.str (Str.ofString "not"), V.ref a, V.ref a])
      have s9 := same_new hS2 (o := .lst [V.ref u5, v1, V.ref u6, V.ref u7])
      have k5 := ((s7.trans s8).trans s9) _ _ (upd_same (H := Hc) (a := u5) (o := .tup [V.ref a]))
      have k6 := (s8.trans s9) _ _ (upd_same (H := upd Hc u5 (.tup [V.ref a])) (a := u6) (o := .dK []))
      have k7 := s9 _ _ (upd_same (H := upd (upd Hc u5 (.tup [V.ref a])) u6 (.dK [])) (a := u7) (o := .tup [V.str (Str.ofString "not"), V.ref a, V.ref a]))
      have kS2 := upd_same (H := upd (upd (upd Hc u5 (.tup [V.ref a])) u6 (.dK [])) u7 (.tup [V.str (Str.ofString "not"), V.ref a, V.ref a])) (a := S2) (o := .lst [V.ref u5, v1, V.ref u6, V.ref u7])
      have S9 := ((s6.trans s7).trans s8).trans s9
      have nu5 : u5 ≠ p ∧ u5 ≠ z := Dc.ne hu5
      have nu6 : u6 ≠ p ∧ u6 ≠ z := (Dc.keep s6).ne hu6
      have nu7 : u7 ≠ p ∧ u7 ≠ z := (Dc.keep (s6.trans s7)).ne hu7
      have Dd := Dc.keep S9
      have Sd := Sc.trans S9
      generalize upd (upd (upd (upd Hc u5 (.tup [V.ref a])) u6 (.dK [])) u7 (.tup [V.str (Str.ofString "not"), V.ref a, V.ref a])) S2 (.lst [V.ref u5, v1, V.ref u6, V.ref u7]) = Hd at *
      refine ⟨S1, S2, _, _, rfl, rfl, S9 _ _ kS1, kS2, Nat.le_trans (show _ ≤ 1000 by simp) (by decide), fun S3 hS3 => ?_⟩
      have sE := same_new hS3 (o := .lst ([V.ref u1, V.ref u2, V.ref u3, V.non, V.ref u4, V.str x] ++ [V.ref u5, v1, V.ref u6, V.ref u7]))
      have kS3 := upd_same (H := Hd) (a := S3) (o := .lst ([V.ref u1, V.ref u2, V.ref u3, V.non, V.ref u4, V.str x] ++ [V.ref u5, v1, V.ref u6, V.ref u7]))
      have nS3 : S3 ≠ p ∧ S3 ≠ z := Dd.ne hS3
      have De := Dd.keep sE
      have Se := Sd.trans sE
      have SF := S9.trans sE
      generalize upd Hd S3 (.lst ([V.ref u1, V.ref u2, V.ref u3, V.non, V.ref u4, V.str x] ++ [V.ref u5, v1, V.ref u6, V.ref u7])) = He at *
      have raE := ra.same Se
      have tE : Dt (fun b => b ≠ p ∧ b ≠ z) He (.ref a) (.tuple (.str x :: d1 :: dl)) := .tup (Se _ _ e) na hlen raE
      have hall : DtAll (fun b => b ≠ p ∧ b ≠ z) He ([V.ref u1, V.ref u2, V.ref u3, V.non, V.ref u4, V.str x] ++ [V.ref u5, v1, V.ref u6, V.ref u7]) (someDs x d1 dl) := by
        have i1 : Dt (fun b => b ≠ p ∧ b ≠ z) He (.ref u1) _ := .tup (SF _ _ kc1) nu1 (by rw [List.length_take]; omega) (raE.take (dl.length + 1))
        have i2 : Dt (fun b => b ≠ p ∧ b ≠ z) He (.ref u2) _ := .tup (SF _ _ kc2) nu2 (by simp only [List.length_append, List.length_cons, List.length_nil]; omega) (raE.app (.cons (.int 1) .nil))
        have i3 : Dt (fun b => b ≠ p ∧ b ≠ z) He (.ref u3) _ := .lst (SF _ _ k3) nu3 hlen raE
        have i4 : Dt (fun b => b ≠ p ∧ b ≠ z) He (.ref u4) _ := .tup (SF _ _ k4) nu4 (by simp) .nil
        have i5 : Dt (fun b => b ≠ p ∧ b ≠ z) He (.ref u5) _ := .tup (sE _ _ k5) nu5 (by simp) (.cons tE .nil)
        have i6 : Dt (fun b => b ≠ p ∧ b ≠ z) He (.ref u6) _ := .dic (sE _ _ k6) nu6
        have i7 : Dt (fun b => b ≠ p ∧ b ≠ z) He (.ref u7) _ := .tup (sE _ _ k7) nu7 (by simp) (.cons (.str _) (.cons tE (.cons tE .nil)))
        exact .cons i1 (.cons i2 (.cons i3 (.cons .non (.cons i4 (.cons (.str x) (.cons i5 (.cons (r2.same Se) (.cons i6 (.cons i7 .nil)))))))))
      refine ⟨_, rfl, _, rfl, p, 10, rfl, De.dk, by decide, fun r Hz r0 r1 fz Dz' => ?_⟩
      obtain ⟨rv, d, hv, hd, hdt⟩ := hall.at r0 (by show r < 10; omega)
      refine ⟨S3, _, r, rv, rfl, rfl, SqL.of (fz _ _ nS3.1 kS3), hv, q rv d Hz ((f1.trans (Fr.same Se)).trans fz) Dz' (hdt.keep fun b o h e => fz b o h.1 e) ((hsome d (List.mem_of_getElem? hd)).mono (by omega) (by omega))⟩
    refine eqF (ine c0) ?_
    rcases c.view2 hc with ⟨x, w2, tl, hdat, hx, fx, hw, t1, t2, tI⟩ | ⟨x, cs, ⟨hdat, x1, x2, hcs, hcs2, hdeep⟩, hok, fx⟩
    · have ht' := ht
      rw [hdat] at ht'
      cases ht' with
      | @tup a xs ds e na hlen r =>
      cases r with
      | @cons v0 vs0 _ _ r0 r1 =>
      cases r0
      refine ⟨_, rfl, _, _, 0, _, rfl, rfl, SqT.of e, atI_nat (j := 0) rfl, (by show 2 ≤ sizeLine; decide), fun l hl => ?_⟩
      have s2 := same_new hl (o := .lst [.str (Str.ofString "least"), .str (Str.ofString "turns")])
      refine ⟨l, _, rfl, .inl (SqL.of upd_same), rfl, rfl, _, rfl, ?_⟩
      have e1 : inV (V.str x) [.str (Str.ofString "least"), .str (Str.ofString "turns")] = true := by
        rcases hx with rfl | rfl <;> decide +kernel
      rw [e1]
      refine iteT ?_
      have htS := ht.same s2
      rw [hdat] at htS
      exact ⟨_, rfl, _, rfl, p, z, _, x, w2, tl, rfl, D1.keep s2, htS, fx, by rw [hw.1]; omega, by rw [hw.1]; omega, hw.2, t1, t2, tI, fun r d H' F D hd hs => q r d H' ((f1.trans (Fr.same s2)).trans F) D hd (hs.mono (by omega) (by omega))⟩
    · have hdat' : c.dat = .tuple (.str x :: cs.map Cd.dat) := hdat
      have ht' := ht
      rw [hdat'] at ht'
      have sm' : Sm (cnt c.dat) (c.deep + 1) (.tuple (.str x :: cs.map Cd.dat)) := by rw [← hdat']; exact sm
      have hcn : cntAll (cs.map Cd.dat) ≤ cnt c.dat := by rw [hdat']; simp only [cnt, cntAll]; omega
      cases ht' with
      | @tup a xs ds e na hlen r =>
      have ra := r
      have lr := r.len
      cases r with
      | @cons v0 vs0 _ _ r0 r1 =>
      cases r0
      simp only [List.length_cons, List.length_map] at lr
      refine ⟨_, rfl, _, _, 0, _, rfl, rfl, SqT.of e, atI_nat (j := 0) rfl, (by show 2 ≤ sizeLine; decide), fun l hl => ?_⟩
      have s2 := same_new hl (o := .lst [.str (Str.ofString "least"), .str (Str.ofString "turns")])
      refine ⟨l, _, rfl, .inl (SqL.of upd_same), rfl, rfl, _, rfl, ?_⟩
      have e1 : inV (V.str x) [.str (Str.ofString "least"), .str (Str.ofString "turns")] = false := by
        show ((Str.ofString "least" == x) || ((Str.ofString "turns" == x) || false)) = false
        rw [beq_eq_false_iff_ne.mpr (Ne.symm x1), beq_eq_false_iff_ne.mpr (Ne.symm x2)]
        rfl
      rw [e1]
      refine iteF ?_
      have D2 := D1.keep s2
      have F2 : Fr p H (upd H1 l (.lst [.str (Str.ofString "least"), .str (Str.ofString "turns")])) := f1.trans (Fr.same s2)
      have e2 := s2 _ _ e
      have ra2 := ra.same s2
      generalize upd H1 l (.lst [.str (Str.ofString "least"), .str (Str.ofString "turns")]) = H2 at *
      have fin : ∀ (k : Nat) (rv : V) (d : PyData) (t : Addr) (He : Hp), k < cs.length + 1 → t ≠ p ∧ t ≠ z → Fr p H2 He → Dz z He p → Dt (fun b => b ≠ p ∧ b ≠ z) He rv d → Sm ((c.deep + 1) * cnt c.dat + 40) (c.deep + 4) (.tuple (putD (.str x :: cs.map Cd.dat) k d)) →
          He t = some (.tup ((V.str x :: vs0).take k ++ [rv] ++ (V.str x :: vs0).drop (k + 1))) → Q (.ref t) He := by
        intro k rv d t He hk ht F D hd hs he
        have raE := ra2.keep (H' := He) fun b o h e => F b o h.1 e
        refine q (.ref t) (.tuple (putD (.str x :: cs.map Cd.dat) k d)) He (F2.trans F) D.dk (.tup he ht ?_ ?_) hs
        · simp only [List.length_append, List.length_take, List.length_drop, List.length_cons, List.length_nil]
          omega
        · rw [List.append_assoc]
          exact (raE.take k).app (.cons hd (raE.drop (k + 1)))
      refine ⟨_, rfl, rfl, _, rfl, ?_⟩
      by_cases c1 : way = 1
      · subst c1
        refine eqT rfl ?_
        refine ⟨(by show 8 ≤ sizeLine; decide), fun L hL => ?_⟩
        have y2 := same_new hL (o := .lst [.str (Str.ofString "not"), .str (Str.ofString "both"), .str (Str.ofString "either"), .str (Str.ofString "and"), .str (Str.ofString "least"), .str (Str.ofString "Not"), .non, .int 1])
        have mL := upd_same (H := H2) (a := L) (o := .lst [.str (Str.ofString "not"), .str (Str.ofString "both"), .str (Str.ofString "either"), .str (Str.ofString "and"), .str (Str.ofString "least"), .str (Str.ofString "Not"), .non, .int 1])
        have nL : L ≠ p ∧ L ≠ z := D2.ne hL
        generalize upd H2 L (.lst [.str (Str.ofString "not"), .str (Str.ofString "both"), .str (Str.ofString "either"), .str (Str.ofString "and"), .str (Str.ofString "least"), .str (Str.ofString "Not"), .non, .int 1]) = Ha at *
        have words : DtAll (fun b => b ≠ p ∧ b ≠ z) Ha [.str (Str.ofString "not"), .str (Str.ofString "both"), .str (Str.ofString "either"), .str (Str.ofString "and"), .str (Str.ofString "least"), .str (Str.ofString "Not"), .non, .int 1] word2Ds :=
          .cons (.str _) (.cons (.str _) (.cons (.str _) (.cons (.str _) (.cons (.str _) (.cons (.str _) (.cons .non (.cons (.int 1) .nil)))))))
        refine ⟨_, rfl, p, 8, rfl, (D2.keep y2).dk, by decide, fun r Hb r0 r1 fb Db' => ?_⟩
        have Db := (D2.keep y2).go fb Db'
        obtain ⟨rv, d, hv, hd, hdt⟩ := words.at r0 (by show r < 8; omega)
        replace hdt : Dt (fun b => b ≠ p ∧ b ≠ z) Hb rv d := hdt.keep fun b o h e => fb b o h.1 e
        have hds := word2_ok (List.mem_of_getElem? hd)
        refine ⟨L, _, r, rv, rfl, rfl, SqL.of (fb _ _ nL.1 mL), hv, (by show 1 ≤ sizeLine; decide), fun u2 hu2 => ?_⟩
        have nu2 : u2 ≠ p ∧ u2 ≠ z := Db.ne hu2
        have sb := same_new hu2 (o := .tup [rv])
        have D3 := Db.keep sb
        have cut2 : cutV (V.str x :: vs0) (some 1) none = (V.str x :: vs0).drop (0 + 1) := cut_lo (k := 1) (by simp)
        refine ⟨_, rfl, 1, rfl, ?_⟩
        dsimp only [tNoPart]
        refine slA (sb _ _ (fb _ _ na.1 (y2 _ _ e2))) fun u4 Hd sd hd4 nd => ?_
        rw [cut2] at hd4
        have nu4 : u4 ≠ p ∧ u4 ≠ z := nd.elim (fun z => by rw [z]; exact na) fun h => D3.ne h
        refine catA (sd _ _ upd_same) hd4 (by simp only [List.length_cons, List.length_nil, List.length_drop]; omega) fun u5 He se he ne => ?_
        have nu5 : u5 ≠ p ∧ u5 ≠ z := ne.elim (fun z => by rw [z]; exact nu2) fun h => h.elim (fun z => by rw [z]; exact nu4) fun h => (D3.keep sd).ne h
        have S5 := (sb.trans sd).trans se
        refine fin 0 rv d u5 He (by omega) nu5 ((Fr.same y2).trans (fb.trans (Fr.same S5))) (Db.keep S5) (hdt.same S5) ?_ he
        exact ((sm'.mono (Nat.le_refl _) (show c.deep + 1 ≤ c.deep + 4 by omega)).put (i := 0) rfl (hds.mono (Nat.le_refl 3) (show 1 ≤ c.deep + 4 by omega)) (by omega) (by have := hds.dp; omega)).mono (by omega) (Nat.le_refl _)
      refine eqF (ine c1) ?_
      have hcl : 1 ≤ cs.length := List.length_pos_iff.mpr hcs
      refine ⟨_, rfl, _, rfl, _, _, rfl, .inr (SqT.of e2), _, _, rfl, rfl, p, _, rfl, D2.dk, by rw [List.length_cons]; omega, fun at1 H3 a0 a1 f3 D3' => ⟨1, at1, rfl, rfl, ?_⟩⟩
      have D3 := D2.go f3 D3'
      rw [List.length_cons] at a1
      obtain ⟨j, hj⟩ : ∃ j : Nat, at1 = (j : Int) := ⟨at1.toNat, by omega⟩
      have hjl : j < cs.length := by omega
      have hjv : j < vs0.length := by omega
      have cut1' : cutV (V.str x :: vs0) none (some (1 + at1)) = (V.str x :: vs0).take (j + 1) := by
        rw [show 1 + at1 = ((j + 1 : Nat) : Int) by omega]
        exact cut_hi (by rw [List.length_cons]; omega)
      have cutk : cutV (V.str x :: vs0) (some (1 + at1 + 1)) none = (V.str x :: vs0).drop (j + 1 + 1) := by
        rw [show 1 + at1 + 1 = ((j + 1 + 1 : Nat) : Int) by omega]
        exact cut_lo (by rw [List.length_cons]; omega)
      have e3 := f3 _ _ na.1 e2
      refine ⟨_, rfl, _, rfl, 1 + at1, rfl, slA e3 fun u1 Ha sa ha na1 => ?_⟩
      rw [cut1'] at ha
      have nu1 : u1 ≠ p ∧ u1 ≠ z := na1.elim (fun z => by rw [z]; exact na) fun h => D3.ne h
      obtain ⟨d1, hd1, hx1⟩ := (r1.same s2).getV (List.getElem?_eq_getElem hjv)
      have hcj : cs[j]? = some cs[j] := List.getElem?_eq_getElem hjl
      have hdm : (cs.map Cd.dat)[j]? = some cs[j].dat := by rw [List.getElem?_map, hcj]; rfl
      have hd1e : d1 = cs[j].dat := Option.some.inj (hd1.symm.trans hdm)
      rw [hd1e] at hx1
      have hm := List.mem_of_getElem? hcj
      have hdj := mxd_mem hm
      have hcnj := cnt_mem (List.mem_of_getElem? hdm)
      have hx3 : Dt (fun b => b ≠ p ∧ b ≠ z) Ha vs0[j] cs[j].dat := (hx1.keep fun b o h e => f3 b o h.1 e).same sa
      refine ⟨_, rfl, _, rfl, _, rfl, _, _, _, _, rfl, rfl, SqT.of (sa _ _ e3), at_of (j := j + 1) (by omega) (by rw [List.getElem?_cons_succ]; exact List.getElem?_eq_getElem hjv), p, z, vs0[j], cs[j], s, rfl, D3.keep sa, hx3, hok _ hm, hs1, hs6, by omega, fun rv d Hb fb Db' hdt hds => ⟨(by show 1 ≤ sizeLine; decide), fun u2 hu2 => ?_⟩⟩
      have Db := (D3.keep sa).go fb Db'
      have nu2 : u2 ≠ p ∧ u2 ≠ z := Db.ne hu2
      have sb := same_new hu2 (o := .tup [rv])
      have D4 := Db.keep sb
      have hl1 : ((V.str x :: vs0).take (j + 1)).length ≤ 1000 := by rw [List.length_take]; omega
      refine catA (sb _ _ (fb _ _ nu1.1 ha)) upd_same (by simp only [List.length_cons, List.length_nil] at hl1 ⊢; omega) fun u3 Hc sc hc3 nc => ?_
      have nu3 : u3 ≠ p ∧ u3 ≠ z := nc.elim (fun z => by rw [z]; exact nu1) fun h => h.elim (fun z => by rw [z]; exact nu2) fun h => D4.ne h
      have S3 := sb.trans sc
      refine ⟨_, rfl, _, rfl, _, _, rfl, rfl, 1 + at1 + 1, rfl, ?_⟩
      dsimp only [tNoPart]
      refine slA (S3 _ _ (fb _ _ na.1 (sa _ _ e3))) fun u4 Hd sd hd4 nd => ?_
      rw [cutk] at hd4
      have nu4 : u4 ≠ p ∧ u4 ≠ z := nd.elim (fun z => by rw [z]; exact na) fun h => (D4.keep sc).ne h
      refine catA (sd _ _ hc3) hd4 (by simp only [List.length_append, List.length_cons, List.length_nil, List.length_drop] at hl1 ⊢; omega) fun u5 He se he ne => ?_
      have nu5 : u5 ≠ p ∧ u5 ≠ z := ne.elim (fun z => by rw [z]; exact nu3) fun h => h.elim (fun z => by rw [z]; exact nu4) fun h => ((D4.keep sc).keep sd).ne h
      have S5 := (S3.trans sd).trans se
      refine fin (j + 1) rv d u5 He (by omega) nu5 (f3.trans ((Fr.same sa).trans (fb.trans (Fr.same S5)))) (Db.keep S5) (hdt.same S5) ?_ he
      have hM : (cs[j].deep + 1) * cnt cs[j].dat ≤ c.deep * cnt c.dat := Nat.mul_le_mul (by omega) (by omega)
      exact ((sm'.mono (Nat.le_refl _) (show c.deep + 1 ≤ c.deep + 4 by omega)).put (i := j + 1) (by rw [List.getElem?_cons_succ]; exact hdm) (hds.mono (Nat.le_refl _) (show cs[j].deep + 4 ≤ c.deep + 4 by omega)) (by omega) (by have := hds.dp; omega)).mono (by omega) (Nat.le_refl _)
end


section
variable {P : Program} {w : World} {K : PySem.W.Frag} {mg : Str → Option Value} {base : Heap}
def elseDs : List PyData := [.none, .int 0, .bool true, .str (Str.ofString ""), .str (Str.ofString "least"), .list [], .dict [], .tuple [], .tuple [.str (Str.ofString "least")], .list [.str (Str.ofString "least"), .list [.int 0], .int 0]] ++
  [.tuple [.str (Str.ofString "least"), .list [.int 0], .int 0, .int 0], .tuple [.str (Str.ofString "turns"), .list [.int 1], .int 2]]
theorem else_all : elseDs.all (fun d => !isCond d (.int 1)) = true := by decide +kernel
theorem ok_law (T : Txt K mg) (M : KTab K w T.a_MADE_OF_OTHERS made) (hM : ∃ ob, base.get? sysModules = some ob) : RunG P w K mg base 25 T.f_law T.d_law "script" (spLaw K) := by
  have G__law_cell_at : FnOk P w K mg base CX0 1 T.f__law_cell_at T.d__law_cell_at ["script", "k"] (sp__law_cell_at K) := ok__law_cell_at T
  have G__law_deck : FnOk P w K mg base CX0 2 T.f__law_deck T.d__law_deck ["cell", "many"] sp__law_numbers := ok__law_deck T
  have G__law_take : FnOk P w K mg base CX0 1 T.f__law_take T.d__law_take ["deck", "many"] sp__law_take := ok__law_take T
  have G__law_condition : FnOk P w K mg base CX0 6 T.f__law_condition T.d__law_condition ["deck", "s", "deep"] (sp__law_condition 4) := ok__law_condition T 4
  have G__law_copy : FnOk P w K mg base CX0 20 T.f__law_copy T.d__law_copy ["thing"] (sp__law_copy 20) := ok__law_copy T 20
  have G__law_whole : FnOk P w K mg base CX0 1 T.f__law_whole T.d__law_whole ["thing", "least", "most"] sp_is_whole_within := ok__law_whole T
  have G__law_is_condition : FnOk P w K mg base CX0 6 T.f__law_is_condition T.d__law_is_condition ["thing", "s", "deep"] (sp__law_is_condition 4) := ok__law_is_condition T 4
  have G__law_spoilt : FnOk P w K mg base CX0 7 T.f__law_spoilt T.d__law_spoilt ["deck", "thing"] (sp__law_spoilt 4) := ok__law_spoilt T 4
  have G_is_condition : FnOk P w K mg base CX0 10 T.f_is_condition T.d_is_condition ["thing", "s"] sp_is_condition := ok_is_condition T M
  refine runG_of T.F_law sc_law (fun vs H Q E h => ?_) (fun cdv A outer s H vs Q E hG hr h => ?_)
  · obtain ⟨a, ns, rfl, _⟩ := h
    rfl
  obtain ⟨a, ns, rfl, hS, h63, q⟩ := h
  refine ⟨_, (pss_cons (ps_for PassesOwn.never rfl (pi_range1 (by rfl) T.z_range (pa_cons (pe_callB (call_max2 rfl) (by rfl) T.z_max (by decide +kernel) (pa_cons pe_int (pa_cons (pe_callB (call_min2 rfl) (by rfl) T.z_min (by decide +kernel) (pa_cons (pe_callB call_len_seq (by rfl) T.z_len PySem.boot_len (pa_cons (pv 0) pa_nil)) (pa_cons pe_int pa_nil))) pa_nil))) pa_nil)) (pg_name (i := 1) sc_law.nd rfl (Or.inl rfl)) (pss_cons (ps_set (i := 2) sc_law.nd rfl (Or.inr rfl) (pe_call G__law_deck (hr.mono (by omega)) (by rfl) T.m__law_deck T.F__law_deck.kp T.b__law_deck .nil pass0 (pa_cons (pe_call G__law_cell_at (hr.mono (by omega)) (by rfl) T.m__law_cell_at T.F__law_cell_at.kp T.b__law_cell_at .nil pass0 (pa_cons (pv 0) (pa_cons (pv 1) pa_nil))) (pa_cons pe_int pa_nil)))) (pss_cons (ps_set (i := 3) sc_law.nd rfl (Or.inl rfl) (pe_op op_add pe_int (pe_call G__law_take (hr.mono (by omega)) (by rfl) T.m__law_take T.F__law_take.kp T.b__law_take .nil pass0 (pa_cons (pv 2) (pa_cons pe_int pa_nil))))) (pss_cons (ps_set (i := 4) sc_law.nd rfl (Or.inr rfl) (pe_call G__law_condition (hr.mono (by omega)) (by rfl) T.m__law_condition T.F__law_condition.kp T.b__law_condition .nil pass0 (pa_cons (pv 2) (pa_cons (pv 3) (pa_cons (pe_op op_add pe_int (pe_call G__law_take (hr.mono (by omega)) (by rfl) T.m__law_take T.F__law_take.kp T.b__law_take .nil pass0 (pa_cons (pv 2) (pa_cons pe_int pa_nil)))) pa_nil))))) (pss_cons (ps_set (i := 5) sc_law.nd rfl (Or.inl rfl) (pe_lst (pa_cons (pv 4) (pa_cons (pe_tup (pa_cons pe_str (pa_cons (pv 4) pa_nil))) (pa_cons (pe_tup (pa_cons pe_str (pa_cons (pv 4) (pa_cons (pv 4) pa_nil)))) (pa_cons (pe_tup (pa_cons pe_str (pa_cons (pe_tup (pa_cons pe_str (pa_cons (pe_tup (pa_cons pe_str (pa_cons (pe_tup (pa_cons pe_str (pa_cons (pv 4) pa_nil))) pa_nil))) pa_nil))) pa_nil))) pa_nil)))))) (pss_cons (ps_set (i := 5) sc_law.nd rfl (Or.inl rfl) (pe_op op_cat (pv 5) (pe_lc (own := [("turn", 12)]) (g := gName 12) (tt := tYes) rfl sc_law.nd (pi_range1 (by rfl) T.z_range (pa_cons pe_int pa_nil)) (blkOk_by (own := [("turn", 12)]) (N := ["script", "k", "deck", "s", "thing", "things", "one", "many", "handed", "due", "found", "some", "turn"]) (sc := (defScope s_law)) (by decide +kernel)) (fun _ _ _ _ _ => (pg_name (i := 12) sc_law.nd rfl (Or.inl rfl))) (fun _ _ _ _ _ => pts_nil) (fun _ _ _ _ _ => (pe_call G__law_spoilt (hr.mono (by omega)) (by rfl) T.m__law_spoilt T.F__law_spoilt.kp T.b__law_spoilt .nil pass0 (pa_cons (pv 2) (pa_cons (pv 4) pa_nil))))))) (pss_cons (ps_for PassesOwn.never rfl (pi_list (pv 5)) (pg_name (i := 6) sc_law.nd rfl (Or.inl rfl)) (pss_one (ps_for PassesOwn.never rfl (pi_list (pe_lst (pa_cons (pv 3) (pa_cons (pv 3) (pa_cons (pe_op op_add pe_int (pe_call G__law_take (hr.mono (by omega)) (by rfl) T.m__law_take T.F__law_take.kp T.b__law_take .nil pass0 (pa_cons (pv 2) (pa_cons pe_int pa_nil)))) (pa_cons (pe_ix ix_list (pe_lst (pa_cons pe_int (pa_cons pe_int (pa_cons (pe_un un_neg pe_int) (pa_cons pe_bl (pa_cons pe_non (pa_cons pe_str (pa_cons (pe_op op_add (pv 3) pe_int) (pa_cons (pe_lst (pa_cons (pv 3) pa_nil)) pa_nil))))))))) (pe_call G__law_take (hr.mono (by omega)) (by rfl) T.m__law_take T.F__law_take.kp T.b__law_take .nil pass0 (pa_cons (pv 2) (pa_cons pe_int pa_nil))) (fun _ _ => rfl)) pa_nil)))))) (pg_name (i := 7) sc_law.nd rfl (Or.inl rfl)) (pss_cons (ps_set (i := 8) sc_law.nd rfl (Or.inl rfl) (pe_call G__law_copy (hr.mono (by omega)) (by rfl) T.m__law_copy T.F__law_copy.kp T.b__law_copy .nil pass0 (pa_cons (pv 6) pa_nil))) (pss_cons (ps_set (i := 9) sc_law.nd rfl (Or.inl rfl) (pe_and (pe_call G__law_whole (hr.mono (by omega)) (by rfl) T.m__law_whole T.F__law_whole.kp T.b__law_whole .nil pass0 (pa_cons (pv 7) (pa_cons pe_int (pa_cons pe_int pa_nil)))) (pe_one (pe_call G__law_is_condition (hr.mono (by omega)) (by rfl) T.m__law_is_condition T.F__law_is_condition.kp T.b__law_is_condition .nil pass0 (pa_cons (pv 6) (pa_cons (pv 7) (pa_cons pe_int pa_nil))))))) (pss_cons (ps_set (i := 10) sc_law.nd rfl (Or.inl rfl) (pe_call G_is_condition (hr.mono (by omega)) (by rfl) T.m_is_condition T.F_is_condition.kp T.b_is_condition .nil pass0 (pa_cons (pv 8) (pa_cons (pv 7) pa_nil)))) (pss_one (ps_if (PW.pt (pw_or (pt_not (pt_val (pe_callB call_isi (by rfl) T.z_isinstance (by decide +kernel) (pa_cons (pv 10) (pa_cons (pe_bltn (v := .ty "bool") (by rfl) T.z_bool (by decide +kernel) rfl) pa_nil))))) (pw_or (pt_cmpR op_ne (pv 10) (pv 9) (nomark _)) (pw_or1 (pt_cmpR op_ne (pe_callB (call_reprD hG hr.units hM) (by rfl) T.z_repr (by decide +kernel) (pa_cons (pv 8) pa_nil)) (pe_callB (call_reprD hG hr.units hM) (by rfl) T.z_repr (by decide +kernel) (pa_cons (pv 6) pa_nil)) (nomark _)))))) (pss_one (ps_ret pe_bl)) pss_nil)))))))) (pss_one (ps_if (pt_cmpR op_notBl (pe_call G_is_condition (hr.mono (by omega)) (by rfl) T.m_is_condition T.F_is_condition.kp T.b_is_condition .nil pass0 (pa_cons (pv 4) (pa_cons (pv 3) pa_nil))) pe_bl (nomark _)) (pss_one (ps_ret pe_bl)) pss_nil))))))))) (pss_cons (ps_set (i := 11) sc_law.nd rfl (Or.inl rfl) (pe_lst (pa_cons pe_non (pa_cons pe_int (pa_cons pe_bl (pa_cons pe_str (pa_cons pe_str (pa_cons (pe_lst pa_nil) (pa_cons pe_dnewK (pa_cons (pe_tup pa_nil) (pa_cons (pe_tup (pa_cons pe_str pa_nil)) (pa_cons (pe_lst (pa_cons pe_str (pa_cons (pe_lst (pa_cons pe_int pa_nil)) (pa_cons pe_int pa_nil)))) pa_nil)))))))))))) (pss_cons (ps_set (i := 11) sc_law.nd rfl (Or.inl rfl) (pe_op op_cat (pv 11) (pe_lst (pa_cons (pe_tup (pa_cons pe_str (pa_cons (pe_lst (pa_cons pe_int pa_nil)) (pa_cons pe_int (pa_cons pe_int pa_nil))))) (pa_cons (pe_tup (pa_cons pe_str (pa_cons (pe_lst (pa_cons pe_int pa_nil)) (pa_cons pe_int pa_nil)))) pa_nil))))) (pss_one (ps_ret (pe_cmpR (op_eqD hr.units) (pe_lc (own := [("one", 6)]) (g := gName 6) rfl sc_law.nd (pi_list (pv 11)) (blkOk_by (own := [("one", 6)]) (N := ["script", "k", "deck", "s", "thing", "things", "one", "many", "handed", "due", "found", "some", "turn"]) (sc := (defScope s_law)) (by decide +kernel)) (fun _ _ _ _ _ => (pg_name (i := 6) sc_law.nd rfl (Or.inl rfl))) (fun _ _ _ _ _ => pts_one (pt_cmpR op_notBl (pe_call G_is_condition (hr.mono (by omega)) (by rfl) T.m_is_condition T.F_is_condition.kp T.b_is_condition .nil pass0 (pa_cons (pv 6) (pa_cons pe_int pa_nil))) pe_bl (nomark _))) (fun _ _ _ _ _ => (pv 6))) (pe_lst pa_nil) (nomark _))))))), ?_⟩
  have hl : (ns.map V.int).length = ns.length := List.length_map _
  obtain ⟨j, hj, hj0, hj1⟩ : ∃ j : Int, (if (if ((ns.map V.int).length : Int) > 12 then 12 else ((ns.map V.int).length : Int)) > 1 then (if ((ns.map V.int).length : Int) > 12 then 12 else ((ns.map V.int).length : Int)) else 1) = j ∧ 0 ≤ j ∧ j ≤ 30 := ⟨_, rfl, by split <;> split <;> omega, by split <;> split <;> omega⟩
  refine ⟨_, rfl, a, _, rfl, .inl hS, _, _, rfl, _, _, rfl, j, congrArg (fun z => [V.int z]) hj, by omega, by omega, for_range (lo := 0) (n := j.toNat) (fun i σ H' => (∃ y1 y2 y3 y4 y5 y6 y7 y8 y9 y10 y11 y12, σ = [some (.ref a), y1, y2, y3, y4, y5, y6, y7, y8, y9, y10, y11, y12]) ∧ SqL K H' a (ns.map V.int)) ⟨⟨_, _, _, _, _, _, _, _, _, _, _, _, rfl⟩, hS⟩ ?_ ?_⟩
  · rintro i σ H0 hi ⟨⟨y1, y2, y3, y4, y5, y6, y7, y8, y9, y10, y11, y12, rfl⟩, hS0⟩
    refine ⟨_, rfl, _, rfl, a, ns, _, rfl, hS0, by omega, fun x => ⟨x, 150, rfl, by decide, by decide, fun p xs H1 s1 hp hx => ?_⟩⟩
    have D1 : Dk H1 p := ⟨xs, hx⟩
    refine ⟨_, rfl, p, 6, rfl, D1, by decide, fun r H2 r0 r1 f2 d2 => ⟨1, r, rfl, rfl, ?_⟩⟩
    have hs1 : 1 ≤ 1 + r := by omega
    have hs6 : 1 + r ≤ 6 := by omega
    refine ⟨_, rfl, _, rfl, _, rfl, p, 4, rfl, d2, by decide, fun m H3 m0 m1 f3 d3 => ⟨1, m, rfl, rfl, p, 1 + r, 1 + m, rfl, d3, hs1, hs6, by omega, by omega, fun v c H4 f4 d4 ht hok hcd => ?_⟩⟩
    have hc4 : c.deep ≤ 4 := by omega
    have F4 : Fr p H0 H4 := (((Fr.same s1).trans f2).trans f3).trans f4
    refine ⟨_, rfl, _, rfl, (by show 2 ≤ sizeLine; decide), fun a1 h1 => ⟨_, rfl, _, rfl, (by show 3 ≤ sizeLine; decide), fun a2 h2 => ⟨_, rfl, (by show 2 ≤ sizeLine; decide), fun a3 h3 => ⟨(by show 2 ≤ sizeLine; decide), fun a4 h4 => ⟨(by show 2 ≤ sizeLine; decide), fun a5 h5 => ⟨(by show 2 ≤ sizeLine; decide), fun a6 h6 => ⟨(by show 4 ≤ sizeLine; decide), fun L hL => ?_⟩⟩⟩⟩⟩⟩⟩
    have z1 := same_new h1 (o := .tup [V.str (Str.ofString "not"), v])
    have z2 := same_new h2 (o := .tup [V.str (Str.ofString "both"), v, v])
    have z3 := same_new h3 (o := .tup [V.str (Str.ofString "not"), v])
    have z4 := same_new h4 (o := .tup [V.str (Str.ofString "not"), V.ref a3])
    have z5 := same_new h5 (o := .tup [V.str (Str.ofString "not"), V.ref a4])
    have z6 := same_new h6 (o := .tup [V.str (Str.ofString "not"), V.ref a5])
    have z7 := same_new hL (o := .lst [v, V.ref a1, V.ref a2, V.ref a6])
    have M1 : Dt (fun b => b ≠ p) _ (.ref a1) (Cd.neg c).dat := .tup (upd_same (H := H4)) (d4.ne h1) (Nat.le_add_left _ 998) (.cons (.str _) (.cons (ht.same z1) .nil))
    have M2 : Dt (fun b => b ≠ p) _ (.ref a2) (Cd.both c c).dat := .tup upd_same ((d4.keep z1).ne h2) (Nat.le_add_left _ 997) (.cons (.str _) (.cons (ht.same (z1.trans z2)) (.cons (ht.same (z1.trans z2)) .nil)))
    have M3 : Dt (fun b => b ≠ p) _ (.ref a3) (Cd.neg c).dat := .tup upd_same ((d4.keep (z1.trans z2)).ne h3) (Nat.le_add_left _ 998) (.cons (.str _) (.cons (ht.same ((z1.trans z2).trans z3)) .nil))
    have M4 : Dt (fun b => b ≠ p) _ (.ref a4) (Cd.neg (.neg c)).dat := .tup upd_same ((d4.keep ((z1.trans z2).trans z3)).ne h4) (Nat.le_add_left _ 998) (.cons (.str _) (.cons (M3.same z4) .nil))
    have M5 : Dt (fun b => b ≠ p) _ (.ref a5) (Cd.neg (.neg (.neg c))).dat := .tup upd_same ((d4.keep (((z1.trans z2).trans z3).trans z4)).ne h5) (Nat.le_add_left _ 998) (.cons (.str _) (.cons (M4.same z5) .nil))
    have M6 : Dt (fun b => b ≠ p) _ (.ref a6) (Cd.neg (.neg (.neg (.neg c)))).dat := .tup upd_same ((d4.keep ((((z1.trans z2).trans z3).trans z4).trans z5)).ne h6) (Nat.le_add_left _ 998) (.cons (.str _) (.cons (M5.same z6) .nil))
    have S6 := (((((z1.trans z2).trans z3).trans z4).trans z5).trans z6)
    have nL : L ≠ p := (d4.keep S6).ne hL
    have S5 := S6.trans z7
    have all4 := DtAll.cons (ht.same S5) (.cons (M1.same (((((z2.trans z3).trans z4).trans z5).trans z6).trans z7)) (.cons (M2.same ((((z3.trans z4).trans z5).trans z6).trans z7)) (.cons (M6.same z7) .nil)))
    have kL := upd_same (H := upd (upd (upd (upd (upd (upd H4 a1 (.tup [V.str (Str.ofString "not"), v])) a2 (.tup [V.str (Str.ofString "both"), v, v])) a3 (.tup [V.str (Str.ofString "not"), v])) a4 (.tup [V.str (Str.ofString "not"), V.ref a3])) a5 (.tup [V.str (Str.ofString "not"), V.ref a4])) a6 (.tup [V.str (Str.ofString "not"), V.ref a5])) (a := L) (o := .lst [v, V.ref a1, V.ref a2, V.ref a6])
    generalize upd (upd (upd (upd (upd (upd (upd H4 a1 (.tup [V.str (Str.ofString "not"), v])) a2 (.tup [V.str (Str.ofString "both"), v, v])) a3 (.tup [V.str (Str.ofString "not"), v])) a4 (.tup [V.str (Str.ofString "not"), V.ref a3])) a5 (.tup [V.str (Str.ofString "not"), V.ref a4])) a6 (.tup [V.str (Str.ofString "not"), V.ref a5])) L (.lst [v, V.ref a1, V.ref a2, V.ref a6]) = H5 at *
    have D5 := d4.keep S5
    have F5 : Fr p H0 H5 := F4.trans (Fr.same S5)
    have ht5 := ht.same S5
    have hcN := Cd.cnt_le (s := (1 + r).toNat) (by omega) c hok
    have hcp : 2 ^ (c.deep - 1) ≤ 2 ^ 3 := Nat.pow_le_pow_right (by decide) (by omega)
    have hc104 : cnt c.dat ≤ 104 := by omega
    have sm4 : ∀ d ∈ [c.dat, (Cd.neg c).dat, (Cd.both c c).dat, (Cd.neg (.neg (.neg (.neg c)))).dat], Sm 800 12 d := by
      have g6 : (1 + r).toNat ≤ 6 := by omega
      intro d hd
      simp only [List.mem_cons, List.not_mem_nil, or_false] at hd
      rcases hd with rfl | rfl | rfl | rfl
      · exact (Cd.sm g6 hok).mono (by omega) (by omega)
      · exact (Cd.sm g6 (c := .neg c) hok).mono (by simp only [Cd.dat, cnt, cntAll]; omega) (by simp only [Cd.deep]; omega)
      · exact (Cd.sm g6 (c := .both c c) ⟨hok, hok⟩).mono (by simp only [Cd.dat, cnt, cntAll]; omega) (by simp only [Cd.deep]; omega)
      · exact (Cd.sm g6 (c := .neg (.neg (.neg (.neg c)))) hok).mono (by simp only [Cd.dat, cnt, cntAll]; omega) (by simp only [Cd.deep]; omega)
    refine ⟨_, rfl, 8, rfl, by decide, by decide, fun D hD => lc_range (lo := 0) (n := 8) (fun i2 H' => ∃ acc es, H' D = some (.lst acc) ∧ DtAll (fun b => b ≠ p ∧ b ≠ D) H' acc es ∧ es.length = i2 ∧ (∀ d ∈ es, Sm 800 12 d) ∧ Fr p H5 H' ∧ Dk H' p)
      ⟨[], [], upd_same, .nil, rfl, (fun _ h => by cases h), (Fr.refl p H5).new hD, D5.keep (same_new hD)⟩ ?_ ?_⟩
    · rintro i2 H6 hi2 ⟨acc, es, g1, g2, g3, g4, g5, g6⟩
      have nD : D ≠ p := D5.ne hD
      have ht6 : Dt (fun b => b ≠ p ∧ b ≠ D) H6 v c.dat := (ht5.off hD).keep fun b o h e => g5 b o h.1 e
      have la := g2.len
      refine ⟨rfl, _, rfl, _, rfl, p, D, v, c, (1 + r).toNat, rfl, ⟨g6, by rw [g1]; simp⟩, ht6, hok, by omega, by omega, hc4, fun rv d H7 f7 d7 hdt hds => ⟨acc, f7 _ _ nD g1, Nat.lt_of_le_of_lt (show acc.length ≤ 1000000 by omega) (by decide), acc ++ [rv], es ++ [d], upd_same, ?_, by simp [g3], ?_, (g5.trans f7).new hD, d7.upd nD⟩⟩
      · exact ((g2.keep fun b o h e => f7 b o h.1 e).snoc hdt).keep (upd_keep fun b h => h.2)
      · intro y hy
        rcases List.mem_append.mp hy with hy | hy
        · exact g4 y hy
        · simp only [List.mem_singleton] at hy
          rw [hy]
          have hM : (c.deep + 1) * cnt c.dat ≤ 5 * 104 := Nat.mul_le_mul (by omega) hc104
          exact hds.mono (by omega) (by omega)
    · rintro H6 ⟨acc, es, g1, g2, g3, g4, g5, g6⟩
      have la := g2.len
      refine ⟨L, D, _, _, rfl, rfl, g5 _ _ nL kL, g1, Nat.le_trans (show _ ≤ 1000 by simp only [List.length_cons, List.length_nil]; omega) (by decide), fun TL hTL => ?_⟩
      have nTL : TL ≠ p := g6.ne hTL
      have sT := same_new hTL (o := .lst ([v, V.ref a1, V.ref a2, V.ref a6] ++ acc))
      have kTL := upd_same (H := H6) (a := TL) (o := .lst ([v, V.ref a1, V.ref a2, V.ref a6] ++ acc))
      have all12 := ((all4.keep fun b o h e => g5 b o h e).app (g2.weak fun b h => h.1)).same sT
      have sm12 : ∀ d ∈ [c.dat, (Cd.neg c).dat, (Cd.both c c).dat, (Cd.neg (.neg (.neg (.neg c)))).dat] ++ es, Sm 800 12 d := fun d hd => (List.mem_append.mp hd).elim (sm4 d) (g4 d)
      generalize upd H6 TL (.lst ([v, V.ref a1, V.ref a2, V.ref a6] ++ acc)) = H7 at *
      have D7 := g6.keep sT
      have F7 : Fr p H0 H7 := (F5.trans g5).trans (Fr.same sT)
      have ht7 : Dt (fun b => b ≠ p) H7 v c.dat := (ht5.keep fun b o h e => g5 b o h e).same sT
      refine ⟨_, rfl, TL, rfl, ⟨_, SqL.of kTL⟩, for_list (xs := [v, V.ref a1, V.ref a2, V.ref a6] ++ acc) (fun i3 σ H' => (∃ y6 y7 y8 y9 y10 y11 y12, σ = [some (.ref a), some (.int (0 + i)), some (.ref p), some (.int (1 + r)), some v, some (.ref TL), y6, y7, y8, y9, y10, y11, y12]) ∧ Fr p H7 H' ∧ Dk H' p)
        ⟨⟨_, _, _, _, _, _, _, rfl⟩, Fr.refl _ _, D7⟩ (fun i3 σ H' _ ⟨_, f, _⟩ => SqL.of (f _ _ nTL kTL)) ?_ ?_⟩
      · rintro i3 x σ H8 hx ⟨⟨y6, y7, y8, y9, y10, y11, y12, rfl⟩, f8, d8⟩
        obtain ⟨d, hd, hxd⟩ := all12.getV hx
        have smd := sm12 d (List.mem_of_getElem? hd)
        replace hxd : Dt (fun b => b ≠ p) H8 x d := hxd.keep fun b o h e => f8 b o h e
        refine ⟨_, rfl, _, rfl, _, rfl, p, 6, rfl, d8, by decide, fun r2 H9 r20 r21 f9 d9 => ⟨1, r2, rfl, rfl, ?_⟩⟩
        refine ⟨_, rfl, _, rfl, _, _, rfl, rfl, _, rfl, (by show 1 ≤ sizeLine; decide), fun b1 hb1 => ⟨(by show 8 ≤ sizeLine; decide), fun ML hML => ?_⟩⟩
        have w1 := same_new hb1 (o := .lst [V.int (1 + r)])
        have w2 := same_new hML (o := .lst [V.int 0, V.int 7, V.int (-1), V.bl true, V.non, V.str (Str.ofString "1"), V.int (1 + r + 1), V.ref b1])
        have nb1 : b1 ≠ p := d9.ne hb1
        have nML : ML ≠ p := (d9.keep w1).ne hML
        have kb1 := w2 _ _ (upd_same (H := H9) (a := b1) (o := .lst [V.int (1 + r)]))
        have kML := upd_same (H := upd H9 b1 (.lst [V.int (1 + r)])) (a := ML) (o := .lst [V.int 0, V.int 7, V.int (-1), V.bl true, V.non, V.str (Str.ofString "1"), V.int (1 + r + 1), V.ref b1])
        have W2 := w1.trans w2
        have manys : DtAll (fun b => b ≠ p) (upd (upd H9 b1 (.lst [V.int (1 + r)])) ML (.lst [V.int 0, V.int 7, V.int (-1), V.bl true, V.non, V.str (Str.ofString "1"), V.int (1 + r + 1), V.ref b1])) [V.int 0, V.int 7, V.int (-1), V.bl true, V.non, V.str (Str.ofString "1"), V.int (1 + r + 1), V.ref b1]
            [.int 0, .int 7, .int (-1), .bool true, .none, .str (Str.ofString "1"), .int (1 + r + 1), .list [.int (1 + r)]] :=
          .cons (.int _) (.cons (.int _) (.cons (.int _) (.cons (.bl _) (.cons .non (.cons (.str _) (.cons (.int _) (.cons (.lst kb1 nb1 (by simp) (.cons (.int _) .nil)) .nil)))))))
        generalize upd (upd H9 b1 (.lst [V.int (1 + r)])) ML (.lst [V.int 0, V.int 7, V.int (-1), V.bl true, V.non, V.str (Str.ofString "1"), V.int (1 + r + 1), V.ref b1]) = H10 at *
        refine ⟨_, rfl, p, 8, rfl, d9.keep W2, by decide, fun r3 H11 r30 r31 f11 d11 => ?_⟩
        obtain ⟨mv, e0, hmv, hme, hmd⟩ := manys.at r30 (by show r3 < 8; omega)
        replace hmd : Dt (fun b => b ≠ p) H11 mv e0 := hmd.keep fun b o h e => f11 b o h e
        refine ⟨ML, _, r3, mv, rfl, rfl, SqL.of (f11 _ _ nML kML), hmv, (by show 4 ≤ sizeLine; decide), fun QL hQL => ?_⟩
        have w3 := same_new hQL (o := .lst [V.int (1 + r), V.int (1 + r), V.int (1 + r2), mv])
        have kQ := upd_same (H := H11) (a := QL) (o := .lst [V.int (1 + r), V.int (1 + r), V.int (1 + r2), mv])
        have four : DtAll (fun b => b ≠ p) (upd H11 QL (.lst [V.int (1 + r), V.int (1 + r), V.int (1 + r2), mv])) [V.int (1 + r), V.int (1 + r), V.int (1 + r2), mv] [.int (1 + r), .int (1 + r), .int (1 + r2), e0] :=
          .cons (.int _) (.cons (.int _) (.cons (.int _) (.cons (hmd.same w3) .nil)))
        have d12 := d11.keep w3
        have F12 : Fr p H8 (upd H11 QL (.lst [V.int (1 + r), V.int (1 + r), V.int (1 + r2), mv])) := (f9.trans (Fr.same W2)).trans (f11.trans (Fr.same w3))
        generalize upd H11 QL (.lst [V.int (1 + r), V.int (1 + r), V.int (1 + r2), mv]) = H12 at *
        have hxd12 : Dt (fun b => b ≠ p) H12 x d := hxd.keep fun b o h e => F12 b o h e
        obtain ⟨shw, shl⟩ := fine_shown smd.fine
        have shl2 : d.shown.length ≤ sizeLine := Nat.le_trans (show _ ≤ 1000000 by have := smd.cn; omega) (by decide)
        have sdp := smd.dp
        refine ⟨QL, rfl, ⟨_, SqL.of kQ⟩, for_list (xs := [V.int (1 + r), V.int (1 + r), V.int (1 + r2), mv]) (fun i5 σ H' => (∃ y7 y8 y9 y10 y11 y12, σ = [some (.ref a), some (.int (0 + i)), some (.ref p), some (.int (1 + r)), some v, some (.ref TL), some x, y7, y8, y9, y10, y11, y12]) ∧ Same H12 H')
          ⟨⟨_, _, _, _, _, _, rfl⟩, Same.refl _⟩ (fun i5 σ H' _ ⟨_, s⟩ => SqL.of (s _ _ kQ)) ?_ ?_⟩
        · rintro i5 mv2 σ HA hmx ⟨⟨y7, y8, y9, y10, y11, y12, rfl⟩, sA⟩
          obtain ⟨e, he, hed⟩ := four.getV hmx
          have hxA := (hxd12.same sA).any
          have heA := (hed.same sA).any
          refine ⟨_, rfl, x, d, rfl, hxA, by omega, fun hv HB sB hcp2 => ?_⟩
          have hxB := hxA.same sB
          have heB := heA.same sB
          refine ⟨_, rfl, mv2, e, 1, 6, rfl, heB, _, rfl, ite2 (fun hw => ?_) (fun hw => ?_)⟩
          · obtain ⟨ii, rfl, rfl⟩ : ∃ ii : Int, e = .int ii ∧ mv2 = .int ii := by
              cases heB with
              | int ii => exact ⟨ii, rfl, rfl⟩
              | _ => cases hw
            refine ⟨_, rfl, _, rfl, x, d, ii, 4, rfl, hxB, fine_ly smd.fine, by omega, by decide, by decide, fun HC sC => ?_⟩
            have hB : isC (4 : Int).toNat ii d = isCond d (.int ii) := by
              simp only [inR] at hw
              simp only [isCond, hw, Bool.true_and]
              rfl
            refine ⟨_, rfl, _, rfl, hv, .int ii, d, .int ii, rfl, ((hcp2.weak (ok' := fun _ => True) fun _ _ => trivial)).same sC, heB.same sC, fun HD sD => ?_⟩
            refine ⟨_, rfl, _, _, _, _, true, rfl, .ty "bool", .base (.bl _), kit_ty (by decide +kernel), _, rfl, iteF ?_⟩
            refine ⟨_, rfl, _, rfl, rfl, _, rfl, iteNS (congrArg V.bl hB.symm) ?_⟩
            refine ⟨_, rfl, hv, d, rfl, ((hcp2.weak (ok' := fun _ => True) fun _ _ => trivial).same sC).same sD, shw, shl2, by omega, _, rfl, x, d, rfl, (hxB.same sC).same sD, shw, shl2, by omega, rfl, _, rfl, iteNS rfl ?_⟩
            exact ⟨⟨_, _, _, _, _, _, rfl⟩, ((sA.trans sB).trans sC).trans sD⟩
          · have hB : false = isCond d e := by
              cases e with
              | int i0 =>
                simp only [inR] at hw
                simp only [isCond, Bool.eq_false_iff.mpr hw, Bool.false_and]
              | _ => rfl
            have sC := Same.refl HB
            refine ⟨_, rfl, _, rfl, hv, mv2, d, e, rfl, ((hcp2.weak (ok' := fun _ => True) fun _ _ => trivial)).same sC, heB.same sC, fun HD sD => ?_⟩
            refine ⟨_, rfl, _, _, _, _, true, rfl, .ty "bool", .base (.bl _), kit_ty (by decide +kernel), _, rfl, iteF ?_⟩
            refine ⟨_, rfl, _, rfl, rfl, _, rfl, iteNS (congrArg V.bl hB.symm) ?_⟩
            refine ⟨_, rfl, hv, d, rfl, ((hcp2.weak (ok' := fun _ => True) fun _ _ => trivial).same sC).same sD, shw, shl2, by omega, _, rfl, x, d, rfl, (hxB.same sC).same sD, shw, shl2, by omega, rfl, _, rfl, iteNS rfl ?_⟩
            exact ⟨⟨_, _, _, _, _, _, rfl⟩, ((sA.trans sB).trans sC).trans sD⟩
        · rintro σ HA ⟨⟨y7, y8, y9, y10, y11, y12, rfl⟩, sA⟩
          exact ⟨⟨_, _, _, _, _, _, _, rfl⟩, f8.trans (F12.trans (Fr.same sA)), d12.keep sA⟩
      · rintro σ H8 ⟨⟨y6, y7, y8, y9, y10, y11, y12, rfl⟩, f8, d8⟩
        have ht8 : Dt (fun b => b ≠ p) H8 v c.dat := ht7.keep fun b o h e => f8 b o h e
        have e1 : isCond c.dat (.int (1 + r)) = true := by
          simp only [isCond, decide_eq_true hs1, decide_eq_true hs6, Bool.and_self, Bool.true_and]
          rw [isC_ok (by omega) c 4 hok]
          exact decide_eq_true hc4
        refine ⟨_, rfl, _, rfl, v, .int (1 + r), c.dat, .int (1 + r), rfl, ht8.any, .int _, fun HE sE => ⟨_, _, rfl, rfl, _, rfl, ?_⟩⟩
        rw [e1]
        exact iteF ⟨⟨_, _, _, _, _, _, _, _, _, _, _, _, rfl⟩, ((F7.trans f8).trans (Fr.same sE)).seq hp hS0⟩
  · rintro σ H0 ⟨⟨y1, y2, y3, y4, y5, y6, y7, y8, y9, y10, y11, y12, rfl⟩, hS0⟩
    refine ⟨(by show 0 ≤ sizeLine; decide), fun l0 h0 => fun e0 h1 => ⟨(by show 0 ≤ sizeLine; decide), fun t0 h2 => ⟨(by show 1 ≤ sizeLine; decide), fun t1 h3 => ⟨(by show 1 ≤ sizeLine; decide), fun l1 h4 => ⟨(by show 3 ≤ sizeLine; decide), fun l2 h5 => ⟨(by show 10 ≤ sizeLine; decide), fun S1 h6 => ?_⟩⟩⟩⟩⟩⟩
    have z0 := same_new h0 (o := .lst [])
    have z1 := same_new h1 (o := .dK [])
    have z2 := same_new h2 (o := .tup [])
    have z3 := same_new h3 (o := .tup [V.str (Str.ofString "least")])
    have z4 := same_new h4 (o := .lst [V.int 0])
    have z5 := same_new h5 (o := .lst [V.str (Str.ofString "least"), V.ref l1, V.int 0])
    have z6 := same_new h6 (o := .lst [V.non, V.int 0, V.bl true, V.str (Str.ofString ""), V.str (Str.ofString "least"), V.ref l0, V.ref e0, V.ref t0, V.ref t1, V.ref l2])
    have i0 : Dt (fun _ => True) _ (.ref l0) (.list []) := .lst (upd_same (H := H0)) trivial (Nat.zero_le _) .nil
    have i1 : Dt (fun _ => True) _ (.ref e0) (.dict []) := .dic (upd_same (H := upd H0 l0 (.lst []))) trivial
    have i2 : Dt (fun _ => True) _ (.ref t0) (.tuple []) := .tup (upd_same (H := upd (upd H0 l0 (.lst [])) e0 (.dK []))) trivial (Nat.zero_le _) .nil
    have i3 : Dt (fun _ => True) _ (.ref t1) (.tuple [.str (Str.ofString "least")]) := .tup (upd_same (H := upd (upd (upd H0 l0 (.lst [])) e0 (.dK [])) t0 (.tup []))) trivial (Nat.le_add_left _ 999) (.cons (.str _) .nil)
    have i4 : Dt (fun _ => True) _ (.ref l1) (.list [.int 0]) := .lst (upd_same (H := upd (upd (upd (upd H0 l0 (.lst [])) e0 (.dK [])) t0 (.tup [])) t1 (.tup [V.str (Str.ofString "least")]))) trivial (Nat.le_add_left _ 999) (.cons (.int _) .nil)
    have i5 : Dt (fun _ => True) _ (.ref l2) (.list [.str (Str.ofString "least"), .list [.int 0], .int 0]) := .lst (upd_same (H := upd (upd (upd (upd (upd H0 l0 (.lst [])) e0 (.dK [])) t0 (.tup [])) t1 (.tup [V.str (Str.ofString "least")])) l1 (.lst [V.int 0]))) trivial (Nat.le_add_left _ 997) (.cons (.str _) (.cons (i4.same z5) (.cons (.int _) .nil)))
    have k1 := upd_same (H := upd (upd (upd (upd (upd (upd H0 l0 (.lst [])) e0 (.dK [])) t0 (.tup [])) t1 (.tup [V.str (Str.ofString "least")])) l1 (.lst [V.int 0])) l2 (.lst [V.str (Str.ofString "least"), V.ref l1, V.int 0])) (a := S1) (o := .lst [V.non, V.int 0, V.bl true, V.str (Str.ofString ""), V.str (Str.ofString "least"), V.ref l0, V.ref e0, V.ref t0, V.ref t1, V.ref l2])
    have ten : DtAll (fun _ => True) _ [V.non, V.int 0, V.bl true, V.str (Str.ofString ""), V.str (Str.ofString "least"), V.ref l0, V.ref e0, V.ref t0, V.ref t1, V.ref l2]
        [.none, .int 0, .bool true, .str (Str.ofString ""), .str (Str.ofString "least"), .list [], .dict [], .tuple [], .tuple [.str (Str.ofString "least")], .list [.str (Str.ofString "least"), .list [.int 0], .int 0]] :=
      .cons .non (.cons (.int _) (.cons (.bl _) (.cons (.str _) (.cons (.str _) (.cons (i0.same (((((z1.trans z2).trans z3).trans z4).trans z5).trans z6)) (.cons (i1.same ((((z2.trans z3).trans z4).trans z5).trans z6)) (.cons (i2.same (((z3.trans z4).trans z5).trans z6)) (.cons (i3.same ((z4.trans z5).trans z6)) (.cons (i5.same z6) .nil)))))))))
    generalize upd (upd (upd (upd (upd (upd (upd H0 l0 (.lst [])) e0 (.dK [])) t0 (.tup [])) t1 (.tup [V.str (Str.ofString "least")])) l1 (.lst [V.int 0])) l2 (.lst [V.str (Str.ofString "least"), V.ref l1, V.int 0])) S1 (.lst [V.non, V.int 0, V.bl true, V.str (Str.ofString ""), V.str (Str.ofString "least"), V.ref l0, V.ref e0, V.ref t0, V.ref t1, V.ref l2]) = H1 at *
    refine ⟨_, rfl, (by show 1 ≤ sizeLine; decide), fun l3 h7 => ⟨(by show 4 ≤ sizeLine; decide), fun t2 h8 => ⟨(by show 1 ≤ sizeLine; decide), fun l4 h9 => ⟨(by show 3 ≤ sizeLine; decide), fun t3 h10 => ⟨(by show 2 ≤ sizeLine; decide), fun S2 h11 => ?_⟩⟩⟩⟩⟩
    have z7 := same_new h7 (o := .lst [V.int 0])
    have z8 := same_new h8 (o := .tup [V.str (Str.ofString "least"), V.ref l3, V.int 0, V.int 0])
    have z9 := same_new h9 (o := .lst [V.int 1])
    have z10 := same_new h10 (o := .tup [V.str (Str.ofString "turns"), V.ref l4, V.int 2])
    have z11 := same_new h11 (o := .lst [V.ref t2, V.ref t3])
    have i7 : Dt (fun _ => True) _ (.ref l3) (.list [.int 0]) := .lst (upd_same (H := H1)) trivial (Nat.le_add_left _ 999) (.cons (.int _) .nil)
    have i8 : Dt (fun _ => True) _ (.ref t2) (.tuple [.str (Str.ofString "least"), .list [.int 0], .int 0, .int 0]) := .tup (upd_same (H := upd H1 l3 (.lst [V.int 0]))) trivial (Nat.le_add_left _ 996) (.cons (.str _) (.cons (i7.same z8) (.cons (.int _) (.cons (.int _) .nil))))
    have i9 : Dt (fun _ => True) _ (.ref l4) (.list [.int 1]) := .lst (upd_same (H := upd (upd H1 l3 (.lst [V.int 0])) t2 (.tup [V.str (Str.ofString "least"), V.ref l3, V.int 0, V.int 0]))) trivial (Nat.le_add_left _ 999) (.cons (.int _) .nil)
    have i10 : Dt (fun _ => True) _ (.ref t3) (.tuple [.str (Str.ofString "turns"), .list [.int 1], .int 2]) := .tup (upd_same (H := upd (upd (upd H1 l3 (.lst [V.int 0])) t2 (.tup [V.str (Str.ofString "least"), V.ref l3, V.int 0, V.int 0])) l4 (.lst [V.int 1]))) trivial (Nat.le_add_left _ 997) (.cons (.str _) (.cons (i9.same z10) (.cons (.int _) .nil)))
    have k2 := upd_same (H := upd (upd (upd (upd H1 l3 (.lst [V.int 0])) t2 (.tup [V.str (Str.ofString "least"), V.ref l3, V.int 0, V.int 0])) l4 (.lst [V.int 1])) t3 (.tup [V.str (Str.ofString "turns"), V.ref l4, V.int 2])) (a := S2) (o := .lst [V.ref t2, V.ref t3])
    have two : DtAll (fun _ => True) _ [V.ref t2, V.ref t3] [.tuple [.str (Str.ofString "least"), .list [.int 0], .int 0, .int 0], .tuple [.str (Str.ofString "turns"), .list [.int 1], .int 2]] := .cons (i8.same ((z9.trans z10).trans z11)) (.cons (i10.same z11) .nil)
    have zz := (((z7.trans z8).trans z9).trans z10).trans z11
    generalize upd (upd (upd (upd (upd H1 l3 (.lst [V.int 0])) t2 (.tup [V.str (Str.ofString "least"), V.ref l3, V.int 0, V.int 0])) l4 (.lst [V.int 1])) t3 (.tup [V.str (Str.ofString "turns"), V.ref l4, V.int 2])) S2 (.lst [V.ref t2, V.ref t3]) = H2 at *
    refine ⟨S1, S2, _, _, rfl, rfl, zz _ _ k1, k2, Nat.le_trans (show _ ≤ 1000 by simp) (by decide), fun S3 h12 => ?_⟩
    have z12 := same_new h12 (o := .lst ([V.non, V.int 0, V.bl true, V.str (Str.ofString ""), V.str (Str.ofString "least"), V.ref l0, V.ref e0, V.ref t0, V.ref t1, V.ref l2] ++ [V.ref t2, V.ref t3]))
    have k3 := upd_same (H := H2) (a := S3) (o := .lst ([V.non, V.int 0, V.bl true, V.str (Str.ofString ""), V.str (Str.ofString "least"), V.ref l0, V.ref e0, V.ref t0, V.ref t1, V.ref l2] ++ [V.ref t2, V.ref t3]))
    have twelve := ((ten.same zz).app two).same z12
    generalize upd H2 S3 (.lst ([V.non, V.int 0, V.bl true, V.str (Str.ofString ""), V.str (Str.ofString "least"), V.ref l0, V.ref e0, V.ref t0, V.ref t1, V.ref l2] ++ [V.ref t2, V.ref t3])) = H3 at *
    refine ⟨_, rfl, S3, rfl, ⟨_, SqL.of k3⟩, fun D hD => ?_⟩
    refine lc_list (xs := [V.non, V.int 0, V.bl true, V.str (Str.ofString ""), V.str (Str.ofString "least"), V.ref l0, V.ref e0, V.ref t0, V.ref t1, V.ref l2] ++ [V.ref t2, V.ref t3]) (fun i H4 => H4 D = some (.lst []) ∧ Same H3 H4) ⟨upd_same, same_new hD⟩ (fun i H4 _ ⟨_, s⟩ => SqL.of (s _ _ k3)) ?_ ?_
    · rintro i x H4 hx ⟨g1, g2⟩
      obtain ⟨d, hd, hxd⟩ := twelve.getV hx
      have hf : isCond d (.int 1) = false := by
        have := List.all_eq_true.mp else_all d (List.mem_of_getElem? hd)
        simpa using this
      refine ⟨rfl, _, rfl, x, .int 1, d, .int 1, rfl, hxd.same g2, .int 1, fun H5 s5 => ?_⟩
      rw [hf]
      exact ⟨_, _, rfl, rfl, _, rfl, iteF ⟨s5 _ _ g1, g2.trans s5⟩⟩
    · rintro H4 ⟨g1, g2⟩
      refine ⟨(by show 0 ≤ sizeLine; decide), fun z hz => ?_⟩
      have sz := same_new hz (o := .lst [])
      refine ⟨_, _, .lst (SqL.of (sz _ _ g1)) .nil, dp_nil upd_same, shaped_nil, shaped_nil, ?_⟩
      rw [eqv_nil]
      exact q _
end
theorem all_mk {l : PySem.W.OpenLaw} {w : World} {K : PySem.W.Frag} {h : Heap} {mg : Str → Option Value} {fa f0 f1 f2 f3 f4 f5 f6 f7 f8 f9 f10 f11 f12 f13 f14 f15 f16 f17 f18 f19 : Addr} (X : K.In h) (G : h.Ns mainGlobals mg) (hfa : mg "law" = some (.ref fa))
    {od0 an0 od1 an1 od2 an2 od3 an3 od4 an4 od5 an5 od6 an6 od7 an7 od8 an8 od9 an9 od10 an10 od11 an11 od12 an12 od13 an13 od14 an14 od15 an15 od16 an16 od17 an17 od18 an18 od19 an19 : Option Addr} {sl0 sl1 sl2 sl3 sl4 sl5 sl6 sl7 sl8 sl9 sl10 sl11 sl12 sl13 sl14 sl15 sl16 sl17 sl18 sl19 : Array (Option Value)} {oc0 kV0 dc0 pm0 cd0 ct0 oc1 kV1 dc1 pm1 cd1 ct1 oc2 kV2 dc2 pm2 cd2 ct2 oc3 kV3 dc3 pm3 cd3 ct3 oc4 kV4 dc4 pm4 cd4 ct4 oc5 kV5 dc5 pm5 cd5 ct5 oc6 kV6 dc6 pm6 cd6 ct6 oc7 kV7 dc7 pm7 cd7 ct7 oc8 kV8 dc8 pm8 cd8 ct8 oc9 kV9 dc9 pm9 cd9 ct9 oc10 kV10 dc10 pm10 cd10 ct10 oc11 kV11 dc11 pm11 cd11 ct11 oc12 kV12 dc12 pm12 cd12 ct12 oc13 kV13 dc13 pm13 cd13 ct13 oc14 kV14 dc14 pm14 cd14 ct14 oc15 kV15 dc15 pm15 cd15 ct15 oc16 kV16 dc16 pm16 cd16 ct16 oc17 kV17 dc17 pm17 cd17 ct17 oc18 kV18 dc18 pm18 cd18 ct18 oc19 kV19 dc19 pm19 cd19 ct19 : Value}
    {tk_MOST_STATES : Tok}
    {tk_MOST_WITHIN : Tok}
    {tk_MOST_WEIGHT : Tok}
    {tk_MOST_BOUND : Tok}
    {tk_MOST_M : Tok}
    {a_MADE_OF_OTHERS : Addr} {es_MADE_OF_OTHERS : Array DictEntry} {n_MADE_OF_OTHERS : Nat}
    (ak_MOST_STATES : PySem.W.nsIn K mainGlobals "MOST_STATES" = some (some (.int 6 tk_MOST_STATES)))
    (ak_MOST_WITHIN : PySem.W.nsIn K mainGlobals "MOST_WITHIN" = some (some (.int 4 tk_MOST_WITHIN)))
    (ak_MOST_WEIGHT : PySem.W.nsIn K mainGlobals "MOST_WEIGHT" = some (some (.int 4 tk_MOST_WEIGHT)))
    (ak_MOST_BOUND : PySem.W.nsIn K mainGlobals "MOST_BOUND" = some (some (.int 4 tk_MOST_BOUND)))
    (ak_MOST_M : PySem.W.nsIn K mainGlobals "MOST_M" = some (some (.int 4 tk_MOST_M)))
    (ak_MADE_OF_OTHERS : PySem.W.nsIn K mainGlobals "MADE_OF_OTHERS" = some (some (.ref a_MADE_OF_OTHERS)))
    (lk_MADE_OF_OTHERS : K.lookup a_MADE_OF_OTHERS = some ⟨.type "dict", none, .dict es_MADE_OF_OTHERS n_MADE_OF_OTHERS, #[]⟩) (kk_MADE_OF_OTHERS : PySem.W.KeysLit w.params es_MADE_OF_OTHERS.toList) (ek_MADE_OF_OTHERS : Ents es_MADE_OF_OTHERS.toList [(Str.ofString "not", 2), (Str.ofString "both", 3), (Str.ofString "either", 3)]) (sk_MADE_OF_OTHERS : (a_MADE_OF_OTHERS == sysModules) = false)
    (a0 : PySem.W.nsIn K mainGlobals "is_whole" = some (some (.ref f0))) (l0 : K.lookup f0 = some ⟨oc0, od0, .func (PySem.W.fnOf "is_whole" "is_whole" (defArgs s_is_whole) (defBody s_is_whole) (defScope s_is_whole) .none kV0 dc0 pm0 an0 cd0 ct0), sl0⟩) (c0 : PySem.W.codeIn K cd0 "is_whole" = true) (k0 : PySem.W.keepIn K (.ref f0) = true)
    (a1 : PySem.W.nsIn K mainGlobals "is_whole_within" = some (some (.ref f1))) (l1 : K.lookup f1 = some ⟨oc1, od1, .func (PySem.W.fnOf "is_whole_within" "is_whole_within" (defArgs s_is_whole_within) (defBody s_is_whole_within) (defScope s_is_whole_within) .none kV1 dc1 pm1 an1 cd1 ct1), sl1⟩) (c1 : PySem.W.codeIn K cd1 "is_whole_within" = true) (k1 : PySem.W.keepIn K (.ref f1) = true)
    (a2 : PySem.W.nsIn K mainGlobals "is_condition" = some (some (.ref f2))) (l2 : K.lookup f2 = some ⟨oc2, od2, .func (PySem.W.fnOf "is_condition" "is_condition" (defArgs s_is_condition) (defBody s_is_condition) (defScope s_is_condition) .none kV2 dc2 pm2 an2 cd2 ct2), sl2⟩) (c2 : PySem.W.codeIn K cd2 "is_condition" = true) (k2 : PySem.W.keepIn K (.ref f2) = true)
    (a3 : PySem.W.nsIn K mainGlobals "_is_condition_of" = some (some (.ref f3))) (l3 : K.lookup f3 = some ⟨oc3, od3, .func (PySem.W.fnOf "_is_condition_of" "_is_condition_of" (defArgs s__is_condition_of) (defBody s__is_condition_of) (defScope s__is_condition_of) .none kV3 dc3 pm3 an3 cd3 ct3), sl3⟩) (c3 : PySem.W.codeIn K cd3 "_is_condition_of" = true) (k3 : PySem.W.keepIn K (.ref f3) = true)
    (a4 : PySem.W.nsIn K mainGlobals "_is_least" = some (some (.ref f4))) (l4 : K.lookup f4 = some ⟨oc4, od4, .func (PySem.W.fnOf "_is_least" "_is_least" (defArgs s__is_least) (defBody s__is_least) (defScope s__is_least) .none kV4 dc4 pm4 an4 cd4 ct4), sl4⟩) (c4 : PySem.W.codeIn K cd4 "_is_least" = true) (k4 : PySem.W.keepIn K (.ref f4) = true)
    (a5 : PySem.W.nsIn K mainGlobals "_is_turns" = some (some (.ref f5))) (l5 : K.lookup f5 = some ⟨oc5, od5, .func (PySem.W.fnOf "_is_turns" "_is_turns" (defArgs s__is_turns) (defBody s__is_turns) (defScope s__is_turns) .none kV5 dc5 pm5 an5 cd5 ct5), sl5⟩) (c5 : PySem.W.codeIn K cd5 "_is_turns" = true) (k5 : PySem.W.keepIn K (.ref f5) = true)
    (a6 : PySem.W.nsIn K mainGlobals "_are_weights" = some (some (.ref f6))) (l6 : K.lookup f6 = some ⟨oc6, od6, .func (PySem.W.fnOf "_are_weights" "_are_weights" (defArgs s__are_weights) (defBody s__are_weights) (defScope s__are_weights) .none kV6 dc6 pm6 an6 cd6 ct6), sl6⟩) (c6 : PySem.W.codeIn K cd6 "_are_weights" = true) (k6 : PySem.W.keepIn K (.ref f6) = true)
    (a7 : PySem.W.nsIn K mainGlobals "_law_cell_at" = some (some (.ref f7))) (l7 : K.lookup f7 = some ⟨oc7, od7, .func (PySem.W.fnOf "_law_cell_at" "_law_cell_at" (defArgs s__law_cell_at) (defBody s__law_cell_at) (defScope s__law_cell_at) .none kV7 dc7 pm7 an7 cd7 ct7), sl7⟩) (c7 : PySem.W.codeIn K cd7 "_law_cell_at" = true) (k7 : PySem.W.keepIn K (.ref f7) = true)
    (a8 : PySem.W.nsIn K mainGlobals "_law_numbers" = some (some (.ref f8))) (l8 : K.lookup f8 = some ⟨oc8, od8, .func (PySem.W.fnOf "_law_numbers" "_law_numbers" (defArgs s__law_numbers) (defBody s__law_numbers) (defScope s__law_numbers) .none kV8 dc8 pm8 an8 cd8 ct8), sl8⟩) (c8 : PySem.W.codeIn K cd8 "_law_numbers" = true) (k8 : PySem.W.keepIn K (.ref f8) = true)
    (a9 : PySem.W.nsIn K mainGlobals "_law_deck" = some (some (.ref f9))) (l9 : K.lookup f9 = some ⟨oc9, od9, .func (PySem.W.fnOf "_law_deck" "_law_deck" (defArgs s__law_deck) (defBody s__law_deck) (defScope s__law_deck) .none kV9 dc9 pm9 an9 cd9 ct9), sl9⟩) (c9 : PySem.W.codeIn K cd9 "_law_deck" = true) (k9 : PySem.W.keepIn K (.ref f9) = true)
    (a10 : PySem.W.nsIn K mainGlobals "_law_take" = some (some (.ref f10))) (l10 : K.lookup f10 = some ⟨oc10, od10, .func (PySem.W.fnOf "_law_take" "_law_take" (defArgs s__law_take) (defBody s__law_take) (defScope s__law_take) .none kV10 dc10 pm10 an10 cd10 ct10), sl10⟩) (c10 : PySem.W.codeIn K cd10 "_law_take" = true) (k10 : PySem.W.keepIn K (.ref f10) = true)
    (a11 : PySem.W.nsIn K mainGlobals "_law_weights" = some (some (.ref f11))) (l11 : K.lookup f11 = some ⟨oc11, od11, .func (PySem.W.fnOf "_law_weights" "_law_weights" (defArgs s__law_weights) (defBody s__law_weights) (defScope s__law_weights) .none kV11 dc11 pm11 an11 cd11 ct11), sl11⟩) (c11 : PySem.W.codeIn K cd11 "_law_weights" = true) (k11 : PySem.W.keepIn K (.ref f11) = true)
    (a12 : PySem.W.nsIn K mainGlobals "_law_condition" = some (some (.ref f12))) (l12 : K.lookup f12 = some ⟨oc12, od12, .func (PySem.W.fnOf "_law_condition" "_law_condition" (defArgs s__law_condition) (defBody s__law_condition) (defScope s__law_condition) .none kV12 dc12 pm12 an12 cd12 ct12), sl12⟩) (c12 : PySem.W.codeIn K cd12 "_law_condition" = true) (k12 : PySem.W.keepIn K (.ref f12) = true)
    (a13 : PySem.W.nsIn K mainGlobals "_law_copy" = some (some (.ref f13))) (l13 : K.lookup f13 = some ⟨oc13, od13, .func (PySem.W.fnOf "_law_copy" "_law_copy" (defArgs s__law_copy) (defBody s__law_copy) (defScope s__law_copy) .none kV13 dc13 pm13 an13 cd13 ct13), sl13⟩) (c13 : PySem.W.codeIn K cd13 "_law_copy" = true) (k13 : PySem.W.keepIn K (.ref f13) = true)
    (a14 : PySem.W.nsIn K mainGlobals "_law_whole" = some (some (.ref f14))) (l14 : K.lookup f14 = some ⟨oc14, od14, .func (PySem.W.fnOf "_law_whole" "_law_whole" (defArgs s__law_whole) (defBody s__law_whole) (defScope s__law_whole) .none kV14 dc14 pm14 an14 cd14 ct14), sl14⟩) (c14 : PySem.W.codeIn K cd14 "_law_whole" = true) (k14 : PySem.W.keepIn K (.ref f14) = true)
    (a15 : PySem.W.nsIn K mainGlobals "_law_is_condition" = some (some (.ref f15))) (l15 : K.lookup f15 = some ⟨oc15, od15, .func (PySem.W.fnOf "_law_is_condition" "_law_is_condition" (defArgs s__law_is_condition) (defBody s__law_is_condition) (defScope s__law_is_condition) .none kV15 dc15 pm15 an15 cd15 ct15), sl15⟩) (c15 : PySem.W.codeIn K cd15 "_law_is_condition" = true) (k15 : PySem.W.keepIn K (.ref f15) = true)
    (a16 : PySem.W.nsIn K mainGlobals "_law_odd" = some (some (.ref f16))) (l16 : K.lookup f16 = some ⟨oc16, od16, .func (PySem.W.fnOf "_law_odd" "_law_odd" (defArgs s__law_odd) (defBody s__law_odd) (defScope s__law_odd) .none kV16 dc16 pm16 an16 cd16 ct16), sl16⟩) (c16 : PySem.W.codeIn K cd16 "_law_odd" = true) (k16 : PySem.W.keepIn K (.ref f16) = true)
    (a17 : PySem.W.nsIn K mainGlobals "_law_bad_sum" = some (some (.ref f17))) (l17 : K.lookup f17 = some ⟨oc17, od17, .func (PySem.W.fnOf "_law_bad_sum" "_law_bad_sum" (defArgs s__law_bad_sum) (defBody s__law_bad_sum) (defScope s__law_bad_sum) .none kV17 dc17 pm17 an17 cd17 ct17), sl17⟩) (c17 : PySem.W.codeIn K cd17 "_law_bad_sum" = true) (k17 : PySem.W.keepIn K (.ref f17) = true)
    (a18 : PySem.W.nsIn K mainGlobals "_law_spoilt" = some (some (.ref f18))) (l18 : K.lookup f18 = some ⟨oc18, od18, .func (PySem.W.fnOf "_law_spoilt" "_law_spoilt" (defArgs s__law_spoilt) (defBody s__law_spoilt) (defScope s__law_spoilt) .none kV18 dc18 pm18 an18 cd18 ct18), sl18⟩) (c18 : PySem.W.codeIn K cd18 "_law_spoilt" = true) (k18 : PySem.W.keepIn K (.ref f18) = true)
    (a19 : PySem.W.nsIn K mainGlobals "law" = some (some (.ref f19))) (l19 : K.lookup f19 = some ⟨oc19, od19, .func (PySem.W.fnOf "law" "law" (defArgs s_law) (defBody s_law) (defScope s_law) .none kV19 dc19 pm19 an19 cd19 ct19), sl19⟩) (c19 : PySem.W.codeIn K cd19 "law" = true) (k19 : PySem.W.keepIn K (.ref f19) = true)
    (z_all : PySem.W.nsIn K mainGlobals "all" = some none)
    (z_bool : PySem.W.nsIn K mainGlobals "bool" = some none)
    (z_dict : PySem.W.nsIn K mainGlobals "dict" = some none)
    (z_int : PySem.W.nsIn K mainGlobals "int" = some none)
    (z_isinstance : PySem.W.nsIn K mainGlobals "isinstance" = some none)
    (z_len : PySem.W.nsIn K mainGlobals "len" = some none)
    (z_list : PySem.W.nsIn K mainGlobals "list" = some none)
    (z_max : PySem.W.nsIn K mainGlobals "max" = some none)
    (z_min : PySem.W.nsIn K mainGlobals "min" = some none)
    (z_range : PySem.W.nsIn K mainGlobals "range" = some none)
    (z_repr : PySem.W.nsIn K mainGlobals "repr" = some none)
    (z_str : PySem.W.nsIn K mainGlobals "str" = some none)
    (z_tuple : PySem.W.nsIn K mainGlobals "tuple" = some none)
    : ∃ fd : FuncData, (∀ (s : Shared) (v : Value), BindsTo s fd ⟨[v], []⟩ [("script", v)]) ∧ ∀ base : Heap, K.In base → base.Ns mainGlobals mg → (∃ ob, base.get? sysModules = some ob) → RunG l.prog w K mg base 25 fa fd "script" (spLaw K) := by
  have e := hfa.symm.trans (PySem.W.mg_of X G a19)
  cases e
  have F0 := fun_mk (st := s_is_whole) l0 c0 k0
  have b0 := F0.binds (ps := ["thing"]) fun _ _ _ _ _ _ us hl => match us, hl with | [_], _ => rfl
  have F1 := fun_mk (st := s_is_whole_within) l1 c1 k1
  have b1 := F1.binds (ps := ["thing", "low", "high"]) fun _ _ _ _ _ _ us hl => match us, hl with | [_, _, _], _ => rfl
  have F2 := fun_mk (st := s_is_condition) l2 c2 k2
  have b2 := F2.binds (ps := ["thing", "s"]) fun _ _ _ _ _ _ us hl => match us, hl with | [_, _], _ => rfl
  have F3 := fun_mk (st := s__is_condition_of) l3 c3 k3
  have b3 := F3.binds (ps := ["thing", "s", "levels"]) fun _ _ _ _ _ _ us hl => match us, hl with | [_, _, _], _ => rfl
  have F4 := fun_mk (st := s__is_least) l4 c4 k4
  have b4 := F4.binds (ps := ["thing", "s"]) fun _ _ _ _ _ _ us hl => match us, hl with | [_, _], _ => rfl
  have F5 := fun_mk (st := s__is_turns) l5 c5 k5
  have b5 := F5.binds (ps := ["thing", "s"]) fun _ _ _ _ _ _ us hl => match us, hl with | [_, _], _ => rfl
  have F6 := fun_mk (st := s__are_weights) l6 c6 k6
  have b6 := F6.binds (ps := ["thing", "s"]) fun _ _ _ _ _ _ us hl => match us, hl with | [_, _], _ => rfl
  have F7 := fun_mk (st := s__law_cell_at) l7 c7 k7
  have b7 := F7.binds (ps := ["script", "k"]) fun _ _ _ _ _ _ us hl => match us, hl with | [_, _], _ => rfl
  have F8 := fun_mk (st := s__law_numbers) l8 c8 k8
  have b8 := F8.binds (ps := ["cell", "many"]) fun _ _ _ _ _ _ us hl => match us, hl with | [_, _], _ => rfl
  have F9 := fun_mk (st := s__law_deck) l9 c9 k9
  have b9 := F9.binds (ps := ["cell", "many"]) fun _ _ _ _ _ _ us hl => match us, hl with | [_, _], _ => rfl
  have F10 := fun_mk (st := s__law_take) l10 c10 k10
  have b10 := F10.binds (ps := ["deck", "many"]) fun _ _ _ _ _ _ us hl => match us, hl with | [_, _], _ => rfl
  have F11 := fun_mk (st := s__law_weights) l11 c11 k11
  have b11 := F11.binds (ps := ["deck", "s"]) fun _ _ _ _ _ _ us hl => match us, hl with | [_, _], _ => rfl
  have F12 := fun_mk (st := s__law_condition) l12 c12 k12
  have b12 := F12.binds (ps := ["deck", "s", "deep"]) fun _ _ _ _ _ _ us hl => match us, hl with | [_, _, _], _ => rfl
  have F13 := fun_mk (st := s__law_copy) l13 c13 k13
  have b13 := F13.binds (ps := ["thing"]) fun _ _ _ _ _ _ us hl => match us, hl with | [_], _ => rfl
  have F14 := fun_mk (st := s__law_whole) l14 c14 k14
  have b14 := F14.binds (ps := ["thing", "least", "most"]) fun _ _ _ _ _ _ us hl => match us, hl with | [_, _, _], _ => rfl
  have F15 := fun_mk (st := s__law_is_condition) l15 c15 k15
  have b15 := F15.binds (ps := ["thing", "s", "deep"]) fun _ _ _ _ _ _ us hl => match us, hl with | [_, _, _], _ => rfl
  have F16 := fun_mk (st := s__law_odd) l16 c16 k16
  have b16 := F16.binds (ps := ["deck"]) fun _ _ _ _ _ _ us hl => match us, hl with | [_], _ => rfl
  have F17 := fun_mk (st := s__law_bad_sum) l17 c17 k17
  have b17 := F17.binds (ps := ["deck", "thing"]) fun _ _ _ _ _ _ us hl => match us, hl with | [_, _], _ => rfl
  have F18 := fun_mk (st := s__law_spoilt) l18 c18 k18
  have b18 := F18.binds (ps := ["deck", "thing"]) fun _ _ _ _ _ _ us hl => match us, hl with | [_, _], _ => rfl
  have F19 := fun_mk (st := s_law) l19 c19 k19
  have b19 := F19.binds (ps := ["script"]) fun _ _ _ _ _ _ us hl => match us, hl with | [_], _ => rfl
  let T : Txt K mg := ⟨f0, _, F0, b0, PySem.W.mg_of X G a0, f1, _, F1, b1, PySem.W.mg_of X G a1, f2, _, F2, b2, PySem.W.mg_of X G a2, f3, _, F3, b3, PySem.W.mg_of X G a3, f4, _, F4, b4, PySem.W.mg_of X G a4, f5, _, F5, b5, PySem.W.mg_of X G a5, f6, _, F6, b6, PySem.W.mg_of X G a6, f7, _, F7, b7, PySem.W.mg_of X G a7, f8, _, F8, b8, PySem.W.mg_of X G a8, f9, _, F9, b9, PySem.W.mg_of X G a9, f10, _, F10, b10, PySem.W.mg_of X G a10, f11, _, F11, b11, PySem.W.mg_of X G a11, f12, _, F12, b12, PySem.W.mg_of X G a12, f13, _, F13, b13, PySem.W.mg_of X G a13, f14, _, F14, b14, PySem.W.mg_of X G a14, f15, _, F15, b15, PySem.W.mg_of X G a15, f16, _, F16, b16, PySem.W.mg_of X G a16, f17, _, F17, b17, PySem.W.mg_of X G a17, f18, _, F18, b18, PySem.W.mg_of X G a18, fa, _, F19, b19, PySem.W.mg_of X G a19, _, PySem.W.mg_of X G ak_MOST_STATES, _, PySem.W.mg_of X G ak_MOST_WITHIN, _, PySem.W.mg_of X G ak_MOST_WEIGHT, _, PySem.W.mg_of X G ak_MOST_BOUND, _, PySem.W.mg_of X G ak_MOST_M, _, PySem.W.mg_of X G ak_MADE_OF_OTHERS, PySem.W.mg_none_of X G z_all, PySem.W.mg_none_of X G z_bool, PySem.W.mg_none_of X G z_dict, PySem.W.mg_none_of X G z_int, PySem.W.mg_none_of X G z_isinstance, PySem.W.mg_none_of X G z_len, PySem.W.mg_none_of X G z_list, PySem.W.mg_none_of X G z_max, PySem.W.mg_none_of X G z_min, PySem.W.mg_none_of X G z_range, PySem.W.mg_none_of X G z_repr, PySem.W.mg_none_of X G z_str, PySem.W.mg_none_of X G z_tuple⟩
  exact ⟨PySem.W.fnOf "law" "law" (defArgs s_law) (defBody s_law) (defScope s_law) .none kV19 dc19 pm19 an19 cd19 ct19, fun s v => .of_eq rfl, fun base _ _ hM => ok_law T ⟨sk_MADE_OF_OTHERS, _, _, lk_MADE_OF_OTHERS, kk_MADE_OF_OTHERS, ek_MADE_OF_OTHERS⟩ hM⟩
end My
open PySem PySem.W PyProof.Rows
set_option maxRecDepth 100000 in
set_option maxHeartbeats 0 in
theorem PySem.Challenge.cw_heaptrees_k15_what_is_a_condition_holds : PySem.Challenge.rw_heaptrees_k15_what_is_a_condition.Holds := by
  w_on; o_law; k_head; (case hw => w_witness2)
  k_fill
  refine My.walkG (l := PySem.Challenge.rw_heaptrees_k15_what_is_a_condition) (n := 63) (k := 25) (x := "script") rfl (by decide) (by decide) (by decide +kernel) rfl ⟨rfl, by decide, by decide⟩ (fun w h Y => PySem.W.kIn_of Y) ?F
  case F =>
    intro w mg fa h KX G hmg
    refine' My.all_mk KX G hmg ?ak_MOST_STATES ?ak_MOST_WITHIN ?ak_MOST_WEIGHT ?ak_MOST_BOUND ?ak_MOST_M ?ak_MADE_OF_OTHERS ?lk_MADE_OF_OTHERS ?kk_MADE_OF_OTHERS ?ek_MADE_OF_OTHERS ?sk_MADE_OF_OTHERS ?a0 ?l0 ?c0 ?k0 ?a1 ?l1 ?c1 ?k1 ?a2 ?l2 ?c2 ?k2 ?a3 ?l3 ?c3 ?k3 ?a4 ?l4 ?c4 ?k4 ?a5 ?l5 ?c5 ?k5 ?a6 ?l6 ?c6 ?k6 ?a7 ?l7 ?c7 ?k7 ?a8 ?l8 ?c8 ?k8 ?a9 ?l9 ?c9 ?k9 ?a10 ?l10 ?c10 ?k10 ?a11 ?l11 ?c11 ?k11 ?a12 ?l12 ?c12 ?k12 ?a13 ?l13 ?c13 ?k13 ?a14 ?l14 ?c14 ?k14 ?a15 ?l15 ?c15 ?k15 ?a16 ?l16 ?c16 ?k16 ?a17 ?l17 ?c17 ?k17 ?a18 ?l18 ?c18 ?k18 ?a19 ?l19 ?c19 ?k19 ?z_all ?z_bool ?z_dict ?z_int ?z_isinstance ?z_len ?z_list ?z_max ?z_min ?z_range ?z_repr ?z_str ?z_tuple
    (case ak_MOST_STATES => k_is)
    (case ak_MOST_WITHIN => k_is)
    (case ak_MOST_WEIGHT => k_is)
    (case ak_MOST_BOUND => k_is)
    (case ak_MOST_M => k_is)
    (case ak_MADE_OF_OTHERS => k_is)
    (case lk_MADE_OF_OTHERS => k_is)
    (case kk_MADE_OF_OTHERS => k_keys)
    (case ek_MADE_OF_OTHERS => exact ⟨⟨_, _, _, rfl⟩, ⟨⟨_, _, _, rfl⟩, ⟨⟨_, _, _, rfl⟩, trivial⟩⟩⟩)
    (case sk_MADE_OF_OTHERS => rfl)
    (case a0 => k_is)
    (case l0 => k_is)
    (case c0 => k_is)
    (case k0 => k_is)
    (case a1 => k_is)
    (case l1 => k_is)
    (case c1 => k_is)
    (case k1 => k_is)
    (case a2 => k_is)
    (case l2 => k_is)
    (case c2 => k_is)
    (case k2 => k_is)
    (case a3 => k_is)
    (case l3 => k_is)
    (case c3 => k_is)
    (case k3 => k_is)
    (case a4 => k_is)
    (case l4 => k_is)
    (case c4 => k_is)
    (case k4 => k_is)
    (case a5 => k_is)
    (case l5 => k_is)
    (case c5 => k_is)
    (case k5 => k_is)
    (case a6 => k_is)
    (case l6 => k_is)
    (case c6 => k_is)
    (case k6 => k_is)
    (case a7 => k_is)
    (case l7 => k_is)
    (case c7 => k_is)
    (case k7 => k_is)
    (case a8 => k_is)
    (case l8 => k_is)
    (case c8 => k_is)
    (case k8 => k_is)
    (case a9 => k_is)
    (case l9 => k_is)
    (case c9 => k_is)
    (case k9 => k_is)
    (case a10 => k_is)
    (case l10 => k_is)
    (case c10 => k_is)
    (case k10 => k_is)
    (case a11 => k_is)
    (case l11 => k_is)
    (case c11 => k_is)
    (case k11 => k_is)
    (case a12 => k_is)
    (case l12 => k_is)
    (case c12 => k_is)
    (case k12 => k_is)
    (case a13 => k_is)
    (case l13 => k_is)
    (case c13 => k_is)
    (case k13 => k_is)
    (case a14 => k_is)
    (case l14 => k_is)
    (case c14 => k_is)
    (case k14 => k_is)
    (case a15 => k_is)
    (case l15 => k_is)
    (case c15 => k_is)
    (case k15 => k_is)
    (case a16 => k_is)
    (case l16 => k_is)
    (case c16 => k_is)
    (case k16 => k_is)
    (case a17 => k_is)
    (case l17 => k_is)
    (case c17 => k_is)
    (case k17 => k_is)
    (case a18 => k_is)
    (case l18 => k_is)
    (case c18 => k_is)
    (case k18 => k_is)
    (case a19 => k_is)
    (case l19 => k_is)
    (case c19 => k_is)
    (case k19 => k_is)
    (case z_all => k_is)
    (case z_bool => k_is)
    (case z_dict => k_is)
    (case z_int => k_is)
    (case z_isinstance => k_is)
    (case z_len => k_is)
    (case z_list => k_is)
    (case z_max => k_is)
    (case z_min => k_is)
    (case z_range => k_is)
    (case z_repr => k_is)
    (case z_str => k_is)
    (case z_tuple => k_is)
#print axioms PySem.Challenge.cw_heaptrees_k15_what_is_a_condition_holds
