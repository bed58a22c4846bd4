
import PyProof.Rows.All
import Wide.All
import OpenK.AllK
import Wide.FinOn
import HandS.ForMost
import HandS.Wide
import HandS.IsInst
import HandS.Flow
import HandS.Style
import HandS.Codes
import HandS.Lambda
import HandS.Star
import HandS.Nested
import HandS.EndTab
import HandS.SortKw
import HandS.FStr
import HandS.NoneIn
import HandS.More
import HandS.Zip
import HandS.Conv
import HandS.TupAny
import HandS.RaiseMore
import HandS.Walk
import HandS.Iter
import HandS.Dict
import PyProof.StrLawsRepr
import KE.SortKeyHeap
import PySem.Challenge.RW_heaptrees_k50_trees_put_in
set_option Elab.async false
set_option linter.all false
set_option maxRecDepth 100000
set_option maxHeartbeats 4000000
namespace My
open PySem PySem.Spec PyProof.Rows L2
def topS (i : Nat) : Stmt := PySem.Challenge.pw_heaptrees_k50_trees_put_in.main.body.getD i (.Pass ⟨0, 0, 0, 0⟩)
abbrev s_is_letter : Stmt := topS 4
theorem sc_is_letter : FnScope ["thing"] ["thing"] (defScope s_is_letter) := ⟨rfl, rfl, rfl, by decide +kernel, rfl, by decide +kernel, by decide +kernel⟩
abbrev s_is_tree : Stmt := topS 6
theorem sc_is_tree : FnScope ["thing", "waiting", "part"] ["thing"] (defScope s_is_tree) := ⟨rfl, rfl, rfl, by decide +kernel, rfl, by decide +kernel, by decide +kernel⟩
abbrev s__is_part : Stmt := topS 7
theorem sc__is_part : FnScope ["thing"] ["thing"] (defScope s__is_part) := ⟨rfl, rfl, rfl, by decide +kernel, rfl, by decide +kernel, by decide +kernel⟩
abbrev s_check_tree : Stmt := topS 8
theorem sc_check_tree : FnScope ["thing"] ["thing"] (defScope s_check_tree) := ⟨rfl, rfl, rfl, by decide +kernel, rfl, by decide +kernel, by decide +kernel⟩
abbrev s_parts_upward : Stmt := topS 9
theorem sc_parts_upward : FnScope ["tree", "parts", "waiting", "part"] ["tree"] (defScope s_parts_upward) := ⟨rfl, rfl, rfl, by decide +kernel, rfl, by decide +kernel, by decide +kernel⟩
abbrev s_built_upward : Stmt := topS 10
theorem sc_built_upward : FnScope ["tree", "made", "waiting", "letter", "children", "first", "below"] ["tree", "made"] (defScope s_built_upward) := ⟨rfl, rfl, rfl, by decide +kernel, rfl, by decide +kernel, by decide +kernel⟩
abbrev s_copied_tree : Stmt := topS 11
theorem sc_copied_tree : FnScope ["tree"] ["tree"] (defScope s_copied_tree) := ⟨rfl, rfl, rfl, by decide +kernel, rfl, by decide +kernel, by decide +kernel⟩
abbrev s_check_surrounding : Stmt := topS 12
theorem sc_check_surrounding : FnScope ["thing", "row"] ["thing"] (defScope s_check_surrounding) := ⟨rfl, rfl, rfl, by decide +kernel, rfl, by decide +kernel, by decide +kernel⟩
abbrev s_put_into : Stmt := topS 14
theorem sc_put_into : FnScope ["surrounding", "tree", "told", "letter", "children"] ["surrounding", "tree"] (defScope s_put_into) := ⟨rfl, rfl, rfl, by decide +kernel, rfl, by decide +kernel, by decide +kernel⟩
abbrev s__law_deck : Stmt := topS 16
theorem sc__law_deck : FnScope ["script", "pools", "k", "cell"] ["script"] (defScope s__law_deck) := ⟨rfl, rfl, rfl, by decide +kernel, rfl, by decide +kernel, by decide +kernel⟩
abbrev s__law_draw : Stmt := topS 17
theorem sc__law_draw : FnScope ["deck", "many", "pool", "found", "number"] ["deck", "many"] (defScope s__law_draw) := ⟨rfl, rfl, rfl, by decide +kernel, rfl, by decide +kernel, by decide +kernel⟩
abbrev s__law_tree : Stmt := topS 18
theorem sc__law_tree : FnScope ["deck", "letters", "left", "children", "letter"] ["deck", "letters", "left"] (defScope s__law_tree) := ⟨rfl, rfl, rfl, by decide +kernel, rfl, by decide +kernel, by decide +kernel⟩
abbrev s__law_deep : Stmt := topS 19
theorem sc__law_deep : FnScope ["tree", "child"] ["tree"] (defScope s__law_deep) := ⟨rfl, rfl, rfl, by decide +kernel, rfl, by decide +kernel, by decide +kernel⟩
abbrev s__law_due : Stmt := topS 20
theorem sc__law_due : FnScope ["surrounding", "tree", "found", "letter", "children", "child"] ["surrounding", "tree"] (defScope s__law_due) := ⟨rfl, rfl, rfl, by decide +kernel, rfl, by decide +kernel, by decide +kernel⟩
abbrev s__law_same : Stmt := topS 21
theorem sc__law_same : FnScope ["one", "other", "k"] ["one", "other"] (defScope s__law_same) := ⟨rfl, rfl, rfl, by decide +kernel, rfl, by decide +kernel, by decide +kernel⟩
abbrev s__law_spoil : Stmt := topS 22
theorem sc__law_spoil : FnScope ["tree", "marks", "child"] ["tree", "marks"] (defScope s__law_spoil) := ⟨rfl, rfl, rfl, by decide +kernel, rfl, by decide +kernel, by decide +kernel⟩
abbrev s__law_right : Stmt := topS 23
theorem sc__law_right : FnScope ["surrounding", "tree", "handed", "given", "due", "turn", "found", "marked", "part"] ["surrounding", "tree"] (defScope s__law_right) := ⟨rfl, rfl, rfl, by decide +kernel, rfl, by decide +kernel, by decide +kernel⟩
abbrev s_law : Stmt := topS 24
theorem sc_law : FnScope ["script", "deck", "k", "surrounding", "turn", "part"] ["script"] (defScope s_law) := ⟨rfl, rfl, rfl, by decide +kernel, rfl, by decide +kernel, by decide +kernel⟩
structure Txt (K : PySem.W.Frag) (mg : Str → Option Value) where
  f_is_letter : Addr
  d_is_letter : FuncData
  F_is_letter : Fun K "is_letter" "is_letter" s_is_letter f_is_letter d_is_letter
  b_is_letter : Binds K d_is_letter ["thing"] []
  m_is_letter : mg "is_letter" = some (.ref f_is_letter)
  f_is_tree : Addr
  d_is_tree : FuncData
  F_is_tree : Fun K "is_tree" "is_tree" s_is_tree f_is_tree d_is_tree
  b_is_tree : Binds K d_is_tree ["thing"] []
  m_is_tree : mg "is_tree" = some (.ref f_is_tree)
  f__is_part : Addr
  d__is_part : FuncData
  F__is_part : Fun K "_is_part" "_is_part" s__is_part f__is_part d__is_part
  b__is_part : Binds K d__is_part ["thing"] []
  m__is_part : mg "_is_part" = some (.ref f__is_part)
  f_check_tree : Addr
  d_check_tree : FuncData
  F_check_tree : Fun K "check_tree" "check_tree" s_check_tree f_check_tree d_check_tree
  b_check_tree : Binds K d_check_tree ["thing"] []
  m_check_tree : mg "check_tree" = some (.ref f_check_tree)
  f_parts_upward : Addr
  d_parts_upward : FuncData
  F_parts_upward : Fun K "parts_upward" "parts_upward" s_parts_upward f_parts_upward d_parts_upward
  b_parts_upward : Binds K d_parts_upward ["tree"] []
  m_parts_upward : mg "parts_upward" = some (.ref f_parts_upward)
  f_built_upward : Addr
  d_built_upward : FuncData
  F_built_upward : Fun K "built_upward" "built_upward" s_built_upward f_built_upward d_built_upward
  b_built_upward : Binds K d_built_upward ["tree", "made"] []
  m_built_upward : mg "built_upward" = some (.ref f_built_upward)
  f_copied_tree : Addr
  d_copied_tree : FuncData
  F_copied_tree : Fun K "copied_tree" "copied_tree" s_copied_tree f_copied_tree d_copied_tree
  b_copied_tree : Binds K d_copied_tree ["tree"] []
  m_copied_tree : mg "copied_tree" = some (.ref f_copied_tree)
  f_check_surrounding : Addr
  d_check_surrounding : FuncData
  F_check_surrounding : Fun K "check_surrounding" "check_surrounding" s_check_surrounding f_check_surrounding d_check_surrounding
  b_check_surrounding : Binds K d_check_surrounding ["thing"] []
  m_check_surrounding : mg "check_surrounding" = some (.ref f_check_surrounding)
  f_put_into : Addr
  d_put_into : FuncData
  F_put_into : Fun K "put_into" "put_into" s_put_into f_put_into d_put_into
  b_put_into : Binds K d_put_into ["surrounding", "tree"] []
  m_put_into : mg "put_into" = some (.ref f_put_into)
  f__law_deck : Addr
  d__law_deck : FuncData
  F__law_deck : Fun K "_law_deck" "_law_deck" s__law_deck f__law_deck d__law_deck
  b__law_deck : Binds K d__law_deck ["script"] []
  m__law_deck : mg "_law_deck" = some (.ref f__law_deck)
  f__law_draw : Addr
  d__law_draw : FuncData
  F__law_draw : Fun K "_law_draw" "_law_draw" s__law_draw f__law_draw d__law_draw
  b__law_draw : Binds K d__law_draw ["deck", "many"] []
  m__law_draw : mg "_law_draw" = some (.ref f__law_draw)
  f__law_tree : Addr
  d__law_tree : FuncData
  F__law_tree : Fun K "_law_tree" "_law_tree" s__law_tree f__law_tree d__law_tree
  b__law_tree : Binds K d__law_tree ["deck", "letters", "left"] []
  m__law_tree : mg "_law_tree" = some (.ref f__law_tree)
  f__law_deep : Addr
  d__law_deep : FuncData
  F__law_deep : Fun K "_law_deep" "_law_deep" s__law_deep f__law_deep d__law_deep
  b__law_deep : Binds K d__law_deep ["tree"] []
  m__law_deep : mg "_law_deep" = some (.ref f__law_deep)
  f__law_due : Addr
  d__law_due : FuncData
  F__law_due : Fun K "_law_due" "_law_due" s__law_due f__law_due d__law_due
  b__law_due : Binds K d__law_due ["surrounding", "tree"] []
  m__law_due : mg "_law_due" = some (.ref f__law_due)
  f__law_same : Addr
  d__law_same : FuncData
  F__law_same : Fun K "_law_same" "_law_same" s__law_same f__law_same d__law_same
  b__law_same : Binds K d__law_same ["one", "other"] []
  m__law_same : mg "_law_same" = some (.ref f__law_same)
  f__law_spoil : Addr
  d__law_spoil : FuncData
  F__law_spoil : Fun K "_law_spoil" "_law_spoil" s__law_spoil f__law_spoil d__law_spoil
  b__law_spoil : Binds K d__law_spoil ["tree", "marks"] []
  m__law_spoil : mg "_law_spoil" = some (.ref f__law_spoil)
  f__law_right : Addr
  d__law_right : FuncData
  F__law_right : Fun K "_law_right" "_law_right" s__law_right f__law_right d__law_right
  b__law_right : Binds K d__law_right ["surrounding", "tree"] []
  m__law_right : mg "_law_right" = some (.ref f__law_right)
  f_law : Addr
  d_law : FuncData
  F_law : Fun K "law" "law" s_law f_law d_law
  b_law : Binds K d_law ["script"] []
  m_law : mg "law" = some (.ref f_law)
  c_copied_tree : Addr
  P_copied_tree : Addr
  h_copied_tree : d_copied_tree.code = .ref c_copied_tree
  z_all : mg "all" = none
  z_int : mg "int" = none
  z_isinstance : mg "isinstance" = none
  z_len : mg "len" = none
  z_list : mg "list" = none
  z_max : mg "max" = none
  z_min : mg "min" = none
  z_range : mg "range" = none
  z_str : mg "str" = none
  z_tuple : mg "tuple" = none
structure Tbs {K : PySem.W.Frag} {mg : Str → Option Value} (T : Txt K mg) (base : Heap) : Prop where
  tb_copied_tree : LamX.TabB base mg T.c_copied_tree T.P_copied_tree
abbrev q_copied_tree : Str := "copied_tree" ++ ".<locals>." ++ "<lambda>"
local macro_rules | `(tactic| walk_at "my rd") => `(tactic| repeat (first | refine ⟨_, rfl, ?_⟩ | refine ⟨_, _, rfl, rfl, ?_⟩ | refine ⟨rfl, ?_⟩))
local macro_rules | `(tactic| walk_at "my one") => `(tactic| first | refine ⟨_, rfl, ?_⟩ | refine ⟨_, _, rfl, rfl, ?_⟩ | refine ⟨rfl, ?_⟩)
def Chg (p : Addr) (H H' : Hp) : Prop := ∀ b, b ≠ p → H' b = H b
theorem Chg.refl (p : Addr) (H : Hp) : Chg p H H := fun _ _ => rfl
theorem Chg.trans {p : Addr} {H H1 H2 : Hp} (a : Chg p H H1) (b : Chg p H1 H2) : Chg p H H2 := fun c hc => (b c hc).trans (a c hc)
theorem Chg.upd {p : Addr} {H : Hp} {o : HO} : Chg p H (upd H p o) := fun _ h => upd_ne h
theorem Chg.at {p b : Addr} {H H' : Hp} {o : HO} (c : Chg p H H') (h : H b = some o) (n : b ≠ p) : H' b = some o := (c b n).trans h
theorem Chg.seq {K : PySem.W.Frag} {p a : Addr} {H H' : Hp} {xs : List V} (c : Chg p H H') (hp : H p = none) (h : SqL K H a xs) : SqL K H' a xs := by
  rcases h with (h | ⟨o, h⟩) | h
  · exact .inl (.inl (c.at h (ne_of_none h hp)))
  · exact .inl (.inr ⟨o, c.at h (ne_of_none h hp)⟩)
  · exact .inr h
theorem same_new {H : Hp} {p : Addr} {o : HO} (h : H p = none) : Same H (upd H p o) := fun b u q => by rw [upd_ne (ne_of_none q h)]; exact q
theorem nn_mul {a b A B : Int} (h0 : 0 ≤ a) (h1 : a ≤ A) (g0 : 0 ≤ b) (g1 : b ≤ B) : 0 ≤ a * b ∧ a * b ≤ A * B :=
  ⟨Int.mul_nonneg h0 g0, Int.mul_le_mul h1 g1 g0 (Int.le_trans h0 h1)⟩
theorem divW {i j : Int} (h : 0 < j) (h2 : j < 2 ^ 60) : CDivW i j := wide_div (b := 60) h (by omega) (by decide) (by decide)

theorem lay_ints : ∀ xs : List Int, PyData.canLayAll0 (xs.map PyData.int) = true
  | [] => by simp only [List.map_nil, PyData.canLayAll0]
  | x :: r => by simp only [List.map_cons, PyData.canLayAll0, PyData.canLay0, lay_ints r, Bool.and_self]
theorem dep_ints : ∀ xs : List Int, PyData.depthAll (xs.map PyData.int) ≤ 1
  | [] => by simp only [List.map_nil, PyData.depthAll]; omega
  | x :: r => by
    have := dep_ints r
    simp only [List.map_cons, PyData.depthAll, PyData.depth]
    omega
theorem shaped_ints (xs : List Int) : SeqAt.shaped (.list (xs.map PyData.int)) = true := by
  have a := lay_ints xs
  have b := dep_ints xs
  unfold SeqAt.shaped
  rw [Bool.and_eq_true]
  refine ⟨by simp only [PyData.canLay0]; exact a, decide_eq_true ?_⟩
  simp only [PyData.depth]
  omega
theorem dp_ints {K : PySem.W.Frag} {H : Hp} : ∀ xs : List Int, DpAll K H (xs.map V.int) (xs.map PyData.int)
  | [] => .nil
  | x :: r => .cons (.int x) (dp_ints r)
theorem dp_intsL {K : PySem.W.Frag} {H : Hp} {a : Addr} {xs : List Int} (h : SqL K H a (xs.map V.int)) : Dp K H (.ref a) (.list (xs.map PyData.int)) := .lst h (dp_ints xs)
theorem eqv_self {d : PyData} (h : SeqAt.shaped d = true) : PyData.eqv d d = true := SeqAt.eqv_refl d (SeqAt.canLay_of_shaped h)

inductive Tr where
  | node (c : Nat) (ks : List Tr)
def ch (c : Nat) : Str := ⟨#[c]⟩
mutual
def Tr.size : Tr → Nat
  | .node _ ks => 1 + sizes ks
def sizes : List Tr → Nat
  | [] => 0
  | t :: r => t.size + sizes r
end
mutual
def Tr.depth : Tr → Nat
  | .node _ ks => 1 + depths ks
def depths : List Tr → Nat
  | [] => 0
  | t :: r => max t.depth (depths r)
end
mutual
def Tr.post : Tr → List Tr
  | .node c ks => posts ks ++ [.node c ks]
def posts : List Tr → List Tr
  | [] => []
  | t :: r => t.post ++ posts r
end

mutual
def Tr.lets (p : Nat → Prop) : Tr → Prop
  | .node c ks => p c ∧ letss p ks
def letss (p : Nat → Prop) : List Tr → Prop
  | [] => True
  | t :: r => t.lets p ∧ letss p r
end
def Tr.kids : Tr → List Tr
  | .node _ ks => ks
def Tr.top : Tr → Nat
  | .node c _ => c
theorem sizes_append : ∀ a b : List Tr, sizes (a ++ b) = sizes a + sizes b
  | [], b => by simp only [List.nil_append, sizes]; omega
  | t :: r, b => by simp only [List.cons_append, sizes, sizes_append r b]; omega
theorem depths_append : ∀ a b : List Tr, depths (a ++ b) = max (depths a) (depths b)
  | [], b => by simp only [List.nil_append, depths]; omega
  | t :: r, b => by simp only [List.cons_append, depths, depths_append r b]; omega
theorem posts_append : ∀ a b : List Tr, posts (a ++ b) = posts a ++ posts b
  | [], b => by simp only [List.nil_append, posts]
  | t :: r, b => by simp only [List.cons_append, posts, posts_append r b, List.append_assoc]
theorem letss_append (p : Nat → Prop) : ∀ a b : List Tr, letss p (a ++ b) ↔ letss p a ∧ letss p b
  | [], b => by simp only [List.nil_append, letss, true_and]
  | t :: r, b => by simp only [List.cons_append, letss, letss_append p r b, and_assoc]
theorem size_pos : ∀ t : Tr, 1 ≤ t.size
  | .node c ks => by simp only [Tr.size]; omega
theorem len_sizes : ∀ ts : List Tr, ts.length ≤ sizes ts
  | [] => Nat.le_refl _
  | t :: r => by
    have a := size_pos t
    have b := len_sizes r
    simp only [List.length_cons, sizes]
    omega
mutual
theorem post_len : ∀ t : Tr, t.post.length = t.size
  | .node c ks => by simp only [Tr.post, List.length_append, posts_len ks, List.length_singleton, Tr.size]; omega
theorem posts_len : ∀ ts : List Tr, (posts ts).length = sizes ts
  | [] => rfl
  | t :: r => by simp only [posts, List.length_append, post_len t, posts_len r, sizes]
end
theorem sizes_mem : ∀ {ts : List Tr} {t : Tr}, t ∈ ts → t.size ≤ sizes ts
  | u :: r, t, h => by
    rcases List.mem_cons.mp h with e | h
    · subst e; simp only [sizes]; omega
    · have := sizes_mem h
      simp only [sizes]; omega
theorem depths_mem : ∀ {ts : List Tr} {t : Tr}, t ∈ ts → t.depth ≤ depths ts
  | u :: r, t, h => by
    rcases List.mem_cons.mp h with e | h
    · subst e; simp only [depths]; omega
    · have := depths_mem h
      simp only [depths]; omega
theorem letss_mem {p : Nat → Prop} : ∀ {ts : List Tr} {t : Tr}, letss p ts → t ∈ ts → t.lets p
  | u :: r, t, hl, h => by
    simp only [letss] at hl
    rcases List.mem_cons.mp h with e | h
    · subst e; exact hl.1
    · exact letss_mem hl.2 h
mutual
theorem lets_mono {p q : Nat → Prop} (h : ∀ c, p c → q c) : ∀ t : Tr, t.lets p → t.lets q
  | .node c ks, a => by
    simp only [Tr.lets] at a ⊢
    exact ⟨h _ a.1, letss_mono h ks a.2⟩
theorem letss_mono {p q : Nat → Prop} (h : ∀ c, p c → q c) : ∀ ts : List Tr, letss p ts → letss q ts
  | [], _ => trivial
  | t :: r, a => by
    simp only [letss] at a ⊢
    exact ⟨lets_mono h t a.1, letss_mono h r a.2⟩
end
mutual
inductive TrAt (ok : Addr → Prop) (H : Hp) : V → Tr → Prop
  | node {a l : Addr} {vs : List V} {c : Nat} {ks : List Tr} : H a = some (.tup [.str (ch c), .ref l]) → H l = some (.lst vs) → ok a → ok l → 97 ≤ c → c ≤ 122 → TrsAt ok H vs ks → TrAt ok H (.ref a) (.node c ks)
inductive TrsAt (ok : Addr → Prop) (H : Hp) : List V → List Tr → Prop
  | nil : TrsAt ok H [] []
  | cons {v : V} {vs : List V} {t : Tr} {ts : List Tr} : TrAt ok H v t → TrsAt ok H vs ts → TrsAt ok H (v :: vs) (t :: ts)
end
section
variable {ok ok' : Addr → Prop} {H H' : Hp}
mutual
theorem TrAt.imp (hk : ∀ b, ok b → ok' b) (h : ∀ b o, ok b → H b = some o → H' b = some o) : ∀ (t : Tr) (v : V), TrAt ok H v t → TrAt ok' H' v t
  | .node c ks, v, x => by
    cases x with
    | node h1 h2 k1 k2 c1 c2 r => exact .node (h _ _ k1 h1) (h _ _ k2 h2) (hk _ k1) (hk _ k2) c1 c2 (TrsAt.imp hk h ks _ r)
theorem TrsAt.imp (hk : ∀ b, ok b → ok' b) (h : ∀ b o, ok b → H b = some o → H' b = some o) : ∀ (ts : List Tr) (vs : List V), TrsAt ok H vs ts → TrsAt ok' H' vs ts
  | [], _, x => by cases x; exact .nil
  | t :: r, _, x => by
    cases x with
    | cons a b => exact .cons (TrAt.imp hk h t _ a) (TrsAt.imp hk h r _ b)
end
theorem TrAt.keep {v : V} {t : Tr} (x : TrAt ok H v t) (h : ∀ b o, ok b → H b = some o → H' b = some o) : TrAt ok H' v t := TrAt.imp (fun _ k => k) h t v x
theorem TrsAt.keep {vs : List V} {ts : List Tr} (x : TrsAt ok H vs ts) (h : ∀ b o, ok b → H b = some o → H' b = some o) : TrsAt ok H' vs ts := TrsAt.imp (fun _ k => k) h ts vs x
theorem TrAt.weak {v : V} {t : Tr} (x : TrAt ok H v t) (h : ∀ b, ok b → ok' b) : TrAt ok' H v t := TrAt.imp h (fun _ _ _ e => e) t v x
theorem TrsAt.weak {vs : List V} {ts : List Tr} (x : TrsAt ok H vs ts) (h : ∀ b, ok b → ok' b) : TrsAt ok' H vs ts := TrsAt.imp h (fun _ _ _ e => e) ts vs x
mutual
theorem TrAt.there : ∀ (t : Tr) (v : V), TrAt ok H v t → TrAt (fun b => ok b ∧ ∃ o, H b = some o) H v t
  | .node c ks, v, x => by
    cases x with
    | node h1 h2 k1 k2 c1 c2 r => exact .node h1 h2 ⟨k1, _, h1⟩ ⟨k2, _, h2⟩ c1 c2 (TrsAt.there ks _ r)
theorem TrsAt.there : ∀ (ts : List Tr) (vs : List V), TrsAt ok H vs ts → TrsAt (fun b => ok b ∧ ∃ o, H b = some o) H vs ts
  | [], _, x => by cases x; exact .nil
  | t :: r, _, x => by
    cases x with
    | cons a b => exact .cons (TrAt.there t _ a) (TrsAt.there r _ b)
end
theorem TrsAt.len : ∀ {vs : List V} {ts : List Tr}, TrsAt ok H vs ts → vs.length = ts.length
  | [], [], _ => rfl
  | v :: vs, t :: ts, h => by
    cases h with
    | cons a b => simp only [List.length_cons, TrsAt.len b]
  | [], _ :: _, h => by cases h
  | _ :: _, [], h => by cases h
theorem TrsAt.get : ∀ {vs : List V} {ts : List Tr} {i : Nat} {t : Tr}, TrsAt ok H vs ts → ts[i]? = some t → ∃ v, vs[i]? = some v ∧ TrAt ok H v t
  | _, _, i, t, .nil, e => by simp at e
  | _, _, 0, t, .cons a _, e => by simp at e; subst e; exact ⟨_, rfl, a⟩
  | _, _, i + 1, t, .cons _ b, e => by
    obtain ⟨v, h1, h2⟩ := TrsAt.get (i := i) (t := t) b (by simpa using e)
    exact ⟨v, by simpa using h1, h2⟩
theorem TrsAt.getV : ∀ {vs : List V} {ts : List Tr} {i : Nat} {v : V}, TrsAt ok H vs ts → vs[i]? = some v → ∃ t, ts[i]? = some t ∧ TrAt ok H v t
  | _, _, i, t, .nil, e => by simp at e
  | _, _, 0, t, .cons a _, e => by simp at e; subst e; exact ⟨_, rfl, a⟩
  | _, _, i + 1, t, .cons _ b, e => by
    obtain ⟨v, h1, h2⟩ := TrsAt.getV (i := i) (v := t) b (by simpa using e)
    exact ⟨v, by simpa using h1, h2⟩
theorem TrsAt.append : ∀ {vs ws : List V} {ts us : List Tr}, TrsAt ok H vs ts → TrsAt ok H ws us → TrsAt ok H (vs ++ ws) (ts ++ us)
  | [], _, [], _, _, h => h
  | v :: vs, _, t :: ts, _, h, g => by
    cases h with
    | cons a b => exact .cons a (TrsAt.append b g)
  | [], _, _ :: _, _, h, _ => by cases h
  | _ :: _, _, [], _, h, _ => by cases h
theorem TrsAt.split : ∀ {vs ws : List V} {ts : List Tr}, TrsAt ok H (vs ++ ws) ts → ∃ a b, ts = a ++ b ∧ TrsAt ok H vs a ∧ TrsAt ok H ws b
  | [], ws, ts, h => ⟨[], ts, rfl, .nil, h⟩
  | v :: vs, ws, _, h => by
    cases h with
    | cons x y =>
      obtain ⟨a, b, e, h1, h2⟩ := TrsAt.split y
      exact ⟨_ :: a, b, by rw [e]; rfl, .cons x h1, h2⟩
theorem TrsAt.perm {vs ws : List V} (p : vs.Perm ws) : ∀ {ts : List Tr}, TrsAt ok H vs ts → ∃ us, ts.Perm us ∧ TrsAt ok H ws us := by
  induction p with
  | nil => intro ts h; exact ⟨ts, .refl _, h⟩
  | cons x _ ih =>
    intro ts h
    cases h with
    | cons a b =>
      obtain ⟨us, p1, h1⟩ := ih b
      exact ⟨_ :: us, p1.cons _, .cons a h1⟩
  | swap x y l =>
    intro ts h
    cases h with
    | cons a b =>
      cases b with
      | cons c d => exact ⟨_, .swap _ _ _, .cons c (.cons a d)⟩
  | trans _ _ ih1 ih2 =>
    intro ts h
    obtain ⟨us, p1, h1⟩ := ih1 h
    obtain ⟨ws, p2, h2⟩ := ih2 h1
    exact ⟨ws, p1.trans p2, h2⟩
theorem TrsAt.rev {vs : List V} {ts : List Tr} (h : TrsAt ok H vs ts) : TrsAt ok H vs.reverse ts.reverse := by
  induction vs generalizing ts with
  | nil => cases h; exact .nil
  | cons v vs ih =>
    cases h with
    | cons a b =>
      rw [List.reverse_cons, List.reverse_cons]
      exact (ih b).append (.cons a .nil)
end
theorem sizes_perm {a b : List Tr} (p : a.Perm b) : sizes a = sizes b := by
  induction p with
  | nil => rfl
  | cons x _ ih => simp only [sizes, ih]
  | swap x y l => simp only [sizes]; omega
  | trans _ _ ih1 ih2 => exact ih1.trans ih2
theorem depths_perm {a b : List Tr} (p : a.Perm b) : depths a = depths b := by
  induction p with
  | nil => rfl
  | cons x _ ih => simp only [depths, ih]
  | swap x y l => simp only [depths]; omega
  | trans _ _ ih1 ih2 => exact ih1.trans ih2
theorem letss_perm {p : Nat → Prop} {a b : List Tr} (h : a.Perm b) : letss p a → letss p b := by
  induction h with
  | nil => exact id
  | cons x _ ih =>
    intro q
    simp only [letss] at q ⊢
    exact ⟨q.1, ih q.2⟩
  | swap x y l =>
    intro q
    simp only [letss] at q ⊢
    exact ⟨q.2.1, q.1, q.2.2⟩
  | trans _ _ ih1 ih2 => exact fun q => ih2 (ih1 q)
mutual
inductive Sh : Tr → Tr → Prop
  | node {c : Nat} {ks us ls : List Tr} : ks.Perm us → Shs us ls → Sh (.node c ks) (.node c ls)
inductive Shs : List Tr → List Tr → Prop
  | nil : Shs [] []
  | cons {t u : Tr} {ts us : List Tr} : Sh t u → Shs ts us → Shs (t :: ts) (u :: us)
end
mutual
theorem Sh.refl : ∀ t : Tr, Sh t t
  | .node c ks => .node (.refl _) (Shs.refl ks)
theorem Shs.refl : ∀ ts : List Tr, Shs ts ts
  | [] => .nil
  | t :: r => .cons (Sh.refl t) (Shs.refl r)
end
mutual
theorem Sh.size : ∀ {t u : Tr}, Sh t u → t.size = u.size
  | _, _, .node p h => by simp only [Tr.size, sizes_perm p, Shs.sizes h]
theorem Shs.sizes : ∀ {ts us : List Tr}, Shs ts us → My.sizes ts = My.sizes us
  | _, _, .nil => rfl
  | _, _, .cons a b => by simp only [My.sizes, Sh.size a, Shs.sizes b]
end
mutual
theorem Sh.depth : ∀ {t u : Tr}, Sh t u → t.depth = u.depth
  | _, _, .node p h => by simp only [Tr.depth, depths_perm p, Shs.depths h]
theorem Shs.depths : ∀ {ts us : List Tr}, Shs ts us → My.depths ts = My.depths us
  | _, _, .nil => rfl
  | _, _, .cons a b => by simp only [My.depths, Sh.depth a, Shs.depths b]
end
mutual
theorem Sh.lets {p : Nat → Prop} : ∀ {t u : Tr}, Sh t u → t.lets p → u.lets p
  | _, _, .node q h, a => by
    simp only [Tr.lets] at a ⊢
    exact ⟨a.1, Shs.letss h (letss_perm q a.2)⟩
theorem Shs.letss {p : Nat → Prop} : ∀ {ts us : List Tr}, Shs ts us → My.letss p ts → My.letss p us
  | _, _, .nil, a => a
  | _, _, .cons x y, a => by
    simp only [My.letss] at a ⊢
    exact ⟨Sh.lets x a.1, Shs.letss y a.2⟩
end
theorem Shs.len : ∀ {ts us : List Tr}, Shs ts us → ts.length = us.length
  | _, _, .nil => rfl
  | _, _, .cons a b => by simp only [List.length_cons, Shs.len b]
theorem Shs.append : ∀ {ts us ts' us' : List Tr}, Shs ts us → Shs ts' us' → Shs (ts ++ ts') (us ++ us')
  | _, _, _, _, .nil, h => h
  | _, _, _, _, .cons a b, h => .cons a (Shs.append b h)

def Fr (p : Addr) (H H' : Hp) : Prop := ∀ b o, b ≠ p → H b = some o → H' b = some o
theorem Fr.refl (p : Addr) (H : Hp) : Fr p H H := fun _ _ _ h => h
theorem Fr.trans {p : Addr} {H H1 H2 : Hp} (a : Fr p H H1) (b : Fr p H1 H2) : Fr p H H2 := fun c o n h => b c o n (a c o n h)
theorem Fr.same {p : Addr} {H H' : Hp} (s : Same H H') : Fr p H H' := fun b o _ h => s b o h
theorem Fr.chg {p : Addr} {H H' : Hp} (c : Chg p H H') : Fr p H H' := fun _ _ n h => c.at h n
theorem Fr.new {p q : Addr} {H H' : Hp} {o : HO} (f : Fr p H H') (h : H q = none) : Fr p H (upd H' q o) := fun b u n e => by
  rw [upd_ne (ne_of_none e h)]
  exact f b u n e
theorem same_add {q : Addr} {H H' : Hp} {o : HO} (f : Same H H') (h : H q = none) : Same H (upd H' q o) := fun b u e => by
  rw [upd_ne (ne_of_none e h)]
  exact f b u e
theorem Fr.free {p q : Addr} {H H' : Hp} (f : Fr p H H') (hp : H' p ≠ none) (h : H' q = none) : H q = none := by
  cases e : H q with
  | none => rfl
  | some o =>
    by_cases hq : q = p
    · subst hq; exact absurd h hp
    · rw [f q o hq e] at h; cases h
theorem Fr.seq {K : PySem.W.Frag} {p a : Addr} {H H' : Hp} {xs : List V} (c : Fr p H H') (hp : H p = none) (h : SqL K H a xs) : SqL K H' a xs := by
  rcases h with (h | ⟨o, h⟩) | h
  · exact .inl (.inl (c _ _ (ne_of_none h hp) h))
  · exact .inl (.inr ⟨o, c _ _ (ne_of_none h hp) h⟩)
  · exact .inr h
theorem TrAt.same {ok : Addr → Prop} {H H' : Hp} {v : V} {t : Tr} (x : TrAt ok H v t) (s : Same H H') : TrAt ok H' v t := x.keep fun b o _ h => s b o h
theorem TrsAt.same {ok : Addr → Prop} {H H' : Hp} {vs : List V} {ts : List Tr} (x : TrsAt ok H vs ts) (s : Same H H') : TrsAt ok H' vs ts := x.keep fun b o _ h => s b o h
theorem TrAt.off {ok : Addr → Prop} {H : Hp} {v : V} {t : Tr} {w : Addr} (x : TrAt ok H v t) (h : H w = none) : TrAt (fun b => ok b ∧ b ≠ w) H v t :=
  (TrAt.there t v x).weak fun b ⟨k, o, e⟩ => ⟨k, ne_of_none e h⟩
theorem TrsAt.off {ok : Addr → Prop} {H : Hp} {vs : List V} {ts : List Tr} {w : Addr} (x : TrsAt ok H vs ts) (h : H w = none) : TrsAt (fun b => ok b ∧ b ≠ w) H vs ts :=
  (TrsAt.there ts vs x).weak fun b ⟨k, o, e⟩ => ⟨k, ne_of_none e h⟩
theorem upd_keep {H : Hp} {w : Addr} {o : HO} {ok : Addr → Prop} (h : ∀ b, ok b → b ≠ w) : ∀ b u, ok b → H b = some u → (upd H w o) b = some u := fun b u k e => by
  rw [upd_ne (h b k)]
  exact e
theorem lc_outer {K : PySem.W.Frag} {a : Addr} {xs : List V} {Bd : V → Hp → (Hp → Prop) → Prop} {Qd : Hp → Prop} {H0 : Hp} (Pv : Nat → Hp → Prop) (h0 : Pv 0 H0) (hl : ∀ i H, i ≤ xs.length → Pv i H → SqL K H a xs)
    (hs : ∀ i x H, xs[i]? = some x → Pv i H → Bd x H (Pv (i + 1))) (hd : ∀ H, Pv xs.length H → Qd H) :
    ∃ W : Nat → Nat → Hp → Prop, (∃ m, W 0 m H0) ∧ ∀ i m H, W i m H → ((Itl K a).stop i H ∧ Qd H) ∨ ((Itl K a).go i H ∧ ∃ Nx : Hp → Prop, (∀ H', Nx H' → ∃ m', m' < m ∧ W (i + 1) m' H') ∧ ∀ x H', (Itl K a).yld i H x H' → Bd x H' Nx) := by
  refine ⟨fun i m H => m = xs.length - i ∧ i ≤ xs.length ∧ Pv i H, ⟨xs.length, by simp, Nat.zero_le _, h0⟩, ?_⟩
  rintro i m H ⟨rfl, hi, p⟩
  have q := hl i H hi p
  by_cases hlt : i < xs.length
  · refine .inr ⟨⟨xs, xs[i], q, by simp [hlt]⟩, Pv (i + 1), fun H' p' => ⟨xs.length - (i + 1), by omega, rfl, hlt, p'⟩, fun x H' y => ?_⟩
    obtain ⟨e, y⟩ := y
    subst e
    exact hs i x _ (y xs q) p
  · have e : i = xs.length := by omega
    subst e
    exact .inl ⟨⟨xs, q, Nat.le_refl _⟩, hd H p⟩
theorem take_succ_of {α : Type} {l : List α} {i : Nat} {x : α} (h : l[i]? = some x) : l.take (i + 1) = l.take i ++ [x] := by
  rw [List.take_add_one, h]
  rfl

def RowL (params : Arguments) (scope : PySem.Scope) (body : PySem.Expr) : Prop :=
  (∃ (x : Str) (p1 p2 p3 : Pos) (k0 : Nat), body = .Subscript (.Name x p1) (.Constant (.int 0) k0 p2) p3 ∧ (x == Str.ofString "__debug__") = false ∧ scope.names = [(x, .local)] ∧
    ∀ (fd : FuncData) (u : Value), fd.params = params → fd.defaults = .none → fd.kwdefaults = .none → bindArgs fd ⟨[u], []⟩ = pure [(x, u)]) ∧
  scope.kind = .function ∧ scope.isGenerator = false ∧ scope.isCoroutine = false
theorem row_call {P : Program} {w : World} {A : Around} {s : Shared} {f p c' : Addr} {nm q : Str} {params : Arguments} {scope : PySem.Scope} {body : PySem.Expr} {clos : List (Str × Addr)} {pm ctv : Value} {its : Array Value} {x : Str} {tx : Tok}
    (R : RowL params scope body) (hd : A.depth < recursionLimit) (hf : s.heap.get? f = some (PySem.W.kla_obj nm q params body scope clos pm c' ctv))
    (hc : s.heap.CodeRec (.ref c') q) (hn : s.heap.NoLimit) (ht : IsTup s.heap p its) (h0 : its[0]? = some (.str x tx)) :
    wpAny (model P w) A (call (.ref f) [.ref p]) (PySem.W.KeyPure (.str x) s) (fun _ _ => False) s := by
  obtain ⟨⟨z, p1, p2, p3, k0, rfl, hz, hnm, hb⟩, hk, hg, ho⟩ := R
  refine wpAny_call ?_
  refine PySem.W.kla_callFunE hd hf rfl ho hg rfl hc ?_
  refine BindsTo.of_eq (hb _ _ rfl rfl rfl) _ _ _ _ ?_
  refine wpAny_newFunctionEnv (by intro y hy; rw [show (PySem.W.kla_fn nm q params _ scope clos pm (.ref c') ctv).scope.names = _ from hnm] at hy; simp only [List.mem_singleton] at hy; subst hy; simp) (by intro y hy; simp only [List.mem_singleton] at hy; subst hy; rw [show (PySem.W.kla_fn nm q params _ scope clos pm (.ref c') ctv).scope.names = _ from hnm]; simp) (fun h' hns hsame => ?_) hk
  have hkeep : ∀ b o, s.heap.get? b = some o → h'.get? b = some o := by
    intro b o hb
    have hne : b ≠ s.heap.objs.size := fun e => by
      rw [e] at hb
      simp [Heap.get?] at hb
    rw [hsame.2 b hne]
    exact Heap.get?_push_of_some _ hb
  refine ⟨hn.keeps hkeep, PySem.W.kla_codeExpr ?_⟩
  refine Subscript_Constant (wpAny_Name (wpAny_loadName_local (m := fun y => List.lookup y [(z, Value.ref p)].reverse) (v := .ref p) hk ?_ hns ?_ ?_) hz)
  · simp [Env.kindOf, newEnv, hnm]
  · simp
  refine wpAny_Constant_int ?_
  obtain ⟨o, g1, g2, n, g3⟩ := ht
  have ht' : IsTup h' p its := ⟨o, hkeep _ _ g1, g2, n, g3⟩
  refine ⟨"tuple", _, rfl, ⟨o, hkeep _ _ g1, g2⟩, ?_⟩
  have hz0 : its.size ≠ 0 := fun e => by
    rw [Array.getElem?_eq_none (by omega)] at h0
    cases h0
  refine getItem_tuple (j := 0) ht' (by decide) (by decide) ?_ h0 ?_
  · simp [seqIndex?]
    intro e
    rw [e] at hz0
    exact hz0 rfl
  exact ⟨h', _, rfl, hkeep, .str _ _⟩

def leS (a b : V × Str) : Bool := decide (a.2.cps.toList ≤ b.2.cps.toList)
def RowO (f c : Addr) (q : Str) : HO := .ext fun h => ∃ nm params body scope clos pm ctv, h.get? f = some (PySem.W.kla_obj nm q params body scope clos pm c ctv) ∧ RowL params scope body
def rSortRow : List V → List V → Hp → VK → Prop := fun xs zs H Q => ∃ (a f c : Addr) (q : Str) (bs : List (V × Str)), xs = [.ref a] ∧ zs = [.ref f] ∧ H f = some (RowO f c q) ∧ H c = some (LamX.CodeO c q) ∧ H a = some (.lst (bs.map Prod.fst)) ∧
  (∀ b ∈ bs, ∃ p rest, b.1 = .ref p ∧ H p = some (.tup (.str b.2 :: rest))) ∧ bs.length ≤ sizeLine ∧ ∀ r, H r = none → Q (.ref r) (upd H r (.lst ((bs.mergeSort leS).map Prod.fst)))
def RowR (H : Hp) (v : Value) (b : V × Str) : Prop := RelV b.1 v ∧ ∃ p rest, b.1 = .ref p ∧ H p = some (.tup (.str b.2 :: rest))
theorem eachRow {H : Hp} : ∀ {bs : List (V × Str)} {its : List Value}, Vals (bs.map Prod.fst) its → (∀ b ∈ bs, ∃ p rest, b.1 = .ref p ∧ H p = some (.tup (.str b.2 :: rest))) → PySem.W.EachIs (RowR H) its bs
  | [], _, v, _ => by cases v; exact .nil
  | b :: r, _, v, h => by
    cases v with
    | cons g1 g2 => exact .cons ⟨g1, h b (by simp)⟩ (eachRow g2 fun x hx => h x (by simp [hx]))
theorem rowEach {H : Hp} : ∀ {bs : List (V × Str)} {its : List Value}, PySem.W.EachIs (RowR H) its bs → Vals (bs.map Prod.fst) its
  | [], _, v => by cases v; exact .nil
  | b :: r, _, v => by
    cases v with
    | cons g1 g2 => exact .cons g1.1 (rowEach g2)
theorem cr_sortRow {X : Cx} {k : Nat} (hr : Room k X.A) : CallRK X (.builtin "sorted") ["key"] rSortRow := by
  intro pins s σ H xs zs us ws Q I hv hw h
  obtain ⟨a, f, c, q, bs, rfl, rfl, hf, hc, ha, hp, hz, q2⟩ := h
  cases hv with
  | cons g1 g2 =>
  cases g2
  cases hw with
  | cons g3 g4 =>
  cases g4
  cases g1
  cases g3
  have oa := I.hok _ _ ha
  have of := I.hok _ _ hf
  have oc := I.hok _ _ hc
  obtain ⟨nm, params, body, scope, clos, pm, ctv, hfo, hR⟩ := of.1
  obtain ⟨oz, its, n, hits, hao⟩ := oa
  refine PySem.W.sorted_key_data (vs := its) (bs := bs) (R := RowR H) (f := .ref f) (b := false) (fun b => .str b.2) ⟨_, hao, rfl, n, rfl⟩ (eachRow hits hp) ?_ ?_ hz ?_ (ksk_s1 _ _) (fun x => ksk_l1 _ _) (fun x => ?_) (fun v x hv hx h tk hk => ?_) (fun out c' h' tk hk hn ho hl he => ?_)
  · intro d hd d' hd'
    simp only [List.mem_map] at hd hd'
    obtain ⟨_, _, rfl⟩ := hd
    obtain ⟨_, _, rfl⟩ := hd'
    rfl
  · refine .inr fun d hd => ?_
    simp only [List.mem_map] at hd
    obtain ⟨_, _, rfl⟩ := hd
    exact ⟨by simp, by simp⟩
  · intro x _
    have := hr.un
    have e : (PyData.str x.2).depth = 0 := rfl
    omega
  · rfl
  · obtain ⟨hv1, p, rest, e1, e2⟩ := hv
    obtain ⟨v1, w1⟩ := x
    dsimp only at e1 hv1 e2 hx ⊢
    subst e1
    cases hv1
    have op := I.hok _ _ e2
    obtain ⟨_, its2, g1, g2, g3, n2, g4⟩ := op
    cases g1 with
    | cons k1 k2 =>
    obtain ⟨tx, rfl⟩ := k1
    obtain ⟨oc', vs', t', c1, c2, c3⟩ := oc.1
    refine row_call (its := _) (x := w1) (tx := tx) hR ?_ (hk _ _ hfo) ⟨_, _, _, _, rfl, hk _ _ c1, c2, c3⟩ (I.nolimit.keeps hk) ⟨g2, hk _ _ g3, n2, g4⟩ (by simp)
    have := hr.dp
    show X.A.depth < recursionLimit
    omega
  · refine ⟨.ref (s.heap.objs.size + 1), _, I.laid (a := s.heap.objs.size + 1) (o := .lst ((bs.mergeSort leS).map Prod.fst)) hk (by omega) ?_, rfl, q2 _ ?_⟩
    · have e : PySem.W.dataLe false (fun b : V × Str => PyData.str b.2) = leS := PySem.W.dataLe_str _
      rw [e] at he
      exact ⟨by simpa using hz, out, c', rowEach he, ho⟩
    · exact I.hok.fresh (by omega)
theorem rowO_ok {P : Program} {w : World} {H : Hp} {h : Heap} {c : Addr} {nm q : Str} {params : Arguments} {scope : PySem.Scope} {body : PySem.Expr} {clos : List (Str × Addr)} {pm ctv : Value} (hR : RowL params scope body) :
    ObjOk P w H (h.push (PySem.W.kla_obj nm q params body scope clos pm c ctv)) h.objs.size (RowO h.objs.size c q) := by
  have e : (h.push (PySem.W.kla_obj nm q params body scope clos pm c ctv)).get? h.objs.size = some (PySem.W.kla_obj nm q params body scope clos pm c ctv) := Heap.get?_push_size _ rfl
  refine ⟨⟨_, _, _, _, _, _, _, e, hR⟩, ⟨_, e⟩, fun h1 h2 ⟨a1, a2, a3, a4, a5, a6, a7, e1, e2⟩ k => ⟨a1, a2, a3, a4, a5, a6, a7, k _ e1, e2⟩⟩
theorem pe_lamRow {X : Cx} {c P : Addr} {params : Arguments} {body : PySem.Expr} {scope : PySem.Scope} {pos : Pos} (tb : LamX.TabB X.base X.mg c P) (hc : X.env.code = .ref c) (hd : defaultsOf params X.env = ([], []))
    (hR : RowL params scope body) : PE X (.Lambda params body scope pos) (fun σ H Q => LamX.TabS H P (X.env.qual ++ "<lambda>") ∧ ∀ (f c : Addr) (H1 : Hp), Fr P H H1 → LamX.TabS H1 P (X.env.qual ++ "<lambda>") → H1 f = some (RowO f c (X.env.qual ++ "<lambda>")) → H1 c = some (LamX.CodeO c (X.env.qual ++ "<lambda>")) → Q (.ref f) H1) := by
  refine ⟨fun pins s σ H Q I h => ?_⟩
  obtain ⟨ht, q⟩ := h
  have hclo : closureFor scope X.env = pure (cloFrom X.env.cells scope.names []) := by
    refine closure_ok ?_
    intro y hy he
    obtain ⟨⟨z, p1, p2, p3, k0, rfl, hz, hnm, hb⟩, hk, hg, ho⟩ := hR
    rw [hnm] at hy
    simp only [List.mem_singleton] at hy
    subst hy
    cases he
  have ht' := ht
  obtain ⟨ps, hP, hT, hA⟩ := ht'
  have oP : s.heap.get? P = some (PySem.W.tabObj ps) := I.hok _ _ hP
  refine PySem.W.kla_eval hd ?_
  cases hcd : codeAmong pos ps.toList with
  | some cv =>
    obtain ⟨c', rfl, hc'⟩ := hA _ _ hcd
    refine PySem.W.kla_makeFunctionHit hclo I.ok.glob (I.mod.glob.keeps I.bk) hc (tb.code.keeps I.bk) oP hT hcd (tb.bm.keeps I.bk) (fun ctv h' tk hk hs => ?_)
    have I1 := I.kept (t' := tk) hk
    have hz : s.heap.objs.size ≤ h'.objs.size := hs
    have hn : H h'.objs.size = none := I.hok.fresh hz
    refine ⟨.ref h'.objs.size, upd H h'.objs.size (RowO h'.objs.size c' (X.env.qual ++ "<lambda>")), ?_, rfl, q _ c' _ (fun b o _ hb => ?_) (ht.ext fun b o hb => ?_) upd_same ?_⟩
    · exact I1.laid (h' := h'.push _) (t' := tk) (fun b u hb => Heap.get?_push_of_some _ hb) (Nat.le_refl _) (rowO_ok hR)
    · rw [upd_ne (ne_of_none hb hn)]; exact hb
    · rw [upd_ne (ne_of_none hb hn)]; exact hb
    · rw [upd_ne (ne_of_none hc' hn)]; exact hc'
  | none =>
    refine PySem.W.kla_makeFunction hclo I.ok.glob (I.mod.glob.keeps I.bk) hc (tb.code.keeps I.bk) oP hT hcd tb.gP (tb.bm.keeps I.bk) (fun c' ctv h' tk he hl hu hrec hP' => ?_)
    obtain ⟨c2, o2, vs2, t2, ec, e1, e2, e3⟩ := hrec
    cases ec
    have I2 := LamX.inv_table (t' := tk) (c := c') (q := X.env.qual ++ "<lambda>") I hP he (more := #[rawInt ↑pos.line, rawInt ↑pos.col, .ref c']) hP' hl ⟨_, _, _, e1, e2, e3⟩
    have hn : (upd (upd H P (.tbl (ps ++ #[rawInt ↑pos.line, rawInt ↑pos.col, .ref c']))) c' (LamX.CodeO c' (X.env.qual ++ "<lambda>"))) h'.objs.size = none := I2.hok.fresh (Nat.le_refl _)
    have hcn : H c' = none := I.hok.fresh hl
    have hPc : P ≠ c' := fun e => by rw [e] at hP; rw [hcn] at hP; cases hP
    refine ⟨.ref h'.objs.size, _, I2.laid (h' := h'.push _) (o := RowO h'.objs.size c' (X.env.qual ++ "<lambda>")) (t' := tk) (fun b u hb => Heap.get?_push_of_some _ hb) (Nat.le_refl _) (rowO_ok hR), rfl, q _ c' _ ?_ ?_ upd_same ?_⟩
    · intro b o hbP hb
      have h1 : (upd (upd H P (.tbl (ps ++ #[rawInt ↑pos.line, rawInt ↑pos.col, .ref c']))) c' (LamX.CodeO c' (X.env.qual ++ "<lambda>"))) b = some o := by
        rw [upd_ne (ne_of_none hb hcn), upd_ne hbP]; exact hb
      rw [upd_ne (ne_of_none h1 hn)]; exact h1
    · refine LamX.TabS.ext (H := upd (upd H P (.tbl (ps ++ #[rawInt ↑pos.line, rawInt ↑pos.col, .ref c']))) c' (LamX.CodeO c' (X.env.qual ++ "<lambda>"))) ?_ (fun b o hb => by rw [upd_ne (ne_of_none hb hn)]; exact hb)
      refine ⟨_, by rw [upd_ne hPc]; exact upd_same, ?_, ?_⟩
      · simpa using TriplesOk_snoc _ _ _ _ hT
      · intro pos2 cv hcv
        rw [Array.toList_append] at hcv
        rcases LamX.among_app _ hT hcv with h | h
        · obtain ⟨c3, e3, h3⟩ := hA _ _ h
          refine ⟨c3, e3, ?_⟩
          rw [upd_ne (ne_of_none h3 hcn), upd_ne (fun e => by rw [e, hP] at h3; cases h3)]
          exact h3
        · exact ⟨c', h, upd_same⟩
    · have h1 : (upd (upd H P (.tbl (ps ++ #[rawInt ↑pos.line, rawInt ↑pos.col, .ref c']))) c' (LamX.CodeO c' (X.env.qual ++ "<lambda>"))) c' = some (LamX.CodeO c' (X.env.qual ++ "<lambda>")) := upd_same
      rw [upd_ne (ne_of_none h1 hn)]; exact h1

theorem okC {P : Program} {w : World} {K : PySem.W.Frag} {mg : Str → Option Value} {base : Heap} {x qual : Str} {st : Stmt} {f c : Addr} {fd : FuncData} {N ps : List Str} {k : Nat} {sp : Sp} (F : Fun K x qual st f fd) (hc : fd.code = .ref c) (S : FnScope N ps (defScope st))
    (len : ∀ vs H Q E, sp vs H Q E → vs.length = ps.length)
    (hb : ∀ (A : Around) (outer : List Env) (s : Shared) (H : Hp) (vs : List V) (Q : VK) (E : XK), Room k (A.deeper (envOfC qual (defScope st) s.heap.objs.size f (.ref c))) → sp vs H Q E →
      ∃ t, PSs (cxOf CX0 P w K mg base N qual (defScope st) f (.ref c) A outer s H E).nox (defBody st) t ∧ t { nx := fun _ H' => Q .non H', rt := Q } (L2.start N vs) H) : FnOk P w K mg base CX0 (k + 1) f fd ps sp := by
  obtain ⟨oc, od, kV, doc, pm, an, cdv, ct, osl, rfl, lk, hcd⟩ := F.ex
  cases hc
  exact fn_of lk hcd S len fun A outer s H vs Q E hr hsp => by
    obtain ⟨t, h, q⟩ := hb A outer s H vs Q E hr hsp
    exact ⟨t, h.nox, q⟩
theorem rowL_mk {x : Str} {p0 p1 p2 p3 : Pos} {k0 : Nat} {scope : PySem.Scope} (hz : (x == Str.ofString "__debug__") = false) (hn : scope.names = [(x, .local)]) (hk : scope.kind = .function) (hg : scope.isGenerator = false) (hc : scope.isCoroutine = false)
    (hb : ∀ (nm q : Str) (b : FuncBody) (sc : PySem.Scope) (g : Addr) (cl : List (Str × Addr)) (pm an : Value) (cd : Option Addr) (ct bl : Value) (bu : Addr) (u : Value), bindArgs ⟨nm, q, { posonlyargs := [], args := [{ arg := x, annotation := none, pos := p0 }], vararg := none, kwonlyargs := [], kw_defaults := [], kwarg := none, defaults := [] }, b, sc, g, cl, .none, .none, pm, an, cd, ct, bl, bu⟩ ⟨[u], []⟩ = pure [(x, u)]) :
    RowL { posonlyargs := [], args := [{ arg := x, annotation := none, pos := p0 }], vararg := none, kwonlyargs := [], kw_defaults := [], kwarg := none, defaults := [] } scope (.Subscript (.Name x p1) (.Constant (.int 0) k0 p2) p3) := by
  refine ⟨⟨x, p1, p2, p3, k0, rfl, hz, hn, fun fd u e1 e2 e3 => ?_⟩, hk, hg, hc⟩
  obtain ⟨nm, q, pr, b, sc, g, cl, d, kd, pm, an, cd, ct, bl, bu⟩ := fd
  subst e1 e2 e3
  exact hb _ _ _ _ _ _ _ _ _ _ _ _ _
def spLawT (K : PySem.W.Frag) (Ps : List Addr) : Sp := fun vs H Q _ => ∃ (a : Addr) (ns : List Int), vs = [.ref a] ∧ SqL K H a (ns.map V.int) ∧ ns.length ≤ 63 ∧ (∀ P ∈ Ps, H P = some (.tbl #[])) ∧ ∀ H', Q (.bl true) H'
def LawT (l : PySem.W.OpenLaw) (w : World) (K : PySem.W.Frag) (k : Nat) (x : Str) (mg : Str → Option Value) (fa : Addr) (cs : List (Str × Addr × Addr)) : Prop :=
  (∀ z ∈ cs, PySem.W.tabIn K z.1 = some (z.2.1, z.2.2) ∧ K.lookup z.2.2 = none) ∧ ∃ fd : FuncData, (∀ (s : Shared) (v : Value), BindsTo s fd ⟨[v], []⟩ [(x, v)]) ∧
    ∀ base : Heap, K.In base → base.Ns mainGlobals mg → (∀ z ∈ cs, LamX.TabB base mg z.2.1 z.2.2) → FnOk l.prog w K mg base CX0 k fa fd [x] (spLawT K (cs.map fun z => z.2.2))
theorem walk_ofT {l : PySem.W.OpenLaw} {n k : Nat} {q : Program} {loose : List Str} {XP : (Str → Option Value) → Heap → Prop} {YP : World → Heap → Prop} {d : DefRec} {K : Params → PySem.W.Frag} {x : Str}
    (hn : l.most = some n) (hz : n ≤ sizeLine) (h63 : n ≤ 63) (hd : d.params.defaults = []) (hr : Room k callerA) (hY : ∀ w h, YP w h → (K w.params).In h) (names : List Str)
    (hR : (names.all fun z => (recsOf q).any fun e => e.name == z) = true)
    (hF : ∀ (w : World) (mg : Str → Option Value) (fa : Addr) (h : Heap), (K w.params).In h → h.Ns mainGlobals mg → mg d.name = some (.ref fa) → ∃ cs : List (Str × Addr × Addr), cs.map Prod.fst = names ∧ LawT l w (K w.params) k x mg fa cs) :
    PySem.W.WalkO q loose XP YP l.row.toRowW d [] fun f vs => call f vs := by
  refine Att.attach_callB hn hd fun w s0 s1 mg mb fa o pm cd doc a vs ns G Y ho hod hcr hmg ha hi hl hb hg => ?_
  obtain ⟨cs, hcs, hT, fd, hB, hOk⟩ := hF w mg fa s1.heap (hY w _ Y) G.T.g hmg
  have key : ∀ z ∈ cs, PySem.W.CodeHd s1.heap z.2.1 z.2.2 ∧ s1.heap.get? z.2.2 = some (PySem.W.tabObj #[]) := by
    intro z hz
    have h1 : z.1 ∈ names := by rw [← hcs]; exact List.mem_map_of_mem hz
    have h2 := List.all_eq_true.mp hR _ h1
    cases hf : (recsOf q).find? fun e => e.name == z.1 with
    | none =>
      rw [List.find?_eq_none] at hf
      rw [List.any_eq_true] at h2
      obtain ⟨e, he, h3⟩ := h2
      exact absurd h3 (hf e he)
    | some dd => exact PySem.W.tab_of G.T (hY w _ Y) hf (hT z hz).1
  refine LamX.law_callTs (K := K w.params) (cs := cs.map fun z => z.2) (hY w _ Y) G.T.g G.T.b G.T.builtins G.T.nolimit hg ?_ ?_ ?_ G.T.bmain ha hi (Nat.le_trans hl hz) hr (fun base h1 h2 h3 => hOk base h1 h2 fun z hz => h3 _ (List.mem_map_of_mem hz)) (fun s u => hB s u) (fun H hH hS => ⟨a, ns, rfl, hS, ?_, ?_, fun _ => rfl⟩) (fun _ _ _ h => h)
  · intro p hp
    obtain ⟨z, hz, rfl⟩ := List.mem_map.mp hp
    exact (key z hz).2
  · intro p hp
    obtain ⟨z, hz, rfl⟩ := List.mem_map.mp hp
    exact (hT z hz).2
  · intro p hp
    obtain ⟨z, hz, rfl⟩ := List.mem_map.mp hp
    exact (key z hz).1
  · exact Nat.le_trans hl h63
  · intro P hP
    obtain ⟨z, hz, rfl⟩ := List.mem_map.mp hP
    exact hH _ (List.mem_map_of_mem hz)

theorem take_zip {α : Type} (sel : Nat → Bool) (j : Nat) : ∀ (xs : List α) (i : Nat), (∀ k, k < i + xs.length → sel k = decide (j ≤ k)) → (xs.zipIdx i).filterMap (fun x => if sel x.2 = true then none else some x.1) = xs.take (j - i)
  | [], i, _ => by simp
  | x :: r, i, hs => by
    rw [List.zipIdx_cons, List.filterMap_cons]
    have ih := take_zip sel j r (i + 1) fun k hk => hs k (by rw [List.length_cons]; omega)
    have h0 := hs i (by rw [List.length_cons]; omega)
    by_cases h : j ≤ i
    · have e : j - i = 0 := by omega
      have e2 : j - (i + 1) = 0 := by omega
      rw [e2] at ih
      simp only [h0, h, decide_true, if_true, e, List.take_zero]
      simpa using ih
    · have e : j - i = (j - (i + 1)) + 1 := by omega
      rw [e, List.take_succ_cons, ← ih]
      simp [h0, h]
theorem run_delFrom {P : Program} {w : World} {A : Around} {E : Value → Shared → Prop} {s : Shared} {l sl : Addr} {items : Array Value} {n j : Nat} {t : Tok} {Q : Unit → Shared → Prop}
    (hl : s.heap.get? l = some { cls := Value.type "list", data := Data.seq items n }) (hs : s.heap.get? sl = some { cls := .type "slice", data := .fields #[.int j t, .none, .none] }) (hj : j ≤ items.size) (hz : items.size ≤ sizeLine)
    (q : ∀ f : Array Value → Array Value, f items = (items.toList.take j).toArray → Q () { s with heap := s.heap.update l (Obj.mapSeq f) }) :
    wpAny (model P w) A (delItem (.ref l) (.ref sl)) Q E s := by
  refine wpAny_delItem_slot (T := "list") ⟨_, hl, rfl⟩ (by decide) PySem.F.slot_list_delitem ?_
  refine wpAny_call_entry PySem.F.slot_list_delitem ⟨_, hl, rfl⟩ PySem.F.entry_list_delitem ?_ (PySem.F.args_list_delitem_2 _ _)
  show wpAny _ _ (do
      let __x ← slotArgs "__delitem__" 1 { pos := [.ref l, .ref sl] }
      _) _ _ _
  refine wpAny_bind (wpAny_pure ?_)
  refine wpAny_bind ?_
  refine wpAny_bind (wpAny_specialOf (T := "slice") (r := none) ⟨_, hs, rfl⟩ rfl ?_)
  refine wpAny_pure ?_
  refine wpAny_bind (wpAny_typeOf (T := "slice") ⟨_, hs, rfl⟩ ?_)
  dsimp only
  rw [if_neg (by decide)]
  refine wpAny_bind ?_
  rw [listSliceParts_eq]
  refine wpAny_bind (wpAny_field hs rfl (i := 2) rfl (wpAny_bind (wpAny_listPart .none ?_)))
  dsimp only [rawPart]
  rw [if_neg (by decide)]
  refine wpAny_bind (wpAny_field hs rfl (i := 0) rfl (wpAny_bind (wpAny_listPart (.int _ _) ?_)))
  refine wpAny_bind (wpAny_field hs rfl (i := 1) rfl (wpAny_bind (wpAny_listPart .none (wpAny_pure ?_))))
  dsimp only
  refine wpAny_bind (wpAny_listItems hl rfl ?_)
  have eb : sliceBounds (some (j : Int)) none none items.size = ((j : Int), (items.size : Int), 1) := by
    simp [sliceBounds]
    omega
  rw [show sliceIndices (rawPart (some (j : Int))) (rawPart none) .none items.size = pure (sliceBounds (some (j : Int)) none none items.size) from sliceIndices_raw (some (j : Int)) none none items.size (by simp), eb]
  refine wpAny_bind (wpAny_pure ?_)
  dsimp only
  refine wpAny_bind (wpAny_rule ?_)
  refine wpAny_bind (wpAny_updateSeq hl rfl (wpAny_bind (wpAny_letGo (wpAny_pure ⟨_, rfl, q _ ?_⟩))) hz ?_)
  · refine congrArg List.toArray ((take_zip (fun k => _) j items.toList 0 ?_).trans (by rw [Nat.sub_zero]))
    intro k hk
    show (if (1 : Int) > 0 then decide ((j : Int) ≤ (k : Int)) && decide ((k : Int) < (items.size : Int)) && ((k : Int) - j) % 1 == 0 else _) = _
    rw [Nat.zero_add, Array.length_toList] at hk
    rw [if_pos (by decide), Int.emod_one, decide_eq_true (show (k : Int) < (items.size : Int) by omega)]
    by_cases h : j ≤ k
    · simp [h]
    · simp [h]
  · refine Nat.le_trans ?_ (Nat.le_succ_of_le hz)
    rw [List.size_toArray]
    refine Nat.le_trans (List.length_filterMap_le _ _) ?_
    simp
theorem ps_delFrom {X : Cx} {pos p2 : Pos} {o e : PySem.Expr} {to te : TE} {tpos : Pos} (ho : PE X o to) (he : PE X e te) :
    PS X (.Delete [.Subscript o (.Slice (some e) none none p2) tpos] pos) (fun D σ H => to σ H fun x H1 => te σ H1 fun y H2 => ∃ (l : Addr) (xs : List V) (j : Nat), x = .ref l ∧ y = .int j ∧ H2 l = some (.lst xs) ∧ j ≤ xs.length ∧ D.nx σ (upd H2 l (.lst (xs.take j)))) := by
  refine ⟨fun pins s σ H D I h => ?_⟩
  refine wpAny_Delete (wpAny_deleteEach_cons (wpAny_delete_Subscript ?_))
  refine thn (ho.run pins s σ H _ I h) fun u s1 hx => ?_
  obtain ⟨x, H1, I1, r1, h1⟩ := hx
  refine wpAny_Slice ?_
  rw [evalPart_some]
  refine thn (he.run pins s1 σ H1 _ I1 h1) fun u2 s2 hx => ?_
  obtain ⟨y, H2, I2, r2, l, xs, j, rfl, rfl, hl, hj, q⟩ := hx
  cases r1
  obtain ⟨t, rfl⟩ := r2
  rw [evalPart_none]
  refine wpAny_pure ?_
  refine wpAny_pure ?_
  have hsl : (s2.heap.push { cls := .type "slice", data := .fields #[.int j t, .none, .none] }).get? s2.heap.objs.size = some { cls := .type "slice", data := .fields #[.int j t, .none, .none] } := Heap.get?_push_size _ rfl
  have I3 := I2.kept (h' := s2.heap.push { cls := .type "slice", data := .fields #[.int j t, .none, .none] }) (t' := s2.toks) (fun b u hb => Heap.get?_push_of_some _ hb)
  obtain ⟨oz, its, n, hits, hao⟩ := I3.hok _ _ hl
  have ll : xs.length = its.length := L2.Vals.length hits
  refine run_delFrom (items := its.toArray) hao hsl (by simp; omega) (by simp; omega) (fun f hf => ?_)
  refine wpAny_deleteEach_nil ?_
  refine ⟨σ, _, I3.lset (its := its) (its' := its.take j) (ys := xs.take j) hl hao (by simpa using hf) ?_ ?_, q⟩
  · exact L2.Vals.take j hits
  · rw [List.length_take]; omega

mutual
def Tr.dat : Tr → PyData
  | .node c ks => .tuple [.str (ch c), .list (dats ks)]
def dats : List Tr → List PyData
  | [] => []
  | t :: r => t.dat :: dats r
end
mutual
theorem dat_depth : ∀ t : Tr, t.dat.depth ≤ 2 * t.depth
  | .node c ks => by
    have := dats_depth ks
    simp only [Tr.dat, PyData.depth, PyData.depthAll, Tr.depth]
    omega
theorem dats_depth : ∀ ts : List Tr, PyData.depthAll (dats ts) ≤ 2 * depths ts
  | [] => by simp only [dats, PyData.depthAll, depths]; omega
  | t :: r => by
    have a := dat_depth t
    have b := dats_depth r
    simp only [dats, PyData.depthAll, depths]
    omega
end
section
variable {ok : Addr → Prop} {H : Hp} {K : PySem.W.Frag}
theorem strOk_ch {c : Nat} (h : c ≤ 122) : PyData.strOk (ch c) = true := by
  unfold PyData.strOk ch
  simp
  omega
mutual
theorem TrAt.lay : ∀ (t : Tr) (v : V), TrAt ok H v t → t.dat.canLay0 = true
  | .node c ks, v, x => by
    cases x with
    | node h1 h2 k1 k2 c1 c2 r => simp only [Tr.dat, PyData.canLay0, PyData.canLayAll0, strOk_ch c2, TrsAt.lay ks _ r, Bool.and_self]
theorem TrsAt.lay : ∀ (ts : List Tr) (vs : List V), TrsAt ok H vs ts → PyData.canLayAll0 (dats ts) = true
  | [], _, _ => by simp only [dats, PyData.canLayAll0]
  | t :: r, _, x => by
    cases x with
    | cons a b => simp only [dats, PyData.canLayAll0, TrAt.lay t _ a, TrsAt.lay r _ b, Bool.and_self]
end
mutual
theorem TrAt.dp : ∀ (t : Tr) (v : V), TrAt ok H v t → Dp K H v t.dat
  | .node c ks, v, x => by
    cases x with
    | node h1 h2 k1 k2 c1 c2 r =>
      simp only [Tr.dat]
      exact .tup (SqT.of h1) (.cons (.str _) (.cons (.lst (SqL.of h2) (TrsAt.dp ks _ r)) .nil))
theorem TrsAt.dp : ∀ (ts : List Tr) (vs : List V), TrsAt ok H vs ts → DpAll K H vs (dats ts)
  | [], _, x => by cases x; exact .nil
  | t :: r, _, x => by
    cases x with
    | cons a b => exact .cons (TrAt.dp t _ a) (TrsAt.dp r _ b)
end
theorem shaped_tr {v : V} {t : Tr} (x : TrAt ok H v t) (h : t.depth ≤ 32) : SeqAt.shaped t.dat = true := by
  unfold SeqAt.shaped
  rw [Bool.and_eq_true]
  exact ⟨TrAt.lay t v x, decide_eq_true (by have := dat_depth t; omega)⟩
theorem shaped_trs {vs : List V} {ts : List Tr} (x : TrsAt ok H vs ts) (h : depths ts ≤ 31) : SeqAt.shaped (.list (dats ts)) = true := by
  unfold SeqAt.shaped
  rw [Bool.and_eq_true]
  refine ⟨by simp only [PyData.canLay0]; exact TrsAt.lay ts vs x, decide_eq_true ?_⟩
  have := dats_depth ts
  simp only [PyData.depth]
  omega
end
def DatOk (K : PySem.W.Frag) (H : Hp) (v : V) : Prop := ∃ d, Dp K H v d ∧ d.canLay0 = true ∧ d.depth ≤ 63
theorem DatOk.all {K : PySem.W.Frag} {H : Hp} : ∀ {vs : List V}, (∀ v ∈ vs, DatOk K H v) → ∃ ds, DpAll K H vs ds ∧ SeqAt.shaped (.list ds) = true ∧ ds.length = vs.length
  | [], _ => ⟨[], .nil, by decide +kernel, rfl⟩
  | v :: r, h => by
    obtain ⟨d, h1, h2, h3⟩ := h v List.mem_cons_self
    obtain ⟨ds, g1, g2, g3⟩ := DatOk.all (vs := r) fun u hu => h u (List.mem_cons_of_mem _ hu)
    unfold SeqAt.shaped at g2
    rw [Bool.and_eq_true] at g2
    have g4 := of_decide_eq_true g2.2
    have g5 := g2.1
    simp only [PyData.canLay0] at g5
    simp only [PyData.depth] at g4
    refine ⟨d :: ds, .cons h1 g1, ?_, by simp only [List.length_cons, g3]⟩
    unfold SeqAt.shaped
    rw [Bool.and_eq_true]
    refine ⟨by simp only [PyData.canLay0, PyData.canLayAll0, h2, g5, Bool.and_self], decide_eq_true ?_⟩
    simp only [PyData.depth, PyData.depthAll]
    omega
theorem datOk_int {K : PySem.W.Frag} {H : Hp} (i : Int) : DatOk K H (.int i) := ⟨.int i, .int i, by simp only [PyData.canLay0], by simp only [PyData.depth]; omega⟩
theorem datOk_tr {K : PySem.W.Frag} {H : Hp} {ok : Addr → Prop} {v : V} {t : Tr} (x : TrAt ok H v t) (h : t.depth ≤ 31) : DatOk K H v := ⟨t.dat, TrAt.dp t v x, TrAt.lay t v x, by have := dat_depth t; omega⟩
theorem eqv_nil (ds : List PyData) : PyData.eqv (.list ds) (.list []) = decide (ds.length = 0) := by
  cases ds with
  | nil => simp [PyData.eqv, PyData.eqvAll]
  | cons d r => simp [PyData.eqv, PyData.eqvAll]
theorem shaped_nil : SeqAt.shaped (.list []) = true := by decide +kernel
theorem dp_nil {K : PySem.W.Frag} {H : Hp} {a : Addr} (h : H a = some (.lst [])) : Dp K H (.ref a) (.list []) := .lst (SqL.of h) .nil


def sp_is_letter : Sp := fun vs H Q _ => ∃ c : Nat, vs = [.str (ch c)] ∧ 97 ≤ c ∧ c ≤ 122 ∧ Q (.bl true) H
def sp__is_part : Sp := fun vs H Q _ => ∃ (v : V) (t : Tr), vs = [v] ∧ TrAt (fun _ => True) H v t ∧ Q (.bl true) H
def sp_is_tree : Sp := fun vs H Q _ => ∃ (v : V) (t : Tr), vs = [v] ∧ TrAt (fun _ => True) H v t ∧ t.size ≤ 1000000 ∧ ∀ H', Same H H' → Q (.bl true) H'
def sp_check_tree : Sp := fun vs H Q _ => ∃ (v : V) (t : Tr), vs = [v] ∧ TrAt (fun _ => True) H v t ∧ t.size ≤ 1000000 ∧ ∀ H', Same H H' → Q .non H'
def sp_parts_upward : Sp := fun vs H Q _ => ∃ (v : V) (t : Tr) (ok : Addr → Prop), vs = [v] ∧ TrAt ok H v t ∧ t.size ≤ 1000000 ∧
  ∀ r ws H', Same H H' → H r = none → H' r = some (.lst ws) → TrsAt (fun b => ok b ∧ H b ≠ none) H' ws t.post → Q (.ref r) H'
theorem le_a {c : Nat} (h : 97 ≤ c) : (!decide ((ch c).cps.toList < (Str.ofString "a").cps.toList)) = true := by
  have e : (Str.ofString "a").cps.toList = [97] := by decide +kernel
  rw [e]
  show (!decide (([c] : List Nat) < [97])) = true
  have : ¬ (([c] : List Nat) < [97]) := by
    intro q
    have := List.cons_lt_cons_iff.mp q
    rcases this with z | ⟨z, y⟩
    · omega
    · exact absurd y (by decide)
  simp [this]
theorem le_z {c : Nat} (h : c ≤ 122) : (!decide ((Str.ofString "z").cps.toList < (ch c).cps.toList)) = true := by
  have e : (Str.ofString "z").cps.toList = [122] := by decide +kernel
  rw [e]
  show (!decide (([122] : List Nat) < [c])) = true
  have : ¬ (([122] : List Nat) < [c]) := by
    intro q
    have := List.cons_lt_cons_iff.mp q
    rcases this with z | ⟨z, y⟩
    · omega
    · exact absurd y (by decide)
  simp [this]
theorem concat_of {α : Type} {l : List α} (h : l ≠ []) : ∃ a b, l = a ++ [b] := ⟨l.dropLast, l.getLast h, (List.dropLast_concat_getLast h).symm⟩
section
variable {P : Program} {w : World} {K : PySem.W.Frag} {mg : Str → Option Value} {base : Heap}
theorem ok_is_letter (T : Txt K mg) : FnOk P w K mg base CX0 1 T.f_is_letter T.d_is_letter ["thing"] sp_is_letter := by
  refine T.F_is_letter.ok sc_is_letter (fun vs H Q E h => ?_) (fun cdv A outer s H vs Q E hr h => ?_)
  · obtain ⟨c, rfl, _⟩ := h
    rfl
  obtain ⟨c, rfl, h0, h1, q⟩ := h
  refine ⟨_, (pss_one (ps_ret (pe_and (pe_callB call_isi (by rfl) T.z_isinstance (by decide +kernel) (pa_cons (pv 0) (pa_cons (pe_bltn (v := .ty "str") (by rfl) T.z_str (by decide +kernel) rfl) pa_nil))) (pe_and (pe_cmpR op_eq (pe_callB call_len_str (by rfl) T.z_len PySem.boot_len (pa_cons (pv 0) pa_nil)) pe_int (nomark _)) (pe_one (pe_chain op_le_str op_le_str pe_str (pv 0) pe_str)))))), ?_⟩
  refine ⟨_, rfl, _, _, _, _, true, rfl, .ty "str", .base (.str _), kit_ty (by decide +kernel), _, rfl, iteT ?_⟩
  refine ⟨_, rfl, _, rfl, (by show 1 ≤ sizeLine; decide), rfl, _, rfl, iteT ?_⟩
  refine ⟨_, rfl, _, _, rfl, rfl, _, rfl, ?_⟩
  rw [if_pos (le_a h0)]
  refine ⟨_, _, rfl, rfl, ?_⟩
  rw [le_z h1]
  exact q
theorem ok__is_part (T : Txt K mg) : FnOk P w K mg base CX0 2 T.f__is_part T.d__is_part ["thing"] sp__is_part := by
  have G_is_letter : FnOk P w K mg base CX0 1 T.f_is_letter T.d_is_letter ["thing"] sp_is_letter := ok_is_letter T
  refine T.F__is_part.ok sc__is_part (fun vs H Q E h => ?_) (fun cdv A outer s H vs Q E hr h => ?_)
  · obtain ⟨v, t, rfl, _⟩ := h
    rfl
  obtain ⟨v, t, rfl, ht, q⟩ := h
  refine ⟨_, (pss_cons (ps_if (PW.pt (pw_or (pt_not (pt_val (pe_callB call_isi (by rfl) T.z_isinstance (by decide +kernel) (pa_cons (pv 0) (pa_cons (pe_bltn (v := .ty "tuple") (by rfl) T.z_tuple (by decide +kernel) rfl) pa_nil))))) (pw_or1 (pt_cmpR op_ne (pe_callB call_len_seq (by rfl) T.z_len PySem.boot_len (pa_cons (pv 0) pa_nil)) pe_int (nomark _))))) (pss_one (ps_ret pe_bl)) pss_nil) (pss_one (ps_ret (pe_and (pe_call G_is_letter (hr.mono (by omega)) (by rfl) T.m_is_letter T.F_is_letter.kp T.b_is_letter .nil pass0 (pa_cons (pe_ix ix_tup (pv 0) pe_int (fun _ _ => rfl)) pa_nil)) (pe_one (pe_callB call_isi (by rfl) T.z_isinstance (by decide +kernel) (pa_cons (pe_ix ix_tup (pv 0) pe_int (fun _ _ => rfl)) (pa_cons (pe_bltn (v := .ty "list") (by rfl) T.z_list (by decide +kernel) rfl) pa_nil)))))))), ?_⟩
  obtain ⟨c, ks⟩ := t
  cases ht with
  | node h1 h2 _ _ c1 c2 _ =>
    refine ⟨_, rfl, _, _, _, _, true, rfl, .ty "tuple", .base (.tup h1), kit_ty (by decide +kernel), _, rfl, iteF ?_⟩
    refine ⟨_, rfl, _, _, rfl, .inr (SqT.of h1), rfl, _, rfl, iteF ?_⟩
    refine ⟨_, rfl, _, _, 0, _, rfl, rfl, SqT.of h1, atI_nat (j := 0) rfl, _, rfl, c1, c2, _, rfl, iteT ?_⟩
    exact ⟨_, rfl, _, _, 1, _, rfl, rfl, SqT.of h1, atI_nat (j := 1) rfl, _, _, _, _, true, rfl, .ty "list", .base (.lst h2), kit_ty (by decide +kernel), q⟩
theorem ok_is_tree (T : Txt K mg) : FnOk P w K mg base CX0 3 T.f_is_tree T.d_is_tree ["thing"] sp_is_tree := by
  have G__is_part : FnOk P w K mg base CX0 2 T.f__is_part T.d__is_part ["thing"] sp__is_part := ok__is_part T
  refine T.F_is_tree.ok sc_is_tree (fun vs H Q E h => ?_) (fun cdv A outer s H vs Q E hr h => ?_)
  · obtain ⟨v, t, rfl, _⟩ := h
    rfl
  obtain ⟨v, t, rfl, ht, hz, q⟩ := h
  refine ⟨_, (pss_cons (ps_set (i := 1) sc_is_tree.nd rfl (Or.inl rfl) (pe_lst (pa_cons (pv 0) pa_nil))) (pss_cons (ps_while PassesOwn.never (pt_truth (pv 1) (by intro _; rfl)) (pss_cons (ps_set (i := 2) sc_is_tree.nd rfl (Or.inl rfl) (pe_bm0 PySem.F.plainAttrs_list PySem.F.slot_list_pop PySem.F.type_list_pop mt_pop (pv 1))) (pss_cons (ps_if (pt_not (pt_val (pe_call G__is_part (hr.mono (by omega)) (by rfl) T.m__is_part T.F__is_part.kp T.b__is_part .nil pass0 (pa_cons (pv 2) pa_nil)))) (pss_one (ps_ret pe_bl)) pss_nil) (pss_one (ps_expr (pe_bm PySem.F.plainAttrs_list PySem.F.slot_list_extend PySem.F.type_list_extend mt_extend (pv 1) (pa_cons (pe_ix ix_tup (pv 2) pe_int (fun _ _ => rfl)) pa_nil))))))) (pss_one (ps_ret pe_bl)))), ?_⟩
  refine ⟨_, rfl, (by show 1 ≤ sizeLine; decide), fun p hp => ?_⟩
  refine ⟨fun m σ H' => ∃ y ws ts, σ = [some v, some (.ref p), y] ∧ H' p = some (.lst ws) ∧ TrsAt (fun b => True ∧ b ≠ p) H' ws ts ∧ sizes ts = m ∧ m ≤ 1000000 ∧ Same H H',
    ⟨t.size, none, [v], [t], rfl, upd_same, .cons ((ht.off hp).same (same_new hp)) .nil, by simp only [sizes]; omega, hz, same_new hp⟩, ?_⟩
  rintro m σ H' ⟨y, ws, ts, rfl, hw, hts, hm, hm2, hs⟩
  by_cases he : ws = []
  · subst he
    refine ⟨_, rfl, false, .inl ⟨_, SqL.of hw, rfl⟩, iteF ?_⟩
    exact q _ hs
  · refine ⟨_, rfl, true, .inl ⟨_, SqL.of hw, by cases ws with | nil => exact absurd rfl he | cons a b => rfl⟩, iteT ?_⟩
    obtain ⟨ws', x, rfl⟩ := concat_of he
    obtain ⟨ts', tl, rfl, h1, h2⟩ := TrsAt.split hts
    cases h2 with
    | cons hx hn =>
      cases hn
      rename_i tx
      obtain ⟨c, ks⟩ := tx
      refine ⟨fun σ2 H2 => ∃ y ws ts, σ2 = [some v, some (.ref p), y] ∧ H2 p = some (.lst ws) ∧ TrsAt (fun b => True ∧ b ≠ p) H2 ws ts ∧ sizes ts < m ∧ Same H H2, fun σ2 H2 ⟨y, ws, ts, e1, e2, e3, e4, e5⟩ => ⟨sizes ts, e4, y, ws, ts, e1, e2, e3, rfl, by omega, e5⟩, ?_⟩
      refine ⟨_, rfl, .inl ⟨rfl, _, SqL.of hw⟩, _, _, x, rfl, rfl, hw, by simp, ?_⟩
      have kp : ∀ b u, (True ∧ b ≠ p) → H' b = some u → (upd H' p (.lst (ws' ++ [x]).dropLast)) b = some u := upd_keep fun b h => h.2
      have hx2 := hx.keep kp
      have hp3 : (upd H' p (.lst (ws' ++ [x]).dropLast)) p = some (.lst ws') := by rw [upd_same, List.dropLast_concat]
      refine ⟨_, rfl, x, _, rfl, hx2.weak fun _ _ => trivial, _, rfl, iteF ?_⟩
      cases hx2 with
      | node g1 g2 k1 k2 c1 c2 r =>
        have ll := r.len
        have l2 := h1.len
        have l3 := len_sizes ts'
        have l4 := len_sizes ks
        rw [sizes_append] at hm
        simp only [sizes, Tr.size] at hm
        refine ⟨_, rfl, .inl ⟨rfl, _, SqL.of hp3⟩, _, rfl, _, _, 1, _, rfl, rfl, SqT.of g1, atI_nat (j := 1) rfl, p, _, ws', _, rfl, rfl, hp3, g2, ?_, ?_⟩
        · exact Nat.le_trans (show ws'.length + _ ≤ 1000000 by omega) (by decide)
        · refine ⟨some _, _, ts' ++ ks, rfl, upd_same, ?_, ?_, ?_⟩
          · exact ((h1.keep kp).append r).keep (upd_keep fun b h => h.2)
          · rw [sizes_append]
            omega
          · exact same_add (same_add hs hp) hp
theorem ok_check_tree (T : Txt K mg) : FnOk P w K mg base CX0 4 T.f_check_tree T.d_check_tree ["thing"] sp_check_tree := by
  have G_is_tree : FnOk P w K mg base CX0 3 T.f_is_tree T.d_is_tree ["thing"] sp_is_tree := ok_is_tree T
  refine T.F_check_tree.ok sc_check_tree (fun vs H Q E h => ?_) (fun cdv A outer s H vs Q E hr h => ?_)
  · obtain ⟨v, t, rfl, _⟩ := h
    rfl
  obtain ⟨v, t, rfl, ht, hz, q⟩ := h
  refine ⟨_, (pss_one (ps_if (pt_not (pt_val (pe_call G_is_tree (hr.mono (by omega)) (by rfl) T.m_is_tree T.F_is_tree.kp T.b_is_tree .nil pass0 (pa_cons (pv 0) pa_nil)))) (pss_one ps_never) pss_nil)), ?_⟩
  refine ⟨_, rfl, v, t, rfl, ht, hz, fun H' hs => ⟨_, rfl, iteF ?_⟩⟩
  exact q _ hs
theorem ok_parts_upward (T : Txt K mg) : FnOk P w K mg base CX0 5 T.f_parts_upward T.d_parts_upward ["tree"] sp_parts_upward := by
  have G_check_tree : FnOk P w K mg base CX0 4 T.f_check_tree T.d_check_tree ["thing"] sp_check_tree := ok_check_tree T
  refine T.F_parts_upward.ok sc_parts_upward (fun vs H Q E h => ?_) (fun cdv A outer s H vs Q E hr h => ?_)
  · obtain ⟨v, t, ok, rfl, _⟩ := h
    rfl
  obtain ⟨v, t, ok, rfl, ht, hz, q⟩ := h
  refine ⟨_, (pss_cons (ps_expr (pe_call G_check_tree (hr.mono (by omega)) (by rfl) T.m_check_tree T.F_check_tree.kp T.b_check_tree .nil pass0 (pa_cons (pv 0) pa_nil))) (pss_cons (ps_set (i := 1) sc_parts_upward.nd rfl (Or.inl rfl) (pe_lst pa_nil)) (pss_cons (ps_set (i := 2) sc_parts_upward.nd rfl (Or.inl rfl) (pe_lst (pa_cons (pv 0) pa_nil))) (pss_cons (ps_while PassesOwn.never (pt_truth (pv 2) (by intro _; rfl)) (pss_cons (ps_set (i := 3) sc_parts_upward.nd rfl (Or.inl rfl) (pe_bm0 PySem.F.plainAttrs_list PySem.F.slot_list_pop PySem.F.type_list_pop mt_pop (pv 2))) (pss_cons (ps_expr (pe_bm PySem.F.plainAttrs_list PySem.F.slot_list_append PySem.F.type_list_append mt_append (pv 1) (pa_cons (pv 3) pa_nil))) (pss_one (ps_expr (pe_bm PySem.F.plainAttrs_list PySem.F.slot_list_extend PySem.F.type_list_extend mt_extend (pv 2) (pa_cons (pe_ix ix_tup (pv 3) pe_int (fun _ _ => rfl)) pa_nil))))))) (pss_one (ps_ret (pe_revL (pv 1)))))))), ?_⟩
  refine ⟨_, rfl, v, t, rfl, ht.weak fun _ _ => trivial, hz, fun H1 s1 => ?_⟩
  have ht1 := ((TrAt.there t v ht).same s1).weak (ok' := fun b => ok b ∧ H b ≠ none) fun b ⟨k, o, e⟩ => ⟨k, by rw [e]; simp⟩
  refine ⟨(by show 0 ≤ sizeLine; decide), fun a ha => ?_⟩
  refine ⟨_, rfl, (by show 1 ≤ sizeLine; decide), fun p hp => ?_⟩
  have nap : a ≠ p := fun e => by rw [e, upd_same] at hp; cases hp
  have hp1 : H1 p = none := by rw [upd_ne (fun e => nap e.symm)] at hp; exact hp
  have ha0 : H a = none := s1.free ha
  have hp0 : H p = none := s1.free hp1
  have oka : ∀ b, (ok b ∧ H b ≠ none) → b ≠ a := fun b h e => h.2 (by rw [e]; exact ha0)
  have okp : ∀ b, (ok b ∧ H b ≠ none) → b ≠ p := fun b h e => h.2 (by rw [e]; exact hp0)
  refine ⟨fun m σ H' => ∃ y as tas ws ts, σ = [some v, some (.ref a), some (.ref p), y] ∧ H' a = some (.lst as) ∧ H' p = some (.lst ws) ∧ TrsAt (fun b => ok b ∧ H b ≠ none) H' as tas ∧ TrsAt (fun b => ok b ∧ H b ≠ none) H' ws ts ∧
      tas ++ (posts ts).reverse = t.post.reverse ∧ sizes ts = m ∧ Same H H',
    ⟨t.size, none, [], [], [v], [t], rfl, by rw [upd_ne nap]; exact upd_same, upd_same, .nil, .cons ((ht1.keep (upd_keep oka)).keep (upd_keep okp)) .nil, by simp only [posts, List.append_nil, List.nil_append], by simp only [sizes]; omega, same_add (same_add s1 ha0) hp0⟩, ?_⟩
  rintro m σ H' ⟨y, as, tas, ws, ts, rfl, hA, hw, hta, hts, hpo, hm, hs⟩
  have hlen : tas.length + sizes ts = t.size := by
    have := congrArg List.length hpo
    rw [List.length_append, List.length_reverse, List.length_reverse, posts_len, post_len] at this
    exact this
  by_cases he : ws = []
  · subst he
    cases hts
    refine ⟨_, rfl, false, .inl ⟨_, SqL.of hw, rfl⟩, iteF ?_⟩
    refine ⟨_, rfl, a, as, rfl, SqL.of hA, fun r hr' => ?_⟩
    have hr0 : H r = none := hs.free hr'
    refine q r as.reverse _ (same_add hs hr0) hr0 upd_same ?_
    have e : tas.reverse = t.post := by
      simp only [posts, List.reverse_nil, List.append_nil] at hpo
      rw [hpo, List.reverse_reverse]
    rw [← e]
    exact hta.rev.keep (upd_keep fun b h e => h.2 (by rw [e]; exact hr0))
  · refine ⟨_, rfl, true, .inl ⟨_, SqL.of hw, by cases ws with | nil => exact absurd rfl he | cons a b => rfl⟩, iteT ?_⟩
    obtain ⟨ws', x, rfl⟩ := concat_of he
    obtain ⟨ts', tl, rfl, h1, h2⟩ := TrsAt.split hts
    cases h2 with
    | cons hx hn =>
      cases hn
      rename_i tx
      obtain ⟨c, ks⟩ := tx
      rw [sizes_append] at hm hlen
      simp only [sizes, Tr.size] at hm hlen
      refine ⟨fun σ2 H2 => ∃ y as tas ws ts, σ2 = [some v, some (.ref a), some (.ref p), y] ∧ H2 a = some (.lst as) ∧ H2 p = some (.lst ws) ∧ TrsAt (fun b => ok b ∧ H b ≠ none) H2 as tas ∧ TrsAt (fun b => ok b ∧ H b ≠ none) H2 ws ts ∧
        tas ++ (posts ts).reverse = t.post.reverse ∧ sizes ts < m ∧ Same H H2, fun σ2 H2 ⟨y, as, tas, ws, ts, e1, e2, e3, e4, e5, e6, e7, e8⟩ => ⟨sizes ts, e7, y, as, tas, ws, ts, e1, e2, e3, e4, e5, e6, rfl, e8⟩, ?_⟩
      refine ⟨_, rfl, .inl ⟨rfl, _, SqL.of hw⟩, _, _, x, rfl, rfl, hw, by simp, ?_⟩
      have kp : ∀ b u, (ok b ∧ H b ≠ none) → H' b = some u → (upd H' p (.lst (ws' ++ [x]).dropLast)) b = some u := upd_keep okp
      have hA2 : (upd H' p (.lst (ws' ++ [x]).dropLast)) a = some (.lst as) := by rw [upd_ne nap]; exact hA
      have la := hta.len
      refine ⟨_, rfl, .inl ⟨rfl, _, SqL.of hA2⟩, _, rfl, a, as, x, rfl, rfl, hA2, Nat.lt_of_le_of_lt (show as.length ≤ 1000000 by omega) (by decide), ?_⟩
      have hx3 := (hx.keep kp).keep (upd_keep (o := .lst (as ++ [x])) oka)
      have hp3 : (upd (upd H' p (.lst (ws' ++ [x]).dropLast)) a (.lst (as ++ [x]))) p = some (.lst ws') := by
        rw [upd_ne (fun e => nap e.symm), upd_same, List.dropLast_concat]
      have hx3' := hx3
      cases hx3 with
      | node g1 g2 k1 k2 c1 c2 r =>
        have ll := r.len
        have l2 := h1.len
        have l3 := len_sizes ts'
        have l4 := len_sizes ks
        refine ⟨_, rfl, .inl ⟨rfl, _, SqL.of hp3⟩, _, rfl, _, _, 1, _, rfl, rfl, SqT.of g1, atI_nat (j := 1) rfl, p, _, ws', _, rfl, rfl, hp3, g2, ?_, ?_⟩
        · exact Nat.le_trans (show ws'.length + _ ≤ 1000000 by omega) (by decide)
        · refine ⟨some _, as ++ [_], tas ++ [Tr.node c ks], _, ts' ++ ks, rfl, by rw [upd_ne nap]; exact upd_same, upd_same, ?_, ?_, ?_, ?_, ?_⟩
          · exact (((hta.keep kp).keep (upd_keep oka)).append (.cons hx3' .nil)).keep (upd_keep okp)
          · exact (((h1.keep kp).keep (upd_keep oka)).append r).keep (upd_keep okp)
          · rw [← hpo, posts_append, posts_append]
            simp only [posts, Tr.post, List.reverse_append, List.append_assoc, List.append_nil, List.reverse_cons, List.reverse_nil, List.nil_append, List.singleton_append, List.cons_append]
          · rw [sizes_append]
            omega
          · exact same_add (same_add (same_add hs hp0) ha0) hp0
end

def brk : List Nat → List Nat
  | [] => []
  | x :: l => 40 :: ((x :: l) ++ [41])
mutual
def Tr.wr : Tr → List Nat
  | .node c ks => c :: brk (wrs ks)
def wrs : List Tr → List Nat
  | [] => []
  | t :: r => t.wr ++ wrs r
end
def leW (a b : Tr) : Bool := decide (a.wr ≤ b.wr)
mutual
def Tr.told : Tr → Tr
  | .node c ks => .node c ((tolds ks).mergeSort leW)
def tolds : List Tr → List Tr
  | [] => []
  | t :: r => t.told :: tolds r
end
theorem tolds_map : ∀ ts : List Tr, tolds ts = ts.map Tr.told
  | [] => rfl
  | t :: r => by simp only [tolds, List.map_cons, tolds_map r]
theorem tolds_len (ts : List Tr) : (tolds ts).length = ts.length := by rw [tolds_map, List.length_map]
theorem wrs_append : ∀ a b : List Tr, wrs (a ++ b) = wrs a ++ wrs b
  | [], b => rfl
  | t :: r, b => by simp only [List.cons_append, wrs, wrs_append r b, List.append_assoc]
theorem leW_trans (a b c : Tr) (h : leW a b = true) (g : leW b c = true) : leW a c = true :=
  decide_eq_true (List.le_trans (of_decide_eq_true h) (of_decide_eq_true g))
theorem leW_total (a b : Tr) : (leW a b || leW b a) = true := by
  rcases List.le_total a.wr b.wr with h | h
  · simp [leW, h]
  · simp [leW, h]
abbrev Ltr (c : Nat) : Prop := 97 ≤ c ∧ c ≤ 122
theorem wr_ne (t : Tr) : t.wr ≠ [] := by
  cases t
  simp [Tr.wr]
theorem wr_head {t : Tr} (h : t.lets Ltr) : ∃ c l, t.wr = c :: l ∧ 97 ≤ c := by
  cases t with
  | node c ks =>
    simp only [Tr.lets] at h
    exact ⟨c, _, rfl, h.1.1⟩
theorem wrs_ne {t : Tr} {r : List Tr} : ∃ x l, wrs (t :: r) = x :: l := by
  cases t
  simp [wrs, Tr.wr]
theorem brk_wrs (t : Tr) (r : List Tr) : brk (wrs (t :: r)) = 40 :: (wrs (t :: r) ++ [41]) := by
  obtain ⟨x, l, e⟩ := wrs_ne (t := t) (r := r)
  rw [e]
  rfl
def nb (u : List Nat) : Prop := u.head? ≠ some 40
mutual
theorem wr_inj : ∀ (a b : Tr) (u v : List Nat), a.lets Ltr → b.lets Ltr → a.wr ++ u = b.wr ++ v → nb u → nb v → a = b ∧ u = v
  | .node c ks, .node d js, u, v, ha, hb, h, hu, hv => by
    simp only [Tr.lets] at ha hb
    simp only [Tr.wr, List.cons_append, List.cons.injEq] at h
    obtain ⟨rfl, h⟩ := h
    cases ks with
    | nil =>
      cases js with
      | nil => exact ⟨rfl, h⟩
      | cons j js =>
        obtain ⟨x, l, e⟩ := wrs_ne (t := j) (r := js)
        rw [e] at h
        simp only [wrs, brk, List.nil_append, List.cons_append] at h
        rw [h] at hu
        exact absurd rfl hu
    | cons k ks =>
      rw [brk_wrs k ks] at h
      cases js with
      | nil =>
        simp only [wrs, brk, List.nil_append, List.cons_append] at h
        rw [← h] at hv
        exact absurd rfl hv
      | cons j js =>
        rw [brk_wrs j js] at h
        simp only [List.cons_append, List.append_assoc, List.cons.injEq, true_and, List.singleton_append] at h
        obtain ⟨e1, e2⟩ := wrs_inj (k :: ks) (j :: js) u v ha.2 hb.2 h
        exact ⟨by rw [e1], e2⟩
theorem wrs_inj : ∀ (ks js : List Tr) (u v : List Nat), letss Ltr ks → letss Ltr js → wrs ks ++ 41 :: u = wrs js ++ 41 :: v → ks = js ∧ u = v
  | [], [], u, v, _, _, h => ⟨rfl, by simpa [wrs] using h⟩
  | [], j :: js, u, v, _, hb, h => by
    simp only [letss] at hb
    obtain ⟨c, l, e, hc⟩ := wr_head hb.1
    simp only [wrs, e, List.nil_append, List.cons_append, List.cons.injEq] at h
    omega
  | k :: ks, [], u, v, ha, _, h => by
    simp only [letss] at ha
    obtain ⟨c, l, e, hc⟩ := wr_head ha.1
    simp only [wrs, e, List.nil_append, List.cons_append, List.cons.injEq] at h
    omega
  | k :: ks, j :: js, u, v, ha, hb, h => by
    simp only [letss] at ha hb
    simp only [wrs, List.append_assoc] at h
    have nbk : ∀ (l : List Tr) (w : List Nat), letss Ltr l → nb (wrs l ++ 41 :: w) := by
      intro l w hl
      cases l with
      | nil => simp [nb, wrs]
      | cons a b =>
        simp only [letss] at hl
        obtain ⟨c, m, e, hc⟩ := wr_head hl.1
        simp only [nb, wrs, e, List.cons_append, List.head?_cons]
        intro h
        cases h
        omega
    have := wr_inj k j _ _ ha.1 hb.1 h (nbk _ _ ha.2) (nbk _ _ hb.2)
    obtain ⟨rfl, h2⟩ := this
    obtain ⟨rfl, h3⟩ := wrs_inj ks js u v ha.2 hb.2 h2
    exact ⟨rfl, h3⟩
end
theorem wr_eq {a b : Tr} (ha : a.lets Ltr) (hb : b.lets Ltr) (h : a.wr = b.wr) : a = b :=
  (wr_inj a b [] [] ha hb (by rw [h]) (by simp [nb]) (by simp [nb])).1
mutual
theorem told_lets {p : Nat → Prop} : ∀ t : Tr, t.lets p → t.told.lets p
  | .node c ks, h => by
    simp only [Tr.lets, Tr.told] at h ⊢
    exact ⟨h.1, letss_perm (List.mergeSort_perm _ _).symm (tolds_lets ks h.2)⟩
theorem tolds_lets {p : Nat → Prop} : ∀ ts : List Tr, letss p ts → letss p (tolds ts)
  | [], _ => trivial
  | t :: r, h => by
    simp only [letss, tolds] at h ⊢
    exact ⟨told_lets t h.1, tolds_lets r h.2⟩
end
theorem sorted_is {a b : List Tr} (ha : letss Ltr b) (hp : a.Perm b) (hs : a.Pairwise fun x y => leW x y = true) : a = b.mergeSort leW := by
  refine List.Perm.eq_of_pairwise (le := fun x y => leW x y = true) ?_ hs (List.pairwise_mergeSort leW_trans leW_total _) (hp.trans (List.mergeSort_perm _ _).symm)
  intro x y hx hy h g
  have hx2 := letss_mem ha (hp.mem_iff.mp hx)
  have hy2 := letss_mem ha ((List.mergeSort_perm _ _).mem_iff.mp hy)
  exact wr_eq hx2 hy2 (List.le_antisymm (of_decide_eq_true h) (of_decide_eq_true g))
theorem sort_perm {a b : List Tr} (ha : letss Ltr b) (hp : a.Perm b) : a.mergeSort leW = b.mergeSort leW :=
  sorted_is ha ((List.mergeSort_perm _ _).trans hp) (List.pairwise_mergeSort leW_trans leW_total _)
theorem tolds_perm {a b : List Tr} (h : a.Perm b) : (tolds a).Perm (tolds b) := by
  rw [tolds_map, tolds_map]
  exact h.map _
mutual
theorem Sh.told : ∀ {t u : Tr}, Sh t u → t.lets Ltr → t.told = u.told
  | _, _, .node (ks := ks) (us := us) (ls := ls) p h, hl => by
    simp only [Tr.lets] at hl
    simp only [Tr.told]
    have e := Shs.told h (letss_perm p hl.2)
    rw [sort_perm (tolds_lets _ (letss_perm p hl.2)) (tolds_perm p), e]
theorem Shs.told : ∀ {ts us : List Tr}, Shs ts us → My.letss Ltr ts → tolds ts = tolds us
  | _, _, .nil, _ => rfl
  | _, _, .cons a b, hl => by
    simp only [My.letss] at hl
    simp only [tolds, Sh.told a hl.1, Shs.told b hl.2]
end
theorem sizes_sort (ts : List Tr) : sizes (ts.mergeSort leW) = sizes ts := sizes_perm (List.mergeSort_perm _ _)
theorem depths_sort (ts : List Tr) : depths (ts.mergeSort leW) = depths ts := depths_perm (List.mergeSort_perm _ _)
mutual
theorem told_size : ∀ t : Tr, t.told.size = t.size
  | .node c ks => by simp only [Tr.told, Tr.size, sizes_sort, tolds_sizes ks]
theorem tolds_sizes : ∀ ts : List Tr, sizes (tolds ts) = sizes ts
  | [] => rfl
  | t :: r => by simp only [tolds, sizes, told_size t, tolds_sizes r]
end
mutual
theorem told_depth : ∀ t : Tr, t.told.depth = t.depth
  | .node c ks => by simp only [Tr.told, Tr.depth, depths_sort, tolds_depths ks]
theorem tolds_depths : ∀ ts : List Tr, depths (tolds ts) = depths ts
  | [] => rfl
  | t :: r => by simp only [tolds, depths, told_depth t, tolds_depths r]
end
mutual
theorem wr_len : ∀ t : Tr, t.wr.length ≤ 3 * t.size
  | .node c ks => by
    have := wrs_len ks
    have e : (brk (wrs ks)).length ≤ (wrs ks).length + 2 := by
      cases wrs ks with
      | nil => simp [brk]
      | cons x l => simp [brk]
    simp only [Tr.wr, Tr.size, List.length_cons]
    omega
theorem wrs_len : ∀ ts : List Tr, (wrs ts).length ≤ 3 * sizes ts
  | [] => by simp [wrs]
  | t :: r => by
    have a := wr_len t
    have b := wrs_len r
    simp only [wrs, sizes, List.length_append]
    omega
end
def steps : List Tr → List Tr → Option (List Tr)
  | s, [] => some s
  | s, .node c ks :: r => if ks.length ≤ s.length then steps (s.take (s.length - ks.length) ++ [.node c ((s.drop (s.length - ks.length)).mergeSort leW)]) r else none
mutual
theorem steps_post : ∀ (t : Tr) (s r : List Tr), steps s (t.post ++ r) = steps (s ++ [t.told]) r
  | .node c ks, s, r => by
    have e := steps_posts ks s (.node c ks :: r)
    simp only [Tr.post, List.append_assoc, List.singleton_append]
    rw [e]
    have l := tolds_len ks
    simp only [steps, List.length_append, l, Nat.add_sub_cancel, Nat.le_add_left, if_true, Tr.told]
    rw [List.take_left, List.drop_left]
theorem steps_posts : ∀ (ts : List Tr) (s r : List Tr), steps s (posts ts ++ r) = steps (s ++ tolds ts) r
  | [], s, r => by simp only [posts, tolds, List.nil_append, List.append_nil]
  | t :: ts, s, r => by
    simp only [posts, tolds, List.append_assoc]
    rw [steps_post t s (posts ts ++ r), steps_posts ts (s ++ [t.told]) r]
    simp only [List.append_assoc, List.singleton_append]
end
theorem steps_all (t : Tr) : steps [] t.post = some [t.told] := by
  have := steps_post t [] []
  rw [List.append_nil] at this
  rw [this]
  rfl
mutual
theorem told_told : ∀ t : Tr, t.lets Ltr → t.told.told = t.told
  | .node c ks, h => by
    simp only [Tr.lets] at h
    simp only [Tr.told]
    have e : tolds ((tolds ks).mergeSort leW) = (tolds ks).mergeSort leW := by
      rw [tolds_map]
      have : ∀ x ∈ (tolds ks).mergeSort leW, x.told = x := fun x hx => tolds_fix ks h.2 x ((List.mergeSort_perm _ _).mem_iff.mp hx)
      exact (List.map_congr_left this).trans (List.map_id' _)
    rw [e, sort_perm (tolds_lets ks h.2) (List.mergeSort_perm _ _)]
theorem tolds_fix : ∀ ts : List Tr, letss Ltr ts → ∀ x ∈ tolds ts, x.told = x
  | [], _, x, hx => by simp [tolds] at hx
  | t :: r, h, x, hx => by
    simp only [letss] at h
    simp only [tolds, List.mem_cons] at hx
    rcases hx with rfl | hx
    · exact told_told t h.1
    · exact tolds_fix r h.2 x hx
end

mutual
inductive TrO (ok : Addr → Prop) (H : Hp) : V → Tr → List Addr → Prop
  | node {a l : Addr} {vs : List V} {c : Nat} {ks : List Tr} {as : List Addr} : H a = some (.tup [.str (ch c), .ref l]) → H l = some (.lst vs) → ok a → ok l → 97 ≤ c → c ≤ 122 → TrsO ok H vs ks as → TrO ok H (.ref a) (.node c ks) (l :: as)
inductive TrsO (ok : Addr → Prop) (H : Hp) : List V → List Tr → List Addr → Prop
  | nil : TrsO ok H [] [] []
  | cons {v : V} {vs : List V} {t : Tr} {ts : List Tr} {as bs : List Addr} : TrO ok H v t as → TrsO ok H vs ts bs → TrsO ok H (v :: vs) (t :: ts) (as ++ bs)
end
section
variable {ok ok' : Addr → Prop} {H H' : Hp}
mutual
theorem TrO.imp (hk : ∀ b, ok b → ok' b) (h : ∀ b o, ok b → H b = some o → H' b = some o) : ∀ (t : Tr) (v : V) (as : List Addr), TrO ok H v t as → TrO ok' H' v t as
  | .node c ks, v, as, x => by
    cases x with
    | node h1 h2 k1 k2 c1 c2 r => exact .node (h _ _ k1 h1) (h _ _ k2 h2) (hk _ k1) (hk _ k2) c1 c2 (TrsO.imp hk h ks _ _ r)
theorem TrsO.imp (hk : ∀ b, ok b → ok' b) (h : ∀ b o, ok b → H b = some o → H' b = some o) : ∀ (ts : List Tr) (vs : List V) (as : List Addr), TrsO ok H vs ts as → TrsO ok' H' vs ts as
  | [], vs, as, x => by cases x; exact .nil
  | t :: r, vs, as, x => by
    cases x with
    | cons a b => exact .cons (TrO.imp hk h t _ _ a) (TrsO.imp hk h r _ _ b)
end
theorem TrO.keep {v : V} {t : Tr} {as : List Addr} (x : TrO ok H v t as) (h : ∀ b o, ok b → H b = some o → H' b = some o) : TrO ok H' v t as := TrO.imp (fun _ k => k) h t v as x
theorem TrO.same {v : V} {t : Tr} {as : List Addr} (x : TrO ok H v t as) (s : Same H H') : TrO ok H' v t as := x.keep fun b o _ h => s b o h
theorem TrO.weak {v : V} {t : Tr} {as : List Addr} (x : TrO ok H v t as) (h : ∀ b, ok b → ok' b) : TrO ok' H v t as := TrO.imp h (fun _ _ _ e => e) t v as x
theorem TrsO.keep {vs : List V} {ts : List Tr} {as : List Addr} (x : TrsO ok H vs ts as) (h : ∀ b o, ok b → H b = some o → H' b = some o) : TrsO ok H' vs ts as := TrsO.imp (fun _ k => k) h ts vs as x
theorem TrsO.same {vs : List V} {ts : List Tr} {as : List Addr} (x : TrsO ok H vs ts as) (s : Same H H') : TrsO ok H' vs ts as := x.keep fun b o _ h => s b o h
theorem TrsO.weak {vs : List V} {ts : List Tr} {as : List Addr} (x : TrsO ok H vs ts as) (h : ∀ b, ok b → ok' b) : TrsO ok' H vs ts as := TrsO.imp h (fun _ _ _ e => e) ts vs as x
mutual
theorem TrO.at : ∀ (t : Tr) (v : V) (as : List Addr), TrO ok H v t as → TrAt ok H v t
  | .node c ks, v, as, x => by
    cases x with
    | node h1 h2 k1 k2 c1 c2 r => exact .node h1 h2 k1 k2 c1 c2 (TrsO.at ks _ _ r)
theorem TrsO.at : ∀ (ts : List Tr) (vs : List V) (as : List Addr), TrsO ok H vs ts as → TrsAt ok H vs ts
  | [], vs, as, x => by cases x; exact .nil
  | t :: r, vs, as, x => by
    cases x with
    | cons a b => exact .cons (TrO.at t _ _ a) (TrsO.at r _ _ b)
end
mutual
theorem TrO.lst : ∀ (t : Tr) (v : V) (as : List Addr), TrO ok H v t as → ∀ b ∈ as, ok b ∧ ∃ xs, H b = some (.lst xs)
  | .node c ks, v, as, x => by
    cases x with
    | node h1 h2 k1 k2 c1 c2 r =>
      intro b hb
      rcases List.mem_cons.mp hb with e | hb
      · subst e; exact ⟨k2, _, h2⟩
      · exact TrsO.lst ks _ _ r b hb
theorem TrsO.lst : ∀ (ts : List Tr) (vs : List V) (as : List Addr), TrsO ok H vs ts as → ∀ b ∈ as, ok b ∧ ∃ xs, H b = some (.lst xs)
  | [], vs, as, x => by cases x; intro b hb; cases hb
  | t :: r, vs, as, x => by
    cases x with
    | cons x1 x2 =>
      intro b hb
      rcases List.mem_append.mp hb with hb | hb
      · exact TrO.lst t _ _ x1 b hb
      · exact TrsO.lst r _ _ x2 b hb
end
mutual
theorem TrO.there : ∀ (t : Tr) (v : V) (as : List Addr), TrO ok H v t as → TrO (fun b => ok b ∧ ∃ o, H b = some o) H v t as
  | .node c ks, v, as, x => by
    cases x with
    | node h1 h2 k1 k2 c1 c2 r => exact .node h1 h2 ⟨k1, _, h1⟩ ⟨k2, _, h2⟩ c1 c2 (TrsO.there ks _ _ r)
theorem TrsO.there : ∀ (ts : List Tr) (vs : List V) (as : List Addr), TrsO ok H vs ts as → TrsO (fun b => ok b ∧ ∃ o, H b = some o) H vs ts as
  | [], vs, as, x => by cases x; exact .nil
  | t :: r, vs, as, x => by
    cases x with
    | cons a b => exact .cons (TrO.there t _ _ a) (TrsO.there r _ _ b)
end
theorem TrO.off {v : V} {t : Tr} {as : List Addr} {w : Addr} (x : TrO ok H v t as) (h : H w = none) : TrO (fun b => ok b ∧ b ≠ w) H v t as :=
  (TrO.there t v as x).weak fun b ⟨k, o, e⟩ => ⟨k, ne_of_none e h⟩
theorem TrsO.off {vs : List V} {ts : List Tr} {as : List Addr} {w : Addr} (x : TrsO ok H vs ts as) (h : H w = none) : TrsO (fun b => ok b ∧ b ≠ w) H vs ts as :=
  (TrsO.there ts vs as x).weak fun b ⟨k, o, e⟩ => ⟨k, ne_of_none e h⟩
theorem TrsO.of : ∀ bs : List (V × Tr × List Addr), (∀ b ∈ bs, TrO ok H b.1 b.2.1 b.2.2) → TrsO ok H (bs.map (·.1)) (bs.map (·.2.1)) (bs.map (·.2.2)).flatten
  | [], _ => .nil
  | b :: r, h => by
    simp only [List.map_cons, List.flatten_cons]
    exact .cons (h b (by simp)) (TrsO.of r fun x hx => h x (by simp [hx]))
theorem TrsO.split1 : ∀ {vs : List V} {ts : List Tr} {as : List Addr}, TrsO ok H vs ts as → ∃ bs : List (V × Tr × List Addr), vs = bs.map (·.1) ∧ ts = bs.map (·.2.1) ∧ as = (bs.map (·.2.2)).flatten ∧ ∀ b ∈ bs, TrO ok H b.1 b.2.1 b.2.2
  | _, _, _, .nil => ⟨[], rfl, rfl, rfl, fun _ h => by cases h⟩
  | _, _, _, .cons (v := v) (t := t) (as := as) a b => by
    obtain ⟨bs, rfl, rfl, rfl, h⟩ := TrsO.split1 b
    refine ⟨(v, t, as) :: bs, rfl, rfl, rfl, fun x hx => ?_⟩
    rcases List.mem_cons.mp hx with e | hx
    · subst e; exact a
    · exact h x hx
theorem TrsO.snoc {vs : List V} {ts : List Tr} {as bs : List Addr} {v : V} {t : Tr} (x : TrsO ok H vs ts as) (y : TrO ok H v t bs) : TrsO ok H (vs ++ [v]) (ts ++ [t]) (as ++ bs) := by
  obtain ⟨cs, rfl, rfl, rfl, h⟩ := x.split1
  have := TrsO.of (ok := ok) (H := H) (cs ++ [(v, t, bs)]) (by
    intro b hb
    rcases List.mem_append.mp hb with hb | hb
    · exact h b hb
    · simp only [List.mem_singleton] at hb
      subst hb
      exact y)
  simpa using this
theorem TrsO.len {vs : List V} {ts : List Tr} {as : List Addr} (x : TrsO ok H vs ts as) : vs.length = ts.length := (TrsO.at ts vs as x).len
end
def ws (t : Tr) : Str := ⟨t.wr.toArray⟩
def RowO1 (ok : Addr → Prop) (H : Hp) (b : V × Tr × List Addr) : Prop := ∃ p x, b.1 = .ref p ∧ H p = some (.tup [.str (ws b.2.1), x]) ∧ ok p ∧ TrO ok H x b.2.1 b.2.2
theorem RowO1.imp {ok ok' : Addr → Prop} {H H' : Hp} {b : V × Tr × List Addr} (x : RowO1 ok H b) (hk : ∀ b, ok b → ok' b) (h : ∀ b o, ok b → H b = some o → H' b = some o) : RowO1 ok' H' b := by
  obtain ⟨p, x, e, h1, h2, h3⟩ := x
  exact ⟨p, x, e, h _ _ h2 h1, hk _ h2, TrO.imp hk h _ _ _ h3⟩
theorem RowO1.same {ok : Addr → Prop} {H H' : Hp} {b : V × Tr × List Addr} (x : RowO1 ok H b) (s : Same H H') : RowO1 ok H' b := x.imp (fun _ k => k) fun b o _ h => s b o h
theorem nodup_snoc {α : Type} {as bs : List α} (ha : as.Nodup) (hb : bs.Nodup) (h : ∀ x ∈ as, x ∉ bs) : (as ++ bs).Nodup := by
  rw [List.nodup_append]
  exact ⟨ha, hb, fun a h1 b h2 e => h a h1 (e ▸ h2)⟩

open LamX NdefX in
structure CalX (P : Program) (w : World) (K : PySem.W.Frag) (mg : Str → Option Value) (base : Heap) (k : Nat) (f : Addr) (G : Hp → Prop) (np : Nat) (sp : Sp) : Prop where
  len : ∀ vs H Q E, sp vs H Q E → vs.length = np
  at_ : ∀ (s : Shared) (H : Hp), HOk P w H s.heap → K.In s.heap → G H → PySem.W.FnAt f s.heap
  run : ∀ (A : Around) (outer : List Env) (s : Shared) (H : Hp) (us : List Value) (vs : List V) (Q : VK) (E : XK), Room k A → Env0 P w K mg base A outer s H → G H → Vals vs us → sp vs H Q E → codeAny (model P w) A (.call (.ref f) ⟨us, []⟩) (CR CX0 outer P w H s Q E) s
def tCalX (i : Nat) (f : Addr) (G : Hp → Prop) (sp : Sp) (t : TA) : TE := fun σ H Q => σ[i]? = some (some (.ref f)) ∧ G H ∧ t σ H fun vs H1 => G H1 ∧ sp vs H1 Q C8.E0
theorem pe_calX {X : Cx} {k i np : Nat} {f : Addr} {G : Hp → Prop} {sp : Sp} {x : Str} {p pos : Pos} {e : PySem.Expr} {es : List PySem.Expr} {t : TA}
    (C : CalX X.prog X.w X.K X.mg X.base k f G np sp) (hr : Room k X.A) (hN : X.N[i]? = some x) (hv : Vis X.env.scope x) (ha : PA X (e :: es) t)
    (hdb : (x == ("__debug__" : Str)) = false := by decide) (hcd : (x == ("__classdict__" : Str)) = false := by decide)
    (he : starEach (e :: es) X.env = (false, eval e X.env) :: starEach es X.env := by rfl) (hpl : (backTo pos (starEach es X.env)).any (·.1) = false := by rfl) : PE X (.Call (.Name x p) (e :: es) [] pos) (tCalX i f G sp t) := by
  refine ⟨fun pins s σ H Q I h => ?_⟩
  obtain ⟨hs, hg, ht⟩ := h
  refine wpAny_Call_Name_kw (thn ((pe_var (pos := p) hN hv hdb hcd).run pins s σ H (fun v H1 => v = .ref f ∧ H1 = H) I ⟨.ref f, hs, rfl, rfl⟩) fun u s1 ⟨v, H1, I1, r1, q1⟩ => ?_)
  obtain ⟨ev, eH⟩ := q1
  subst ev
  rw [eH] at I1
  obtain rfl : u = Value.ref f := r1
  refine PySem.W.callWith_F (first := []) (C.at_ s1 H I1.hok I1.kIn hg) (thn (ha.run pos pins s1 σ H _ I1 ht) fun us s2 ⟨vs, H2, I2, r, h1, q⟩ => ⟨C.at_ s2 H2 I2.hok I2.kIn h1, ?_⟩) he hpl
  show wpAny _ _ (call (.ref f) us) _ _ _
  refine wpAny_call (codeAny_mono (C.run X.A X.stack s2 H2 us vs Q C8.E0 hr I2.env0 h1 r q) fun r s' hq => ?_)
  cases r with
  | error e => exact (show False from hq).elim
  | ok fl =>
    cases fl with
    | ret u => exact I2.after hq
    | next => exact False.elim hq
    | brk => exact False.elim hq
    | cont => exact False.elim hq
theorem calX_of {P : Program} {w : World} {K : PySem.W.Frag} {mg : Str → Option Value} {base : Heap} {k : Nat} {x q : Str} {st : Stmt} {f : Addr} {fd : FuncData} {ps : List Str} {sp : Sp} (F : FnOk P w K mg base CX0 k f fd ps sp) (U : Fun K x q st f fd) (hb : Binds K fd ps []) {G : Hp → Prop} : CalX P w K mg base k f G ps.length sp := by
  refine ⟨F.len, fun s H _ hk _ => ?_, fun A outer s H us vs Q E hr e0 _ r h => ?_⟩
  · obtain ⟨oc, od, kV, doc, pm, an, cdv, ct, osl, rfl, lk, hcd⟩ := U.ex
    exact ⟨_, _, _, _, hk _ _ lk⟩
  · have KX : K.In s.heap := e0.mod.kin.keeps fun b o e => (e0.bs b o e).1
    have hl : us.length = ps.length := by rw [← r.length]; exact F.len _ _ _ _ h
    have hb' := hb s us KX (by rw [List.append_nil]; exact hl)
    rw [List.append_nil] at hb'
    exact F.run A outer s H ⟨us, []⟩ us vs Q E hr e0 hb' r h
structure LF where
  qual : Str
  params : Arguments
  body : PySem.Expr
  scope : PySem.Scope
  cl : List (Str × Addr)
  c : Addr
abbrev LF.nf (F : LF) : NdefX.NF := ⟨"<lambda>", F.qual, F.params, [], F.scope, F.cl, F.c⟩
def LamO (f : Addr) (F : LF) : HO := .ext fun h => ∃ pm ctv, h.get? f = some (PySem.W.kla_obj "<lambda>" F.qual F.params F.body F.scope F.cl pm F.c ctv)
theorem lamO_ok {P : Program} {w : World} {H : Hp} {h : Heap} {F : LF} {pm ctv : Value} :
    ObjOk P w H (h.push (PySem.W.kla_obj "<lambda>" F.qual F.params F.body F.scope F.cl pm F.c ctv)) h.objs.size (LamO h.objs.size F) := by
  have e : (h.push (PySem.W.kla_obj "<lambda>" F.qual F.params F.body F.scope F.cl pm F.c ctv)).get? h.objs.size = some (PySem.W.kla_obj "<lambda>" F.qual F.params F.body F.scope F.cl pm F.c ctv) := Heap.get?_push_size _ rfl
  exact ⟨⟨pm, ctv, e⟩, ⟨_, e⟩, fun h1 h2 ⟨a1, a2, e1⟩ k => ⟨a1, a2, k _ e1⟩⟩
theorem calX_lam {P : Program} {w : World} {K : PySem.W.Frag} {mg : Str → Option Value} {base : Heap} {k : Nat} {N ps : List Str} {f : Addr} {F : LF} {sp : Sp} (S : NdefX.NScope N ps [] F.scope) (hcl : F.cl = [])
    (hb : ∀ (pm ctv : Value) (us : List Value), us.length = ps.length → bindArgs (PySem.W.kla_fn "<lambda>" F.qual F.params F.body F.scope F.cl pm (.ref F.c) ctv) ⟨us, []⟩ = pure (ps.zip us)) (len : ∀ vs H Q E, sp vs H Q E → vs.length = ps.length)
    (hbody : ∀ (A : Around) (outer : List Env) (s : Shared) (H : Hp) (vs : List V) (Q : VK) (E : XK), Room k (A.deeper (NdefX.envF F.nf f s.heap.objs.size)) → sp vs H Q E →
      ∃ t, PE (NdefX.ncx CX0 P w K mg base N F.nf f A outer s H E) F.body t ∧ t (NdefX.startF N vs []) H Q) :
    CalX P w K mg base (k + 1) f (fun H => H f = some (LamO f F) ∧ H F.c = some (LamX.CodeO F.c F.qual)) ps.length sp := by
  refine ⟨len, fun s H hok _ hg => ?_, fun A outer s H us vs Q E hr e0 hg r hsp => ?_⟩
  · obtain ⟨⟨pm, ctv, e⟩, _, _⟩ := hok _ _ hg.1
    exact ⟨_, _, _, _, e⟩
  obtain ⟨⟨pm, ctv, ho⟩, _, _⟩ := e0.hok _ _ hg.1
  have hl := len _ _ _ _ hsp
  have lim : s.heap.NoLimit := e0.mod.nolimit.keeps fun b o e => (e0.bs b o e).1
  refine PySem.W.kla_callFunE hr.depth ho rfl S.co S.gen rfl (NdefX.codeO_at e0.hok hg.2) ?_
  rw [hb pm ctv us (by rw [← r.length]; exact hl)]
  refine wpAny_pure (wpAny_newFunctionEnv S.nocell (fun ⟨n, _⟩ hy => S.par n (List.of_mem_zip hy).1) (fun h₁ hns hsb => ⟨lim.fresh _ hsb, ?_⟩) S.kind)
  show codeAny _ _ (.expr F.body (NdefX.envF F.nf f s.heap.objs.size)) _ _
  have kp : ∀ b o, s.heap.get? b = some o → h₁.get? b = some o := fun b o e => hsb.extBut b o (Nat.ne_of_lt (Heap.lt_size e)) (Heap.get?_push_of_some _ e)
  obtain ⟨t, ht, hq⟩ := hbody A outer s H vs Q E (hr.deeper _) hsp
  have C : NdefX.CellsAt F.nf.cl [] [] s.heap H := by
    have e : F.nf.cl = [] := hcl
    rw [e]
    exact ⟨rfl, (fun y c e => by cases e), (fun x y c e => by cases e), (fun i y e => by simp at e)⟩
  have I : Inv (NdefX.ncx CX0 P w K mg base N F.nf f A outer s H E) [] (NdefX.startF N vs []) H { s with heap := h₁, toks := s.toks + (ps.zip us).length } := NdefX.inv_startN S hr.hd e0 hl r C hns kp
  refine PySem.W.kla_codeExpr (wpAny_mono (ht.run [] _ _ H Q I hq) (fun v s' hq => ?_) fun e s' hq => hq)
  obtain ⟨w', H', J', rv, q⟩ := hq
  exact ⟨w', H', J'.os, J'.bare, J'.base, J'.hok, rv, q⟩
theorem pe_lamX {X : Cx} {c P : Addr} {params : Arguments} {body : PySem.Expr} {scope : PySem.Scope} {pos : Pos} (tb : LamX.TabB X.base X.mg c P) (hc : X.env.code = .ref c) (hd : defaultsOf params X.env = ([], []))
    (hfree : ∀ y ∈ scope.names, y.2 = .free → ∃ c, X.env.cells.lookup y.1 = some c) : PE X (.Lambda params body scope pos) (fun σ H Q => LamX.TabS H P (X.env.qual ++ "<lambda>") ∧ ∀ (f c : Addr) (H1 : Hp), Fr P H H1 → (∀ b, H1 b = none → H b = none) → LamX.TabS H1 P (X.env.qual ++ "<lambda>") → H f = none →
      H1 f = some (LamO f ⟨X.env.qual ++ "<lambda>", params, body, scope, cloFrom X.env.cells scope.names [], c⟩) → H1 c = some (LamX.CodeO c (X.env.qual ++ "<lambda>")) → Q (.ref f) H1) := by
  refine ⟨fun pins s σ H Q I h => ?_⟩
  obtain ⟨ht, q⟩ := h
  have hclo : closureFor scope X.env = pure (cloFrom X.env.cells scope.names []) := closure_ok hfree
  have ht' := ht
  obtain ⟨ps, hP, hT, hA⟩ := ht'
  have oP : s.heap.get? P = some (PySem.W.tabObj ps) := I.hok _ _ hP
  refine PySem.W.kla_eval hd ?_
  cases hcd : codeAmong pos ps.toList with
  | some cv =>
    obtain ⟨c', rfl, hc'⟩ := hA _ _ hcd
    refine PySem.W.kla_makeFunctionHit hclo I.ok.glob (I.mod.glob.keeps I.bk) hc (tb.code.keeps I.bk) oP hT hcd (tb.bm.keeps I.bk) (fun ctv h' tk hk hs => ?_)
    have I1 := I.kept (t' := tk) hk
    have hz : s.heap.objs.size ≤ h'.objs.size := hs
    have hn : H h'.objs.size = none := I.hok.fresh hz
    refine ⟨.ref h'.objs.size, upd H h'.objs.size (LamO h'.objs.size ⟨X.env.qual ++ "<lambda>", params, body, scope, cloFrom X.env.cells scope.names [], c'⟩), ?_, rfl, q _ c' _ (fun b o _ hb => ?_) (fun b e => NdefX.upd_none e) (ht.ext fun b o hb => ?_) hn upd_same ?_⟩
    · exact I1.laid (h' := h'.push _) (t' := tk) (fun b u hb => Heap.get?_push_of_some _ hb) (Nat.le_refl _) (lamO_ok (F := ⟨X.env.qual ++ "<lambda>", params, body, scope, cloFrom X.env.cells scope.names [], c'⟩))
    · rw [upd_ne (ne_of_none hb hn)]; exact hb
    · rw [upd_ne (ne_of_none hb hn)]; exact hb
    · rw [upd_ne (ne_of_none hc' hn)]; exact hc'
  | none =>
    refine PySem.W.kla_makeFunction hclo I.ok.glob (I.mod.glob.keeps I.bk) hc (tb.code.keeps I.bk) oP hT hcd tb.gP (tb.bm.keeps I.bk) (fun c' ctv h' tk he hl hu hrec hP' => ?_)
    obtain ⟨c2, o2, vs2, t2, ec, e1, e2, e3⟩ := hrec
    cases ec
    have I2 := LamX.inv_table (t' := tk) (c := c') (q := X.env.qual ++ "<lambda>") I hP he (more := #[rawInt ↑pos.line, rawInt ↑pos.col, .ref c']) hP' hl ⟨_, _, _, e1, e2, e3⟩
    have hn : (upd (upd H P (.tbl (ps ++ #[rawInt ↑pos.line, rawInt ↑pos.col, .ref c']))) c' (LamX.CodeO c' (X.env.qual ++ "<lambda>"))) h'.objs.size = none := I2.hok.fresh (Nat.le_refl _)
    have hcn : H c' = none := I.hok.fresh hl
    have hPc : P ≠ c' := fun e => by rw [e] at hP; rw [hcn] at hP; cases hP
    refine ⟨.ref h'.objs.size, _, I2.laid (h' := h'.push _) (o := LamO h'.objs.size ⟨X.env.qual ++ "<lambda>", params, body, scope, cloFrom X.env.cells scope.names [], c'⟩) (t' := tk) (fun b u hb => Heap.get?_push_of_some _ hb) (Nat.le_refl _) (lamO_ok (F := ⟨X.env.qual ++ "<lambda>", params, body, scope, cloFrom X.env.cells scope.names [], c'⟩)), rfl, q _ c' _ ?_ (fun b e => NdefX.upd_none (NdefX.upd_none (NdefX.upd_none e))) ?_ (NdefX.upd_none (NdefX.upd_none hn)) upd_same ?_⟩
    · intro b o hbP hb
      have h1 : (upd (upd H P (.tbl (ps ++ #[rawInt ↑pos.line, rawInt ↑pos.col, .ref c']))) c' (LamX.CodeO c' (X.env.qual ++ "<lambda>"))) b = some o := by
        rw [upd_ne (ne_of_none hb hcn), upd_ne hbP]; exact hb
      rw [upd_ne (ne_of_none h1 hn)]; exact h1
    · refine LamX.TabS.ext (H := upd (upd H P (.tbl (ps ++ #[rawInt ↑pos.line, rawInt ↑pos.col, .ref c']))) c' (LamX.CodeO c' (X.env.qual ++ "<lambda>"))) ?_ (fun b o hb => by rw [upd_ne (ne_of_none hb hn)]; exact hb)
      refine ⟨_, by rw [upd_ne hPc]; exact upd_same, ?_, ?_⟩
      · simpa using TriplesOk_snoc _ _ _ _ hT
      · intro pos2 cv hcv
        rw [Array.toList_append] at hcv
        rcases LamX.among_app _ hT hcv with h | h
        · obtain ⟨c3, e3, h3⟩ := hA _ _ h
          refine ⟨c3, e3, ?_⟩
          rw [upd_ne (ne_of_none h3 hcn), upd_ne (fun e => by rw [e, hP] at h3; cases h3)]
          exact h3
        · exact ⟨c', h, upd_same⟩
    · have h1 : (upd (upd H P (.tbl (ps ++ #[rawInt ↑pos.line, rawInt ↑pos.col, .ref c']))) c' (LamX.CodeO c' (X.env.qual ++ "<lambda>"))) c' = some (LamX.CodeO c' (X.env.qual ++ "<lambda>")) := upd_same
      rw [upd_ne (ne_of_none h1 hn)]; exact h1
theorem nofree_by {scope : PySem.Scope} {cells : List (Str × Addr)} (h : (scope.names.all fun y => !decide (y.2 = .free)) = true) : ∀ y ∈ scope.names, y.2 = .free → ∃ c, cells.lookup y.1 = some c := fun y hy e => by
  have := List.all_eq_true.mp h y hy
  simp only [e, decide_true, Bool.not_true] at this
  cases this
theorem CalX.imp {P : Program} {w : World} {K : PySem.W.Frag} {mg : Str → Option Value} {base : Heap} {k j : Nat} {f : Addr} {G G' : Hp → Prop} {np : Nat} {sp sp' : Sp} (C : CalX P w K mg base k f G np sp) (hk : k ≤ j) (hG : ∀ H, G' H → G H) (hs : ∀ vs H Q E, sp' vs H Q E → sp vs H Q E) : CalX P w K mg base j f G' np sp' :=
  ⟨fun vs H Q E q => C.len vs H Q E (hs _ _ _ _ q), fun s H a b g => C.at_ s H a b (hG H g), fun A outer s H us vs Q E hr e0 g r q => C.run A outer s H us vs Q E (hr.mono hk) e0 (hG H g) r (hs _ _ _ _ q)⟩
inductive Runs : List Tr → List Tr → List Tr → Prop
  | nil {us : List Tr} : Runs us [] us
  | cons {us ks r z : List Tr} {c : Nat} : Runs (us ++ [.node c ks]) r z → Runs (us ++ ks) (.node c ks :: r) z
mutual
theorem runs_post : ∀ (t : Tr) (us r z : List Tr), Runs (us ++ [t]) r z → Runs us (t.post ++ r) z
  | .node c ks, us, r, z, h => by
    simp only [Tr.post, List.append_assoc, List.singleton_append]
    exact runs_posts ks us _ z (.cons h)
theorem runs_posts : ∀ (ts us r z : List Tr), Runs (us ++ ts) r z → Runs us (posts ts ++ r) z
  | [], us, r, z, h => by simpa [posts] using h
  | t :: ts, us, r, z, h => by
    simp only [posts, List.append_assoc]
    refine runs_post t us _ z (runs_posts ts (us ++ [t]) r z ?_)
    rw [List.append_assoc]
    exact h
end
theorem runs_all (t : Tr) : Runs [] t.post [t] := by
  have := runs_post t [] [] [t] .nil
  rwa [List.append_nil] at this
abbrev ItP := (Addr → Prop) → Hp → V → Tr → List Addr → Prop
structure ItOk (It : ItP) : Prop where
  imp : ∀ {ok ok' : Addr → Prop} {H H' : Hp} {v : V} {t : Tr} {as : List Addr}, (∀ b, ok b → ok' b) → (∀ b o, ok b → H b = some o → H' b = some o) → It ok H v t as → It ok' H' v t as
  lst : ∀ {ok : Addr → Prop} {H : Hp} {v : V} {t : Tr} {as : List Addr}, It ok H v t as → ∀ b ∈ as, ok b ∧ ∃ xs, H b = some (.lst xs)
abbrev lstsI (bs : List (V × Tr × List Addr)) : List Addr := (bs.map fun b => b.2.2).flatten
def sp_made (It : ItP) (Pt : Addr) (q : Str) : Sp := fun vs H Q _ => ∃ (c : Nat) (bl : Addr) (bs : List (V × Tr × List Addr)) (ok : Addr → Prop), vs = [.str (ch c), .ref bl] ∧ 97 ≤ c ∧ c ≤ 122 ∧ H bl = some (.lst (bs.map (·.1))) ∧ ok bl ∧
  (∀ b ∈ bs, It ok H b.1 b.2.1 b.2.2) ∧ (bl :: lstsI bs).Nodup ∧ sizes (bs.map (·.2.1)) ≤ 1000000 ∧ (∀ b, ok b → b ≠ Pt) ∧ LamX.TabS H Pt q ∧
  ∀ v as H', Fr Pt H H' → LamX.TabS H' Pt q → It (fun b => ok b ∨ H b = none) H' v (.node c (bs.map (·.2.1))) as → as.Nodup → (∀ a ∈ as, a ∈ bl :: lstsI bs ∨ H a = none) → Q v H'
def sp_built_upward (P : Program) (w : World) (K : PySem.W.Frag) (mg : Str → Option Value) (base : Heap) (k : Nat) (Pt : Addr) (q : Str) : Sp := fun vs H Q _ => ∃ (v : V) (t : Tr) (f : Addr) (It : ItP), vs = [v, .ref f] ∧ TrAt (fun _ => True) H v t ∧ t.size ≤ 1000000 ∧ ItOk It ∧ LamX.TabS H Pt q ∧
  CalX P w K mg base k f (fun H' => Fr Pt H H') 2 (sp_made It Pt q) ∧ ∀ r as H', Fr Pt H H' → LamX.TabS H' Pt q → It (fun b => H b = none) H' r t as → as.Nodup → Q r H'


theorem cut_fromU (xs : List V) (k : Nat) (h : k ≤ xs.length) : cutV xs (some (k : Int)) none = xs.drop k := by
  have e : HT.sIx xs.length 0 (some (k : Int)) = k := by
    show (if (k : Int) < 0 then ((k : Int) + (xs.length : Int)).toNat else min ((k : Int).toNat) xs.length) = k
    rw [if_neg (by omega)]
    omega
  have e2 : HT.sIx xs.length xs.length none = xs.length := rfl
  unfold cutV
  rw [e, e2]
  exact List.take_of_length_le (by rw [List.length_drop]; omega)
theorem TabS.fr1 {H H' : Hp} {P p : Addr} {q : Str} {xs : List V} (h : LamX.TabS H P q) (hp : H p = some (.lst xs)) (f : Fr p H H') : LamX.TabS H' P q := by
  obtain ⟨ps, h1, h2, h3⟩ := h
  refine ⟨ps, f _ _ (fun e => by rw [e, hp] at h1; cases h1) h1, h2, fun pos cv hc => ?_⟩
  obtain ⟨c, e, h4⟩ := h3 pos cv hc
  exact ⟨c, e, f _ _ (fun e => by rw [e, hp] at h4; cases h4) h4⟩
mutual
theorem TrAt.kind1 {ok : Addr → Prop} {H : Hp} : ∀ (t : Tr) (v : V), TrAt ok H v t → TrAt (fun b => ok b ∧ ∀ ps, H b ≠ some (.tbl ps)) H v t
  | .node c ks, v, x => by
    cases x with
    | node h1 h2 k1 k2 c1 c2 r => exact .node h1 h2 ⟨k1, fun ps e => by rw [h1] at e; cases e⟩ ⟨k2, fun ps e => by rw [h2] at e; cases e⟩ c1 c2 (TrsAt.kind1 ks _ r)
theorem TrsAt.kind1 {ok : Addr → Prop} {H : Hp} : ∀ (ts : List Tr) (vs : List V), TrsAt ok H vs ts → TrsAt (fun b => ok b ∧ ∀ ps, H b ≠ some (.tbl ps)) H vs ts
  | [], vs, x => by cases x; exact .nil
  | t :: r, vs, x => by
    cases x with
    | cons a b => exact .cons (TrAt.kind1 t _ a) (TrsAt.kind1 r _ b)
end
section
variable {P : Program} {w : World} {K : PySem.W.Frag} {mg : Str → Option Value} {base : Heap}
theorem ok_built_upward (T : Txt K mg) (k : Nat) (hk : 5 ≤ k) (Pt : Addr) (qn : Str) : FnOk P w K mg base CX0 (k + 1) T.f_built_upward T.d_built_upward ["tree", "made"] (sp_built_upward P w K mg base k Pt qn) := by
  have G_parts_upward : FnOk P w K mg base CX0 5 T.f_parts_upward T.d_parts_upward ["tree"] sp_parts_upward := ok_parts_upward T
  refine T.F_built_upward.ok sc_built_upward (fun vs H Q E h => ?_) (fun cdv A outer s H vs Q E hr h => ?_)
  · obtain ⟨v, t, f, It, rfl, _⟩ := h
    rfl
  obtain ⟨v, t, f, It, rfl, ht, hz, hIt, hT, C, q⟩ := h
  have C_made := C
  refine ⟨_, (pss_cons (ps_set (i := 2) sc_built_upward.nd rfl (Or.inl rfl) (pe_lst pa_nil)) (pss_cons (ps_for PassesOwn.never rfl (pi_list (pe_call G_parts_upward (hr.mono (by omega)) (by rfl) T.m_parts_upward T.F_parts_upward.kp T.b_parts_upward .nil pass0 (pa_cons (pv 0) pa_nil))) (pg_tup rfl (pgs_cons (pg_name (i := 3) sc_built_upward.nd rfl (Or.inl rfl)) (pgs_cons (pg_name (i := 4) sc_built_upward.nd rfl (Or.inl rfl)) pgs_nil))) (pss_cons (ps_set (i := 5) sc_built_upward.nd rfl (Or.inl rfl) (pe_op op_sub (pe_callB call_len_seq (by rfl) T.z_len PySem.boot_len (pa_cons (pv 2) pa_nil)) (pe_callB call_len_seq (by rfl) T.z_len PySem.boot_len (pa_cons (pv 4) pa_nil)))) (pss_cons (ps_set (i := 6) sc_built_upward.nd rfl (Or.inl rfl) (pe_slice sl_list (pv 2) (po_some (pv 5)) po_none)) (pss_cons (ps_delFrom (pv 2) (pv 5)) (pss_one (ps_expr (pe_bm PySem.F.plainAttrs_list PySem.F.slot_list_append PySem.F.type_list_append mt_append (pv 2) (pa_cons (pe_calX (i := 1) C_made (hr.mono (by omega)) rfl (.inl (by rfl)) (pa_cons (pv 3) (pa_cons (pv 6) pa_nil))) pa_nil)))))))) (pss_one (ps_ret (pe_ix ix_list (pv 2) pe_int (fun _ _ => rfl)))))), ?_⟩
  obtain ⟨ps0, hP0, _, _⟩ := id hT
  refine ⟨(by show 0 ≤ sizeLine; decide), fun wl hwl => ?_⟩
  have nPw : Pt ≠ wl := ne_of_none hP0 hwl
  have ht1 := (ht.off hwl).same (same_new (o := .lst []) hwl)
  refine ⟨_, rfl, v, t, _, rfl, ht1, hz, fun r wsv H1 s1 hr0 hr1 hparts => ?_⟩
  have hw1 : H1 wl = some (.lst []) := s1 _ _ upd_same
  have nrw : r ≠ wl := fun e => by rw [e, upd_same] at hr0; cases hr0
  have sH1 : Same H H1 := (same_new hwl).trans s1
  have hr00 : H r = none := by rw [upd_ne nrw] at hr0; exact hr0
  have nPr : Pt ≠ r := ne_of_none hP0 hr00
  have hp2 : TrsAt (fun b => b ≠ wl ∧ b ≠ r ∧ b ≠ Pt) H1 wsv t.post := by
    exact (TrsAt.kind1 _ _ hparts).weak fun b ⟨⟨k, h⟩, n⟩ => ⟨k.2, fun e => h (by rw [e]; exact hr0), fun e => n ps0 (by rw [e]; exact sH1 _ _ hP0)⟩
  refine ⟨r, rfl, ⟨_, SqL.of hr1⟩, for_list (xs := wsv) (fun i σ H2 => ∃ (y3 y4 y5 y6 : Option V) (bs : List (V × Tr × List Addr)), σ = [some v, some (.ref f), some (.ref wl), y3, y4, y5, y6] ∧ H2 wl = some (.lst (bs.map (·.1))) ∧
      (∀ b ∈ bs, It (fun b => H b = none ∧ b ≠ wl) H2 b.1 b.2.1 b.2.2) ∧ (lstsI bs).Nodup ∧ Runs (bs.map (·.2.1)) (t.post.drop i) [t] ∧ sizes (bs.map (·.2.1)) ≤ i ∧ Fr Pt H H2 ∧ LamX.TabS H2 Pt qn ∧ H2 r = some (.lst wsv) ∧ TrsAt (fun b => b ≠ wl ∧ b ≠ r ∧ b ≠ Pt) H2 wsv t.post)
    ⟨none, none, none, none, [], rfl, hw1, (fun _ h => by cases h), List.nodup_nil, (by rw [List.drop_zero]; exact runs_all t), (Nat.le_refl _), Fr.same sH1, hT.ext sH1, hr1, hp2⟩ (fun i σ H2 _ ⟨_, _, _, _, _, _, _, _, _, _, _, _, _, h, _⟩ => SqL.of h) ?_ ?_⟩
  · rintro i x σ H2 hx ⟨y3, y4, y5, y6, bs, rfl, hw2, hb, hnd, hst, hsz, hf, hT2, hr2, hpp⟩
    obtain ⟨t1, ht1', hx2⟩ := hpp.getV hx
    have hdrop : t.post.drop i = t1 :: t.post.drop (i + 1) := by
      obtain ⟨hlt, e⟩ := List.getElem?_eq_some_iff.mp ht1'
      rw [← e]
      exact List.drop_eq_getElem_cons hlt
    have hi : i < t.size := by
      have := (List.getElem?_eq_some_iff.mp ht1').1
      rw [post_len] at this
      exact this
    rw [hdrop] at hst
    generalize hus : bs.map (·.2.1) = us0 at hst
    cases hst with
    | cons hst =>
    rename_i us ks c
    obtain ⟨b1, b2, rfl, e1, e2⟩ := List.map_eq_append_iff.mp hus
    subst e1
    subst e2
    rw [List.map_append, sizes_append] at hsz
    have lz := len_sizes (b2.map (·.2.1))
    have lz1 := len_sizes (b1.map (·.2.1))
    rw [List.length_map] at lz lz1
    cases hx2 with
    | node g1 g2 o1 o2 c1 c2 rr =>
      rename_i ax lx vx
      have lr := rr.len
      rw [List.length_map] at lr
      refine ⟨_, _, rfl, SqT.of g1, rfl, ?_⟩
      refine ⟨_, _, rfl, _, _, rfl, rfl, _, rfl, wl, _, rfl, .inl (SqL.of hw2), _, rfl, lx, _, rfl, .inl (SqL.of g2), _, _, rfl, rfl, ?_⟩
      rw [List.length_map, lr, List.length_append]
      have ek : (((b1.length + b2.length : Nat) : Int) - (b2.length : Int)) = (b1.length : Int) := by omega
      show gName 5 (.int (((b1.length + b2.length : Nat) : Int) - (b2.length : Int))) _ _ _
      rw [ek]
      refine ⟨_, rfl, _, rfl, _, rfl, wl, _, rfl, SqL.of hw2, fun p hp => ?_⟩
      rw [cut_fromU _ _ (by rw [List.length_map, List.length_append]; omega)]
      have hcut : ((b1 ++ b2).map (·.1)).drop b1.length = b2.map (·.1) := by
        rw [List.map_append, List.drop_left' (List.length_map _)]
      have htk : ((b1 ++ b2).map (·.1)).take b1.length = b1.map (·.1) := by
        rw [List.map_append, List.take_left' (List.length_map _)]
      rw [hcut]
      have nPp : Pt ≠ p := by
        intro e
        obtain ⟨_, e2, _⟩ := hT2
        rw [← e, e2] at hp
        cases hp
      have npw : p ≠ wl := fun e => by rw [e, hw2] at hp; cases hp
      have hp0 : H p = none := by
        cases e : H p with
        | none => rfl
        | some o => rw [hf p o nPp.symm e] at hp; cases hp
      have okP : ∀ b, (H b = none ∧ b ≠ wl) → b ≠ Pt := fun b h e => by rw [e, hP0] at h; cases h.1
      refine ⟨_, rfl, _, rfl, wl, _, b1.length, rfl, rfl, (by rw [upd_ne npw.symm]; exact hw2), (by rw [List.length_map, List.length_append]; omega), ?_⟩
      rw [htk]
      generalize hH5 : upd (upd H2 p (.lst (b2.map (·.1)))) wl (.lst (b1.map (·.1))) = H5
      have hw5 : H5 wl = some (.lst (b1.map (·.1))) := by rw [← hH5]; exact upd_same
      have hp5 : H5 p = some (.lst (b2.map (·.1))) := by rw [← hH5, upd_ne npw]; exact upd_same
      have k25 : ∀ b o, b ≠ wl → H2 b = some o → H5 b = some o := fun b o n e => by rw [← hH5, upd_ne n, upd_ne (ne_of_none e hp)]; exact e
      have T5 : LamX.TabS H5 Pt qn := TabS.fr1 hT2 hw2 fun b o n e => k25 b o n e
      have F5 : Fr Pt H H5 := fun b o n e => k25 _ _ (ne_of_none e hwl) (hf b o n e)
      refine ⟨_, rfl, .inl ⟨rfl, _, SqL.of hw5⟩, rfl, F5, _, rfl, _, rfl, F5, c, p, b2, (fun b => H b = none ∧ b ≠ wl), rfl, c1, c2, hp5, ⟨hp0, npw⟩, ?_, ?_, by omega, okP, T5, fun v' as H6 f6 T6 it6 nd6 ha6 => ?_⟩
      · exact fun b hb5 => hIt.imp (fun _ h => h) (fun b o h e => k25 b o h.2 e) (hb b (List.mem_append_right _ hb5))
      · have e0 : lstsI (b1 ++ b2) = lstsI b1 ++ lstsI b2 := by simp [lstsI]
        rw [e0] at hnd
        rw [List.nodup_cons]
        refine ⟨fun hm => ?_, (List.nodup_append.mp hnd).2.1⟩
        obtain ⟨as, ha, hl2⟩ := List.mem_flatten.mp hm
        obtain ⟨b, hb8, rfl⟩ := List.mem_map.mp ha
        obtain ⟨_, xs, e5⟩ := hIt.lst (hb b (List.mem_append_right _ hb8)) p hl2
        rw [hp] at e5
        cases e5
      have hw6 := f6 _ _ nPw.symm hw5
      refine ⟨wl, _, v', rfl, rfl, hw6, Nat.lt_of_le_of_lt (show (b1.map (·.1)).length ≤ 1000000 by rw [List.length_map]; omega) (by decide), ?_⟩
      have k27 : ∀ b o, b ≠ Pt → b ≠ wl → H2 b = some o → (upd H6 wl (.lst (b1.map (·.1) ++ [v']))) b = some o := fun b o n1 n2 e => by
        rw [upd_ne n2]
        exact f6 _ _ n1 (k25 _ _ n2 e)
      obtain ⟨ps5, hP5, _, _⟩ := id T5
      have free5 : ∀ b, H5 b = none → H b = none ∧ b ≠ wl := fun b h => by
        refine ⟨?_, fun e => by rw [e, hw5] at h; cases h⟩
        cases e : H b with
        | none => rfl
        | some o =>
          have n1 : b ≠ Pt := fun e2 => by rw [e2, hP5] at h; cases h
          rw [F5 _ _ n1 e] at h
          cases h
      refine ⟨_, _, _, _, b1 ++ [(v', .node c (b2.map (·.2.1)), as)], rfl, ?_, ?_, ?_, ?_, ?_, ?_, ?_, k27 _ _ nPr.symm nrw hr2, ?_⟩
      · rw [upd_same, List.map_append]
        rfl
      · intro b hb7
        rcases List.mem_append.mp hb7 with h | h
        · exact hIt.imp (fun _ h => h) (fun b o h e => k27 b o (okP b h) h.2 e) (hb b (List.mem_append_left _ h))
        · simp only [List.mem_singleton] at h
          subst h
          refine hIt.imp (fun b h => h.elim id (free5 b)) (fun b o h e => ?_) it6
          rw [upd_ne (h.elim (fun h => h.2) fun h => (free5 b h).2)]
          exact e
      · have e0 : lstsI (b1 ++ b2) = lstsI b1 ++ lstsI b2 := by simp [lstsI]
        have e1 : lstsI (b1 ++ [(v', Tr.node c (b2.map (·.2.1)), as)]) = lstsI b1 ++ as := by simp [lstsI]
        rw [e0] at hnd
        rw [e1]
        refine nodup_snoc (List.nodup_append.mp hnd).1 nd6 fun a h1 h2 => ?_
        obtain ⟨as1, hm1, hl1⟩ := List.mem_flatten.mp h1
        obtain ⟨b, hb8, rfl⟩ := List.mem_map.mp hm1
        obtain ⟨o1, xs, e5⟩ := hIt.lst (hb b (List.mem_append_left _ hb8)) a hl1
        rcases ha6 a h2 with h | h
        · rcases List.mem_cons.mp h with h | h
          · rw [h, hp] at e5; cases e5
          · exact (List.nodup_append.mp hnd).2.2 a h1 a h rfl
        · rw [k25 _ _ o1.2 e5] at h
          cases h
      · rw [List.map_append]
        exact hst
      · rw [List.map_append, sizes_append]
        simp only [List.map_cons, List.map_nil, sizes, Tr.size]
        omega
      · intro b o n e
        exact k27 b o n (ne_of_none e hwl) (hf b o n e)
      · exact TabS.fr1 T6 hw6 fun b o n e => by rw [upd_ne n]; exact e
      · exact hpp.keep fun b o h e => k27 b o h.2.2 h.1 e
  · rintro σ H2 ⟨y3, y4, y5, y6, bs, rfl, hw2, hb, hnd, hst, hsz, hf, hT2, hr2, hpp⟩
    rw [hpp.len, List.drop_length] at hst
    generalize hus : bs.map (·.2.1) = us0 at hst
    cases hst
    obtain ⟨b, rfl⟩ : ∃ b, bs = [b] := by
      have := congrArg List.length hus
      rw [List.length_map] at this
      exact List.length_eq_one_iff.mp this
    simp only [List.map_cons, List.map_nil, List.cons.injEq, and_true] at hus
    refine ⟨_, rfl, wl, _, 0, b.1, rfl, rfl, SqL.of hw2, atI_nat (j := 0) rfl, ?_⟩
    have hb1 := hb b (by simp)
    refine q b.1 b.2.2 H2 hf hT2 ?_ (by simpa [lstsI] using hnd)
    rw [← hus]
    exact hIt.imp (fun b h => h.1) (fun _ _ _ h => h) hb1
end

def sp_copied_tree (Pt : Addr) (q : Str) : Sp := fun vs H Q _ => ∃ (v : V) (t : Tr), vs = [v] ∧ TrAt (fun _ => True) H v t ∧ t.size ≤ 1000000 ∧ LamX.TabS H Pt q ∧
  ∀ r as H', Fr Pt H H' → LamX.TabS H' Pt q → TrO (fun b => H b = none) H' r t as → as.Nodup → Q r H'
theorem itOk_TrO : ItOk TrO := ⟨fun hk h x => TrO.imp hk h _ _ _ x, fun x => TrO.lst _ _ _ x⟩
section
variable {P : Program} {w : World} {K : PySem.W.Frag} {mg : Str → Option Value} {base : Heap}
theorem ok_copied_tree (T : Txt K mg) (B : Tbs T base) : FnOk P w K mg base CX0 8 T.f_copied_tree T.d_copied_tree ["tree"] (sp_copied_tree T.P_copied_tree q_copied_tree) := by
  have G_built_upward : FnOk P w K mg base CX0 7 T.f_built_upward T.d_built_upward ["tree", "made"] (sp_built_upward P w K mg base 6 T.P_copied_tree q_copied_tree) := ok_built_upward T 6 (by decide) _ _
  refine okC T.F_copied_tree T.h_copied_tree sc_copied_tree (fun vs H Q E h => ?_) (fun A outer s H vs Q E hr h => ?_)
  · obtain ⟨v, t, rfl, _⟩ := h
    rfl
  obtain ⟨v, t, rfl, ht, hz, hT, q⟩ := h
  refine ⟨_, (pss_one (ps_ret (pe_call G_built_upward (hr.mono (by omega)) (by rfl) T.m_built_upward T.F_built_upward.kp T.b_built_upward .nil pass0 (pa_cons (pv 0) (pa_cons (pe_lamX B.tb_copied_tree rfl (by rfl) (nofree_by (by decide +kernel))) pa_nil))))), ?_⟩
  refine ⟨_, rfl, hT, fun f c H1 f1 n1 T1 hf0 hf hc => ?_⟩
  obtain ⟨ps1, hP1, _, _⟩ := id T1
  have nf : f ≠ T.P_copied_tree := fun e => by rw [e, hP1] at hf; cases hf
  have nc : c ≠ T.P_copied_tree := fun e => by rw [e, hP1] at hc; cases hc
  have ht1 : TrAt (fun _ => True) H1 v t := ((TrAt.kind1 _ _ ht).keep fun b o k e => f1 b o (fun e2 => by
    obtain ⟨ps0, hP0, _, _⟩ := hT
    exact k.2 ps0 (by rw [e2]; exact hP0)) e).weak fun _ _ => trivial
  refine ⟨v, t, f, TrO, rfl, ht1, hz, itOk_TrO, T1, ?_, fun r as H2 f2 T2 x2 nd2 => q r as H2 (f1.trans f2) T2 (x2.weak fun b h => n1 b h) nd2⟩
  refine CalX.imp (k := 1) (calX_lam (k := 0) (N := ["letter", "below"]) (ps := ["letter", "below"]) (f := f) (F := _) (sp := sp_made TrO T.P_copied_tree q_copied_tree) (NdefX.nscope_by (by dsimp only; decide +kernel)) rfl (fun pm ctv us hl => match us, hl with | [_, _], _ => rfl) (fun vs H Q E h => ?_) (fun A outer s H vs Q E hr h => ?_)) (by decide) (fun H' h => ⟨h _ _ nf hf, h _ _ nc hc⟩) (fun _ _ _ _ h => h)
  · obtain ⟨c, bl, bs, ok, rfl, _⟩ := h
    rfl
  · obtain ⟨c, bl, bs, ok, rfl, c1, c2, hbl, okb, hb, hnd, hsz, hok, hT', qq⟩ := h
    refine ⟨_, (pe_tup (pa_cons (pv 0) (pa_cons (pv 1) pa_nil))), ?_⟩
    refine ⟨_, rfl, _, rfl, (by show 2 ≤ sizeLine; decide), fun p hp => ?_⟩
    refine qq (.ref p) (bl :: lstsI bs) _ (Fr.same (same_new hp)) (hT'.ext fun b o e => same_new hp b o e) ?_ hnd (fun a h => .inl h)
    have x := TrsO.of (ok := fun b => ok b ∨ H b = none) (H := H) bs fun b h => (hb b h).weak fun _ k => .inl k
    exact .node upd_same (by rw [upd_ne (ne_of_none hbl hp)]; exact hbl) (.inr hp) (.inl okb) c1 c2 (x.same (same_new hp))
end


def PoolN (H : Hp) (n : Nat) (p : Addr) : Prop := ∃ x f s : Int, H p = some (.lst [.int x, .int f, .int s]) ∧ 0 ≤ s ∧ s ≤ 2000 + (n : Int)
structure DeckN (H : Hp) (d q : Addr) (ps : List Addr) (n : Nat) : Prop where
  top : ∃ i : Int, H d = some (.lst [.ref q, .int i]) ∧ 0 ≤ i ∧ i ≤ (n : Int)
  row : H q = some (.lst (ps.map V.ref))
  pos : 0 < ps.length
  most : ps.length ≤ 63
  all : ∀ p ∈ ps, PoolN H n p
def FrK (d : Addr) (ps : List Addr) (H H' : Hp) : Prop := ∀ b o, b ≠ d → b ∉ ps → H b = some o → H' b = some o
theorem FrK.refl (d : Addr) (ps : List Addr) (H : Hp) : FrK d ps H H := fun _ _ _ _ h => h
theorem FrK.trans {d : Addr} {ps : List Addr} {H H1 H2 : Hp} (a : FrK d ps H H1) (b : FrK d ps H1 H2) : FrK d ps H H2 := fun c o n m h => b c o n m (a c o n m h)
theorem FrK.same {d : Addr} {ps : List Addr} {H H' : Hp} (s : Same H H') : FrK d ps H H' := fun b o _ _ h => s b o h
theorem PoolN.mono {H : Hp} {n m : Nat} {p : Addr} (h : PoolN H n p) (l : n ≤ m) : PoolN H m p := let ⟨x, f, s, a, b, c⟩ := h; ⟨x, f, s, a, b, by omega⟩
theorem DeckN.mono {H : Hp} {d q : Addr} {ps : List Addr} {n m : Nat} (h : DeckN H d q ps n) (l : n ≤ m) : DeckN H d q ps m := ⟨let ⟨i, a, b, c⟩ := h.top; ⟨i, a, b, by omega⟩, h.row, h.pos, h.most, fun p hp => (h.all p hp).mono l⟩
theorem DeckN.same {H H' : Hp} {d q : Addr} {ps : List Addr} {n : Nat} (h : DeckN H d q ps n) (s : Same H H') : DeckN H' d q ps n :=
  ⟨let ⟨i, a, b, c⟩ := h.top; ⟨i, s _ _ a, b, c⟩, s _ _ h.row, h.pos, h.most, fun p hp => let ⟨x, f, t, a, b, c⟩ := h.all p hp; ⟨x, f, t, s _ _ a, b, c⟩⟩
theorem DeckN.keep {H H' : Hp} {d q : Addr} {ps : List Addr} {n : Nat} (h : DeckN H d q ps n) (s : ∀ b o, (b = d ∨ b = q ∨ b ∈ ps) → H b = some o → H' b = some o) : DeckN H' d q ps n :=
  ⟨let ⟨i, a, b, c⟩ := h.top; ⟨i, s _ _ (.inl rfl) a, b, c⟩, s _ _ (.inr (.inl rfl)) h.row, h.pos, h.most, fun p hp => let ⟨x, f, t, a, b, c⟩ := h.all p hp; ⟨x, f, t, s _ _ (.inr (.inr hp)) a, b, c⟩⟩
theorem DeckN.someD {H : Hp} {d q : Addr} {ps : List Addr} {n : Nat} (h : DeckN H d q ps n) : H d ≠ none := let ⟨i, a, _, _⟩ := h.top; by rw [a]; simp
theorem DeckN.someP {H : Hp} {d q : Addr} {ps : List Addr} {n : Nat} (h : DeckN H d q ps n) {p : Addr} (hp : p ∈ ps) : H p ≠ none := let ⟨x, f, s, a, _, _⟩ := h.all p hp; by rw [a]; simp
theorem DeckN.new {H : Hp} {d q : Addr} {ps : List Addr} {n : Nat} (h : DeckN H d q ps n) {b : Addr} (hb : H b = none) : b ≠ d ∧ b ≠ q ∧ b ∉ ps :=
  ⟨fun e => h.someD (e ▸ hb), fun e => (by have := h.row; rw [← e, hb] at this; cases this), fun hp => h.someP hp hb⟩
theorem FrK.free {d q : Addr} {ps : List Addr} {H H' : Hp} {n : Nat} (f : FrK d ps H H') (D : DeckN H' d q ps n) {b : Addr} (h : H' b = none) : H b = none := by
  obtain ⟨n1, n2, n3⟩ := D.new h
  cases e : H b with
  | none => rfl
  | some o => rw [f b o n1 n3 e] at h; cases h
theorem FrK.new {d : Addr} {ps : List Addr} {H H' : Hp} {b : Addr} {o : HO} (f : FrK d ps H H') (h : H b = none) : FrK d ps H (upd H' b o) := fun c u n m e => by
  rw [upd_ne (ne_of_none e h)]
  exact f c u n m e
mutual
theorem TrAt.offK {ok : Addr → Prop} {H : Hp} {S : Addr → Prop} (hS : ∀ b, S b → ∃ xs, H b = some (.lst xs) ∧ ∃ y ∈ xs, ∀ a, y ≠ .ref a) : ∀ (t : Tr) (v : V), TrAt ok H v t → TrAt (fun b => ok b ∧ ¬ S b) H v t
  | .node c ks, v, h => by
    cases h with
    | node h1 h2 k1 k2 c1 c2 r =>
      refine .node h1 h2 ⟨k1, fun hs => by obtain ⟨xs, e, _⟩ := hS _ hs; rw [h1] at e; cases e⟩ ⟨k2, fun hs => ?_⟩ c1 c2 (TrsAt.offK hS ks _ r)
      obtain ⟨xs, e, y, hy, hn⟩ := hS _ hs
      rw [h2] at e
      cases e
      obtain ⟨i, hi⟩ := List.getElem?_of_mem hy
      obtain ⟨t1, _, x1⟩ := r.getV hi
      cases x1
      exact hn _ rfl
theorem TrsAt.offK {ok : Addr → Prop} {H : Hp} {S : Addr → Prop} (hS : ∀ b, S b → ∃ xs, H b = some (.lst xs) ∧ ∃ y ∈ xs, ∀ a, y ≠ .ref a) : ∀ (ts : List Tr) (vs : List V), TrsAt ok H vs ts → TrsAt (fun b => ok b ∧ ¬ S b) H vs ts
  | [], _, h => by cases h; exact .nil
  | t :: r, _, h => by
    cases h with
    | cons a b => exact .cons (TrAt.offK hS t _ a) (TrsAt.offK hS r _ b)
end
theorem DeckN.nums {H : Hp} {d q : Addr} {ps : List Addr} {n : Nat} (h : DeckN H d q ps n) : ∀ b, (b = d ∨ b ∈ ps) → ∃ xs, H b = some (.lst xs) ∧ ∃ y ∈ xs, ∀ a, y ≠ V.ref a := by
  intro b hb
  rcases hb with rfl | hb
  · obtain ⟨i, a, _⟩ := h.top
    exact ⟨_, a, .int i, by simp, fun a e => by cases e⟩
  · obtain ⟨x, f, s, a, _⟩ := h.all b hb
    exact ⟨_, a, .int x, by simp, fun a e => by cases e⟩
theorem TrAt.frK {ok : Addr → Prop} {H H' : Hp} {d q : Addr} {ps : List Addr} {n : Nat} {v : V} {t : Tr} (x : TrAt ok H v t) (D : DeckN H d q ps n) (f : FrK d ps H H') : TrAt ok H' v t :=
  ((TrAt.offK D.nums t v x).keep fun b o k e => f b o (fun z => k.2 (.inl z)) (fun z => k.2 (.inr z)) e).weak fun _ k => k.1
theorem TrsAt.frK {ok : Addr → Prop} {H H' : Hp} {d q : Addr} {ps : List Addr} {n : Nat} {vs : List V} {ts : List Tr} (x : TrsAt ok H vs ts) (D : DeckN H d q ps n) (f : FrK d ps H H') : TrsAt ok H' vs ts :=
  ((TrsAt.offK D.nums ts vs x).keep fun b o k e => f b o (fun z => k.2 (.inl z)) (fun z => k.2 (.inr z)) e).weak fun _ k => k.1
def sp__law_deck (K : PySem.W.Frag) : Sp := fun vs H Q _ => ∃ (a : Addr) (ns : List Int), vs = [.ref a] ∧ SqL K H a (ns.map V.int) ∧ ns.length ≤ 63 ∧ ∀ d q ps H', Same H H' → (∀ b, H' b = none → H b = none) → H d = none → (∀ p ∈ ps, H p = none) → H q = none → DeckN H' d q ps 0 → Q (.ref d) H'
def sp__law_draw : Sp := fun vs H Q _ => ∃ (d q : Addr) (ps : List Addr) (m : Int) (n : Nat), vs = [.ref d, .int m] ∧ DeckN H d q ps n ∧ n < 1000000 ∧ 0 < m ∧ m < 2 ^ 60 ∧
  ∀ r H', 0 ≤ r → r < m → FrK d ps H H' → DeckN H' d q ps (n + 1) → Q (.int r) H'
section
variable {P : Program} {w : World} {K : PySem.W.Frag} {mg : Str → Option Value} {base : Heap}
theorem ok__law_deck (T : Txt K mg) : FnOk P w K mg base CX0 1 T.f__law_deck T.d__law_deck ["script"] (sp__law_deck K) := by
  refine T.F__law_deck.ok sc__law_deck (fun vs H Q E h => ?_) (fun cdv A outer s H vs Q E hr h => ?_)
  · obtain ⟨a, ns, rfl, _⟩ := h
    rfl
  obtain ⟨a, ns, rfl, hS, h63, q⟩ := h
  refine ⟨_, (pss_cons (ps_set (i := 1) sc__law_deck.nd rfl (Or.inl rfl) (pe_lst pa_nil)) (pss_cons (ps_for PassesOwn.never rfl (pi_range1 (by rfl) T.z_range (pa_cons (pe_callB (call_max2 rfl) (by rfl) T.z_max (by decide +kernel) (pa_cons pe_int (pa_cons (pe_callB (call_min2 rfl) (by rfl) T.z_min (by decide +kernel) (pa_cons pe_int (pa_cons (pe_callB call_len_seq (by rfl) T.z_len PySem.boot_len (pa_cons (pv 0) pa_nil)) pa_nil))) pa_nil))) pa_nil)) (pg_name (i := 2) sc__law_deck.nd rfl (Or.inl rfl)) (pss_cons (ps_set (i := 3) sc__law_deck.nd rfl (Or.inl rfl) pe_int) (pss_cons (ps_if (pt_cmpR op_lt (pv 2) (pe_callB call_len_seq (by rfl) T.z_len PySem.boot_len (pa_cons (pv 0) pa_nil)) (nomark _)) (pss_one (ps_set (i := 3) sc__law_deck.nd rfl (Or.inl rfl) (pe_ix ix_list (pv 0) (pv 2) (fun _ _ => rfl)))) pss_nil) (pss_one (ps_expr (pe_bm PySem.F.plainAttrs_list PySem.F.slot_list_append PySem.F.type_list_append mt_append (pv 1) (pa_cons (pe_lst (pa_cons (pv 3) (pa_cons (pe_callTy call_int1 (by rfl) T.z_int (by decide +kernel) (pa_cons (pe_cmpR op_ge (pv 3) (pe_op op_pow pe_int pe_int) (nomark _)) pa_nil)) (pa_cons (pe_op op_mul pe_int (pv 2)) pa_nil)))) pa_nil))))))) (pss_one (ps_ret (pe_lst (pa_cons (pv 1) (pa_cons pe_int pa_nil))))))), ?_⟩
  refine ⟨(by show 0 ≤ sizeLine; decide), fun pl hpl => ?_⟩
  have lm : (ns.map V.int).length = ns.length := List.length_map _
  have hS1 : SqL K (upd H pl (.lst [])) a (ns.map V.int) := (Fr.refl pl H |>.new hpl).seq hpl hS
  obtain ⟨j, hj, hj0, hj1⟩ : ∃ j : Int, (if (if ((ns.map V.int).length : Int) < 63 then ((ns.map V.int).length : Int) else 63) > 1 then (if ((ns.map V.int).length : Int) < 63 then ((ns.map V.int).length : Int) else 63) else 1) = j ∧ 1 ≤ j ∧ j ≤ 63 := ⟨_, rfl, by split <;> split <;> omega, by split <;> split <;> omega⟩
  refine ⟨_, rfl, a, _, rfl, .inl hS1, _, _, rfl, _, _, rfl, j, congrArg (fun z => [V.int z]) hj, by omega, by omega, for_range (lo := 0) (n := j.toNat) (fun i σ H' => (∃ y2 y3, σ = [some (.ref a), some (.ref pl), y2, y3]) ∧ ∃ ps : List Addr, H' pl = some (.lst (ps.map V.ref)) ∧ ps.length = i ∧ (∀ p ∈ ps, H p = none ∧ PoolN H' 0 p) ∧ Same H H') ⟨⟨_, _, rfl⟩, [], upd_same, rfl, (fun p hp => by cases hp), same_new hpl⟩ ?_ ?_⟩
  · rintro i σ H0 hi ⟨⟨y2, y3, rfl⟩, ps, g1, g2, g3, g4⟩
    have hS0 : SqL K H0 a (ns.map V.int) := (Fr.same (p := pl) g4).seq hpl hS
    have fin2 : ∀ x f : Int, ∀ y3', ∀ pp, H0 pp = none → (∃ y2 y3, [some (.ref a), some (.ref pl), some (V.int (0 + i)), y3'] = [some (.ref a), some (.ref pl), y2, y3]) ∧ ∃ ps' : List Addr, (upd (upd H0 pp (.lst [.int x, .int f, .int (31 * (0 + i))])) pl (.lst (ps.map V.ref ++ [V.ref pp]))) pl = some (.lst (ps'.map V.ref)) ∧ ps'.length = i + 1 ∧ (∀ p ∈ ps', H p = none ∧ PoolN (upd (upd H0 pp (.lst [.int x, .int f, .int (31 * (0 + i))])) pl (.lst (ps.map V.ref ++ [V.ref pp]))) 0 p) ∧ Same H (upd (upd H0 pp (.lst [.int x, .int f, .int (31 * (0 + i))])) pl (.lst (ps.map V.ref ++ [V.ref pp]))) := by
      intro x f y3' pp hpp
      have npl : pp ≠ pl := fun e => by rw [e, g1] at hpp; cases hpp
      refine ⟨⟨_, _, rfl⟩, ps ++ [pp], ?_, by rw [List.length_append, g2]; rfl, fun p hp => ?_, ?_⟩
      · rw [upd_same, List.map_append]; rfl
      · rcases List.mem_append.mp hp with hp | hp
        · obtain ⟨h1, x', f', s', e, h2, h3⟩ := g3 p hp
          refine ⟨h1, x', f', s', ?_, h2, h3⟩
          rw [upd_ne (fun e2 => by rw [e2, g1] at e; cases ps with
            | nil => cases hp
            | cons z zs => cases e), upd_ne (ne_of_none e hpp)]
          exact e
        · simp only [List.mem_singleton] at hp
          subst hp
          exact ⟨g4.free hpp, x, f, _, by rw [upd_ne npl]; exact upd_same, by omega, by omega⟩
      · exact same_add (same_add g4 (g4.free hpp)) hpl
    have hpos : (ps.map V.ref).length < sizeLine := Nat.lt_of_le_of_lt (show _ ≤ 63 by rw [List.length_map]; omega) (by decide)
    refine ⟨_, rfl, _, rfl, a, _, rfl, .inl hS0, _, _, rfl, rfl, _, rfl, ?_⟩
    refine ite2 (fun c => ?_) (fun c => ?_)
    · have hk : i < ns.length := by
        have c' : (0 + (i : Int)) < (((ns.map V.int).length : Nat) : Int) := of_decide_eq_true c
        omega
      refine ⟨_, rfl, _, rfl, a, _, _, _, rfl, rfl, hS0, at_of (j := i) (v := V.int ns[i]) (by omega) (by rw [List.getElem?_map, List.getElem?_eq_getElem hk]; rfl), ?_⟩
      refine ⟨_, rfl, .inl ⟨rfl, _, SqL.of g1⟩, _, rfl, _, rfl, 10, 18, rfl, rfl, ⟨by decide, by decide, by decide⟩, _, _, rfl, rfl, .inr ⟨_, rfl, _, rfl, 31, _, rfl, rfl, .inl ⟨by decide, by decide⟩, (by show 3 ≤ sizeLine; decide), fun pp hpp => ?_⟩⟩
      exact ⟨pl, _, _, rfl, rfl, by rw [upd_ne (ne_of_none g1 hpp)]; exact g1, hpos, fin2 _ _ _ pp hpp⟩
    · refine ⟨_, rfl, .inl ⟨rfl, _, SqL.of g1⟩, _, rfl, _, rfl, 10, 18, rfl, rfl, ⟨by decide, by decide, by decide⟩, _, _, rfl, rfl, .inr ⟨_, rfl, _, rfl, 31, _, rfl, rfl, .inl ⟨by decide, by decide⟩, (by show 3 ≤ sizeLine; decide), fun pp hpp => ?_⟩⟩
      exact ⟨pl, _, _, rfl, rfl, by rw [upd_ne (ne_of_none g1 hpp)]; exact g1, hpos, fin2 _ _ _ pp hpp⟩
  · rintro σ H0 ⟨⟨y2, y3, rfl⟩, ps, g1, g2, g3, g4⟩
    refine ⟨_, rfl, (by show 2 ≤ sizeLine; decide), fun d hd => ?_⟩
    have npd : pl ≠ d := ne_of_none g1 hd
    refine q d pl ps _ (same_add g4 (g4.free hd)) (fun b h => g4.free (NdefX.upd_none h)) (g4.free hd) (fun p hp => (g3 p hp).1) hpl ⟨⟨0, upd_same, by decide, by decide⟩, by rw [upd_ne npd]; exact g1, by omega, by omega, fun p hp => ?_⟩
    obtain ⟨_, x, f, s, e, h2, h3⟩ := g3 p hp
    exact ⟨x, f, s, by rw [upd_ne (ne_of_none e hd)]; exact e, h2, h3⟩
theorem ok__law_draw (T : Txt K mg) : FnOk P w K mg base CX0 1 T.f__law_draw T.d__law_draw ["deck", "many"] sp__law_draw := by
  refine T.F__law_draw.ok sc__law_draw (fun vs H Q E h => ?_) (fun cdv A outer s H vs Q E hr h => ?_)
  · obtain ⟨d, q, ps, m, n, rfl, _⟩ := h
    rfl
  obtain ⟨d, q, ps, m, n, rfl, hD, hn, hm0, hm1, qq⟩ := h
  refine ⟨_, (pss_cons (ps_set (i := 2) sc__law_draw.nd rfl (Or.inl rfl) (pe_ix ix_list (pe_ix ix_list (pv 0) pe_int (fun _ _ => rfl)) (pe_op op_mod (pe_ix ix_list (pv 0) pe_int (fun _ _ => rfl)) (pe_callB call_len_seq (by rfl) T.z_len PySem.boot_len (pa_cons (pe_ix ix_list (pv 0) pe_int (fun _ _ => rfl)) pa_nil))) (fun _ _ => rfl))) (pss_cons (ps_asg (pe_op op_add (pe_ix ix_list (pv 0) pe_int (fun _ _ => rfl)) pe_int) (pg_sub (pv 0) pe_int set_list)) (pss_cons (ps_if (PW.pt (pw_and (pt_cmpR op_eq (pe_ix ix_list (pv 2) pe_int (fun _ _ => rfl)) pe_int (nomark _)) (pw_and1 (pt_cmpR op_gt (pe_ix ix_list (pv 2) pe_int (fun _ _ => rfl)) pe_int (nomark _))))) (pss_cons (ps_set (i := 3) sc__law_draw.nd rfl (Or.inl rfl) (pe_op op_mod (pe_ix ix_list (pv 2) pe_int (fun _ _ => rfl)) (pv 1))) (pss_cons (ps_asg (pe_op op_fdivW (pe_ix ix_list (pv 2) pe_int (fun _ _ => rfl)) (pv 1)) (pg_sub (pv 2) pe_int set_list)) (pss_one (ps_ret (pv 3))))) pss_nil) (pss_cons (ps_asg (pe_op op_add (pe_ix ix_list (pv 2) pe_int (fun _ _ => rfl)) pe_int) (pg_sub (pv 2) pe_int set_list)) (pss_cons (ps_set (i := 4) sc__law_draw.nd rfl (Or.inl rfl) (pe_op op_mod (pe_op op_add (pe_op op_mod (pe_ix ix_list (pv 2) pe_int (fun _ _ => rfl)) pe_int) (pe_op op_mul pe_int (pe_ix ix_list (pv 2) pe_int (fun _ _ => rfl)))) pe_int)) (pss_cons (ps_set (i := 4) sc__law_draw.nd rfl (Or.inl rfl) (pe_op op_mod (pe_op op_mul (pv 4) (pv 4)) pe_int)) (pss_cons (ps_set (i := 4) sc__law_draw.nd rfl (Or.inl rfl) (pe_op op_mod (pe_op op_mul (pv 4) (pe_op op_add (pv 4) pe_int)) pe_int)) (pss_one (ps_ret (pe_op op_mod (pe_op op_fdivW (pv 4) pe_int) (pv 1))))))))))), ?_⟩
  obtain ⟨⟨i, hd, hi0, hi1⟩, hq, hpos, hmost, hall⟩ := id hD
  have lps : (ps.map V.ref).length = ps.length := List.length_map _
  obtain ⟨j, hj, hjn⟩ : ∃ j : Nat, i % (((ps.map V.ref).length : Nat) : Int) = (j : Int) ∧ j < ps.length := by
    have h1 : 0 ≤ i % (((ps.map V.ref).length : Nat) : Int) := Int.emod_nonneg _ (by omega)
    have h2 : i % (((ps.map V.ref).length : Nat) : Int) < (((ps.map V.ref).length : Nat) : Int) := Int.emod_lt_of_pos _ (by omega)
    exact ⟨(i % (((ps.map V.ref).length : Nat) : Int)).toNat, by omega, by omega⟩
  have hpj : (ps.map V.ref)[j]? = some (V.ref ps[j]) := by rw [List.getElem?_map, List.getElem?_eq_getElem hjn]; rfl
  have hmem : ps[j] ∈ ps := List.getElem_mem hjn
  obtain ⟨x, f, t, hp, ht0, ht1⟩ := hall _ hmem
  generalize hpe : ps[j] = p at *
  have d0 : atI [V.ref q, V.int i] 0 = some (.ref q) := atI_nat (j := 0) rfl
  have d1 : atI [V.ref q, V.int i] 1 = some (.int i) := atI_nat (j := 1) rfl
  refine ⟨_, rfl, d, _, 0, _, rfl, rfl, SqL.of hd, d0, ?_⟩
  refine ⟨_, rfl, d, _, 1, _, rfl, rfl, SqL.of hd, d1, ?_⟩
  refine ⟨_, rfl, d, _, 0, _, rfl, rfl, SqL.of hd, d0, q, _, rfl, .inl (SqL.of hq), i, _, rfl, rfl, (by omega), ?_⟩
  refine ⟨q, _, _, _, rfl, rfl, SqL.of hq, by rw [hj]; exact atI_nat hpj, ?_⟩
  refine ⟨_, rfl, d, _, 1, _, rfl, rfl, SqL.of hd, d1, i, 1, rfl, rfl, ?_⟩
  refine ⟨_, rfl, d, _, 1, 1, rfl, rfl, hd, rfl, ?_⟩
  have npd : p ≠ d := fun e => by rw [e, hd] at hp; cases hp
  have nqd : q ≠ d := fun e => by
    rw [e, hd] at hq
    cases ps with
    | nil => simp at hpos
    | cons a l =>
      cases l with
      | nil => cases hq
      | cons b l => cases hq
  have hp1 : (upd H d (.lst [V.ref q, V.int (i + 1)])) p = some (.lst [.int x, .int f, .int t]) := by rw [upd_ne npd]; exact hp
  have fin : ∀ r x' f' t' : Int, 0 ≤ r → r < m → 0 ≤ t' → t' ≤ t + 1 → Q (.int r) (upd (upd H d (.lst [V.ref q, V.int (i + 1)])) p (.lst [.int x', .int f', .int t'])) := by
    intro r x' f' t' r0 r1 t0 t1
    refine qq r _ r0 r1 (fun b o n1 n2 e => ?_) ⟨⟨i + 1, by rw [upd_ne (fun e => npd e.symm)]; exact upd_same, by omega, by omega⟩, ?_, hpos, hmost, fun b hb => ?_⟩
    · rw [upd_ne (fun e2 => n2 (by rw [e2]; exact hmem)), upd_ne n1]
      exact e
    · rw [upd_ne (fun e2 => by
        rw [← e2] at hp
        rw [hq] at hp
        cases ps with
        | nil => simp at hpos
        | cons a l => cases hp), upd_ne nqd]
      exact hq
    · by_cases hbp : b = p
      · subst hbp
        exact ⟨x', f', t', upd_same, t0, by omega⟩
      · obtain ⟨x2, f2, t2, e, h2, h3⟩ := hall b hb
        refine ⟨x2, f2, t2, ?_, h2, by omega⟩
        rw [upd_ne hbp, upd_ne (fun e2 => by rw [e2, hd] at e; cases e)]
        exact e
  have i0 : atI [V.int x, V.int f, V.int t] 0 = some (.int x) := atI_nat (j := 0) rfl
  have i1 : atI [V.int x, V.int f, V.int t] 1 = some (.int f) := atI_nat (j := 1) rfl
  have i2 : atI [V.int x, V.int f, V.int t] 2 = some (.int t) := atI_nat (j := 2) rfl
  refine ⟨_, rfl, p, _, 1, _, rfl, rfl, SqL.of hp1, i1, rfl, _, rfl, ?_⟩
  refine ite2 (fun c => ?_) (fun c => ?_)
  · refine ⟨_, rfl, p, _, 0, _, rfl, rfl, SqL.of hp1, i0, _, _, rfl, rfl, _, rfl, ?_⟩
    refine ite2 (fun c2 => ?_) (fun c2 => ?_)
    · refine ⟨_, rfl, p, _, 0, _, rfl, rfl, SqL.of hp1, i0, _, rfl, x, m, rfl, rfl, hm0, ?_⟩
      refine ⟨_, rfl, p, _, 0, _, rfl, rfl, SqL.of hp1, i0, _, rfl, x, m, rfl, rfl, divW hm0 hm1, ?_⟩
      refine ⟨_, rfl, p, _, 0, 0, rfl, rfl, hp1, rfl, ?_⟩
      exact ⟨_, rfl, fin _ _ _ _ (Int.emod_nonneg _ (by omega)) (Int.emod_lt_of_pos _ hm0) ht0 (by omega)⟩
    · refine ⟨_, rfl, p, _, 2, _, rfl, rfl, SqL.of hp1, i2, t, 1, rfl, rfl, ?_⟩
      refine ⟨_, rfl, p, _, 2, 2, rfl, rfl, hp1, rfl, ?_⟩
      have hp' : (upd (upd H d (.lst [V.ref q, V.int (i + 1)])) p (.lst [V.int x, V.int f, V.int (t + 1)])) p = some (.lst [V.int x, V.int f, V.int (t + 1)]) := upd_same
      have j0 : atI [V.int x, V.int f, V.int (t + 1)] 0 = some (.int x) := atI_nat (j := 0) rfl
      have j2 : atI [V.int x, V.int f, V.int (t + 1)] 2 = some (.int (t + 1)) := atI_nat (j := 2) rfl
      have a0 : 0 ≤ x % 99999999977 := Int.emod_nonneg _ (by decide)
      have a1 : x % 99999999977 < 99999999977 := Int.emod_lt_of_pos _ (by decide)
      refine ⟨_, rfl, p, _, 0, _, rfl, rfl, SqL.of hp', j0, x, 99999999977, rfl, rfl, (by show (0 : Int) < 99999999977; decide), _, rfl, p, _, 2, _, rfl, rfl, SqL.of hp', j2, 700001, t + 1, rfl, rfl, .inl ⟨by decide, by decide⟩, _, _, rfl, rfl, _, 99999999947, rfl, rfl, (by show (0 : Int) < 99999999947; decide), ?_⟩
      obtain ⟨M1, hM1, b0, b1⟩ : ∃ M1, (x % 99999999977 + 700001 * (t + 1)) % 99999999947 = M1 ∧ 0 ≤ M1 ∧ M1 < 99999999947 := ⟨_, rfl, Int.emod_nonneg _ (by decide), Int.emod_lt_of_pos _ (by decide)⟩
      refine ⟨_, rfl, _, rfl, M1, M1, congrArg V.int hM1, congrArg V.int hM1, .inl ⟨by omega, by omega⟩, _, 99999999821, rfl, rfl, (by show (0 : Int) < 99999999821; decide), ?_⟩
      obtain ⟨M2, hM2, d0', d1'⟩ : ∃ M2, M1 * M1 % 99999999821 = M2 ∧ 0 ≤ M2 ∧ M2 < 99999999821 := ⟨_, rfl, Int.emod_nonneg _ (by decide), Int.emod_lt_of_pos _ (by decide)⟩
      refine ⟨_, rfl, _, rfl, M2, 19, congrArg V.int hM2, rfl, M2, M2 + 19, congrArg V.int hM2, rfl, .inl ⟨by omega, by omega⟩, _, 9999999967, rfl, rfl, (by show (0 : Int) < 9999999967; decide), ?_⟩
      refine ⟨_, rfl, _, 13, rfl, rfl, divW (by decide) (by decide), _, rfl, _, m, rfl, rfl, hm0, ?_⟩
      exact fin _ _ _ _ (Int.emod_nonneg _ (by omega)) (Int.emod_lt_of_pos _ hm0) (by omega) (by omega)
  · refine iteF ?_
    refine ⟨_, rfl, p, _, 2, _, rfl, rfl, SqL.of hp1, i2, t, 1, rfl, rfl, ?_⟩
    refine ⟨_, rfl, p, _, 2, 2, rfl, rfl, hp1, rfl, ?_⟩
    have hp' : (upd (upd H d (.lst [V.ref q, V.int (i + 1)])) p (.lst [V.int x, V.int f, V.int (t + 1)])) p = some (.lst [V.int x, V.int f, V.int (t + 1)]) := upd_same
    have j0 : atI [V.int x, V.int f, V.int (t + 1)] 0 = some (.int x) := atI_nat (j := 0) rfl
    have j2 : atI [V.int x, V.int f, V.int (t + 1)] 2 = some (.int (t + 1)) := atI_nat (j := 2) rfl
    have a0 : 0 ≤ x % 99999999977 := Int.emod_nonneg _ (by decide)
    have a1 : x % 99999999977 < 99999999977 := Int.emod_lt_of_pos _ (by decide)
    refine ⟨_, rfl, p, _, 0, _, rfl, rfl, SqL.of hp', j0, x, 99999999977, rfl, rfl, (by show (0 : Int) < 99999999977; decide), _, rfl, p, _, 2, _, rfl, rfl, SqL.of hp', j2, 700001, t + 1, rfl, rfl, .inl ⟨by decide, by decide⟩, _, _, rfl, rfl, _, 99999999947, rfl, rfl, (by show (0 : Int) < 99999999947; decide), ?_⟩
    obtain ⟨M1, hM1, b0, b1⟩ : ∃ M1, (x % 99999999977 + 700001 * (t + 1)) % 99999999947 = M1 ∧ 0 ≤ M1 ∧ M1 < 99999999947 := ⟨_, rfl, Int.emod_nonneg _ (by decide), Int.emod_lt_of_pos _ (by decide)⟩
    refine ⟨_, rfl, _, rfl, M1, M1, congrArg V.int hM1, congrArg V.int hM1, .inl ⟨by omega, by omega⟩, _, 99999999821, rfl, rfl, (by show (0 : Int) < 99999999821; decide), ?_⟩
    obtain ⟨M2, hM2, d0', d1'⟩ : ∃ M2, M1 * M1 % 99999999821 = M2 ∧ 0 ≤ M2 ∧ M2 < 99999999821 := ⟨_, rfl, Int.emod_nonneg _ (by decide), Int.emod_lt_of_pos _ (by decide)⟩
    refine ⟨_, rfl, _, rfl, M2, 19, congrArg V.int hM2, rfl, M2, M2 + 19, congrArg V.int hM2, rfl, .inl ⟨by omega, by omega⟩, _, 9999999967, rfl, rfl, (by show (0 : Int) < 9999999967; decide), ?_⟩
    refine ⟨_, rfl, _, 13, rfl, rfl, divW (by decide) (by decide), _, rfl, _, m, rfl, rfl, hm0, ?_⟩
    exact fin _ _ _ _ (Int.emod_nonneg _ (by omega)) (Int.emod_lt_of_pos _ hm0) (by omega) (by omega)
end


def Lets (L : Str) : Prop := 1 ≤ L.length ∧ L.length ≤ 26 ∧ ∀ c ∈ L.cps.toList, 97 ≤ c ∧ c ≤ 122
theorem none_of {sp : Sp} {P : Program} {w : World} {K : PySem.W.Frag} {mg : Str → Option Value} {base : Heap} {f : Addr} {fd : FuncData} {ps : List Str} {k : Nat} (no : ∀ vs H Q E, ¬ sp vs H Q E) : FnOk P w K mg base CX0 k f fd ps sp :=
  ⟨fun vs H Q E h => absurd h (no vs H Q E), fun A outer s H args us vs Q E _ _ _ _ h => absurd h (no vs H Q E)⟩
theorem depth_pos : ∀ t : Tr, 1 ≤ t.depth
  | .node c ks => by simp only [Tr.depth]; omega
def FrL (d : Addr) (ps : List Addr) (lf : Addr) (H H' : Hp) : Prop := ∀ b o, b ≠ d → b ∉ ps → b ≠ lf → H b = some o → H' b = some o
theorem FrL.refl (d : Addr) (ps : List Addr) (lf : Addr) (H : Hp) : FrL d ps lf H H := fun _ _ _ _ _ h => h
theorem FrL.trans {d lf : Addr} {ps : List Addr} {H H1 H2 : Hp} (a : FrL d ps lf H H1) (b : FrL d ps lf H1 H2) : FrL d ps lf H H2 := fun c o n m k h => b c o n m k (a c o n m k h)
theorem FrL.ofK {d lf : Addr} {ps : List Addr} {H H' : Hp} (a : FrK d ps H H') : FrL d ps lf H H' := fun c o n m _ h => a c o n m h
theorem FrL.same {d lf : Addr} {ps : List Addr} {H H' : Hp} (s : Same H H') : FrL d ps lf H H' := fun b o _ _ _ h => s b o h
theorem FrL.at_ {d lf : Addr} {ps : List Addr} {H : Hp} {o : HO} : FrL d ps lf H (upd H lf o) := fun b u _ _ n e => by rw [upd_ne n]; exact e
theorem FrL.free {d q lf : Addr} {ps : List Addr} {H H' : Hp} {n : Nat} (f : FrL d ps lf H H') (D : DeckN H' d q ps n) (hl : H' lf ≠ none) {b : Addr} (h : H' b = none) : H b = none := by
  obtain ⟨n1, n2, n3⟩ := D.new h
  cases e : H b with
  | none => rfl
  | some o => rw [f b o n1 n3 (fun e2 => hl (by rw [← e2]; exact h)) e] at h; cases h
theorem DeckN.off1 {H : Hp} {d q : Addr} {ps : List Addr} {n : Nat} (D : DeckN H d q ps n) {lf : Addr} {i : Int} (h : H lf = some (.lst [.int i])) : lf ≠ d ∧ lf ≠ q ∧ lf ∉ ps := by
  refine ⟨fun e => ?_, fun e => ?_, fun hm => ?_⟩
  · obtain ⟨j, a, _⟩ := D.top
    rw [← e, h] at a; cases a
  · have a := D.row
    rw [← e, h] at a
    have hp := D.pos
    cases ps with
    | nil => cases hp
    | cons x l => cases a
  · obtain ⟨x, f, s, a, _⟩ := D.all _ hm
    rw [h] at a; cases a
def sp__law_tree (k : Nat) : Sp := fun vs H Q _ => ∃ (d q lf : Addr) (ps : List Addr) (L : Str) (n l : Nat), vs = [.ref d, .str L, .ref lf] ∧ DeckN H d q ps n ∧ n + 3 * l < 1000000 ∧ Lets L ∧ H lf = some (.lst [.int l]) ∧ 1 ≤ l ∧ l ≤ k ∧
  ∀ r t l' H', FrL d ps lf H H' → H' lf = some (.lst [.int (l' : Nat)]) → l' + t.size = l → DeckN H' d q ps (n + (3 * t.size - 1)) → TrAt (fun b => H b = none) H' r t → Q r H'
section
variable {P : Program} {w : World} {K : PySem.W.Frag} {mg : Str → Option Value} {base : Heap}
theorem ok__law_tree (T : Txt K mg) : ∀ k : Nat, FnOk P w K mg base CX0 (k + 1) T.f__law_tree T.d__law_tree ["deck", "letters", "left"] (sp__law_tree k)
  | 0 => none_of fun vs H Q E ⟨d, q, lf, ps, L, n, l, _, _, _, _, _, h1, h2, _⟩ => by omega
  | k + 1 => by
    have G__law_tree : FnOk P w K mg base CX0 (k + 1) T.f__law_tree T.d__law_tree ["deck", "letters", "left"] (sp__law_tree k) := ok__law_tree T k
    have G__law_draw : FnOk P w K mg base CX0 1 T.f__law_draw T.d__law_draw ["deck", "many"] sp__law_draw := ok__law_draw T
    refine T.F__law_tree.ok sc__law_tree (fun vs H Q E h => ?_) (fun cdv A outer s H vs Q E hr h => ?_)
    · obtain ⟨d, q, lf, ps, L, n, l, rfl, _⟩ := h
      rfl
    obtain ⟨d, q, lf, ps, L, n, l, rfl, hD, hn, hL, hl, hl1, hlk, qq⟩ := h
    refine ⟨_, (pss_cons (ps_asg (pe_op op_sub (pe_ix ix_list (pv 2) pe_int (fun _ _ => rfl)) pe_int) (pg_sub (pv 2) pe_int set_list)) (pss_cons (ps_set (i := 3) sc__law_tree.nd rfl (Or.inl rfl) (pe_lst pa_nil)) (pss_cons (ps_set (i := 4) sc__law_tree.nd rfl (Or.inl rfl) (pe_ix ix_str (pv 1) (pe_call G__law_draw (hr.mono (by omega)) (by rfl) T.m__law_draw T.F__law_draw.kp T.b__law_draw .nil pass0 (pa_cons (pv 0) (pa_cons (pe_callB call_len_str (by rfl) T.z_len PySem.boot_len (pa_cons (pv 1) pa_nil)) pa_nil))) (fun _ _ => rfl))) (pss_cons (ps_while PassesOwn.never (PW.pt (pw_and (pt_cmpR op_gt (pe_ix ix_list (pv 2) pe_int (fun _ _ => rfl)) pe_int (nomark _)) (pw_and1 (pt_cmpR op_gt (pe_call G__law_draw (hr.mono (by omega)) (by rfl) T.m__law_draw T.F__law_draw.kp T.b__law_draw .nil pass0 (pa_cons (pv 0) (pa_cons pe_int pa_nil))) pe_int (nomark _))))) (pss_one (ps_expr (pe_bm PySem.F.plainAttrs_list PySem.F.slot_list_append PySem.F.type_list_append mt_append (pv 3) (pa_cons (pe_call G__law_tree (hr.mono (by omega)) (by rfl) T.m__law_tree T.F__law_tree.kp T.b__law_tree .nil pass0 (pa_cons (pv 0) (pa_cons (pv 1) (pa_cons (pv 2) pa_nil)))) pa_nil))))) (pss_one (ps_ret (pe_tup (pa_cons (pv 4) (pa_cons (pv 3) pa_nil))))))))), ?_⟩
    obtain ⟨o1, o2, o3⟩ := hD.off1 hl
    have i0 : ∀ z : Int, atI [V.int z] 0 = some (.int z) := fun z => atI_nat (j := 0) rfl
    refine ⟨_, rfl, lf, _, 0, _, rfl, rfl, SqL.of hl, i0 _, l, 1, rfl, rfl, ?_⟩
    refine ⟨_, rfl, lf, _, 0, 0, rfl, rfl, hl, rfl, ?_⟩
    refine ⟨(by show 0 ≤ sizeLine; decide), fun cl hcl => ?_⟩
    have hcl0 : H cl = none := NdefX.upd_none hcl
    have ncf : cl ≠ lf := fun e => by rw [e, hl] at hcl0; cases hcl0
    have no : ∀ b, (b = d ∨ b = q ∨ b ∈ ps) → b ≠ lf := fun b h e => by
      rcases h with h | h | h
      · exact o1 (e.symm.trans h)
      · exact o2 (e.symm.trans h)
      · exact o3 (e ▸ h)
    have D1 : DeckN (upd (upd H lf (.lst [V.int ((l : Int) - 1)])) cl (.lst [])) d q ps n := (hD.keep fun b o h e => by
      rw [upd_ne (no b h)]
      exact e).same (same_new hcl)
    have okk : ∀ b, H b = none → b ≠ d ∧ b ∉ ps ∧ b ≠ lf := fun b h => ⟨(hD.new h).1, (hD.new h).2.2, fun e => by rw [e, hl] at h; cases h⟩
    refine ⟨_, rfl, _, rfl, _, rfl, L, rfl, Nat.le_trans hL.2.1 (by decide), d, q, ps, _, n, rfl, D1, by omega, by have := hL.1; omega, by have := hL.2.1; omega, fun r H2 r0 r1 f2 D2 => ?_⟩
    have hLs : L.cps.toList.length = L.length := by
      show L.cps.toList.length = L.cps.size
      exact Array.length_toList
    obtain ⟨rn, rfl⟩ : ∃ rn : Nat, r = (rn : Int) := ⟨r.toNat, by omega⟩
    have hrn : rn < L.cps.toList.length := by rw [hLs]; omega
    obtain ⟨c, hc⟩ : ∃ c, L.cps.toList[rn]? = some c := ⟨_, List.getElem?_eq_getElem hrn⟩
    have cL := hL.2.2 c (List.mem_of_getElem? hc)
    refine ⟨L, rn, c, rfl, rfl, Nat.le_trans hL.2.1 (by decide), atI_nat hc, ?_⟩
    have el : ((l : Int) - 1) = ((l - 1 : Nat) : Int) := by omega
    have hl2 : H2 lf = some (.lst [.int ((l - 1 : Nat) : Int)]) := by
      refine f2 _ _ o1 o3 ?_
      rw [upd_ne (fun e => ncf e.symm), upd_same]
      exact congrArg (fun z => some (HO.lst [V.int z])) el
    have hc2 : H2 cl = some (.lst []) := f2 _ _ (okk _ hcl0).1 (okk _ hcl0).2.1 upd_same
    have fL2 : FrL d ps lf H H2 := fun b o n1 n2 n3 e => f2 b o n1 n2 (by rw [upd_ne (ne_of_none e hcl0), upd_ne n3]; exact e)
    have fin : ∀ (H' : Hp) (l' : Nat) (vs : List V) (ks : List Tr), H' lf = some (.lst [.int (l' : Nat)]) → l' + sizes ks + 1 = l → H' cl = some (.lst vs) → TrsAt (fun b => H b = none ∧ b ≠ cl) H' vs ks → DeckN H' d q ps (n + 2 + 3 * sizes ks) → FrL d ps lf H H' → ∀ p, H' p = none → Q (.ref p) (upd H' p (.tup [.str (ch c), .ref cl])) := by
      intro H' l' vs ks g1 g2 g3 g4 g5 g6 p hp
      have hp0 : H p = none := g6.free g5 (by rw [g1]; simp) hp
      refine qq (.ref p) (.node c ks) l' _ (fun b o n1 n2 n3 e => ?_) (by rw [upd_ne (ne_of_none g1 hp)]; exact g1) (by simp only [Tr.size]; omega) ((g5.same (same_new hp)).mono (by simp only [Tr.size]; omega)) ?_
      · rw [upd_ne (ne_of_none e hp0)]
        exact g6 b o n1 n2 n3 e
      · exact .node upd_same (by rw [upd_ne (ne_of_none g3 hp)]; exact g3) hp0 hcl0 cL.1 cL.2 ((g4.same (same_new hp)).weak fun b h => h.1)
    refine ⟨fun m σ H' => ∃ ks vs l', σ = [some (.ref d), some (.str L), some (.ref lf), some (.ref cl), some (.str (ch c))] ∧ H' lf = some (.lst [.int (l' : Nat)]) ∧ l' = m ∧ l' + sizes ks + 1 = l ∧ H' cl = some (.lst vs) ∧ TrsAt (fun b => H b = none ∧ b ≠ cl) H' vs ks ∧ DeckN H' d q ps (n + 1 + 3 * sizes ks) ∧ FrL d ps lf H H',
      ⟨l - 1, [], [], l - 1, rfl, hl2, rfl, by simp only [sizes]; omega, hc2, .nil, by simpa [sizes] using D2, fL2⟩, ?_⟩
    rintro m σ H' ⟨ks, vs, l', rfl, g1, rfl, g2, g3, g4, g5, g6⟩
    have lk := g4.len
    have lz := len_sizes ks
    refine ⟨_, rfl, lf, _, 0, _, rfl, rfl, SqL.of g1, i0 _, _, _, rfl, rfl, _, rfl, ?_⟩
    refine ite2 (fun c1 => ?_) (fun c1 => ?_)
    · have c1' : (0 : Int) < (l' : Int) := of_decide_eq_true c1
      refine ⟨_, rfl, d, q, ps, 5, _, rfl, g5, by omega, by decide, by decide, fun r H3 r0 r1 f3 D3 => ⟨_, _, rfl, rfl, _, rfl, ?_⟩⟩
      have g1' : H3 lf = some (.lst [.int (l' : Nat)]) := f3 _ _ o1 o3 g1
      have g3' : H3 cl = some (.lst vs) := f3 _ _ (okk _ hcl0).1 (okk _ hcl0).2.1 g3
      have g4' : TrsAt (fun b => H b = none ∧ b ≠ cl) H3 vs ks := g4.keep fun b o k e => f3 b o (okk b k.1).1 (okk b k.1).2.1 e
      have g6' : FrL d ps lf H H3 := g6.trans (.ofK f3)
      refine ite2 (fun c2 => ?_) (fun c2 => ?_)
      · refine ⟨fun σ2 H2 => ∃ ks vs l'', σ2 = [some (.ref d), some (.str L), some (.ref lf), some (.ref cl), some (.str (ch c))] ∧ H2 lf = some (.lst [.int (l'' : Nat)]) ∧ l'' < l' ∧ l'' + sizes ks + 1 = l ∧ H2 cl = some (.lst vs) ∧ TrsAt (fun b => H b = none ∧ b ≠ cl) H2 vs ks ∧ DeckN H2 d q ps (n + 1 + 3 * sizes ks) ∧ FrL d ps lf H H2,
          fun σ2 H2 ⟨ks, vs, l'', e1, e2, e3, e4, e5, e6, e7, e8⟩ => ⟨l'', e3, ks, vs, l'', e1, e2, rfl, e4, e5, e6, e7, e8⟩, ?_⟩
        refine ⟨_, rfl, .inl ⟨rfl, _, SqL.of g3'⟩, _, rfl, _, rfl, _, rfl, d, q, lf, ps, L, _, l', rfl, D3, by omega, hL, g1', by omega, by omega, fun r t l2 H4 f4 hl4 e4 D4 T4 => ?_⟩
        have tp := size_pos t
        have g3'' : H4 cl = some (.lst vs) := f4 _ _ (okk _ hcl0).1 (okk _ hcl0).2.1 (okk _ hcl0).2.2 g3'
        refine ⟨cl, _, r, rfl, rfl, g3'', Nat.lt_of_le_of_lt (show vs.length ≤ 1000000 by omega) (by decide), ks ++ [t], _, l2, rfl, by rw [upd_ne (fun e => ncf e.symm)]; exact hl4, by omega, by rw [sizes_append]; simp only [sizes]; omega, upd_same, ?_, ?_, ?_⟩
        · have T4' : TrAt (fun b => H b = none ∧ b ≠ cl) H4 r t := T4.weak fun b hb => ⟨g6'.free D3 (by rw [g1']; simp) hb, fun e => by rw [e, g3'] at hb; cases hb⟩
          exact ((g4'.keep fun b o k e => f4 b o (okk b k.1).1 (okk b k.1).2.1 (okk b k.1).2.2 e).append (.cons T4' .nil)).keep (upd_keep fun b h => h.2)
        · refine (D4.keep fun b o h e => ?_).mono (by rw [sizes_append]; simp only [sizes]; omega)
          rw [upd_ne (fun e2 => by rw [e2] at h; exact (hD.new hcl0).1 (h.elim id fun h => h.elim (fun h => absurd h (hD.new hcl0).2.1) fun h => absurd h (hD.new hcl0).2.2))]
          exact e
        · intro b o n1 n2 n3 e
          rw [upd_ne (ne_of_none e hcl0)]
          exact f4 b o n1 n2 n3 (g6' b o n1 n2 n3 e)
      · refine ⟨_, rfl, _, rfl, (by show 2 ≤ sizeLine; decide), fun p hp => ?_⟩
        exact fin H3 l' vs ks g1' g2 g3' g4' (D3.mono (by omega)) g6' p hp
    · refine iteF ⟨_, rfl, _, rfl, (by show 2 ≤ sizeLine; decide), fun p hp => ?_⟩
      exact fin H' l' vs ks g1 g2 g3 g4 (g5.mono (by omega)) g6 p hp
end


section
variable {P : Program} {w : World} {K : PySem.W.Frag} {mg : Str → Option Value} {base : Heap}
def sq__law_deep (d : Nat) : Sp := fun vs H Q _ => ∃ (v : V) (t : Tr), vs = [v] ∧ TrAt (fun _ => True) H v t ∧ t.depth ≤ d ∧ t.size ≤ 1000000 ∧
  ∀ r as H', Same H H' → TrO (fun b => H b = none) H' r t as → as.Nodup → Q r H'
theorem oq__law_deep (T : Txt K mg) : ∀ d : Nat, FnOk P w K mg base CX0 d T.f__law_deep T.d__law_deep ["tree"] (sq__law_deep d)
  | 0 => none_of fun vs H Q E ⟨v, t, _, _, h, _⟩ => by have := depth_pos t; omega
  | d + 1 => by
    have G__law_deep : FnOk P w K mg base CX0 d T.f__law_deep T.d__law_deep ["tree"] (sq__law_deep d) := oq__law_deep T d
    refine T.F__law_deep.ok sc__law_deep (fun vs H Q E h => ?_) (fun cdv A outer s H vs Q E hr h => ?_)
    · obtain ⟨v, t, rfl, _⟩ := h
      rfl
    obtain ⟨v, t, rfl, ht, hd, hz, q⟩ := h
    refine ⟨_, (pss_one (ps_ret (pe_tup (pa_cons (pe_ix ix_tup (pv 0) pe_int (fun _ _ => rfl)) (pa_cons (pe_lc (own := [("child", 1)]) (g := gName 1) (tt := tYes) rfl sc__law_deep.nd (pi_list (pe_ix ix_tup (pv 0) pe_int (fun _ _ => rfl))) (blkOk_by (own := [("child", 1)]) (N := ["tree", "child"]) (sc := (defScope s__law_deep)) (by decide +kernel)) (fun _ _ _ _ _ => (pg_name (i := 1) sc__law_deep.nd rfl (Or.inl rfl))) (fun _ _ _ _ _ => pts_nil) (fun _ _ _ _ _ => (pe_call G__law_deep (hr.mono (by omega)) (by rfl) T.m__law_deep T.F__law_deep.kp T.b__law_deep .nil pass0 (pa_cons (pv 1) pa_nil)))) pa_nil))))), ?_⟩
    obtain ⟨c, ks⟩ := t
    simp only [Tr.depth] at hd
    simp only [Tr.size] at hz
    have lz := len_sizes ks
    cases ht with
    | node h1 h2 k1 k2 c1 c2 r =>
      rename_i a l xs
      have lr := r.len
      refine ⟨_, rfl, _, _, 0, _, rfl, rfl, SqT.of h1, atI_nat (j := 0) rfl, ?_⟩
      refine ⟨_, rfl, _, _, 1, _, rfl, rfl, SqT.of h1, atI_nat (j := 1) rfl, _, rfl, ⟨_, SqL.of h2⟩, fun D hD => ?_⟩
      refine lc_list (xs := xs) (fun i H2 => ∃ acc as, H2 D = some (.lst acc) ∧ TrsO (fun b => H b = none ∧ b ≠ D) H2 acc (ks.take i) as ∧ as.Nodup ∧ Same H H2) ⟨[], [], upd_same, .nil, List.nodup_nil, same_new hD⟩ (fun i H2 _ ⟨_, _, _, _, _, s⟩ => SqL.of (s _ _ h2)) ?_ ?_
      · rintro i x H2 hx ⟨acc, as, g1, g2, gn, g3⟩
        obtain ⟨t1, ht1, hx2⟩ := r.getV hx
        have dt := depths_mem (List.mem_of_getElem? ht1)
        have st := sizes_mem (List.mem_of_getElem? ht1)
        have la := g2.len
        rw [List.length_take] at la
        refine ⟨rfl, _, rfl, x, t1, rfl, hx2.same g3, by omega, by omega, fun y as1 H3 s3 hy n1 => ?_⟩
        refine ⟨acc, s3 _ _ g1, Nat.lt_of_le_of_lt (show acc.length ≤ 1000000 by omega) (by decide), acc ++ [y], as ++ as1, upd_same, ?_, ?_, same_add (g3.trans s3) hD⟩
        · rw [take_succ_of ht1]
          have hy2 : TrO (fun b => H b = none ∧ b ≠ D) H3 y t1 as1 := hy.weak fun b hb => ⟨g3.free hb, fun e => by rw [e, g1] at hb; cases hb⟩
          exact ((g2.same s3).snoc hy2).keep (upd_keep fun b h => h.2)
        · refine nodup_snoc gn n1 fun b hb h1 => ?_
          obtain ⟨_, xs2, e⟩ := TrsO.lst _ _ _ g2 b hb
          have := (TrO.lst _ _ _ hy b h1).1
          rw [e] at this
          cases this
      · rintro H2 ⟨acc, as, g1, g2, gn, g3⟩
        rw [lr, List.take_length] at g2
        refine ⟨(by show 2 ≤ sizeLine; decide), fun e he => ?_⟩
        have he0 := g3.free he
        have nDe : D ≠ e := ne_of_none g1 he
        refine q _ (D :: as) _ (same_add g3 he0) (.node upd_same (by rw [upd_ne nDe]; exact g1) he0 hD c1 c2 ?_) ?_
        · exact (g2.same (same_new he)).weak fun b h => h.1
        · rw [List.nodup_cons]
          exact ⟨fun hm => (TrsO.lst _ _ _ g2 D hm).1.2 rfl, gn⟩
end

theorem roomDeep {k : Nat} {A : Around} (r : Room k A) : A.units + 200 < cLine := by have := r.un; omega
def rEqB (K : PySem.W.Frag) : R2 := fun x y H Q => ∃ d e, Dp K H x d ∧ Dp K H y e ∧ d.canLay0 = true ∧ e.canLay0 = true ∧ d.depth ≤ 200 ∧ Q (.bl (PyData.eqv d e)) H
def rNeB (K : PySem.W.Frag) : R2 := fun x y H Q => ∃ d e, Dp K H x d ∧ Dp K H y e ∧ d.canLay0 = true ∧ e.canLay0 = true ∧ d.depth ≤ 200 ∧ Q (.bl (!PyData.eqv d e)) H
theorem op_eqB {X : Cx} (hu : X.A.units + 200 < cLine) : OpR X (compareOp .Eq) (rEqB X.K) := by
  intro pins s σ H x y v u Q I rx ry h
  obtain ⟨d, e, hd, he, sd, se, dd, q⟩ := h
  obtain ⟨as, r1⟩ := Dp.reads I d x v hd rx
  obtain ⟨bs, r2⟩ := Dp.reads I e y u he ry
  exact SeqAt.compareEq_reads r1 r2 sd se (by have := Nat.min_le_left d.depth e.depth; omega) ⟨.bl _, H, I, rfl, q⟩
theorem op_neB {X : Cx} (hu : X.A.units + 200 < cLine) : OpR X (compareOp .NotEq) (rNeB X.K) := by
  intro pins s σ H x y v u Q I rx ry h
  obtain ⟨d, e, hd, he, sd, se, dd, q⟩ := h
  obtain ⟨as, r1⟩ := Dp.reads I d x v hd rx
  obtain ⟨bs, r2⟩ := Dp.reads I e y u he ry
  exact SeqAt.compareNe_reads r1 r2 sd se (by have := Nat.min_le_left d.depth e.depth; omega) ⟨.bl _, H, I, rfl, q⟩


def putIn : List Tr → Tr → Tr
  | [], t => t
  | .node c ks :: r, t => putIn r (.node c (ks ++ [t]))
def sp_check_surrounding : Sp := fun vs H Q _ => ∃ (a : Addr) (xs : List V) (ts : List Tr), vs = [.ref a] ∧ H a = some (.lst xs) ∧ TrsAt (fun _ => True) H xs ts ∧ sizes ts ≤ 1000000 ∧ ∀ H', Same H H' → Q .non H'
def sp_put_into (Pt : Addr) (q : Str) : Sp := fun vs H Q _ => ∃ (a : Addr) (xs : List V) (ts : List Tr) (v : V) (t : Tr), vs = [.ref a, v] ∧ H a = some (.lst xs) ∧ TrsAt (fun _ => True) H xs ts ∧ TrAt (fun _ => True) H v t ∧ sizes ts + t.size ≤ 1000000 ∧ LamX.TabS H Pt q ∧
  ∀ r as H', Fr Pt H H' → LamX.TabS H' Pt q → TrO (fun b => H b = none) H' r (putIn ts t) as → as.Nodup → Q r H'
section
variable {P : Program} {w : World} {K : PySem.W.Frag} {mg : Str → Option Value} {base : Heap}
theorem ok_check_surrounding (T : Txt K mg) : FnOk P w K mg base CX0 4 T.f_check_surrounding T.d_check_surrounding ["thing"] sp_check_surrounding := by
  have G_is_tree : FnOk P w K mg base CX0 3 T.f_is_tree T.d_is_tree ["thing"] sp_is_tree := ok_is_tree T
  refine T.F_check_surrounding.ok sc_check_surrounding (fun vs H Q E h => ?_) (fun cdv A outer s H vs Q E hr h => ?_)
  · obtain ⟨a, xs, ts, rfl, _⟩ := h
    rfl
  obtain ⟨a, xs, ts, rfl, ha, ht, hz, q⟩ := h
  refine ⟨_, (pss_one (ps_if (PW.pt (pw_or (pt_not (pt_val (pe_callB call_isi (by rfl) T.z_isinstance (by decide +kernel) (pa_cons (pv 0) (pa_cons (pe_bltn (v := .ty "list") (by rfl) T.z_list (by decide +kernel) rfl) pa_nil))))) (pw_or1 (pt_not (pt_val (pe_callB (cr_all rfl) (by rfl) T.z_all (by decide +kernel) (pa_cons (pe_lc (own := [("row", 1)]) (g := gName 1) (tt := tYes) rfl sc_check_surrounding.nd (pi_list (pv 0)) (blkOk_by (own := [("row", 1)]) (N := ["thing", "row"]) (sc := (defScope s_check_surrounding)) (by decide +kernel)) (fun _ _ _ _ _ => (pg_name (i := 1) sc_check_surrounding.nd rfl (Or.inl rfl))) (fun _ _ _ _ _ => pts_nil) (fun _ _ _ _ _ => (pe_call G_is_tree (hr.mono (by omega)) (by rfl) T.m_is_tree T.F_is_tree.kp T.b_is_tree .nil pass0 (pa_cons (pv 1) pa_nil)))) pa_nil))))))) (pss_one ps_never) pss_nil)), ?_⟩
  have lt := ht.len
  have lz := len_sizes ts
  refine ⟨_, rfl, _, _, _, _, true, rfl, .ty "list", .base (.lst ha), kit_ty (by decide +kernel), _, rfl, iteF ?_⟩
  refine ⟨_, rfl, a, rfl, ⟨_, SqL.of ha⟩, fun D hD => ?_⟩
  refine lc_list (xs := xs) (fun i H2 => H2 D = some (.lst ((List.replicate (min i xs.length) true).map V.bl)) ∧ Same H H2) ⟨by simp [upd_same], same_new hD⟩ (fun i H2 _ ⟨_, s⟩ => SqL.of (s _ _ ha)) ?_ ?_
  · rintro i x H2 hx ⟨g1, g2⟩
    have hil := (List.getElem?_eq_some_iff.mp hx).1
    obtain ⟨t1, ht1, hx2⟩ := ht.getV hx
    have st := sizes_mem (List.mem_of_getElem? ht1)
    refine ⟨rfl, _, rfl, x, t1, rfl, hx2.same g2, by omega, fun H3 s3 => ⟨_, s3 _ _ g1, ?_, ?_, same_add (g2.trans s3) hD⟩⟩
    · rw [List.length_map, List.length_replicate]
      exact Nat.lt_of_le_of_lt (show _ ≤ 1000000 by omega) (by decide)
    · rw [upd_same, Nat.min_eq_left (by omega), Nat.min_eq_left (by omega), List.replicate_succ', List.map_append]
      rfl
  rintro H2 ⟨g1, g2⟩
  refine ⟨D, _, rfl, SqL.of g1, _, rfl, ?_⟩
  have eall : (List.replicate (min xs.length xs.length) true).all id = true := by
    rw [List.all_eq_true]
    intro b hb
    rw [List.mem_replicate] at hb
    exact hb.2
  rw [eall]
  exact iteF (q _ g2)
theorem ok_put_into (T : Txt K mg) (B : Tbs T base) : FnOk P w K mg base CX0 9 T.f_put_into T.d_put_into ["surrounding", "tree"] (sp_put_into T.P_copied_tree q_copied_tree) := by
  have G_check_surrounding : FnOk P w K mg base CX0 4 T.f_check_surrounding T.d_check_surrounding ["thing"] sp_check_surrounding := ok_check_surrounding T
  have G_copied_tree : FnOk P w K mg base CX0 8 T.f_copied_tree T.d_copied_tree ["tree"] (sp_copied_tree T.P_copied_tree q_copied_tree) := ok_copied_tree T B
  refine T.F_put_into.ok sc_put_into (fun vs H Q E h => ?_) (fun cdv A outer s H vs Q E hr h => ?_)
  · obtain ⟨a, xs, ts, v, t, rfl, _⟩ := h
    rfl
  obtain ⟨a, xs, ts, v, t, rfl, ha, hts, ht, hz, hT, q⟩ := h
  refine ⟨_, (pss_cons (ps_expr (pe_call G_check_surrounding (hr.mono (by omega)) (by rfl) T.m_check_surrounding T.F_check_surrounding.kp T.b_check_surrounding .nil pass0 (pa_cons (pv 0) pa_nil))) (pss_cons (ps_set (i := 2) sc_put_into.nd rfl (Or.inl rfl) (pv 1)) (pss_cons (ps_for PassesOwn.never rfl (pi_list (pv 0)) (pg_tup rfl (pgs_cons (pg_name (i := 3) sc_put_into.nd rfl (Or.inl rfl)) (pgs_cons (pg_name (i := 4) sc_put_into.nd rfl (Or.inl rfl)) pgs_nil))) (pss_one (ps_set (i := 2) sc_put_into.nd rfl (Or.inl rfl) (pe_tup (pa_cons (pv 3) (pa_cons (pe_lst (StX.pa_star (pv 4) (pa_cons (pv 2) pa_nil))) pa_nil)))))) (pss_one (ps_ret (pe_call G_copied_tree (hr.mono (by omega)) (by rfl) T.m_copied_tree T.F_copied_tree.kp T.b_copied_tree .nil pass0 (pa_cons (pv 2) pa_nil))))))), ?_⟩
  refine ⟨_, rfl, a, xs, ts, rfl, ha, hts, by omega, fun H1 s1 => ?_⟩
  refine ⟨_, rfl, _, rfl, a, rfl, ⟨_, SqL.of (s1 _ _ ha)⟩, for_list (xs := xs) (fun i σ H2 => ∃ (tv : V) (u : Tr) (y3 y4 : Option V), σ = [some (.ref a), some v, some tv, y3, y4] ∧ TrAt (fun _ => True) H2 tv u ∧ putIn (ts.drop i) u = putIn ts t ∧ u.size + sizes (ts.drop i) = sizes ts + t.size ∧ Same H H2)
    ⟨v, t, none, none, rfl, ht.same s1, by rw [List.drop_zero], by rw [List.drop_zero]; omega, s1⟩ (fun i σ H2 _ ⟨_, _, _, _, _, _, _, _, s2⟩ => SqL.of (s2 _ _ ha)) ?_ ?_⟩
  · rintro i x σ H2 hx ⟨tv, u, y3, y4, rfl, h1, h2, h3, s2⟩
    obtain ⟨t1, ht1, hx2⟩ := hts.getV hx
    have hdrop : ts.drop i = t1 :: ts.drop (i + 1) := by
      obtain ⟨hlt, e⟩ := List.getElem?_eq_some_iff.mp ht1
      rw [← e]
      exact List.drop_eq_getElem_cons hlt
    obtain ⟨c, ks⟩ := t1
    rw [hdrop] at h2 h3
    simp only [putIn, sizes, Tr.size] at h2 h3
    have lz := len_sizes ks
    cases hx2.same s2 with
    | node g1 g2 o1 o2 c1 c2 rr =>
      rename_i ax lx vx
      have lr := rr.len
      refine ⟨_, _, rfl, SqT.of g1, rfl, ?_⟩
      refine ⟨_, _, rfl, _, _, rfl, rfl, ?_⟩
      refine ⟨_, rfl, _, rfl, lx, vx, rfl, .inr (SqL.of g2), _, rfl, ?_, fun l hl => ⟨(by show 2 ≤ sizeLine; decide), fun p hp => ?_⟩⟩
      · rw [List.length_append]
        exact Nat.le_trans (show vx.length + 1 ≤ 1000001 by omega) (by decide)
      have npl : l ≠ p := fun e => by rw [← e, upd_same] at hp; cases hp
      have hp0 := NdefX.upd_none hp
      refine ⟨.ref p, .node c (ks ++ [u]), _, _, rfl, .node upd_same (by rw [upd_ne npl]; exact upd_same) trivial trivial c1 c2 ?_, h2, ?_, same_add (same_add s2 (s2.free hl)) (s2.free hp0)⟩
      · exact ((rr.append (.cons h1 .nil)).same (same_new hl)).same (same_new hp)
      · simp only [Tr.size, sizes_append, sizes]
        omega
  · rintro σ H2 ⟨tv, u, y3, y4, rfl, h1, h2, h3, s2⟩
    rw [hts.len, List.drop_length] at h2 h3
    simp only [putIn, sizes] at h2 h3
    refine ⟨_, rfl, tv, u, rfl, h1, by omega, hT.ext s2, fun r as H3 f3 T3 x3 n3 => ?_⟩
    rw [← h2] at q
    exact q r as H3 ((Fr.same s2).trans f3) T3 (x3.weak fun b hb => s2.free hb) n3
end


theorem lc_rngU {lo : Int} {n : Nat} {Bd : V → Hp → (Hp → Prop) → Prop} {Qd : Hp → Prop} {H0 : Hp} (Pv : Nat → Hp → Prop) (h0 : Pv 0 H0)
    (hs : ∀ (i : Nat) H, i < n → Pv i H → Bd (.int (lo + i)) H (Pv (i + 1))) (hd : ∀ H, Pv n H → Qd H) :
    ∃ W : Nat → Nat → Hp → Prop, (∃ m, W 0 m H0) ∧ ∀ i m H, W i m H → ((Itr lo n).stop i H ∧ Qd H) ∨ ((Itr lo n).go i H ∧ ∃ Nx : Hp → Prop, (∀ H', Nx H' → ∃ m', m' < m ∧ W (i + 1) m' H') ∧ ∀ x H', (Itr lo n).yld i H x H' → Bd x H' Nx) := by
  refine ⟨fun i m H => m = n - i ∧ i ≤ n ∧ Pv i H, ⟨n, by simp, Nat.zero_le _, h0⟩, ?_⟩
  rintro i m H ⟨rfl, hi, p⟩
  by_cases hlt : i < n
  · refine .inr ⟨hlt, Pv (i + 1), fun H' p' => ⟨n - (i + 1), by omega, rfl, hlt, p'⟩, fun x H' y => ?_⟩
    obtain ⟨rfl, rfl⟩ := y
    exact hs i _ hlt p
  · have e : i = n := by omega
    subst e
    exact .inl ⟨Nat.le_refl _, hd H p⟩
theorem putIn_size : ∀ (ts : List Tr) (t : Tr), (putIn ts t).size = sizes ts + t.size
  | [], t => by simp only [putIn, sizes]; omega
  | .node c ks :: r, t => by
    rw [putIn, putIn_size r]
    simp only [sizes, Tr.size, sizes_append]
    omega
section
variable {P : Program} {w : World} {K : PySem.W.Frag} {mg : Str → Option Value} {base : Heap}
def sp__law_due (dd : Nat) : Sp := fun vs H Q _ => ∃ (a : Addr) (xs : List V) (ts : List Tr) (v : V) (t : Tr), vs = [.ref a, v] ∧ H a = some (.lst xs) ∧ TrsAt (fun _ => True) H xs ts ∧ TrAt (fun _ => True) H v t ∧ sizes ts + t.size ≤ 100000 ∧ depths ts ≤ dd ∧ t.depth ≤ dd ∧
  ∀ r H', Same H H' → TrAt (fun b => H b = none) H' r (putIn ts t) → Q r H'
theorem ok__law_due (T : Txt K mg) (dd : Nat) : FnOk P w K mg base CX0 (dd + 1) T.f__law_due T.d__law_due ["surrounding", "tree"] (sp__law_due dd) := by
  have G__law_deep : FnOk P w K mg base CX0 dd T.f__law_deep T.d__law_deep ["tree"] (sq__law_deep dd) := oq__law_deep T dd
  refine T.F__law_due.ok sc__law_due (fun vs H Q E h => ?_) (fun cdv A outer s H vs Q E hr h => ?_)
  · obtain ⟨a, xs, ts, v, t, rfl, _⟩ := h
    rfl
  obtain ⟨a, xs, ts, v, t, rfl, ha, hts, ht, hz, hd1, hd2, q⟩ := h
  refine ⟨_, (pss_cons (ps_set (i := 2) sc__law_due.nd rfl (Or.inl rfl) (pe_call G__law_deep (hr.mono (by omega)) (by rfl) T.m__law_deep T.F__law_deep.kp T.b__law_deep .nil pass0 (pa_cons (pv 1) pa_nil))) (pss_cons (ps_for PassesOwn.never rfl (pi_list (pv 0)) (pg_tup rfl (pgs_cons (pg_name (i := 3) sc__law_due.nd rfl (Or.inl rfl)) (pgs_cons (pg_name (i := 4) sc__law_due.nd rfl (Or.inl rfl)) pgs_nil))) (pss_one (ps_set (i := 2) sc__law_due.nd rfl (Or.inl rfl) (pe_tup (pa_cons (pv 3) (pa_cons (pe_op op_cat (pe_lc (own := [("child", 5)]) (g := gName 5) (tt := tYes) rfl sc__law_due.nd (pi_list (pv 4)) (blkOk_by (own := [("child", 5)]) (N := ["surrounding", "tree", "found", "letter", "children", "child"]) (sc := (defScope s__law_due)) (by decide +kernel)) (fun _ _ _ _ _ => (pg_name (i := 5) sc__law_due.nd rfl (Or.inl rfl))) (fun _ _ _ _ _ => pts_nil) (fun _ _ _ _ _ => (pe_call G__law_deep (hr.mono (by omega)) (by rfl) T.m__law_deep T.F__law_deep.kp T.b__law_deep .nil pass0 (pa_cons (pv 5) pa_nil)))) (pe_lst (pa_cons (pv 2) pa_nil))) pa_nil)))))) (pss_one (ps_ret (pv 2))))), ?_⟩
  refine ⟨_, rfl, v, t, rfl, ht, hd2, by omega, fun r0 as0 H1 s1 x0 n0 => ?_⟩
  refine ⟨_, rfl, a, rfl, ⟨_, SqL.of (s1 _ _ ha)⟩, for_list (xs := xs) (fun i σ H2 => ∃ (tv : V) (u : Tr) (y3 y4 y5 : Option V), σ = [some (.ref a), some v, some tv, y3, y4, y5] ∧ TrAt (fun b => H b = none) H2 tv u ∧ putIn (ts.drop i) u = putIn ts t ∧ u.size + sizes (ts.drop i) = sizes ts + t.size ∧ Same H H2)
    ⟨r0, t, none, none, none, rfl, TrO.at _ _ _ x0, by rw [List.drop_zero], by rw [List.drop_zero]; omega, s1⟩ (fun i σ H2 _ ⟨_, _, _, _, _, _, _, _, _, s2⟩ => SqL.of (s2 _ _ ha)) ?_ ?_⟩
  · rintro i x σ H2 hx ⟨tv, u, y3, y4, y5, rfl, h1, h2, h3, s2⟩
    obtain ⟨t1, ht1, hx2⟩ := hts.getV hx
    have dt := depths_mem (List.mem_of_getElem? ht1)
    have hdrop : ts.drop i = t1 :: ts.drop (i + 1) := by
      obtain ⟨hlt, e⟩ := List.getElem?_eq_some_iff.mp ht1
      rw [← e]
      exact List.drop_eq_getElem_cons hlt
    obtain ⟨c, ks⟩ := t1
    simp only [Tr.depth] at dt
    rw [hdrop] at h2 h3
    simp only [putIn, sizes, Tr.size] at h2 h3
    have lz := len_sizes ks
    cases hx2.same s2 with
    | node g1 g2 o1 o2 c1 c2 rr =>
      rename_i ax lx vx
      have lr := rr.len
      refine ⟨_, _, rfl, SqT.of g1, rfl, ?_⟩
      refine ⟨_, _, rfl, _, _, rfl, rfl, ?_⟩
      refine ⟨_, rfl, _, rfl, lx, rfl, ⟨_, SqL.of g2⟩, fun D hD => ?_⟩
      have hD0 := s2.free hD
      refine lc_list (xs := vx) (fun i H3 => ∃ acc, H3 D = some (.lst acc) ∧ TrsAt (fun b => H b = none ∧ b ≠ D) H3 acc (ks.take i) ∧ Same H2 H3) ⟨[], upd_same, .nil, same_new hD⟩ (fun i H3 _ ⟨_, _, _, s⟩ => SqL.of (s _ _ g2)) ?_ ?_
      · rintro i x H3 hx ⟨acc, k1, k2, k3⟩
        obtain ⟨t1, ht1, hx2⟩ := rr.getV hx
        have dt := depths_mem (List.mem_of_getElem? ht1)
        have st := sizes_mem (List.mem_of_getElem? ht1)
        have la := k2.len
        rw [List.length_take] at la
        refine ⟨rfl, _, rfl, x, t1, rfl, hx2.same k3, by omega, by omega, fun y as1 H4 s4 hy n1 => ?_⟩
        refine ⟨acc, s4 _ _ k1, Nat.lt_of_le_of_lt (show acc.length ≤ 1000000 by omega) (by decide), acc ++ [y], upd_same, ?_, same_add (k3.trans s4) hD⟩
        rw [take_succ_of ht1]
        have hy2 : TrAt (fun b => H b = none ∧ b ≠ D) H4 y t1 := (TrO.at _ _ _ hy).weak fun b hb => ⟨s2.free (k3.free hb), fun e => by rw [e, k1] at hb; cases hb⟩
        exact ((k2.same s4).append (.cons hy2 .nil)).keep (upd_keep fun b h => h.2)
      · rintro H3 ⟨acc, k1, k2, k3⟩
        rw [lr, List.take_length] at k2
        have la := k2.len
        have s3 : Same H H3 := s2.trans k3
        refine ⟨_, rfl, (by show 1 ≤ sizeLine; decide), fun e he => ⟨D, e, _, _, rfl, rfl, by rw [upd_ne (ne_of_none k1 he)]; exact k1, upd_same, ?_, fun l hl => ⟨(by show 2 ≤ sizeLine; decide), fun p hp => ?_⟩⟩⟩
        · exact Nat.le_trans (show acc.length + 1 ≤ 1000001 by omega) (by decide)
        have npl : l ≠ p := fun e => by rw [← e, upd_same] at hp; cases hp
        have he0 := s3.free he
        have hl0 := s3.free (NdefX.upd_none hl)
        have hp0 := s3.free (NdefX.upd_none (NdefX.upd_none hp))
        refine ⟨.ref p, .node c (ks ++ [u]), _, _, _, rfl, .node upd_same (by rw [upd_ne npl]; exact upd_same) hp0 hl0 c1 c2 ?_, h2, ?_, same_add (same_add (same_add s3 he0) hl0) hp0⟩
        · refine TrsAt.append ?_ (.cons ?_ .nil)
          · exact (((k2.same (same_new he)).same (same_new hl)).same (same_new hp)).weak fun b h => h.1
          · exact (((h1.same k3).same (same_new he)).same (same_new hl)).same (same_new hp)
        · simp only [Tr.size, sizes_append, sizes]
          omega
  · rintro σ H2 ⟨tv, u, y3, y4, y5, rfl, h1, h2, h3, s2⟩
    rw [hts.len, List.drop_length] at h2 h3
    simp only [putIn, sizes] at h2 h3
    rw [← h2] at q
    exact ⟨_, rfl, q tv H2 s2 h1⟩
def sp__law_same (d : Nat) : Sp := fun vs H Q _ => ∃ (v u : V) (t : Tr), vs = [v, u] ∧ TrAt (fun _ => True) H v t ∧ TrAt (fun _ => True) H u t ∧ t.depth ≤ d ∧ t.size ≤ 100000 ∧ ∀ H', Same H H' → Q (.bl true) H'
theorem ok__law_same (T : Txt K mg) : ∀ d : Nat, FnOk P w K mg base CX0 d T.f__law_same T.d__law_same ["one", "other"] (sp__law_same d)
  | 0 => none_of fun vs H Q E ⟨v, u, t, _, _, _, h, _⟩ => by have := depth_pos t; omega
  | d + 1 => by
    have G__law_same : FnOk P w K mg base CX0 d T.f__law_same T.d__law_same ["one", "other"] (sp__law_same d) := ok__law_same T d
    refine T.F__law_same.ok sc__law_same (fun vs H Q E h => ?_) (fun cdv A outer s H vs Q E hr h => ?_)
    · obtain ⟨v, u, t, rfl, _⟩ := h
      rfl
    obtain ⟨v, u, t, rfl, ht, hu, hd, hz, q⟩ := h
    refine ⟨_, (pss_cons (ps_if (PW.pt (pw_or (pt_not (pt_val (pe_callB call_isi (by rfl) T.z_isinstance (by decide +kernel) (pa_cons (pv 0) (pa_cons (pe_bltn (v := .ty "tuple") (by rfl) T.z_tuple (by decide +kernel) rfl) pa_nil))))) (pw_or (pt_cmpR op_ne (pe_callB call_len_seq (by rfl) T.z_len PySem.boot_len (pa_cons (pv 0) pa_nil)) pe_int (nomark _)) (pw_or (pt_not (pt_val (pe_callB call_isi (by rfl) T.z_isinstance (by decide +kernel) (pa_cons (pe_ix ix_tup (pv 0) pe_int (fun _ _ => rfl)) (pa_cons (pe_bltn (v := .ty "list") (by rfl) T.z_list (by decide +kernel) rfl) pa_nil))))) (pw_or1 (pt_cmpR op_ne (pe_ix ix_tup (pv 0) pe_int (fun _ _ => rfl)) (pe_ix ix_tup (pv 1) pe_int (fun _ _ => rfl)) (nomark _))))))) (pss_one (ps_ret pe_bl)) pss_nil) (pss_cons (ps_if (pt_cmpR op_ne (pe_callB call_len_seq (by rfl) T.z_len PySem.boot_len (pa_cons (pe_ix ix_tup (pv 0) pe_int (fun _ _ => rfl)) pa_nil)) (pe_callB call_len_seq (by rfl) T.z_len PySem.boot_len (pa_cons (pe_ix ix_tup (pv 1) pe_int (fun _ _ => rfl)) pa_nil)) (nomark _)) (pss_one (ps_ret pe_bl)) pss_nil) (pss_one (ps_ret (pe_cmpR (op_eqD hr.units) (pe_lc (own := [("k", 2)]) (g := gName 2) (tt := tNot (tB (tCall (sp__law_same d) [] E0 (tCons (tOp (rIxL K) (tOp (rIxT K) (tVar 0) (tC (.int 1))) (tVar 2)) (tCons (tOp (rIxL K) (tOp (rIxT K) (tVar 1) (tC (.int 1))) (tVar 2)) tNil))))) rfl sc__law_same.nd (pi_range1 (by rfl) T.z_range (pa_cons (pe_callB call_len_seq (by rfl) T.z_len PySem.boot_len (pa_cons (pe_ix ix_tup (pv 1) pe_int (fun _ _ => rfl)) pa_nil)) pa_nil)) (blkOk_by (own := [("k", 2)]) (N := ["one", "other", "k"]) (sc := (defScope s__law_same)) (by decide +kernel)) (fun _ _ _ _ _ => (pg_name (i := 2) sc__law_same.nd rfl (Or.inl rfl))) (fun _ _ _ _ _ => pts_one (pt_not (pt_val (pe_call G__law_same (hr.mono (by omega)) (by rfl) T.m__law_same T.F__law_same.kp T.b__law_same .nil pass0 (pa_cons (pe_ix ix_list (pe_ix ix_tup (pv 0) pe_int (fun _ _ => rfl)) (pv 2) (fun _ _ => rfl)) (pa_cons (pe_ix ix_list (pe_ix ix_tup (pv 1) pe_int (fun _ _ => rfl)) (pv 2) (fun _ _ => rfl)) pa_nil)))))) (fun _ _ _ _ _ => (pv 2))) (pe_lst pa_nil) (nomark _)))))), ?_⟩
    obtain ⟨c, ks⟩ := t
    simp only [Tr.depth] at hd
    simp only [Tr.size] at hz
    have lz := len_sizes ks
    cases ht with
    | node h1 h2 k1 k2 c1 c2 r =>
    cases hu with
    | node h1' h2' k1' k2' c1' c2' r' =>
    rename_i a l xs a' l' xs'
    have lr := r.len
    have lr' := r'.len
    refine ⟨_, rfl, _, _, _, _, true, rfl, .ty "tuple", .base (.tup h1), kit_ty (by decide +kernel), _, rfl, iteF ?_⟩
    refine ⟨_, rfl, _, _, rfl, .inr (SqT.of h1), rfl, _, rfl, iteF ?_⟩
    refine ⟨_, rfl, _, _, 1, _, rfl, rfl, SqT.of h1, atI_nat (j := 1) rfl, _, _, _, _, true, rfl, .ty "list", .base (.lst h2), kit_ty (by decide +kernel), _, rfl, iteF ?_⟩
    refine ⟨_, rfl, _, _, 0, _, rfl, rfl, SqT.of h1, atI_nat (j := 0) rfl, _, rfl, _, _, 0, _, rfl, rfl, SqT.of h1', atI_nat (j := 0) rfl, rfl, _, rfl, ?_⟩
    rw [decide_eq_true rfl]
    refine iteF ?_
    refine ⟨_, rfl, _, _, 1, _, rfl, rfl, SqT.of h1, atI_nat (j := 1) rfl, l, _, rfl, .inl (SqL.of h2), _, rfl, _, _, 1, _, rfl, rfl, SqT.of h1', atI_nat (j := 1) rfl, l', _, rfl, .inl (SqL.of h2'), rfl, _, rfl, ?_⟩
    rw [lr, lr', decide_eq_true rfl]
    refine iteF ?_
    refine ⟨_, rfl, _, _, 1, _, rfl, rfl, SqT.of h1', atI_nat (j := 1) rfl, l', _, rfl, .inl (SqL.of h2'), _, rfl, by omega, by omega, fun D hD => ?_⟩
    refine lc_rngU (lo := 0) (n := ((xs'.length : Int)).toNat) (fun i H2 => H2 D = some (.lst []) ∧ Same H H2) ⟨upd_same, same_new hD⟩ ?_ ?_
    · rintro i H2 hi ⟨g1, g2⟩
      have hi' : i < ks.length := by omega
      obtain ⟨v1, e1, x1⟩ := r.get (i := i) (List.getElem?_eq_getElem hi')
      obtain ⟨v2, e2, x2⟩ := r'.get (i := i) (List.getElem?_eq_getElem hi')
      have dt := depths_mem (List.getElem_mem hi')
      have st := sizes_mem (List.getElem_mem hi')
      refine ⟨rfl, _, rfl, _, _, 1, _, rfl, rfl, SqT.of (g2 _ _ h1), atI_nat (j := 1) rfl, _, rfl, l, _, _, v1, rfl, rfl, SqL.of (g2 _ _ h2), at_of (j := i) (by omega) e1, _, rfl, _, _, 1, _, rfl, rfl, SqT.of (g2 _ _ h1'), atI_nat (j := 1) rfl, _, rfl, l', _, _, v2, rfl, rfl, SqL.of (g2 _ _ h2'), at_of (j := i) (by omega) e2, v1, v2, _, rfl, x1.same g2, x2.same g2, by omega, by omega, fun H3 s3 => ⟨_, rfl, iteF ?_⟩⟩
      exact ⟨s3 _ _ g1, g2.trans s3⟩
    · rintro H2 ⟨g1, g2⟩
      refine ⟨(by show 0 ≤ sizeLine; decide), fun e he => ⟨_, _, dp_nil (by rw [upd_ne (ne_of_none g1 he)]; exact g1), dp_nil upd_same, shaped_nil, shaped_nil, ?_⟩⟩
      rw [eqv_nil]
      exact q _ (same_add g2 (g2.free he))
end
mutual
def Tr.spoil : Tr → Nat → Tr
  | .node c ks, n => .node c (spoils ks n ++ [.node 122 (List.replicate (n + sizes ks) (.node 97 []))])
def spoils : List Tr → Nat → List Tr
  | [], _ => []
  | t :: r, n => t.spoil n :: spoils r (n + t.size)
end
theorem spoils_append : ∀ (a b : List Tr) (n : Nat), spoils (a ++ b) n = spoils a n ++ spoils b (n + sizes a)
  | [], b, n => by simp [spoils, sizes]
  | t :: r, b, n => by
    simp only [List.cons_append, spoils, spoils_append r b, sizes, List.append_assoc]
    rw [show n + t.size + sizes r = n + (t.size + sizes r) by omega]
theorem depths_rep : ∀ (m : Nat) (t : Tr), depths (List.replicate m t) ≤ t.depth
  | 0, t => by simp [depths]
  | m + 1, t => by
    have := depths_rep m t
    simp only [List.replicate_succ, depths]
    omega
mutual
theorem spoil_depth : ∀ (t : Tr) (n : Nat), (t.spoil n).depth ≤ t.depth + 2
  | .node c ks, n => by
    have := spoils_depth ks n
    have h := depths_rep (n + sizes ks) (.node 97 [])
    simp only [Tr.depth, depths] at h
    simp only [Tr.spoil, Tr.depth, depths_append, depths]
    omega
theorem spoils_depth : ∀ (ts : List Tr) (n : Nat), depths (spoils ts n) ≤ depths ts + 2
  | [], n => by simp [spoils, depths]
  | t :: r, n => by
    have a := spoil_depth t n
    have b := spoils_depth r (n + t.size)
    simp only [spoils, depths]
    omega
end
mutual
theorem TrO.tup : ∀ (t : Tr) (v : V) (as : List Addr) (ok : Addr → Prop) (H : Hp), TrO ok H v t as → TrO (fun b => ok b ∧ (b ∈ as ∨ ∃ xs, H b = some (.tup xs))) H v t as
  | .node c ks, v, as, ok, H, x => by
    cases x with
    | node h1 h2 k1 k2 c1 c2 r =>
      refine .node h1 h2 ⟨k1, .inr ⟨_, h1⟩⟩ ⟨k2, .inl List.mem_cons_self⟩ c1 c2 ((TrsO.tup ks _ _ ok H r).weak fun b h => ⟨h.1, h.2.imp (List.mem_cons_of_mem _) id⟩)
theorem TrsO.tup : ∀ (ts : List Tr) (vs : List V) (as : List Addr) (ok : Addr → Prop) (H : Hp), TrsO ok H vs ts as → TrsO (fun b => ok b ∧ (b ∈ as ∨ ∃ xs, H b = some (.tup xs))) H vs ts as
  | [], _, _, ok, H, x => by cases x; exact .nil
  | t :: r, _, _, ok, H, x => by
    cases x with
    | cons a b => exact .cons ((TrO.tup t _ _ ok H a).weak fun b h => ⟨h.1, h.2.imp (List.mem_append_left _) id⟩) ((TrsO.tup r _ _ ok H b).weak fun b h => ⟨h.1, h.2.imp (List.mem_append_right _) id⟩)
end
section
variable {ok : Addr → Prop} {H : Hp} {S : List Addr}
mutual
theorem TrO.notinU : ∀ (t : Tr) (v : V) (as : List Addr), TrO ok H v t as → (∀ b ∈ as, b ∉ S) → (∀ b ∈ S, ∃ xs, H b = some (.lst xs)) → TrO (fun b => ok b ∧ b ∉ S) H v t as
  | .node c ks, v, as, x, h, hS => by
    cases x with
    | node h1 h2 k1 k2 c1 c2 r =>
      exact .node h1 h2 ⟨k1, fun hm => by obtain ⟨xs, e⟩ := hS _ hm; rw [h1] at e; cases e⟩ ⟨k2, h _ List.mem_cons_self⟩ c1 c2 (TrsO.notinU ks _ _ r (fun b hb => h b (List.mem_cons_of_mem _ hb)) hS)
theorem TrsO.notinU : ∀ (ts : List Tr) (vs : List V) (as : List Addr), TrsO ok H vs ts as → (∀ b ∈ as, b ∉ S) → (∀ b ∈ S, ∃ xs, H b = some (.lst xs)) → TrsO (fun b => ok b ∧ b ∉ S) H vs ts as
  | [], _, _, x, _, _ => by cases x; exact .nil
  | t :: r, _, _, x, h, hS => by
    cases x with
    | cons a b => exact .cons (TrO.notinU t _ _ a (fun b hb => h b (List.mem_append_left _ hb)) hS) (TrsO.notinU r _ _ b (fun b hb => h b (List.mem_append_right _ hb)) hS)
end
end
def okS (ok : Addr → Prop) (H : Hp) (as : List Addr) : Addr → Prop := fun b => b ∈ as ∨ (ok b ∧ ∃ xs, H b = some (.tup xs)) ∨ H b = none
theorem rep_ref {ok : Addr → Prop} {H : Hp} {v : V} {t : Tr} (x : TrAt ok H v t) : ∀ m : Nat, TrsAt ok H (List.replicate m [v]).flatten (List.replicate m t)
  | 0 => .nil
  | m + 1 => by
    simp only [List.replicate_succ, List.flatten_cons]
    exact .cons x (rep_ref x m)
section
variable {P : Program} {w : World} {K : PySem.W.Frag} {mg : Str → Option Value} {base : Heap}
def sp__law_spoil (d : Nat) : Sp := fun vs H Q _ => ∃ (v : V) (m : Addr) (t : Tr) (n : Nat) (as : List Addr) (ok : Addr → Prop), vs = [v, .ref m] ∧ TrO ok H v t as ∧ as.Nodup ∧ (∀ b, ok b → b ≠ m) ∧ H m = some (.lst [.int (n : Nat)]) ∧ t.depth ≤ d ∧ n + t.size ≤ 1000 ∧
  ∀ H', TrAt (okS ok H as) H' v (t.spoil n) → H' m = some (.lst [.int ((n + t.size : Nat) : Int)]) → (∀ b o, b ∉ as → b ≠ m → H b = some o → H' b = some o) → (∀ b, H' b = none → H b = none) → Q .non H'
theorem ok__law_spoil (T : Txt K mg) : ∀ d : Nat, FnOk P w K mg base CX0 d T.f__law_spoil T.d__law_spoil ["tree", "marks"] (sp__law_spoil d)
  | 0 => none_of fun vs H Q E ⟨v, m, t, n, as, ok, _, _, _, _, _, h, _⟩ => by have := depth_pos t; omega
  | d + 1 => by
    have G__law_spoil : FnOk P w K mg base CX0 d T.f__law_spoil T.d__law_spoil ["tree", "marks"] (sp__law_spoil d) := ok__law_spoil T d
    refine T.F__law_spoil.ok sc__law_spoil (fun vs H Q E h => ?_) (fun cdv A outer s H vs Q E hr h => ?_)
    · obtain ⟨v, m, t, n, as, ok, rfl, _⟩ := h
      rfl
    obtain ⟨v, m, t, n, as, ok, rfl, ht, hnd, hok, hm, hd, hz, q⟩ := h
    refine ⟨_, (pss_cons (ps_for PassesOwn.never rfl (pi_list (pe_callTy call_list_of (by rfl) T.z_list (by decide +kernel) (pa_cons (pe_ix ix_tup (pv 0) pe_int (fun _ _ => rfl)) pa_nil))) (pg_name (i := 2) sc__law_spoil.nd rfl (Or.inl rfl)) (pss_one (ps_expr (pe_call G__law_spoil (hr.mono (by omega)) (by rfl) T.m__law_spoil T.F__law_spoil.kp T.b__law_spoil .nil pass0 (pa_cons (pv 2) (pa_cons (pv 1) pa_nil)))))) (pss_cons (ps_expr (pe_bm PySem.F.plainAttrs_list PySem.F.slot_list_append PySem.F.type_list_append mt_append (pe_ix ix_tup (pv 0) pe_int (fun _ _ => rfl)) (pa_cons (pe_tup (pa_cons pe_str (pa_cons (pe_op op_rep (pe_lst (pa_cons (pe_tup (pa_cons pe_str (pa_cons (pe_lst pa_nil) pa_nil))) pa_nil)) (pe_ix ix_list (pv 1) pe_int (fun _ _ => rfl))) pa_nil))) pa_nil))) (pss_one (ps_asg (pe_op op_add (pe_ix ix_list (pv 1) pe_int (fun _ _ => rfl)) pe_int) (pg_sub (pv 1) pe_int set_list))))), ?_⟩
    obtain ⟨c, ks⟩ := t
    simp only [Tr.depth] at hd
    simp only [Tr.size] at hz
    have lz := len_sizes ks
    cases ht with
    | node h1 h2 k1 k2 c1 c2 r =>
    rename_i a l xs as
    have lr := r.len
    rw [List.nodup_cons] at hnd
    have nlm : l ≠ m := hok l k2
    refine ⟨_, rfl, _, _, 1, _, rfl, rfl, SqT.of h1, atI_nat (j := 1) rfl, l, xs, rfl, .inl (SqL.of h2), fun L hL => ?_⟩
    obtain ⟨cs, rfl, rfl, rfl, hcs⟩ := r.split1
    rw [List.length_map] at lz
    have hlst : ∀ b ∈ lstsI cs, ok b ∧ ∃ xs, H b = some (.lst xs) := TrsO.lst _ _ _ r
    have nLl : l ≠ L := ne_of_none h2 hL
    have nLm : m ≠ L := ne_of_none hm hL
    have k0 : ∀ b o, H b = some o → (upd H L (.lst (cs.map (·.1)))) b = some o := fun b o h => by rw [upd_ne (ne_of_none h hL)]; exact h
    refine ⟨L, rfl, ⟨_, SqL.of upd_same⟩, for_list (xs := cs.map (·.1)) (fun i σ H2 => ∃ y2, σ = [some (.ref a), some (.ref m), y2] ∧ H2 m = some (.lst [.int ((n + sizes ((cs.take i).map (·.2.1)) : Nat) : Int)]) ∧ TrsAt (okS ok H (lstsI (cs.take i))) H2 ((cs.take i).map (·.1)) (spoils ((cs.take i).map (·.2.1)) n) ∧
        (∀ b o, b ∉ lstsI (cs.take i) → b ≠ m → H b = some o → H2 b = some o) ∧ (∀ b, H2 b = none → H b = none) ∧ H2 L = some (.lst (cs.map (·.1))))
      ⟨_, rfl, by rw [k0 _ _ hm]; simp [sizes], .nil, fun b o _ _ h => k0 b o h, fun b h => NdefX.upd_none h, upd_same⟩ (fun i σ H2 _ ⟨_, _, _, _, _, _, h⟩ => SqL.of h) ?_ ?_⟩
    · rintro i x σ H2 hx ⟨y2, rfl, g1, g2, g3, g5, g4⟩
      rw [List.getElem?_map] at hx
      cases hc : cs[i]? with
      | none => rw [hc] at hx; cases hx
      | some b =>
        rw [hc] at hx
        cases hx
        obtain ⟨v1, t1, a1⟩ := b
        have hmem := List.mem_of_getElem? hc
        have hO := hcs _ hmem
        have dt : t1.depth ≤ _ := depths_mem (List.mem_map_of_mem (f := fun b : V × Tr × List Addr => b.2.1) hmem)
        have e1 : cs = cs.take i ++ (v1, t1, a1) :: cs.drop (i + 1) := by
          obtain ⟨hlt, e⟩ := List.getElem?_eq_some_iff.mp hc
          rw [← e, ← List.drop_eq_getElem_cons hlt, List.take_append_drop]
        have st : sizes ((cs.take i).map (·.2.1)) + t1.size ≤ sizes (cs.map (·.2.1)) := by
          have := congrArg (fun z : List (V × Tr × List Addr) => sizes (z.map (·.2.1))) e1
          have this : sizes (cs.map (·.2.1)) = sizes ((cs.take i ++ (v1, t1, a1) :: cs.drop (i + 1)).map (·.2.1)) := this
          rw [List.map_append, sizes_append, List.map_cons] at this
          simp only [sizes] at this
          omega
        have ecs : lstsI cs = lstsI (cs.take i) ++ (a1 ++ lstsI (cs.drop (i + 1))) := by
          have e2 : lstsI (cs.take i ++ (v1, t1, a1) :: cs.drop (i + 1)) = lstsI (cs.take i) ++ (a1 ++ lstsI (cs.drop (i + 1))) := by simp [lstsI]
          rw [← e2, ← e1]
        have hnd2 := hnd.2
        rw [show (cs.map (·.2.2)).flatten = lstsI cs from rfl, ecs, List.nodup_append] at hnd2
        obtain ⟨n1, n2, n3⟩ := hnd2
        rw [List.nodup_append] at n2
        have dis : ∀ b ∈ a1, b ∉ lstsI (cs.take i) := fun b h1 h2 => n3 b h2 b (List.mem_append_left _ h1) rfl
        have sub1 : ∀ b ∈ lstsI (cs.take i), b ∈ lstsI cs := fun b h => by rw [ecs]; exact List.mem_append_left _ h
        have hO1 := (TrO.notinU (S := lstsI (cs.take i)) _ _ _ (TrO.tup _ _ _ _ _ hO) dis fun b h => (hlst b (sub1 b h)).2)
        have hO2 : TrO (fun b => (ok b ∧ (b ∈ a1 ∨ ∃ xs, H b = some (.tup xs))) ∧ b ∉ lstsI (cs.take i)) H2 v1 t1 a1 := hO1.keep fun b o h e => g3 b o h.2 (hok b h.1.1) e
        refine ⟨_, rfl, _, rfl, v1, m, t1, _, a1, _, rfl, hO2, n2.1, fun b h => hok b h.1.1, g1, by omega, by omega, fun H3 m1 m2 m3 m4 => ?_⟩
        have e2 : lstsI (cs.take (i + 1)) = lstsI (cs.take i) ++ a1 := by rw [take_succ_of hc]; simp [lstsI]
        refine ⟨_, rfl, ?_, ?_, ?_, fun b h => g5 b (m4 b h), ?_⟩
        · rw [m2, take_succ_of hc, List.map_append, sizes_append]
          simp only [List.map_cons, List.map_nil, sizes]
          refine congrArg (fun z : Nat => some (HO.lst [V.int (z : Int)])) ?_
          omega
        · rw [take_succ_of hc, List.map_append, List.map_append, spoils_append, ← take_succ_of hc, e2]
          refine TrsAt.append ((g2.keep fun b o h e => ?_).weak fun b h => ?_) ?_
          · rcases h with h | ⟨h, xs, e3⟩ | h
            · exact m3 b o (fun h2 => dis b h2 h) (hok b (hlst b (sub1 b h)).1) e
            · refine m3 b o (fun h2 => ?_) (hok b h) e
              obtain ⟨_, xs2, e4⟩ := TrO.lst _ _ _ hO b h2
              rw [e3] at e4; cases e4
            · refine m3 b o (fun h2 => ?_) (fun e2 => by rw [e2, hm] at h; cases h) e
              obtain ⟨_, xs2, e4⟩ := TrO.lst _ _ _ hO b h2
              rw [h] at e4; cases e4
          · exact h.imp (List.mem_append_left _) id
          · simp only [List.map_cons, List.map_nil, spoils]
            refine .cons (m1.weak fun b h => ?_) .nil
            rcases h with h | ⟨h, xs, e3⟩ | h
            · exact .inl (List.mem_append_right _ h)
            · rcases h.1.2 with h5 | ⟨xs2, h5⟩
              · exact .inl (List.mem_append_right _ h5)
              · exact .inr (.inl ⟨h.1.1, xs2, h5⟩)
            · exact .inr (.inr (g5 b h))
        · intro b o hb hbm e
          rw [e2] at hb
          exact m3 b o (fun h => hb (List.mem_append_right _ h)) hbm (g3 b o (fun h => hb (List.mem_append_left _ h)) hbm e)
        · refine m3 L _ (fun h => ?_) (fun e => nLm e.symm) g4
          obtain ⟨_, xs2, e3⟩ := TrO.lst _ _ _ hO L h
          rw [hL] at e3
          cases e3
    · rintro σ H2 ⟨y2, rfl, g1, g2, g3, g5, g4⟩
      rw [List.length_map, List.take_length] at g1 g2 g3
      have hl2 := g3 _ _ hnd.1 nlm h2
      have ha2 : H2 a = some (.tup [.str (ch c), .ref l]) := g3 _ _ (fun h => by obtain ⟨_, xs, e⟩ := hlst a h; rw [h1] at e; cases e) (hok a k1) h1
      refine ⟨_, rfl, _, _, 1, _, rfl, rfl, SqT.of ha2, atI_nat (j := 1) rfl, .inl ⟨rfl, _, SqL.of hl2⟩, ?_⟩
      refine ⟨(by show 0 ≤ sizeLine; decide), fun e he => ⟨(by show 2 ≤ sizeLine; decide), fun ta hta => ⟨(by show 1 ≤ sizeLine; decide), fun le hle => ?_⟩⟩⟩
      have sc := ((same_new (o := .lst []) he).trans (same_new (o := .tup [.str (Str.ofString "a"), .ref e]) hta)).trans (same_new (o := .lst [.ref ta]) hle)
      refine ⟨_, rfl, m, _, 0, _, rfl, rfl, SqL.of (sc _ _ g1), atI_nat (j := 0) rfl, le, _, _, rfl, rfl, upd_same, by omega, by omega, ?_, fun lr hlr => ⟨(by show 2 ≤ sizeLine; decide), fun tz htz => ?_⟩⟩
      · simp only [List.length_cons, List.length_nil, Nat.zero_add, Nat.one_mul]
        exact Nat.le_trans (show _ ≤ 1000 by omega) (by decide)
      generalize hHc : upd (upd (upd H2 e (.lst [])) ta (.tup [.str (Str.ofString "a"), .ref e])) le (.lst [.ref ta]) = Hc at *
      have xe : Hc e = some (.lst []) := by rw [← hHc, upd_ne (ne_of_none (by rw [upd_ne (ne_of_none upd_same hta)]; exact upd_same) hle), upd_ne (ne_of_none upd_same hta)]; exact upd_same
      have xta : Hc ta = some (.tup [.str (ch 97), .ref e]) := by
        rw [← hHc, upd_ne (ne_of_none upd_same hle), upd_same]
        exact congrArg (fun z => some (HO.tup [V.str z, V.ref e])) (by decide +kernel)
      have ek : (((n + sizes (cs.map (·.2.1)) : Nat) : Int)).toNat = n + sizes (cs.map (·.2.1)) := by omega
      rw [ek] at htz ⊢
      have se : Same Hc (upd (upd Hc lr (.lst (List.replicate (n + sizes (cs.map (·.2.1))) [V.ref ta]).flatten)) tz (.tup [.str (Str.ofString "z"), .ref lr])) := (same_new hlr).trans (same_new htz)
      have xlr : (upd (upd Hc lr (.lst (List.replicate (n + sizes (cs.map (·.2.1))) [V.ref ta]).flatten)) tz (.tup [.str (Str.ofString "z"), .ref lr])) lr = some (.lst (List.replicate (n + sizes (cs.map (·.2.1))) [V.ref ta]).flatten) := by rw [upd_ne (ne_of_none upd_same htz)]; exact upd_same
      have xtz : (upd (upd Hc lr (.lst (List.replicate (n + sizes (cs.map (·.2.1))) [V.ref ta]).flatten)) tz (.tup [.str (Str.ofString "z"), .ref lr])) tz = some (.tup [.str (ch 122), .ref lr]) := by
        rw [upd_same]
        exact congrArg (fun z => some (HO.tup [V.str z, V.ref lr])) (by decide +kernel)
      have ntz : Hc tz = none := NdefX.upd_none htz
      generalize hHe : upd (upd Hc lr (.lst (List.replicate (n + sizes (cs.map (·.2.1))) [V.ref ta]).flatten)) tz (.tup [.str (Str.ofString "z"), .ref lr]) = He at *
      have s2e : Same H2 He := sc.trans se
      have free2 : ∀ b, He b = none → H2 b = none := fun b h => s2e.free h
      have new2 : ∀ b, H2 b = none → H b = none ∧ b ≠ l ∧ b ≠ m := fun b h => ⟨g5 b h, (fun e => by rw [e, hl2] at h; cases h), (fun e => by rw [e, g1] at h; cases h)⟩
      have ne_ := new2 e he
      have nta := new2 ta (NdefX.upd_none hta)
      have nlr := new2 lr (sc.free hlr)
      have ntz2 := new2 tz (sc.free ntz)
      refine ⟨l, _, _, rfl, rfl, s2e _ _ hl2, ?_, ?_⟩
      · rw [List.length_map]
        exact Nat.lt_of_le_of_lt (show _ ≤ 1000000 by omega) (by decide)
      have hm3 : (upd He l (.lst (cs.map (·.1) ++ [.ref tz]))) m = some (.lst [.int ((n + sizes (cs.map (·.2.1)) : Nat) : Int)]) := by rw [upd_ne (fun e => nlm e.symm)]; exact s2e _ _ g1
      refine ⟨_, rfl, m, _, 0, _, rfl, rfl, SqL.of hm3, atI_nat (j := 0) rfl, _, 1, rfl, rfl, ?_⟩
      refine ⟨_, rfl, m, _, 0, 0, rfl, rfl, hm3, rfl, ?_⟩
      have kf : ∀ b o (o1 : HO), b ≠ l → b ≠ m → He b = some o → (upd (upd He l (.lst (cs.map (·.1) ++ [.ref tz]))) m o1) b = some o := fun b o o1 x1 x2 e => by rw [upd_ne x2, upd_ne x1]; exact e
      refine q _ ?_ ?_ ?_ ?_
      · simp only [Tr.spoil]
        refine .node (kf _ _ _ (fun e => by rw [e, hl2] at ha2; cases ha2) (hok a k1) (s2e _ _ ha2)) (by rw [upd_ne nlm]; exact upd_same) (.inr (.inl ⟨k1, _, h1⟩)) (.inl List.mem_cons_self) c1 c2 (TrsAt.append ?_ (.cons ?_ .nil))
        · refine (g2.keep fun b o h e => ?_).weak fun b h => h.imp (List.mem_cons_of_mem _) id
          refine kf _ _ _ (fun e2 => ?_) (fun e2 => ?_) (s2e _ _ e)
          · rcases h with h | ⟨h, xs, e3⟩ | h
            · exact hnd.1 (e2 ▸ h)
            · rw [e2, h2] at e3; cases e3
            · rw [e2, h2] at h; cases h
          · rcases h with h | ⟨h, xs, e3⟩ | h
            · exact hok b (hlst b h).1 e2
            · exact hok b h e2
            · rw [e2, hm] at h; cases h
        · have xa : TrAt (okS ok H (l :: lstsI cs)) (upd (upd He l (.lst (cs.map (·.1) ++ [.ref tz]))) m (.lst [.int (((n + sizes (cs.map (·.2.1)) : Nat) : Int) + 1)])) (.ref ta) (.node 97 []) :=
            .node (kf _ _ _ nta.2.1 nta.2.2 (se _ _ xta)) (kf _ _ _ ne_.2.1 ne_.2.2 (se _ _ xe)) (.inr (.inr nta.1)) (.inr (.inr ne_.1)) (by decide) (by decide) .nil
          exact .node (kf _ _ _ ntz2.2.1 ntz2.2.2 xtz) (kf _ _ _ nlr.2.1 nlr.2.2 xlr) (.inr (.inr ntz2.1)) (.inr (.inr nlr.1)) (by decide) (by decide) (rep_ref xa _)
      · rw [upd_same]
        refine congrArg (fun z => some (HO.lst [V.int z])) ?_
        simp only [Tr.size]
        omega
      · intro b o hb hbm e
        rw [List.mem_cons, not_or] at hb
        exact kf _ _ _ hb.1 hbm (s2e _ _ (g3 b o hb.2 hbm e))
      · exact fun b h => g5 b (free2 b (NdefX.upd_none (NdefX.upd_none h)))
end


theorem putIn_depth : ∀ (ts : List Tr) (t : Tr), depths ts ≤ 5 → (putIn ts t).depth ≤ ts.length + max t.depth 5
  | [], t, _ => by simp only [putIn, List.length_nil]; omega
  | .node c ks :: r, t, h => by
    simp only [depths, Tr.depth] at h
    have := putIn_depth r (.node c (ks ++ [t])) (by omega)
    simp only [Tr.depth, depths_append, depths] at this
    simp only [putIn, List.length_cons]
    omega
theorem TrAt.frU {ok : Addr → Prop} {P : Addr} {H H' : Hp} {v : V} {t : Tr} {ps : Array Value} (x : TrAt ok H v t) (hP : H P = some (.tbl ps)) (f : Fr P H H') : TrAt ok H' v t :=
  ((TrAt.kind1 t v x).keep fun b o h e => f b o (fun e2 => h.2 ps (by rw [e2]; exact hP)) e).weak fun b h => h.1
theorem TrsAt.frU {ok : Addr → Prop} {P : Addr} {H H' : Hp} {vs : List V} {ts : List Tr} {ps : Array Value} (x : TrsAt ok H vs ts) (hP : H P = some (.tbl ps)) (f : Fr P H H') : TrsAt ok H' vs ts :=
  ((TrsAt.kind1 ts vs x).keep fun b o h e => f b o (fun e2 => h.2 ps (by rw [e2]; exact hP)) e).weak fun b h => h.1
theorem dats_depthB {ts : List Tr} (h : depths ts ≤ 60) : (PyData.list (dats ts)).depth ≤ 200 := by
  have := dats_depth ts
  simp only [PyData.depth]
  omega
theorem ne_self {K : PySem.W.Frag} {H : Hp} {x y : V} {d : PyData} {Q : VK} (h1 : Dp K H x d) (h2 : Dp K H y d) (hl : d.canLay0 = true) (hd : d.depth ≤ 200) (q : Q (.bl false) H) : rNeB K x y H Q :=
  ⟨d, d, h1, h2, hl, hl, hd, by rw [SeqAt.eqv_refl d hl]; exact q⟩
theorem dpL {K : PySem.W.Frag} {ok : Addr → Prop} {H : Hp} {a : Addr} {xs : List V} {ts : List Tr} (h : H a = some (.lst xs)) (x : TrsAt ok H xs ts) : Dp K H (.ref a) (.list (dats ts)) := .lst (SqL.of h) (TrsAt.dp ts _ x)
theorem layL {ok : Addr → Prop} {H : Hp} {xs : List V} {ts : List Tr} (x : TrsAt ok H xs ts) : (PyData.list (dats ts)).canLay0 = true := by
  simp only [PyData.canLay0]
  exact TrsAt.lay ts _ x
section
variable {P : Program} {w : World} {K : PySem.W.Frag} {mg : Str → Option Value} {base : Heap}
def sp__law_right (Pt : Addr) (qn : Str) : Sp := fun vs H Q _ => ∃ (a : Addr) (xs : List V) (ts : List Tr) (v : V) (t : Tr), vs = [.ref a, v] ∧ H a = some (.lst xs) ∧ TrsAt (fun _ => True) H xs ts ∧ TrAt (fun _ => True) H v t ∧ ts.length ≤ 30 ∧ depths ts ≤ 5 ∧ t.depth ≤ 30 ∧ sizes ts + t.size ≤ 300 ∧ LamX.TabS H Pt qn ∧
  ∀ H', Fr Pt H H' → LamX.TabS H' Pt qn → Q (.bl true) H'
theorem ok__law_right (T : Txt K mg) (B : Tbs T base) : FnOk P w K mg base CX0 63 T.f__law_right T.d__law_right ["surrounding", "tree"] (sp__law_right T.P_copied_tree q_copied_tree) := by
  have G_put_into : FnOk P w K mg base CX0 9 T.f_put_into T.d_put_into ["surrounding", "tree"] (sp_put_into T.P_copied_tree q_copied_tree) := ok_put_into T B
  have G__law_deep : FnOk P w K mg base CX0 61 T.f__law_deep T.d__law_deep ["tree"] (sq__law_deep 61) := oq__law_deep T 61
  have G__law_due : FnOk P w K mg base CX0 62 T.f__law_due T.d__law_due ["surrounding", "tree"] (sp__law_due 61) := ok__law_due T 61
  have G__law_same : FnOk P w K mg base CX0 61 T.f__law_same T.d__law_same ["one", "other"] (sp__law_same 61) := ok__law_same T 61
  have G__law_spoil : FnOk P w K mg base CX0 61 T.f__law_spoil T.d__law_spoil ["tree", "marks"] (sp__law_spoil 61) := ok__law_spoil T 61
  refine T.F__law_right.ok sc__law_right (fun vs H Q E h => ?_) (fun cdv A outer s H vs Q E hr h => ?_)
  · obtain ⟨a, xs, ts, v, t, rfl, _⟩ := h
    rfl
  obtain ⟨a, xs, ts, v, t, rfl, ha, hts, ht, hl, hd1, hd2, hz, hT, q⟩ := h
  generalize hPt : T.P_copied_tree = Pt at *
  refine ⟨_, (pss_cons (ps_setLc (i := 2) (own := [("part", 8)]) (g := gName 8) (tt := tYes) rfl sc__law_right.nd rfl rfl (sw_true rfl rfl rfl (by decide +kernel)) (pi_list (pv 0)) (blkOk_by (own := [("part", 8)]) (N := ["surrounding", "tree", "handed", "given", "due", "turn", "found", "marked", "part"]) (sc := (defScope s__law_right)) (by decide +kernel)) (fun _ _ _ _ _ => (pg_name (i := 8) sc__law_right.nd rfl (Or.inl rfl))) (fun _ _ _ _ _ => pts_nil) (fun _ _ _ _ _ => (pe_call G__law_deep (hr.mono (by omega)) (by rfl) T.m__law_deep T.F__law_deep.kp T.b__law_deep .nil pass0 (pa_cons (pv 8) pa_nil)))) (pss_cons (ps_set (i := 3) sc__law_right.nd rfl (Or.inl rfl) (pe_call G__law_deep (hr.mono (by omega)) (by rfl) T.m__law_deep T.F__law_deep.kp T.b__law_deep .nil pass0 (pa_cons (pv 1) pa_nil))) (pss_cons (ps_set (i := 4) sc__law_right.nd rfl (Or.inl rfl) (pe_call G__law_due (hr.mono (by omega)) (by rfl) T.m__law_due T.F__law_due.kp T.b__law_due .nil pass0 (pa_cons (pv 0) (pa_cons (pv 1) pa_nil)))) (pss_cons (ps_for PassesOwn.never rfl (pi_range1 (by rfl) T.z_range (pa_cons pe_int pa_nil)) (pg_name (i := 5) sc__law_right.nd rfl (Or.inl rfl)) (pss_cons (ps_set (i := 6) sc__law_right.nd rfl (Or.inl rfl) (pe_call G_put_into (hr.mono (by omega)) (by rfl) T.m_put_into T.F_put_into.kp T.b_put_into .nil pass0 (pa_cons (pv 2) (pa_cons (pv 3) pa_nil)))) (pss_cons (ps_if (PW.pt (pw_or (pt_not (pt_val (pe_call G__law_same (hr.mono (by omega)) (by rfl) T.m__law_same T.F__law_same.kp T.b__law_same .nil pass0 (pa_cons (pv 6) (pa_cons (pv 4) pa_nil))))) (pw_or (pt_cmpR (op_neB (roomDeep hr)) (pv 2) (pv 0) (nomark _)) (pw_or1 (pt_cmpR (op_neB (roomDeep hr)) (pv 3) (pv 1) (nomark _)))))) (pss_one (ps_ret pe_bl)) pss_nil) (pss_cons (ps_set (i := 7) sc__law_right.nd rfl (Or.inl rfl) (pe_call G__law_deep (hr.mono (by omega)) (by rfl) T.m__law_deep T.F__law_deep.kp T.b__law_deep .nil pass0 (pa_cons (pv 4) pa_nil))) (pss_cons (ps_expr (pe_call G__law_spoil (hr.mono (by omega)) (by rfl) T.m__law_spoil T.F__law_spoil.kp T.b__law_spoil .nil pass0 (pa_cons (pv 7) (pa_cons (pe_lst (pa_cons pe_int pa_nil)) pa_nil)))) (pss_cons (ps_expr (pe_call G__law_spoil (hr.mono (by omega)) (by rfl) T.m__law_spoil T.F__law_spoil.kp T.b__law_spoil .nil pass0 (pa_cons (pv 6) (pa_cons (pe_lst (pa_cons pe_int pa_nil)) pa_nil)))) (pss_one (ps_if (PW.pt (pw_or (pt_cmpR (op_neB (roomDeep hr)) (pv 6) (pv 7) (nomark _)) (pw_or (pt_cmpR (op_neB (roomDeep hr)) (pv 2) (pv 0) (nomark _)) (pw_or1 (pt_cmpR (op_neB (roomDeep hr)) (pv 3) (pv 1) (nomark _)))))) (pss_one (ps_ret pe_bl)) pss_nil)))))))) (pss_one (ps_ret pe_bl)))))), ?_⟩
  have lt := hts.len
  have lz := len_sizes ts
  refine ⟨_, rfl, a, rfl, ⟨_, SqL.of ha⟩, fun D hD => ?_⟩
  refine lc_list (xs := xs) (fun i H2 => ∃ acc, H2 D = some (.lst acc) ∧ TrsAt (fun b => H b = none ∧ b ≠ D) H2 acc (ts.take i) ∧ Same H H2) ⟨[], upd_same, .nil, same_new hD⟩ (fun i H2 _ ⟨_, _, _, s⟩ => SqL.of (s _ _ ha)) ?_ ?_
  · rintro i x H2 hx ⟨acc, g1, g2, g3⟩
    obtain ⟨t1, ht1, hx2⟩ := hts.getV hx
    have dt := depths_mem (List.mem_of_getElem? ht1)
    have st := sizes_mem (List.mem_of_getElem? ht1)
    have la := g2.len
    rw [List.length_take] at la
    refine ⟨rfl, _, rfl, x, t1, rfl, hx2.same g3, by omega, by omega, fun y as1 H3 s3 hy n1 => ?_⟩
    refine ⟨acc, s3 _ _ g1, Nat.lt_of_le_of_lt (show acc.length ≤ 1000000 by omega) (by decide), acc ++ [y], upd_same, ?_, same_add (g3.trans s3) hD⟩
    rw [take_succ_of ht1]
    have hy2 : TrAt (fun b => H b = none ∧ b ≠ D) H3 y t1 := (TrO.at _ _ _ hy).weak fun b hb => ⟨g3.free hb, fun e => by rw [e, g1] at hb; cases hb⟩
    exact ((g2.same s3).append (.cons hy2 .nil)).keep (upd_keep fun b h => h.2)
  rintro H1 ⟨ys, g1, g2, s1⟩
  rw [lt, List.take_length] at g2
  refine ⟨_, rfl, v, t, rfl, ht.same s1, by omega, by omega, fun gv as2 H2 s2 x2 n2 => ?_⟩
  refine ⟨_, rfl, _, rfl, a, xs, ts, v, t, rfl, s2 _ _ (s1 _ _ ha), (hts.same s1).same s2, (ht.same s1).same s2, by omega, by omega, by omega, fun dv H3 s3 x3 => ?_⟩
  have usz := putIn_size ts t
  have udp := putIn_depth ts t hd1
  generalize hu : putIn ts t = u at *
  have s13 : Same H1 H3 := s2.trans s3
  have s03 : Same H H3 := s1.trans s13
  have T3 := hT.ext s03
  obtain ⟨ps3, hP3, _, _⟩ := id T3
  have a3 := s03 _ _ ha
  have X3 := hts.same s03
  have V3 := ht.same s03
  have Y3 : TrsAt (fun _ => True) H3 ys ts := (g2.same s13).weak fun _ _ => trivial
  have y3 := s13 _ _ g1
  have W3 : TrAt (fun _ => True) H3 gv t := ((TrO.at _ _ _ x2).same s3).weak fun _ _ => trivial
  have U3 : TrAt (fun _ => True) H3 dv u := x3.weak fun _ _ => trivial
  have neL : ∀ b zs, H3 b = some (.lst zs) → b ≠ Pt := fun b zs h e => by rw [e, hP3] at h; cases h
  refine ⟨2, rfl, by decide, by decide, for_range (lo := 0) (n := 2) (fun i σ H' => ∃ y5 y6 y7 y8, σ = [some (.ref a), some v, some (.ref D), some gv, some dv, y5, y6, y7, y8] ∧ Fr Pt H3 H' ∧ LamX.TabS H' Pt q_copied_tree) ⟨_, _, _, _, rfl, Fr.refl _ _, T3⟩ ?_ ?_⟩
  · rintro i σ H' hi ⟨y5, y6, y7, y8, rfl, f', T'⟩
    refine ⟨_, rfl, _, rfl, D, ys, ts, gv, t, rfl, f' _ _ (neL _ _ y3) y3, Y3.frU hP3 f', W3.frU hP3 f', by omega, T', fun r as4 H4 f4 T4 x4 n4 => ?_⟩
    rw [hu] at x4
    have F4 : Fr Pt H3 H4 := f'.trans f4
    have eqs : ∀ (H5 : Hp), Fr Pt H3 H5 → ∀ (Q1 : VK), Q1 (.bl false) H5 → rNeB K (.ref D) (.ref a) H5 Q1 := fun H5 F5 Q1 q1 =>
      ne_self (dpL (F5 _ _ (neL _ _ y3) y3) (Y3.frU hP3 F5)) (dpL (F5 _ _ (neL _ _ a3) a3) (X3.frU hP3 F5)) (layL X3) (dats_depthB (by omega)) q1
    have eqt : ∀ (H5 : Hp), Fr Pt H3 H5 → ∀ (Q1 : VK), Q1 (.bl false) H5 → rNeB K gv v H5 Q1 := fun H5 F5 Q1 q1 =>
      ne_self (TrAt.dp _ _ (W3.frU hP3 F5)) (TrAt.dp _ _ (V3.frU hP3 F5)) (TrAt.lay _ _ V3) (by have := dat_depth t; omega) q1
    refine ⟨_, rfl, _, rfl, r, dv, u, rfl, (TrO.at _ _ _ x4).weak fun _ _ => trivial, U3.frU hP3 F4, by omega, by omega, fun H5 s5 => ⟨_, rfl, iteF ?_⟩⟩
    have F5 : Fr Pt H3 H5 := F4.trans (Fr.same s5)
    refine ⟨_, rfl, _, rfl, eqs H5 F5 _ ⟨_, rfl, iteF ⟨_, rfl, _, rfl, eqt H5 F5 _ ⟨_, rfl, iteF ?_⟩⟩⟩⟩
    refine ⟨_, rfl, dv, u, rfl, U3.frU hP3 F5, by omega, by omega, fun mv as6 H6 s6 x6 n6 => ?_⟩
    refine ⟨_, rfl, (by show 1 ≤ sizeLine; decide), fun m1 hm1 => ?_⟩
    have x6' := (x6.off hm1).same (same_new (o := .lst [.int 0]) hm1)
    refine ⟨mv, m1, u, 0, as6, _, rfl, x6', n6, fun b h => h.2, upd_same, by omega, by omega, fun H7 k1 k2 k3 k4 => ?_⟩
    have s57 : ∀ b o, b ∉ as6 → H5 b = some o → H7 b = some o := fun b o hb e => by
      have e6 := s6 _ _ e
      have nb := ne_of_none e6 hm1
      exact k3 b o hb nb (by rw [upd_ne nb]; exact e6)
    have new6 : ∀ b ∈ as6, H5 b = none := fun b hb => (TrO.lst _ _ _ x6 b hb).1
    have s57' : Same H5 H7 := fun b o e => s57 b o (fun hb => by rw [new6 b hb] at e; cases e) e
    refine ⟨_, rfl, (by show 1 ≤ sizeLine; decide), fun m2 hm2 => ?_⟩
    have x4' := (((x4.same s5).same s57').off hm2).same (same_new (o := .lst [.int 0]) hm2)
    refine ⟨r, m2, u, 0, as4, _, rfl, x4', n4, fun b h => h.2, upd_same, by omega, by omega, fun H8 j1 j2 j3 j4 => ?_⟩
    have old4 : ∀ b ∈ as4, H' b = none ∧ ∃ zs, H5 b = some (.lst zs) := fun b hb => let ⟨h1, zs, h2⟩ := TrO.lst _ _ _ x4 b hb; ⟨h1, zs, s5 _ _ h2⟩
    have j5 : ∀ b o, b ∉ as4 → H7 b = some o → H8 b = some o := fun b o hb e => by
      have nb := ne_of_none e hm2
      exact j3 b o hb nb (by rw [upd_ne nb]; exact e)
    have F8 : Fr Pt H3 H8 := fun b o hb e => j5 b o (fun hb4 => by
      have := f' _ _ hb e
      rw [(old4 b hb4).1] at this
      cases this) (s57' _ _ (F5 _ _ hb e))
    have T8 : LamX.TabS H8 Pt q_copied_tree := by
      have T5 := T4.ext s5
      obtain ⟨ps, h1, h2, h3⟩ := T5
      have k : ∀ b o, (∀ xs, o ≠ .lst xs) → H5 b = some o → H8 b = some o := fun b o hn e => j5 b o (fun hb4 => by
        obtain ⟨_, zs, h⟩ := old4 b hb4
        rw [h] at e
        cases e
        exact hn _ rfl) (s57' _ _ e)
      refine ⟨ps, k _ _ (fun _ e => by cases e) h1, h2, fun pos cv hc => ?_⟩
      obtain ⟨c, e, h4⟩ := h3 pos cv hc
      exact ⟨c, e, k _ _ (fun _ e => by unfold LamX.CodeO at e; cases e) h4⟩
    have K8 : TrAt (fun _ => True) H8 mv (u.spoil 0) := (k1.keep fun b o h e => j5 b o (fun hb4 => by
      obtain ⟨_, zs, h5⟩ := old4 b hb4
      rcases h with h | ⟨h, xs, e3⟩ | h
      · rw [new6 b h] at h5; cases h5
      · rw [h.1] at h5; cases h5
      · rw [s6 _ _ h5 |> fun z => show (upd H6 m1 (.lst [.int 0])) b = some (.lst zs) from by rw [upd_ne (ne_of_none z hm1)]; exact z] at h; cases h) e).weak fun _ _ => trivial
    have sd := spoil_depth u 0
    have dd := dat_depth (u.spoil 0)
    refine ⟨_, rfl, _, rfl, ne_self (TrAt.dp _ _ j1) (TrAt.dp _ _ K8) (TrAt.lay _ _ K8) (by omega) ⟨_, rfl, iteF ?_⟩⟩
    refine ⟨_, rfl, _, rfl, eqs H8 F8 _ ⟨_, rfl, iteF ⟨_, rfl, _, rfl, eqt H8 F8 _ ⟨_, rfl, iteF ?_⟩⟩⟩⟩
    exact ⟨_, _, _, _, rfl, F8, T8⟩
  · rintro σ H' ⟨y5, y6, y7, y8, rfl, f', T'⟩
    exact q H' ((Fr.same s03).trans f') T'
end

def spLaw (K : PySem.W.Frag) : Sp := fun vs H Q _ => ∃ (a : Addr) (ns : List Int), vs = [.ref a] ∧ SqL K H a (ns.map V.int) ∧ ns.length ≤ 63 ∧ ∀ H', Q (.bl true) H'


theorem cut_all (xs : List V) (k : Nat) (h : xs.length ≤ k) : cutV xs none (some (k : Int)) = xs := by
  have e : HT.sIx xs.length xs.length (some (k : Int)) = xs.length := by
    show (if (k : Int) < 0 then ((k : Int) + (xs.length : Int)).toNat else min ((k : Int).toNat) xs.length) = xs.length
    rw [if_neg (by omega)]
    omega
  have e2 : HT.sIx xs.length 0 none = 0 := rfl
  unfold cutV
  rw [e, e2]
  simp
theorem TabS.frL {H H' : Hp} {P d q lf : Addr} {ps : List Addr} {n : Nat} {qn : Str} {zs : List V} (h : LamX.TabS H P qn) (D : DeckN H d q ps n) (hl : H lf = some (.lst zs)) (f : FrL d ps lf H H') : LamX.TabS H' P qn := by
  have k : ∀ b o, (∀ xs, o ≠ .lst xs) → H b = some o → H' b = some o := fun b o hn e => f b o
    (fun e2 => by obtain ⟨i, a, _⟩ := D.top; rw [e2, a] at e; cases e; exact hn _ rfl)
    (fun hp => by obtain ⟨x, y, z, a, _⟩ := D.all _ hp; rw [a] at e; cases e; exact hn _ rfl)
    (fun e2 => by rw [e2, hl] at e; cases e; exact hn _ rfl) e
  obtain ⟨ps, h1, h2, h3⟩ := h
  refine ⟨ps, k _ _ (fun _ e => by cases e) h1, h2, fun pos cv hc => ?_⟩
  obtain ⟨c, e, h4⟩ := h3 pos cv hc
  exact ⟨c, e, k _ _ (fun _ e => by unfold LamX.CodeO at e; cases e) h4⟩
theorem TabS.frK {H H' : Hp} {P d q : Addr} {ps : List Addr} {n : Nat} {qn : Str} (h : LamX.TabS H P qn) (D : DeckN H d q ps n) (f : FrK d ps H H') : LamX.TabS H' P qn := by
  obtain ⟨i, a, _⟩ := id D.top
  exact TabS.frL h D a (.ofK f)
theorem DeckN.frT {H H' : Hp} {P d q : Addr} {ps : List Addr} {n : Nat} {tb : Array Value} (D : DeckN H d q ps n) (hP : H P = some (.tbl tb)) (f : Fr P H H') : DeckN H' d q ps n := D.keep fun b o h e => f b o (fun e2 => by
  rw [e2] at h
  rcases h with h | h | h
  · obtain ⟨i, a, _⟩ := D.top; rw [← h, hP] at a; cases a
  · have a := D.row; rw [← h, hP] at a; cases a
  · obtain ⟨x, y, z, a, _⟩ := D.all _ h; rw [hP] at a; cases a) e
section
variable {P : Program} {w : World} {K : PySem.W.Frag} {mg : Str → Option Value} {base : Heap}
theorem ok_law (T : Txt K mg) (B : Tbs T base) : FnOk P w K mg base CX0 64 T.f_law T.d_law ["script"] (spLawT K [T.P_copied_tree]) := by
  have G__law_deck : FnOk P w K mg base CX0 1 T.f__law_deck T.d__law_deck ["script"] (sp__law_deck K) := ok__law_deck T
  have G__law_draw : FnOk P w K mg base CX0 1 T.f__law_draw T.d__law_draw ["deck", "many"] sp__law_draw := ok__law_draw T
  have G__law_tree : FnOk P w K mg base CX0 31 T.f__law_tree T.d__law_tree ["deck", "letters", "left"] (sp__law_tree 30) := ok__law_tree T 30
  have G__law_right : FnOk P w K mg base CX0 63 T.f__law_right T.d__law_right ["surrounding", "tree"] (sp__law_right T.P_copied_tree q_copied_tree) := ok__law_right T B
  refine T.F_law.ok sc_law (fun vs H Q E h => ?_) (fun cdv A outer s H vs Q E hr h => ?_)
  · obtain ⟨a, ns, rfl, _⟩ := h
    rfl
  obtain ⟨a, ns, rfl, hS, h63, hPs, qq⟩ := h
  generalize hPt : T.P_copied_tree = Pt at *
  have hP0 : H Pt = some (.tbl #[]) := hPs Pt (by simp)
  have hT0 : LamX.TabS H Pt q_copied_tree := LamX.TabS.nil hP0
  have L1 : Lets (Str.ofString "a") := ⟨by decide +kernel, by decide +kernel, by decide +kernel⟩
  have L2 : Lets (Str.ofString "ab") := ⟨by decide +kernel, by decide +kernel, by decide +kernel⟩
  have L3 : Lets (Str.ofString "xyz") := ⟨by decide +kernel, by decide +kernel, by decide +kernel⟩
  have L4 : Lets (Str.ofString "abc") := ⟨by decide +kernel, by decide +kernel, by decide +kernel⟩
  refine ⟨_, (pss_cons (ps_set (i := 1) sc_law.nd rfl (Or.inl rfl) (pe_call G__law_deck (hr.mono (by omega)) (by rfl) T.m__law_deck T.F__law_deck.kp T.b__law_deck .nil pass0 (pa_cons (pv 0) pa_nil))) (pss_cons (ps_for PassesOwn.never rfl (pi_range1 (by rfl) T.z_range (pa_cons pe_int pa_nil)) (pg_name (i := 2) sc_law.nd rfl (Or.inl rfl)) (pss_cons (ps_set (i := 3) sc_law.nd rfl (Or.inl rfl) (pe_lst pa_nil)) (pss_cons (ps_for PassesOwn.never rfl (pi_range1 (by rfl) T.z_range (pa_cons (pe_call G__law_draw (hr.mono (by omega)) (by rfl) T.m__law_draw T.F__law_draw.kp T.b__law_draw .nil pass0 (pa_cons (pv 1) (pa_cons (pe_ix ix_list (pe_lst (pa_cons pe_int (pa_cons pe_int pa_nil))) (pe_call G__law_draw (hr.mono (by omega)) (by rfl) T.m__law_draw T.F__law_draw.kp T.b__law_draw .nil pass0 (pa_cons (pv 1) (pa_cons pe_int pa_nil))) (fun _ _ => rfl)) pa_nil))) pa_nil)) (pg_name (i := 4) sc_law.nd rfl (Or.inl rfl)) (pss_cons (ps_set (i := 5) sc_law.nd rfl (Or.inl rfl) (pe_call G__law_tree (hr.mono (by omega)) (by rfl) T.m__law_tree T.F__law_tree.kp T.b__law_tree .nil pass0 (pa_cons (pv 1) (pa_cons (pe_ix ix_list (pe_lst (pa_cons pe_str (pa_cons pe_str (pa_cons pe_str pa_nil)))) (pe_call G__law_draw (hr.mono (by omega)) (by rfl) T.m__law_draw T.F__law_draw.kp T.b__law_draw .nil pass0 (pa_cons (pv 1) (pa_cons pe_int pa_nil))) (fun _ _ => rfl)) (pa_cons (pe_lst (pa_cons pe_int pa_nil)) pa_nil))))) (pss_one (ps_expr (pe_bm PySem.F.plainAttrs_list PySem.F.slot_list_append PySem.F.type_list_append mt_append (pv 3) (pa_cons (pe_tup (pa_cons (pe_ix ix_tup (pv 5) pe_int (fun _ _ => rfl)) (pa_cons (pe_slice sl_list (pe_ix ix_tup (pv 5) pe_int (fun _ _ => rfl)) po_none (po_some pe_int)) pa_nil))) pa_nil)))))) (pss_one (ps_if (pt_not (pt_val (pe_call G__law_right (hr.mono (by omega)) (by rfl) T.m__law_right T.F__law_right.kp T.b__law_right .nil pass0 (pa_cons (pv 3) (pa_cons (pe_call G__law_tree (hr.mono (by omega)) (by rfl) T.m__law_tree T.F__law_tree.kp T.b__law_tree .nil pass0 (pa_cons (pv 1) (pa_cons pe_str (pa_cons (pe_lst (pa_cons (pe_ix ix_list (pe_lst (pa_cons pe_int (pa_cons pe_int pa_nil))) (pe_call G__law_draw (hr.mono (by omega)) (by rfl) T.m__law_draw T.F__law_draw.kp T.b__law_draw .nil pass0 (pa_cons (pv 1) (pa_cons pe_int pa_nil))) (fun _ _ => rfl)) pa_nil)) pa_nil)))) pa_nil))))) (pss_one (ps_ret pe_bl)) pss_nil))))) (pss_one (ps_ret pe_bl)))), ?_⟩
  refine ⟨_, rfl, a, ns, rfl, hS, h63, fun d q ps H1 s1 fr1 hd0 hp0 hq0 D1 => ?_⟩
  refine ⟨8, rfl, by decide, by decide, for_range (lo := 0) (n := 8) (fun k σ H' => ∃ y2 y3 y4 y5, σ = [some (.ref a), some (.ref d), y2, y3, y4, y5] ∧ DeckN H' d q ps (1000 * k) ∧ LamX.TabS H' Pt q_copied_tree) ⟨_, _, _, _, rfl, D1, hT0.ext s1⟩ ?_ ?_⟩
  · rintro k σ H2 hk ⟨y2, y3, y4, y5, rfl, D2, T2⟩
    refine ⟨(by show 0 ≤ sizeLine; decide), fun sl hsl => ?_⟩
    have D2' := D2.same (same_new (o := .lst []) hsl)
    have T2' := T2.ext (same_new (o := .lst []) hsl)
    refine ⟨_, rfl, (by show 2 ≤ sizeLine; decide), fun l1 hl1 => ?_⟩
    have D2'' := D2'.same (same_new (o := .lst [.int 10, .int 31]) hl1)
    have T2'' := T2'.ext (same_new (o := .lst [.int 10, .int 31]) hl1)
    have nsl1 : sl ≠ l1 := ne_of_none upd_same hl1
    refine ⟨_, rfl, d, q, ps, 2, _, rfl, D2'', by omega, by decide, by decide, fun r H3 r0 r1 f3 D3 => ?_⟩
    have T3 := TabS.frK T2'' D2'' f3
    obtain ⟨n1, n2, n3⟩ := D2'.new hl1
    obtain ⟨m1, m2, m3⟩ := D2.new hsl
    have hl3 : H3 l1 = some (.lst [.int 10, .int 31]) := f3 _ _ n1 n3 upd_same
    have hs3 : H3 sl = some (.lst []) := f3 _ _ m1 m3 (by rw [upd_ne nsl1]; exact upd_same)
    obtain ⟨mm, hmm, hm1⟩ : ∃ mm : Int, atI [V.int 10, V.int 31] r = some (.int mm) ∧ (mm = 10 ∨ mm = 31) := by
      obtain rfl | rfl : r = 0 ∨ r = 1 := by omega
      · exact ⟨10, atI_nat (j := 0) rfl, .inl rfl⟩
      · exact ⟨31, atI_nat (j := 1) rfl, .inr rfl⟩
    refine ⟨l1, _, r, _, rfl, rfl, SqL.of hl3, hmm, d, q, ps, mm, _, rfl, D3, by omega, by omega, by omega, fun r2 H4 r20 r21 f4 D4 => ?_⟩
    have T4 := TabS.frK T3 D3 f4
    have hs4 : H4 sl = some (.lst []) := f4 _ _ m1 m3 hs3
    refine ⟨r2, rfl, by omega, by omega, for_range (lo := 0) (n := r2.toNat) (fun i σ H' => ∃ y4 y5 xs ts, σ = [some (.ref a), some (.ref d), some (.int (0 + k)), some (.ref sl), y4, y5] ∧ H' sl = some (.lst xs) ∧ TrsAt (fun b => b ≠ sl) H' xs ts ∧ ts.length = i ∧ sizes ts ≤ 4 * i ∧ depths ts ≤ 4 ∧ DeckN H' d q ps (1000 * k + 2 + 13 * i) ∧ LamX.TabS H' Pt q_copied_tree)
      ⟨y4, y5, [], [], rfl, hs4, .nil, rfl, by simp [sizes], by simp [depths], D4, T4⟩ ?_ ?_⟩
    · rintro i σ H5 hi ⟨y4, y5, xs, ts, rfl, g1, g2, g3, g4, g5, D5, T5⟩
      refine ⟨_, rfl, (by show 3 ≤ sizeLine; decide), fun l2 hl2 => ?_⟩
      have D5' := D5.same (same_new (o := .lst [.str (Str.ofString "a"), .str (Str.ofString "ab"), .str (Str.ofString "xyz")]) hl2)
      have T5' := T5.ext (same_new (o := .lst [.str (Str.ofString "a"), .str (Str.ofString "ab"), .str (Str.ofString "xyz")]) hl2)
      refine ⟨_, rfl, d, q, ps, 3, _, rfl, D5', by omega, by decide, by decide, fun r H6 r0 r1 f6 D6 => ?_⟩
      obtain ⟨n1, n2, n3⟩ := D5.new hl2
      have T6 := TabS.frK T5' D5' f6
      have hl6 : H6 l2 = _ := f6 _ _ n1 n3 upd_same
      have hs6 : H6 sl = some (.lst xs) := f6 _ _ m1 m3 (by rw [upd_ne (ne_of_none g1 hl2)]; exact g1)
      have X6 : TrsAt (fun b => b ≠ sl) H6 xs ts := (g2.same (same_new hl2)).frK D5' f6
      obtain ⟨LL, hLL, hLt⟩ : ∃ LL : Str, atI [V.str (Str.ofString "a"), V.str (Str.ofString "ab"), V.str (Str.ofString "xyz")] r = some (.str LL) ∧ Lets LL := by
        obtain rfl | rfl | rfl : r = 0 ∨ r = 1 ∨ r = 2 := by omega
        · exact ⟨_, atI_nat (j := 0) rfl, L1⟩
        · exact ⟨_, atI_nat (j := 1) rfl, L2⟩
        · exact ⟨_, atI_nat (j := 2) rfl, L3⟩
      refine ⟨l2, _, r, _, rfl, rfl, SqL.of hl6, hLL, (by show 1 ≤ sizeLine; decide), fun lf hlf => ?_⟩
      have D6' := D6.same (same_new (o := .lst [.int 4]) hlf)
      have T6' := T6.ext (same_new (o := .lst [.int 4]) hlf)
      refine ⟨d, q, lf, ps, LL, _, 4, rfl, D6', by omega, hLt, upd_same, by decide, by decide, fun tv t l' H7 f7 hl7 e7 D7 T7 => ?_⟩
      have T7' := TabS.frL T6' D6' (upd_same (o := .lst [.int 4])) f7
      have nslf : sl ≠ lf := ne_of_none hs6 hlf
      have hs7 : H7 sl = some (.lst xs) := f7 _ _ m1 m3 nslf (by rw [upd_ne nslf]; exact hs6)
      have X7 : TrsAt (fun b => b ≠ sl) H7 xs ts := by
        have x := (X6.off hlf).same (same_new (o := .lst [.int 4]) hlf)
        exact ((TrsAt.offK D6'.nums _ _ x).keep fun b o k e => f7 b o (fun z => k.2 (.inl z)) (fun z => k.2 (.inr z)) k.1.2 e).weak fun b k => k.1.1
      obtain ⟨c, ks⟩ := t
      simp only [Tr.size] at e7
      have lk := len_sizes ks
      have hdp : depths ks ≤ 3 := by
        have : ∀ ts : List Tr, depths ts ≤ sizes ts := by
          intro ts
          induction ts with
          | nil => simp [depths, sizes]
          | cons t r ih =>
            have hsd : ∀ t : Tr, t.depth ≤ t.size := by
              intro t
              exact (Tr.rec (motive_1 := fun t => t.depth ≤ t.size) (motive_2 := fun ts => depths ts ≤ sizes ts) (fun c ks ih => by simp only [Tr.depth, Tr.size]; omega) (by simp [depths, sizes]) (fun t r h1 h2 => by simp only [depths, sizes]; omega) t)
            have := hsd t
            simp only [depths, sizes]
            omega
        have := this ks
        omega
      cases T7 with
      | node h1 h2 k1 k2 c1 c2 rr =>
        rename_i pa pl vx
        have lr := rr.len
        refine ⟨_, rfl, .inl ⟨rfl, _, SqL.of hs7⟩, _, rfl, _, _, 0, _, rfl, rfl, SqT.of h1, atI_nat (j := 0) rfl, _, rfl, _, _, 1, _, rfl, rfl, SqT.of h1, atI_nat (j := 1) rfl, ?_⟩
        refine ⟨_, rfl, pl, vx, rfl, SqL.of h2, fun sp hsp => ⟨(by show 2 ≤ sizeLine; decide), fun pp hpp => ?_⟩⟩
        have ecut : cutV vx none (some (3 : Int)) = vx := cut_all vx 3 (by omega)
        rw [ecut] at hpp ⊢
        have hpp7 := NdefX.upd_none hpp
        have s8 : Same H7 (upd (upd H7 sp (.lst vx)) pp (.tup [.str (ch c), .ref sp])) := (same_new hsp).trans (same_new hpp)
        have D8 := (D7.same s8).mono (m := 1000 * k + 2 + 13 * (i + 1)) (by simp only [Tr.size]; omega)
        have X8 := X7.same s8
        have R8 : TrAt (fun b => b ≠ sl) (upd (upd H7 sp (.lst vx)) pp (.tup [.str (ch c), .ref sp])) (.ref pp) (.node c ks) := by
          refine .node upd_same (by rw [upd_ne (ne_of_none upd_same hpp)]; exact upd_same) (fun e => ?_) (fun e => ?_) c1 c2 ((rr.same s8).weak fun b hb e => ?_)
          · rw [e, hs7] at hpp7; cases hpp7
          · rw [e, hs7] at hsp; cases hsp
          · rw [e] at hb
            have := m1
            rw [upd_ne nslf, hs6] at hb
            cases hb
        have hs8 := s8 _ _ hs7
        have lx := X7.len
        refine ⟨sl, xs, .ref pp, rfl, rfl, hs8, Nat.lt_of_le_of_lt (show xs.length ≤ 1000 by omega) (by decide), _, _, xs ++ [.ref pp], ts ++ [.node c ks], rfl, upd_same, ?_, by rw [List.length_append, g3]; rfl, ?_, ?_, ?_, ?_⟩
        · exact (X8.append (.cons R8 .nil)).keep (upd_keep fun b h => h)
        · rw [sizes_append]
          simp only [sizes, Tr.size]
          omega
        · rw [depths_append]
          simp only [depths, Tr.depth]
          omega
        · refine D8.keep fun b o h e => ?_
          rw [upd_ne (fun e2 => by
            rw [e2] at h
            rcases h with h | h | h
            · exact m1 h
            · exact m2 h
            · exact m3 h)]
          exact e
        · exact TabS.fr1 (T7'.ext s8) hs8 (fun b o n e => by rw [upd_ne n]; exact e)
    · rintro σ H5 ⟨y4, y5, xs, ts, rfl, g1, g2, g3, g4, g5, D5, T5⟩
      refine ⟨_, rfl, _, rfl, (by show 2 ≤ sizeLine; decide), fun l3 hl3 => ?_⟩
      have D5' := D5.same (same_new (o := .lst [.int 12, .int 30]) hl3)
      have T5' := T5.ext (same_new (o := .lst [.int 12, .int 30]) hl3)
      obtain ⟨n1, n2, n3⟩ := D5.new hl3
      refine ⟨_, rfl, d, q, ps, 2, _, rfl, D5', by omega, by decide, by decide, fun r H6 r0 r1 f6 D6 => ?_⟩
      have T6 := TabS.frK T5' D5' f6
      have hl6 : H6 l3 = some (.lst [.int 12, .int 30]) := f6 _ _ n1 n3 upd_same
      have hs6 : H6 sl = some (.lst xs) := f6 _ _ m1 m3 (by rw [upd_ne (ne_of_none g1 hl3)]; exact g1)
      have X6 : TrsAt (fun b => b ≠ sl) H6 xs ts := (g2.same (same_new hl3)).frK D5' f6
      obtain ⟨mm, hmm, hm1⟩ : ∃ mm : Nat, atI [V.int 12, V.int 30] r = some (.int (mm : Int)) ∧ 1 ≤ mm ∧ mm ≤ 30 := by
        obtain rfl | rfl : r = 0 ∨ r = 1 := by omega
        · exact ⟨12, atI_nat (j := 0) rfl, by decide, by decide⟩
        · exact ⟨30, atI_nat (j := 1) rfl, by decide, by decide⟩
      refine ⟨l3, _, r, _, rfl, rfl, SqL.of hl6, hmm, (by show 1 ≤ sizeLine; decide), fun lf hlf => ?_⟩
      have D6' := D6.same (same_new (o := .lst [.int (mm : Int)]) hlf)
      have T6' := T6.ext (same_new (o := .lst [.int (mm : Int)]) hlf)
      refine ⟨d, q, lf, ps, _, _, mm, rfl, D6', by omega, L4, upd_same, hm1.1, hm1.2, fun tv t l' H7 f7 hl7 e7 D7 T7 => ?_⟩
      have T7' := TabS.frL T6' D6' (upd_same (o := .lst [.int (mm : Int)])) f7
      have nslf : sl ≠ lf := ne_of_none hs6 hlf
      have hs7 : H7 sl = some (.lst xs) := f7 _ _ m1 m3 nslf (by rw [upd_ne nslf]; exact hs6)
      have X7 : TrsAt (fun b => b ≠ sl) H7 xs ts := by
        have x := (X6.off hlf).same (same_new (o := .lst [.int (mm : Int)]) hlf)
        exact ((TrsAt.offK D6'.nums _ _ x).keep fun b o k e => f7 b o (fun z => k.2 (.inl z)) (fun z => k.2 (.inr z)) k.1.2 e).weak fun b k => k.1.1
      have hsd : ∀ t : Tr, t.depth ≤ t.size := by
        intro t
        exact (Tr.rec (motive_1 := fun t => t.depth ≤ t.size) (motive_2 := fun ts => depths ts ≤ sizes ts) (fun c ks ih => by simp only [Tr.depth, Tr.size]; omega) (by simp [depths, sizes]) (fun t r h1 h2 => by simp only [depths, sizes]; omega) t)
      have hdt := hsd t
      refine ⟨sl, xs, ts, tv, t, rfl, hs7, X7.weak fun _ _ => trivial, T7.weak fun _ _ => trivial, by omega, by omega, by omega, by omega, T7', fun H8 f8 T8 => ⟨_, rfl, iteF ?_⟩⟩
      obtain ⟨tb7, hP7, _, _⟩ := id T7'
      exact ⟨_, _, _, _, rfl, (D7.frT hP7 f8).mono (by omega), T8⟩
  · rintro σ H' ⟨y2, y3, y4, y5, rfl, D', T'⟩
    exact qq H'
end

theorem all_mk {l : PySem.W.OpenLaw} {w : World} {K : PySem.W.Frag} {h : Heap} {mg : Str → Option Value} {fa f0 f1 f2 f3 f4 f5 f6 f7 f8 f9 f10 f11 f12 f13 f14 f15 f16 f17 : Addr} (X : K.In h) (G : h.Ns mainGlobals mg) (hfa : mg "law" = some (.ref fa))
    {od0 an0 od1 an1 od2 an2 od3 an3 od4 an4 od5 an5 od6 an6 od7 an7 od8 an8 od9 an9 od10 an10 od11 an11 od12 an12 od13 an13 od14 an14 od15 an15 od16 an16 od17 an17 : Option Addr} {sl0 sl1 sl2 sl3 sl4 sl5 sl6 sl7 sl8 sl9 sl10 sl11 sl12 sl13 sl14 sl15 sl16 sl17 : Array (Option Value)} {oc0 kV0 dc0 pm0 ct0 cd0 oc1 kV1 dc1 pm1 ct1 cd1 oc2 kV2 dc2 pm2 ct2 cd2 oc3 kV3 dc3 pm3 ct3 cd3 oc4 kV4 dc4 pm4 ct4 cd4 oc5 kV5 dc5 pm5 ct5 cd5 oc6 kV6 dc6 pm6 ct6 oc7 kV7 dc7 pm7 ct7 cd7 oc8 kV8 dc8 pm8 ct8 cd8 oc9 kV9 dc9 pm9 ct9 cd9 oc10 kV10 dc10 pm10 ct10 cd10 oc11 kV11 dc11 pm11 ct11 cd11 oc12 kV12 dc12 pm12 ct12 cd12 oc13 kV13 dc13 pm13 ct13 cd13 oc14 kV14 dc14 pm14 ct14 cd14 oc15 kV15 dc15 pm15 ct15 cd15 oc16 kV16 dc16 pm16 ct16 cd16 oc17 kV17 dc17 pm17 ct17 cd17 : Value} {c6 P6 : Addr}
    (a0 : PySem.W.nsIn K mainGlobals "is_letter" = some (some (.ref f0))) (l0 : K.lookup f0 = some ⟨oc0, od0, .func (PySem.W.fnOf "is_letter" "is_letter" (defArgs s_is_letter) (defBody s_is_letter) (defScope s_is_letter) .none kV0 dc0 pm0 an0 cd0 ct0), sl0⟩) (d0 : PySem.W.codeIn K cd0 "is_letter" = true) (k0 : PySem.W.keepIn K (.ref f0) = true)
    (a1 : PySem.W.nsIn K mainGlobals "is_tree" = some (some (.ref f1))) (l1 : K.lookup f1 = some ⟨oc1, od1, .func (PySem.W.fnOf "is_tree" "is_tree" (defArgs s_is_tree) (defBody s_is_tree) (defScope s_is_tree) .none kV1 dc1 pm1 an1 cd1 ct1), sl1⟩) (d1 : PySem.W.codeIn K cd1 "is_tree" = true) (k1 : PySem.W.keepIn K (.ref f1) = true)
    (a2 : PySem.W.nsIn K mainGlobals "_is_part" = some (some (.ref f2))) (l2 : K.lookup f2 = some ⟨oc2, od2, .func (PySem.W.fnOf "_is_part" "_is_part" (defArgs s__is_part) (defBody s__is_part) (defScope s__is_part) .none kV2 dc2 pm2 an2 cd2 ct2), sl2⟩) (d2 : PySem.W.codeIn K cd2 "_is_part" = true) (k2 : PySem.W.keepIn K (.ref f2) = true)
    (a3 : PySem.W.nsIn K mainGlobals "check_tree" = some (some (.ref f3))) (l3 : K.lookup f3 = some ⟨oc3, od3, .func (PySem.W.fnOf "check_tree" "check_tree" (defArgs s_check_tree) (defBody s_check_tree) (defScope s_check_tree) .none kV3 dc3 pm3 an3 cd3 ct3), sl3⟩) (d3 : PySem.W.codeIn K cd3 "check_tree" = true) (k3 : PySem.W.keepIn K (.ref f3) = true)
    (a4 : PySem.W.nsIn K mainGlobals "parts_upward" = some (some (.ref f4))) (l4 : K.lookup f4 = some ⟨oc4, od4, .func (PySem.W.fnOf "parts_upward" "parts_upward" (defArgs s_parts_upward) (defBody s_parts_upward) (defScope s_parts_upward) .none kV4 dc4 pm4 an4 cd4 ct4), sl4⟩) (d4 : PySem.W.codeIn K cd4 "parts_upward" = true) (k4 : PySem.W.keepIn K (.ref f4) = true)
    (a5 : PySem.W.nsIn K mainGlobals "built_upward" = some (some (.ref f5))) (l5 : K.lookup f5 = some ⟨oc5, od5, .func (PySem.W.fnOf "built_upward" "built_upward" (defArgs s_built_upward) (defBody s_built_upward) (defScope s_built_upward) .none kV5 dc5 pm5 an5 cd5 ct5), sl5⟩) (d5 : PySem.W.codeIn K cd5 "built_upward" = true) (k5 : PySem.W.keepIn K (.ref f5) = true)
    (a6 : PySem.W.nsIn K mainGlobals "copied_tree" = some (some (.ref f6))) (l6 : K.lookup f6 = some ⟨oc6, od6, .func (PySem.W.fnOf "copied_tree" "copied_tree" (defArgs s_copied_tree) (defBody s_copied_tree) (defScope s_copied_tree) .none kV6 dc6 pm6 an6 (.ref c6) ct6), sl6⟩) (d6 : PySem.W.codeIn K (.ref c6) "copied_tree" = true) (k6 : PySem.W.keepIn K (.ref f6) = true)
    (a7 : PySem.W.nsIn K mainGlobals "check_surrounding" = some (some (.ref f7))) (l7 : K.lookup f7 = some ⟨oc7, od7, .func (PySem.W.fnOf "check_surrounding" "check_surrounding" (defArgs s_check_surrounding) (defBody s_check_surrounding) (defScope s_check_surrounding) .none kV7 dc7 pm7 an7 cd7 ct7), sl7⟩) (d7 : PySem.W.codeIn K cd7 "check_surrounding" = true) (k7 : PySem.W.keepIn K (.ref f7) = true)
    (a8 : PySem.W.nsIn K mainGlobals "put_into" = some (some (.ref f8))) (l8 : K.lookup f8 = some ⟨oc8, od8, .func (PySem.W.fnOf "put_into" "put_into" (defArgs s_put_into) (defBody s_put_into) (defScope s_put_into) .none kV8 dc8 pm8 an8 cd8 ct8), sl8⟩) (d8 : PySem.W.codeIn K cd8 "put_into" = true) (k8 : PySem.W.keepIn K (.ref f8) = true)
    (a9 : PySem.W.nsIn K mainGlobals "_law_deck" = some (some (.ref f9))) (l9 : K.lookup f9 = some ⟨oc9, od9, .func (PySem.W.fnOf "_law_deck" "_law_deck" (defArgs s__law_deck) (defBody s__law_deck) (defScope s__law_deck) .none kV9 dc9 pm9 an9 cd9 ct9), sl9⟩) (d9 : PySem.W.codeIn K cd9 "_law_deck" = true) (k9 : PySem.W.keepIn K (.ref f9) = true)
    (a10 : PySem.W.nsIn K mainGlobals "_law_draw" = some (some (.ref f10))) (l10 : K.lookup f10 = some ⟨oc10, od10, .func (PySem.W.fnOf "_law_draw" "_law_draw" (defArgs s__law_draw) (defBody s__law_draw) (defScope s__law_draw) .none kV10 dc10 pm10 an10 cd10 ct10), sl10⟩) (d10 : PySem.W.codeIn K cd10 "_law_draw" = true) (k10 : PySem.W.keepIn K (.ref f10) = true)
    (a11 : PySem.W.nsIn K mainGlobals "_law_tree" = some (some (.ref f11))) (l11 : K.lookup f11 = some ⟨oc11, od11, .func (PySem.W.fnOf "_law_tree" "_law_tree" (defArgs s__law_tree) (defBody s__law_tree) (defScope s__law_tree) .none kV11 dc11 pm11 an11 cd11 ct11), sl11⟩) (d11 : PySem.W.codeIn K cd11 "_law_tree" = true) (k11 : PySem.W.keepIn K (.ref f11) = true)
    (a12 : PySem.W.nsIn K mainGlobals "_law_deep" = some (some (.ref f12))) (l12 : K.lookup f12 = some ⟨oc12, od12, .func (PySem.W.fnOf "_law_deep" "_law_deep" (defArgs s__law_deep) (defBody s__law_deep) (defScope s__law_deep) .none kV12 dc12 pm12 an12 cd12 ct12), sl12⟩) (d12 : PySem.W.codeIn K cd12 "_law_deep" = true) (k12 : PySem.W.keepIn K (.ref f12) = true)
    (a13 : PySem.W.nsIn K mainGlobals "_law_due" = some (some (.ref f13))) (l13 : K.lookup f13 = some ⟨oc13, od13, .func (PySem.W.fnOf "_law_due" "_law_due" (defArgs s__law_due) (defBody s__law_due) (defScope s__law_due) .none kV13 dc13 pm13 an13 cd13 ct13), sl13⟩) (d13 : PySem.W.codeIn K cd13 "_law_due" = true) (k13 : PySem.W.keepIn K (.ref f13) = true)
    (a14 : PySem.W.nsIn K mainGlobals "_law_same" = some (some (.ref f14))) (l14 : K.lookup f14 = some ⟨oc14, od14, .func (PySem.W.fnOf "_law_same" "_law_same" (defArgs s__law_same) (defBody s__law_same) (defScope s__law_same) .none kV14 dc14 pm14 an14 cd14 ct14), sl14⟩) (d14 : PySem.W.codeIn K cd14 "_law_same" = true) (k14 : PySem.W.keepIn K (.ref f14) = true)
    (a15 : PySem.W.nsIn K mainGlobals "_law_spoil" = some (some (.ref f15))) (l15 : K.lookup f15 = some ⟨oc15, od15, .func (PySem.W.fnOf "_law_spoil" "_law_spoil" (defArgs s__law_spoil) (defBody s__law_spoil) (defScope s__law_spoil) .none kV15 dc15 pm15 an15 cd15 ct15), sl15⟩) (d15 : PySem.W.codeIn K cd15 "_law_spoil" = true) (k15 : PySem.W.keepIn K (.ref f15) = true)
    (a16 : PySem.W.nsIn K mainGlobals "_law_right" = some (some (.ref f16))) (l16 : K.lookup f16 = some ⟨oc16, od16, .func (PySem.W.fnOf "_law_right" "_law_right" (defArgs s__law_right) (defBody s__law_right) (defScope s__law_right) .none kV16 dc16 pm16 an16 cd16 ct16), sl16⟩) (d16 : PySem.W.codeIn K cd16 "_law_right" = true) (k16 : PySem.W.keepIn K (.ref f16) = true)
    (a17 : PySem.W.nsIn K mainGlobals "law" = some (some (.ref f17))) (l17 : K.lookup f17 = some ⟨oc17, od17, .func (PySem.W.fnOf "law" "law" (defArgs s_law) (defBody s_law) (defScope s_law) .none kV17 dc17 pm17 an17 cd17 ct17), sl17⟩) (d17 : PySem.W.codeIn K cd17 "law" = true) (k17 : PySem.W.keepIn K (.ref f17) = true)
    (t6 : PySem.W.tabIn K "copied_tree" = some (c6, P6)) (u6 : K.lookup P6 = none)
    (z_all : PySem.W.nsIn K mainGlobals "all" = some none)
    (z_int : PySem.W.nsIn K mainGlobals "int" = some none)
    (z_isinstance : PySem.W.nsIn K mainGlobals "isinstance" = some none)
    (z_len : PySem.W.nsIn K mainGlobals "len" = some none)
    (z_list : PySem.W.nsIn K mainGlobals "list" = some none)
    (z_max : PySem.W.nsIn K mainGlobals "max" = some none)
    (z_min : PySem.W.nsIn K mainGlobals "min" = some none)
    (z_range : PySem.W.nsIn K mainGlobals "range" = some none)
    (z_str : PySem.W.nsIn K mainGlobals "str" = some none)
    (z_tuple : PySem.W.nsIn K mainGlobals "tuple" = some none)
    : LawT l w K 64 "script" mg fa [("copied_tree", c6, P6)] := by
  have e := hfa.symm.trans (PySem.W.mg_of X G a17)
  cases e
  have F0 := fun_mk (st := s_is_letter) l0 d0 k0
  have b0 := F0.binds (ps := ["thing"]) fun _ _ _ _ _ _ us hl => match us, hl with | [_], _ => rfl
  have F1 := fun_mk (st := s_is_tree) l1 d1 k1
  have b1 := F1.binds (ps := ["thing"]) fun _ _ _ _ _ _ us hl => match us, hl with | [_], _ => rfl
  have F2 := fun_mk (st := s__is_part) l2 d2 k2
  have b2 := F2.binds (ps := ["thing"]) fun _ _ _ _ _ _ us hl => match us, hl with | [_], _ => rfl
  have F3 := fun_mk (st := s_check_tree) l3 d3 k3
  have b3 := F3.binds (ps := ["thing"]) fun _ _ _ _ _ _ us hl => match us, hl with | [_], _ => rfl
  have F4 := fun_mk (st := s_parts_upward) l4 d4 k4
  have b4 := F4.binds (ps := ["tree"]) fun _ _ _ _ _ _ us hl => match us, hl with | [_], _ => rfl
  have F5 := fun_mk (st := s_built_upward) l5 d5 k5
  have b5 := F5.binds (ps := ["tree", "made"]) fun _ _ _ _ _ _ us hl => match us, hl with | [_, _], _ => rfl
  have F6 := fun_mk (st := s_copied_tree) l6 d6 k6
  have b6 := F6.binds (ps := ["tree"]) fun _ _ _ _ _ _ us hl => match us, hl with | [_], _ => rfl
  have F7 := fun_mk (st := s_check_surrounding) l7 d7 k7
  have b7 := F7.binds (ps := ["thing"]) fun _ _ _ _ _ _ us hl => match us, hl with | [_], _ => rfl
  have F8 := fun_mk (st := s_put_into) l8 d8 k8
  have b8 := F8.binds (ps := ["surrounding", "tree"]) fun _ _ _ _ _ _ us hl => match us, hl with | [_, _], _ => rfl
  have F9 := fun_mk (st := s__law_deck) l9 d9 k9
  have b9 := F9.binds (ps := ["script"]) fun _ _ _ _ _ _ us hl => match us, hl with | [_], _ => rfl
  have F10 := fun_mk (st := s__law_draw) l10 d10 k10
  have b10 := F10.binds (ps := ["deck", "many"]) fun _ _ _ _ _ _ us hl => match us, hl with | [_, _], _ => rfl
  have F11 := fun_mk (st := s__law_tree) l11 d11 k11
  have b11 := F11.binds (ps := ["deck", "letters", "left"]) fun _ _ _ _ _ _ us hl => match us, hl with | [_, _, _], _ => rfl
  have F12 := fun_mk (st := s__law_deep) l12 d12 k12
  have b12 := F12.binds (ps := ["tree"]) fun _ _ _ _ _ _ us hl => match us, hl with | [_], _ => rfl
  have F13 := fun_mk (st := s__law_due) l13 d13 k13
  have b13 := F13.binds (ps := ["surrounding", "tree"]) fun _ _ _ _ _ _ us hl => match us, hl with | [_, _], _ => rfl
  have F14 := fun_mk (st := s__law_same) l14 d14 k14
  have b14 := F14.binds (ps := ["one", "other"]) fun _ _ _ _ _ _ us hl => match us, hl with | [_, _], _ => rfl
  have F15 := fun_mk (st := s__law_spoil) l15 d15 k15
  have b15 := F15.binds (ps := ["tree", "marks"]) fun _ _ _ _ _ _ us hl => match us, hl with | [_, _], _ => rfl
  have F16 := fun_mk (st := s__law_right) l16 d16 k16
  have b16 := F16.binds (ps := ["surrounding", "tree"]) fun _ _ _ _ _ _ us hl => match us, hl with | [_, _], _ => rfl
  have F17 := fun_mk (st := s_law) l17 d17 k17
  have b17 := F17.binds (ps := ["script"]) fun _ _ _ _ _ _ us hl => match us, hl with | [_], _ => rfl
  let T : Txt K mg := ⟨f0, _, F0, b0, PySem.W.mg_of X G a0, f1, _, F1, b1, PySem.W.mg_of X G a1, f2, _, F2, b2, PySem.W.mg_of X G a2, f3, _, F3, b3, PySem.W.mg_of X G a3, f4, _, F4, b4, PySem.W.mg_of X G a4, f5, _, F5, b5, PySem.W.mg_of X G a5, f6, _, F6, b6, PySem.W.mg_of X G a6, f7, _, F7, b7, PySem.W.mg_of X G a7, f8, _, F8, b8, PySem.W.mg_of X G a8, f9, _, F9, b9, PySem.W.mg_of X G a9, f10, _, F10, b10, PySem.W.mg_of X G a10, f11, _, F11, b11, PySem.W.mg_of X G a11, f12, _, F12, b12, PySem.W.mg_of X G a12, f13, _, F13, b13, PySem.W.mg_of X G a13, f14, _, F14, b14, PySem.W.mg_of X G a14, f15, _, F15, b15, PySem.W.mg_of X G a15, f16, _, F16, b16, PySem.W.mg_of X G a16, fa, _, F17, b17, PySem.W.mg_of X G a17, c6, P6, rfl, PySem.W.mg_none_of X G z_all, PySem.W.mg_none_of X G z_int, PySem.W.mg_none_of X G z_isinstance, PySem.W.mg_none_of X G z_len, PySem.W.mg_none_of X G z_list, PySem.W.mg_none_of X G z_max, PySem.W.mg_none_of X G z_min, PySem.W.mg_none_of X G z_range, PySem.W.mg_none_of X G z_str, PySem.W.mg_none_of X G z_tuple⟩
  refine ⟨?_, PySem.W.fnOf "law" "law" (defArgs s_law) (defBody s_law) (defScope s_law) .none kV17 dc17 pm17 an17 cd17 ct17, fun s v => .of_eq rfl, fun base _ _ hb => ?_⟩
  · intro z hz
    simp only [List.mem_cons, List.not_mem_nil, or_false] at hz
    subst hz
    exact ⟨t6, u6⟩
  · have B : Tbs T base := ⟨hb ("copied_tree", c6, P6) (by simp)⟩
    exact ok_law T B
end My
open PySem PySem.W PyProof.Rows
set_option maxRecDepth 100000 in
set_option maxHeartbeats 0 in
theorem PySem.Challenge.cw_heaptrees_k50_trees_put_in_holds : PySem.Challenge.rw_heaptrees_k50_trees_put_in.Holds := by
  w_on; o_law; k_head; (case hw => w_witness2)
  k_fill
  refine My.walk_ofT (l := PySem.Challenge.rw_heaptrees_k50_trees_put_in) (n := 63) (k := 64) (x := "script") rfl (by decide) (by decide) rfl ⟨rfl, by decide, by decide⟩ (fun w h Y => Y.1) ["copied_tree"] ?R ?F
  case R => decide +kernel
  case F =>
    intro w mg fa h KX G hmg
    refine' ⟨_, ?n, ?m⟩
    case m =>
      refine' My.all_mk KX G hmg ?a0 ?l0 ?d0 ?k0 ?a1 ?l1 ?d1 ?k1 ?a2 ?l2 ?d2 ?k2 ?a3 ?l3 ?d3 ?k3 ?a4 ?l4 ?d4 ?k4 ?a5 ?l5 ?d5 ?k5 ?a6 ?l6 ?d6 ?k6 ?a7 ?l7 ?d7 ?k7 ?a8 ?l8 ?d8 ?k8 ?a9 ?l9 ?d9 ?k9 ?a10 ?l10 ?d10 ?k10 ?a11 ?l11 ?d11 ?k11 ?a12 ?l12 ?d12 ?k12 ?a13 ?l13 ?d13 ?k13 ?a14 ?l14 ?d14 ?k14 ?a15 ?l15 ?d15 ?k15 ?a16 ?l16 ?d16 ?k16 ?a17 ?l17 ?d17 ?k17 ?t6 ?u6 ?z_all ?z_int ?z_isinstance ?z_len ?z_list ?z_max ?z_min ?z_range ?z_str ?z_tuple
      (case a0 => k_is)
      (case l0 => k_is)
      (case d0 => k_is)
      (case k0 => k_is)
      (case a1 => k_is)
      (case l1 => k_is)
      (case d1 => k_is)
      (case k1 => k_is)
      (case a2 => k_is)
      (case l2 => k_is)
      (case d2 => k_is)
      (case k2 => k_is)
      (case a3 => k_is)
      (case l3 => k_is)
      (case d3 => k_is)
      (case k3 => k_is)
      (case a4 => k_is)
      (case l4 => k_is)
      (case d4 => k_is)
      (case k4 => k_is)
      (case a5 => k_is)
      (case l5 => k_is)
      (case d5 => k_is)
      (case k5 => k_is)
      (case a6 => k_is)
      (case l6 => k_is)
      (case d6 => k_is)
      (case k6 => k_is)
      (case a7 => k_is)
      (case l7 => k_is)
      (case d7 => k_is)
      (case k7 => k_is)
      (case a8 => k_is)
      (case l8 => k_is)
      (case d8 => k_is)
      (case k8 => k_is)
      (case a9 => k_is)
      (case l9 => k_is)
      (case d9 => k_is)
      (case k9 => k_is)
      (case a10 => k_is)
      (case l10 => k_is)
      (case d10 => k_is)
      (case k10 => k_is)
      (case a11 => k_is)
      (case l11 => k_is)
      (case d11 => k_is)
      (case k11 => k_is)
      (case a12 => k_is)
      (case l12 => k_is)
      (case d12 => k_is)
      (case k12 => k_is)
      (case a13 => k_is)
      (case l13 => k_is)
      (case d13 => k_is)
      (case k13 => k_is)
      (case a14 => k_is)
      (case l14 => k_is)
      (case d14 => k_is)
      (case k14 => k_is)
      (case a15 => k_is)
      (case l15 => k_is)
      (case d15 => k_is)
      (case k15 => k_is)
      (case a16 => k_is)
      (case l16 => k_is)
      (case d16 => k_is)
      (case k16 => k_is)
      (case a17 => k_is)
      (case l17 => k_is)
      (case d17 => k_is)
      (case k17 => k_is)
      (case t6 => rfl)
      (case u6 => rfl)
      (case z_all => k_is)
      (case z_int => k_is)
      (case z_isinstance => k_is)
      (case z_len => k_is)
      (case z_list => k_is)
      (case z_max => k_is)
      (case z_min => k_is)
      (case z_range => k_is)
      (case z_str => k_is)
      (case z_tuple => k_is)
    case n => rfl
#print axioms PySem.Challenge.cw_heaptrees_k50_trees_put_in_holds
