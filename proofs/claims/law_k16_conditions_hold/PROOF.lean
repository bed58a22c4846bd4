
import PyProof.Rows.All
import Wide.All
import OpenK.AllK
import Wide.FinOn
import HandS.ForMost
import HandS.Wide
import HandS.IsInst
import HandS.Flow
import HandS.Style
import HandS.Codes
import HandS.Lambda
import HandS.EndTab
import HandS.SortKw
import HandS.FStr
import HandS.NoneIn
import HandS.More
import HandS.Zip
import HandS.Conv
import HandS.TupAny
import HandS.RaiseMore
import HandS.Walk
import HandS.Iter
import HandS.Dict
import PyProof.StrLawsRepr
import KE.SortKeyHeap
import PySem.Challenge.RW_heaptrees_k16_conditions_hold
set_option Elab.async false
set_option linter.all false
set_option maxRecDepth 100000
set_option maxHeartbeats 4000000
namespace My
open PySem PySem.Spec PyProof.Rows L2
def topS (i : Nat) : Stmt := PySem.Challenge.pw_heaptrees_k16_conditions_hold.main.body.getD i (.Pass ⟨0, 0, 0, 0⟩)
abbrev s_condition_holds : Stmt := topS 1
theorem sc_condition_holds : FnScope ["condition", "numbers", "word"] ["condition", "numbers"] (defScope s_condition_holds) := ⟨rfl, rfl, rfl, by decide +kernel, rfl, by decide +kernel, by decide +kernel⟩
abbrev s__weighed : Stmt := topS 2
theorem sc__weighed : FnScope ["weights", "numbers", "weight", "number"] ["weights", "numbers"] (defScope s__weighed) := ⟨rfl, rfl, rfl, by decide +kernel, rfl, by decide +kernel, by decide +kernel⟩
abbrev s__law_cell_at : Stmt := topS 4
theorem sc__law_cell_at : FnScope ["script", "k"] ["script", "k"] (defScope s__law_cell_at) := ⟨rfl, rfl, rfl, by decide +kernel, rfl, by decide +kernel, by decide +kernel⟩
abbrev s__law_numbers : Stmt := topS 5
theorem sc__law_numbers : FnScope ["cell", "many", "found", "rest", "stir", "k", "again"] ["cell", "many"] (defScope s__law_numbers) := ⟨rfl, rfl, rfl, by decide +kernel, rfl, by decide +kernel, by decide +kernel⟩
abbrev s__law_deck : Stmt := topS 6
theorem sc__law_deck : FnScope ["cell", "many"] ["cell", "many"] (defScope s__law_deck) := ⟨rfl, rfl, rfl, by decide +kernel, rfl, by decide +kernel, by decide +kernel⟩
abbrev s__law_take : Stmt := topS 7
theorem sc__law_take : FnScope ["deck", "many"] ["deck", "many"] (defScope s__law_take) := ⟨rfl, rfl, rfl, by decide +kernel, rfl, by decide +kernel, by decide +kernel⟩
abbrev s__law_weights : Stmt := topS 8
theorem sc__law_weights : FnScope ["deck", "s", "most", "k"] ["deck", "s"] (defScope s__law_weights) := ⟨rfl, rfl, rfl, by decide +kernel, rfl, by decide +kernel, by decide +kernel⟩
abbrev s__law_condition : Stmt := topS 9
theorem sc__law_condition : FnScope ["deck", "s", "deep", "way", "m", "one"] ["deck", "s", "deep"] (defScope s__law_condition) := ⟨rfl, rfl, rfl, by decide +kernel, rfl, by decide +kernel, by decide +kernel⟩
abbrev s__law_holds : Stmt := topS 10
theorem sc__law_holds : FnScope ["condition", "numbers", "total", "k"] ["condition", "numbers"] (defScope s__law_holds) := ⟨rfl, rfl, rfl, by decide +kernel, rfl, by decide +kernel, by decide +kernel⟩
abbrev s__law_copy : Stmt := topS 11
theorem sc__law_copy : FnScope ["thing", "found", "key", "one"] ["thing"] (defScope s__law_copy) := ⟨rfl, rfl, rfl, by decide +kernel, rfl, by decide +kernel, by decide +kernel⟩
abbrev s__law_some_numbers : Stmt := topS 12
theorem sc__law_some_numbers : FnScope ["deck", "s", "way", "far", "k", "one"] ["deck", "s"] (defScope s__law_some_numbers) := ⟨rfl, rfl, rfl, by decide +kernel, rfl, by decide +kernel, by decide +kernel⟩
abbrev s_law : Stmt := topS 13
theorem sc_law : FnScope ["script", "k", "deck", "s", "condition", "rows", "numbers", "handed", "found", "turn"] ["script"] (defScope s_law) := ⟨rfl, rfl, rfl, by decide +kernel, rfl, by decide +kernel, by decide +kernel⟩
structure Txt (K : PySem.W.Frag) (mg : Str → Option Value) where
  f_condition_holds : Addr
  d_condition_holds : FuncData
  F_condition_holds : Fun K "condition_holds" "condition_holds" s_condition_holds f_condition_holds d_condition_holds
  b_condition_holds : Binds K d_condition_holds ["condition", "numbers"] []
  m_condition_holds : mg "condition_holds" = some (.ref f_condition_holds)
  f__weighed : Addr
  d__weighed : FuncData
  F__weighed : Fun K "_weighed" "_weighed" s__weighed f__weighed d__weighed
  b__weighed : Binds K d__weighed ["weights", "numbers"] []
  m__weighed : mg "_weighed" = some (.ref f__weighed)
  f__law_cell_at : Addr
  d__law_cell_at : FuncData
  F__law_cell_at : Fun K "_law_cell_at" "_law_cell_at" s__law_cell_at f__law_cell_at d__law_cell_at
  b__law_cell_at : Binds K d__law_cell_at ["script", "k"] []
  m__law_cell_at : mg "_law_cell_at" = some (.ref f__law_cell_at)
  f__law_numbers : Addr
  d__law_numbers : FuncData
  F__law_numbers : Fun K "_law_numbers" "_law_numbers" s__law_numbers f__law_numbers d__law_numbers
  b__law_numbers : Binds K d__law_numbers ["cell", "many"] []
  m__law_numbers : mg "_law_numbers" = some (.ref f__law_numbers)
  f__law_deck : Addr
  d__law_deck : FuncData
  F__law_deck : Fun K "_law_deck" "_law_deck" s__law_deck f__law_deck d__law_deck
  b__law_deck : Binds K d__law_deck ["cell", "many"] []
  m__law_deck : mg "_law_deck" = some (.ref f__law_deck)
  f__law_take : Addr
  d__law_take : FuncData
  F__law_take : Fun K "_law_take" "_law_take" s__law_take f__law_take d__law_take
  b__law_take : Binds K d__law_take ["deck", "many"] []
  m__law_take : mg "_law_take" = some (.ref f__law_take)
  f__law_weights : Addr
  d__law_weights : FuncData
  F__law_weights : Fun K "_law_weights" "_law_weights" s__law_weights f__law_weights d__law_weights
  b__law_weights : Binds K d__law_weights ["deck", "s"] []
  m__law_weights : mg "_law_weights" = some (.ref f__law_weights)
  f__law_condition : Addr
  d__law_condition : FuncData
  F__law_condition : Fun K "_law_condition" "_law_condition" s__law_condition f__law_condition d__law_condition
  b__law_condition : Binds K d__law_condition ["deck", "s", "deep"] []
  m__law_condition : mg "_law_condition" = some (.ref f__law_condition)
  f__law_holds : Addr
  d__law_holds : FuncData
  F__law_holds : Fun K "_law_holds" "_law_holds" s__law_holds f__law_holds d__law_holds
  b__law_holds : Binds K d__law_holds ["condition", "numbers"] []
  m__law_holds : mg "_law_holds" = some (.ref f__law_holds)
  f__law_copy : Addr
  d__law_copy : FuncData
  F__law_copy : Fun K "_law_copy" "_law_copy" s__law_copy f__law_copy d__law_copy
  b__law_copy : Binds K d__law_copy ["thing"] []
  m__law_copy : mg "_law_copy" = some (.ref f__law_copy)
  f__law_some_numbers : Addr
  d__law_some_numbers : FuncData
  F__law_some_numbers : Fun K "_law_some_numbers" "_law_some_numbers" s__law_some_numbers f__law_some_numbers d__law_some_numbers
  b__law_some_numbers : Binds K d__law_some_numbers ["deck", "s"] []
  m__law_some_numbers : mg "_law_some_numbers" = some (.ref f__law_some_numbers)
  f_law : Addr
  d_law : FuncData
  F_law : Fun K "law" "law" s_law f_law d_law
  b_law : Binds K d_law ["script"] []
  m_law : mg "law" = some (.ref f_law)
  z_bool : mg "bool" = none
  z_dict : mg "dict" = none
  z_int : mg "int" = none
  z_isinstance : mg "isinstance" = none
  z_len : mg "len" = none
  z_list : mg "list" = none
  z_max : mg "max" = none
  z_min : mg "min" = none
  z_range : mg "range" = none
  z_sum : mg "sum" = none
  z_tuple : mg "tuple" = none
  z_zip : mg "zip" = none
local macro_rules | `(tactic| walk_at "my rd") => `(tactic| repeat (first | refine ⟨_, rfl, ?_⟩ | refine ⟨_, _, rfl, rfl, ?_⟩ | refine ⟨rfl, ?_⟩))
local macro_rules | `(tactic| walk_at "my one") => `(tactic| first | refine ⟨_, rfl, ?_⟩ | refine ⟨_, _, rfl, rfl, ?_⟩ | refine ⟨rfl, ?_⟩)
def Chg (p : Addr) (H H' : Hp) : Prop := ∀ b, b ≠ p → H' b = H b
theorem Chg.refl (p : Addr) (H : Hp) : Chg p H H := fun _ _ => rfl
theorem Chg.trans {p : Addr} {H H1 H2 : Hp} (a : Chg p H H1) (b : Chg p H1 H2) : Chg p H H2 := fun c hc => (b c hc).trans (a c hc)
theorem Chg.upd {p : Addr} {H : Hp} {o : HO} : Chg p H (upd H p o) := fun _ h => upd_ne h
theorem Chg.at {p b : Addr} {H H' : Hp} {o : HO} (c : Chg p H H') (h : H b = some o) (n : b ≠ p) : H' b = some o := (c b n).trans h
theorem Chg.seq {K : PySem.W.Frag} {p a : Addr} {H H' : Hp} {xs : List V} (c : Chg p H H') (hp : H p = none) (h : SqL K H a xs) : SqL K H' a xs := by
  rcases h with (h | ⟨o, h⟩) | h
  · exact .inl (.inl (c.at h (ne_of_none h hp)))
  · exact .inl (.inr ⟨o, c.at h (ne_of_none h hp)⟩)
  · exact .inr h
theorem same_new {H : Hp} {p : Addr} {o : HO} (h : H p = none) : Same H (upd H p o) := fun b u q => by rw [upd_ne (ne_of_none q h)]; exact q
theorem nn_mul {a b A B : Int} (h0 : 0 ≤ a) (h1 : a ≤ A) (g0 : 0 ≤ b) (g1 : b ≤ B) : 0 ≤ a * b ∧ a * b ≤ A * B :=
  ⟨Int.mul_nonneg h0 g0, Int.mul_le_mul h1 g1 g0 (Int.le_trans h0 h1)⟩
theorem divW {i j : Int} (h : 0 < j) (h2 : j < 2 ^ 60) : CDivW i j := wide_div (b := 60) h (by omega) (by decide) (by decide)

theorem lay_ints : ∀ xs : List Int, PyData.canLayAll0 (xs.map PyData.int) = true
  | [] => by simp only [List.map_nil, PyData.canLayAll0]
  | x :: r => by simp only [List.map_cons, PyData.canLayAll0, PyData.canLay0, lay_ints r, Bool.and_self]
theorem dep_ints : ∀ xs : List Int, PyData.depthAll (xs.map PyData.int) ≤ 1
  | [] => by simp only [List.map_nil, PyData.depthAll]; omega
  | x :: r => by
    have := dep_ints r
    simp only [List.map_cons, PyData.depthAll, PyData.depth]
    omega
theorem shaped_ints (xs : List Int) : SeqAt.shaped (.list (xs.map PyData.int)) = true := by
  have a := lay_ints xs
  have b := dep_ints xs
  unfold SeqAt.shaped
  rw [Bool.and_eq_true]
  refine ⟨by simp only [PyData.canLay0]; exact a, decide_eq_true ?_⟩
  simp only [PyData.depth]
  omega
theorem dp_ints {K : PySem.W.Frag} {H : Hp} : ∀ xs : List Int, DpAll K H (xs.map V.int) (xs.map PyData.int)
  | [] => .nil
  | x :: r => .cons (.int x) (dp_ints r)
theorem dp_intsL {K : PySem.W.Frag} {H : Hp} {a : Addr} {xs : List Int} (h : SqL K H a (xs.map V.int)) : Dp K H (.ref a) (.list (xs.map PyData.int)) := .lst h (dp_ints xs)
theorem eqv_self {d : PyData} (h : SeqAt.shaped d = true) : PyData.eqv d d = true := SeqAt.eqv_refl d (SeqAt.canLay_of_shaped h)

inductive Tr where
  | node (c : Nat) (ks : List Tr)
def ch (c : Nat) : Str := ⟨#[c]⟩
mutual
def Tr.size : Tr → Nat
  | .node _ ks => 1 + sizes ks
def sizes : List Tr → Nat
  | [] => 0
  | t :: r => t.size + sizes r
end
mutual
def Tr.depth : Tr → Nat
  | .node _ ks => 1 + depths ks
def depths : List Tr → Nat
  | [] => 0
  | t :: r => max t.depth (depths r)
end
mutual
def Tr.post : Tr → List Tr
  | .node c ks => posts ks ++ [.node c ks]
def posts : List Tr → List Tr
  | [] => []
  | t :: r => t.post ++ posts r
end

mutual
def Tr.lets (p : Nat → Prop) : Tr → Prop
  | .node c ks => p c ∧ letss p ks
def letss (p : Nat → Prop) : List Tr → Prop
  | [] => True
  | t :: r => t.lets p ∧ letss p r
end
def Tr.kids : Tr → List Tr
  | .node _ ks => ks
def Tr.top : Tr → Nat
  | .node c _ => c
theorem sizes_append : ∀ a b : List Tr, sizes (a ++ b) = sizes a + sizes b
  | [], b => by simp only [List.nil_append, sizes]; omega
  | t :: r, b => by simp only [List.cons_append, sizes, sizes_append r b]; omega
theorem depths_append : ∀ a b : List Tr, depths (a ++ b) = max (depths a) (depths b)
  | [], b => by simp only [List.nil_append, depths]; omega
  | t :: r, b => by simp only [List.cons_append, depths, depths_append r b]; omega
theorem posts_append : ∀ a b : List Tr, posts (a ++ b) = posts a ++ posts b
  | [], b => by simp only [List.nil_append, posts]
  | t :: r, b => by simp only [List.cons_append, posts, posts_append r b, List.append_assoc]
theorem letss_append (p : Nat → Prop) : ∀ a b : List Tr, letss p (a ++ b) ↔ letss p a ∧ letss p b
  | [], b => by simp only [List.nil_append, letss, true_and]
  | t :: r, b => by simp only [List.cons_append, letss, letss_append p r b, and_assoc]
theorem size_pos : ∀ t : Tr, 1 ≤ t.size
  | .node c ks => by simp only [Tr.size]; omega
theorem len_sizes : ∀ ts : List Tr, ts.length ≤ sizes ts
  | [] => Nat.le_refl _
  | t :: r => by
    have a := size_pos t
    have b := len_sizes r
    simp only [List.length_cons, sizes]
    omega
mutual
theorem post_len : ∀ t : Tr, t.post.length = t.size
  | .node c ks => by simp only [Tr.post, List.length_append, posts_len ks, List.length_singleton, Tr.size]; omega
theorem posts_len : ∀ ts : List Tr, (posts ts).length = sizes ts
  | [] => rfl
  | t :: r => by simp only [posts, List.length_append, post_len t, posts_len r, sizes]
end
theorem sizes_mem : ∀ {ts : List Tr} {t : Tr}, t ∈ ts → t.size ≤ sizes ts
  | u :: r, t, h => by
    rcases List.mem_cons.mp h with e | h
    · subst e; simp only [sizes]; omega
    · have := sizes_mem h
      simp only [sizes]; omega
theorem depths_mem : ∀ {ts : List Tr} {t : Tr}, t ∈ ts → t.depth ≤ depths ts
  | u :: r, t, h => by
    rcases List.mem_cons.mp h with e | h
    · subst e; simp only [depths]; omega
    · have := depths_mem h
      simp only [depths]; omega
theorem letss_mem {p : Nat → Prop} : ∀ {ts : List Tr} {t : Tr}, letss p ts → t ∈ ts → t.lets p
  | u :: r, t, hl, h => by
    simp only [letss] at hl
    rcases List.mem_cons.mp h with e | h
    · subst e; exact hl.1
    · exact letss_mem hl.2 h
mutual
theorem lets_mono {p q : Nat → Prop} (h : ∀ c, p c → q c) : ∀ t : Tr, t.lets p → t.lets q
  | .node c ks, a => by
    simp only [Tr.lets] at a ⊢
    exact ⟨h _ a.1, letss_mono h ks a.2⟩
theorem letss_mono {p q : Nat → Prop} (h : ∀ c, p c → q c) : ∀ ts : List Tr, letss p ts → letss q ts
  | [], _ => trivial
  | t :: r, a => by
    simp only [letss] at a ⊢
    exact ⟨lets_mono h t a.1, letss_mono h r a.2⟩
end
mutual
inductive TrAt (ok : Addr → Prop) (H : Hp) : V → Tr → Prop
  | node {a l : Addr} {vs : List V} {c : Nat} {ks : List Tr} : H a = some (.tup [.str (ch c), .ref l]) → H l = some (.lst vs) → ok a → ok l → 97 ≤ c → c ≤ 122 → TrsAt ok H vs ks → TrAt ok H (.ref a) (.node c ks)
inductive TrsAt (ok : Addr → Prop) (H : Hp) : List V → List Tr → Prop
  | nil : TrsAt ok H [] []
  | cons {v : V} {vs : List V} {t : Tr} {ts : List Tr} : TrAt ok H v t → TrsAt ok H vs ts → TrsAt ok H (v :: vs) (t :: ts)
end
section
variable {ok ok' : Addr → Prop} {H H' : Hp}
mutual
theorem TrAt.imp (hk : ∀ b, ok b → ok' b) (h : ∀ b o, ok b → H b = some o → H' b = some o) : ∀ (t : Tr) (v : V), TrAt ok H v t → TrAt ok' H' v t
  | .node c ks, v, x => by
    cases x with
    | node h1 h2 k1 k2 c1 c2 r => exact .node (h _ _ k1 h1) (h _ _ k2 h2) (hk _ k1) (hk _ k2) c1 c2 (TrsAt.imp hk h ks _ r)
theorem TrsAt.imp (hk : ∀ b, ok b → ok' b) (h : ∀ b o, ok b → H b = some o → H' b = some o) : ∀ (ts : List Tr) (vs : List V), TrsAt ok H vs ts → TrsAt ok' H' vs ts
  | [], _, x => by cases x; exact .nil
  | t :: r, _, x => by
    cases x with
    | cons a b => exact .cons (TrAt.imp hk h t _ a) (TrsAt.imp hk h r _ b)
end
theorem TrAt.keep {v : V} {t : Tr} (x : TrAt ok H v t) (h : ∀ b o, ok b → H b = some o → H' b = some o) : TrAt ok H' v t := TrAt.imp (fun _ k => k) h t v x
theorem TrsAt.keep {vs : List V} {ts : List Tr} (x : TrsAt ok H vs ts) (h : ∀ b o, ok b → H b = some o → H' b = some o) : TrsAt ok H' vs ts := TrsAt.imp (fun _ k => k) h ts vs x
theorem TrAt.weak {v : V} {t : Tr} (x : TrAt ok H v t) (h : ∀ b, ok b → ok' b) : TrAt ok' H v t := TrAt.imp h (fun _ _ _ e => e) t v x
theorem TrsAt.weak {vs : List V} {ts : List Tr} (x : TrsAt ok H vs ts) (h : ∀ b, ok b → ok' b) : TrsAt ok' H vs ts := TrsAt.imp h (fun _ _ _ e => e) ts vs x
mutual
theorem TrAt.there : ∀ (t : Tr) (v : V), TrAt ok H v t → TrAt (fun b => ok b ∧ ∃ o, H b = some o) H v t
  | .node c ks, v, x => by
    cases x with
    | node h1 h2 k1 k2 c1 c2 r => exact .node h1 h2 ⟨k1, _, h1⟩ ⟨k2, _, h2⟩ c1 c2 (TrsAt.there ks _ r)
theorem TrsAt.there : ∀ (ts : List Tr) (vs : List V), TrsAt ok H vs ts → TrsAt (fun b => ok b ∧ ∃ o, H b = some o) H vs ts
  | [], _, x => by cases x; exact .nil
  | t :: r, _, x => by
    cases x with
    | cons a b => exact .cons (TrAt.there t _ a) (TrsAt.there r _ b)
end
theorem TrsAt.len : ∀ {vs : List V} {ts : List Tr}, TrsAt ok H vs ts → vs.length = ts.length
  | [], [], _ => rfl
  | v :: vs, t :: ts, h => by
    cases h with
    | cons a b => simp only [List.length_cons, TrsAt.len b]
  | [], _ :: _, h => by cases h
  | _ :: _, [], h => by cases h
theorem TrsAt.get : ∀ {vs : List V} {ts : List Tr} {i : Nat} {t : Tr}, TrsAt ok H vs ts → ts[i]? = some t → ∃ v, vs[i]? = some v ∧ TrAt ok H v t
  | _, _, i, t, .nil, e => by simp at e
  | _, _, 0, t, .cons a _, e => by simp at e; subst e; exact ⟨_, rfl, a⟩
  | _, _, i + 1, t, .cons _ b, e => by
    obtain ⟨v, h1, h2⟩ := TrsAt.get (i := i) (t := t) b (by simpa using e)
    exact ⟨v, by simpa using h1, h2⟩
theorem TrsAt.getV : ∀ {vs : List V} {ts : List Tr} {i : Nat} {v : V}, TrsAt ok H vs ts → vs[i]? = some v → ∃ t, ts[i]? = some t ∧ TrAt ok H v t
  | _, _, i, t, .nil, e => by simp at e
  | _, _, 0, t, .cons a _, e => by simp at e; subst e; exact ⟨_, rfl, a⟩
  | _, _, i + 1, t, .cons _ b, e => by
    obtain ⟨v, h1, h2⟩ := TrsAt.getV (i := i) (v := t) b (by simpa using e)
    exact ⟨v, by simpa using h1, h2⟩
theorem TrsAt.append : ∀ {vs ws : List V} {ts us : List Tr}, TrsAt ok H vs ts → TrsAt ok H ws us → TrsAt ok H (vs ++ ws) (ts ++ us)
  | [], _, [], _, _, h => h
  | v :: vs, _, t :: ts, _, h, g => by
    cases h with
    | cons a b => exact .cons a (TrsAt.append b g)
  | [], _, _ :: _, _, h, _ => by cases h
  | _ :: _, _, [], _, h, _ => by cases h
theorem TrsAt.split : ∀ {vs ws : List V} {ts : List Tr}, TrsAt ok H (vs ++ ws) ts → ∃ a b, ts = a ++ b ∧ TrsAt ok H vs a ∧ TrsAt ok H ws b
  | [], ws, ts, h => ⟨[], ts, rfl, .nil, h⟩
  | v :: vs, ws, _, h => by
    cases h with
    | cons x y =>
      obtain ⟨a, b, e, h1, h2⟩ := TrsAt.split y
      exact ⟨_ :: a, b, by rw [e]; rfl, .cons x h1, h2⟩
theorem TrsAt.perm {vs ws : List V} (p : vs.Perm ws) : ∀ {ts : List Tr}, TrsAt ok H vs ts → ∃ us, ts.Perm us ∧ TrsAt ok H ws us := by
  induction p with
  | nil => intro ts h; exact ⟨ts, .refl _, h⟩
  | cons x _ ih =>
    intro ts h
    cases h with
    | cons a b =>
      obtain ⟨us, p1, h1⟩ := ih b
      exact ⟨_ :: us, p1.cons _, .cons a h1⟩
  | swap x y l =>
    intro ts h
    cases h with
    | cons a b =>
      cases b with
      | cons c d => exact ⟨_, .swap _ _ _, .cons c (.cons a d)⟩
  | trans _ _ ih1 ih2 =>
    intro ts h
    obtain ⟨us, p1, h1⟩ := ih1 h
    obtain ⟨ws, p2, h2⟩ := ih2 h1
    exact ⟨ws, p1.trans p2, h2⟩
theorem TrsAt.rev {vs : List V} {ts : List Tr} (h : TrsAt ok H vs ts) : TrsAt ok H vs.reverse ts.reverse := by
  induction vs generalizing ts with
  | nil => cases h; exact .nil
  | cons v vs ih =>
    cases h with
    | cons a b =>
      rw [List.reverse_cons, List.reverse_cons]
      exact (ih b).append (.cons a .nil)
end
theorem sizes_perm {a b : List Tr} (p : a.Perm b) : sizes a = sizes b := by
  induction p with
  | nil => rfl
  | cons x _ ih => simp only [sizes, ih]
  | swap x y l => simp only [sizes]; omega
  | trans _ _ ih1 ih2 => exact ih1.trans ih2
theorem depths_perm {a b : List Tr} (p : a.Perm b) : depths a = depths b := by
  induction p with
  | nil => rfl
  | cons x _ ih => simp only [depths, ih]
  | swap x y l => simp only [depths]; omega
  | trans _ _ ih1 ih2 => exact ih1.trans ih2
theorem letss_perm {p : Nat → Prop} {a b : List Tr} (h : a.Perm b) : letss p a → letss p b := by
  induction h with
  | nil => exact id
  | cons x _ ih =>
    intro q
    simp only [letss] at q ⊢
    exact ⟨q.1, ih q.2⟩
  | swap x y l =>
    intro q
    simp only [letss] at q ⊢
    exact ⟨q.2.1, q.1, q.2.2⟩
  | trans _ _ ih1 ih2 => exact fun q => ih2 (ih1 q)
mutual
inductive Sh : Tr → Tr → Prop
  | node {c : Nat} {ks us ls : List Tr} : ks.Perm us → Shs us ls → Sh (.node c ks) (.node c ls)
inductive Shs : List Tr → List Tr → Prop
  | nil : Shs [] []
  | cons {t u : Tr} {ts us : List Tr} : Sh t u → Shs ts us → Shs (t :: ts) (u :: us)
end
mutual
theorem Sh.refl : ∀ t : Tr, Sh t t
  | .node c ks => .node (.refl _) (Shs.refl ks)
theorem Shs.refl : ∀ ts : List Tr, Shs ts ts
  | [] => .nil
  | t :: r => .cons (Sh.refl t) (Shs.refl r)
end
mutual
theorem Sh.size : ∀ {t u : Tr}, Sh t u → t.size = u.size
  | _, _, .node p h => by simp only [Tr.size, sizes_perm p, Shs.sizes h]
theorem Shs.sizes : ∀ {ts us : List Tr}, Shs ts us → My.sizes ts = My.sizes us
  | _, _, .nil => rfl
  | _, _, .cons a b => by simp only [My.sizes, Sh.size a, Shs.sizes b]
end
mutual
theorem Sh.depth : ∀ {t u : Tr}, Sh t u → t.depth = u.depth
  | _, _, .node p h => by simp only [Tr.depth, depths_perm p, Shs.depths h]
theorem Shs.depths : ∀ {ts us : List Tr}, Shs ts us → My.depths ts = My.depths us
  | _, _, .nil => rfl
  | _, _, .cons a b => by simp only [My.depths, Sh.depth a, Shs.depths b]
end
mutual
theorem Sh.lets {p : Nat → Prop} : ∀ {t u : Tr}, Sh t u → t.lets p → u.lets p
  | _, _, .node q h, a => by
    simp only [Tr.lets] at a ⊢
    exact ⟨a.1, Shs.letss h (letss_perm q a.2)⟩
theorem Shs.letss {p : Nat → Prop} : ∀ {ts us : List Tr}, Shs ts us → My.letss p ts → My.letss p us
  | _, _, .nil, a => a
  | _, _, .cons x y, a => by
    simp only [My.letss] at a ⊢
    exact ⟨Sh.lets x a.1, Shs.letss y a.2⟩
end
theorem Shs.len : ∀ {ts us : List Tr}, Shs ts us → ts.length = us.length
  | _, _, .nil => rfl
  | _, _, .cons a b => by simp only [List.length_cons, Shs.len b]
theorem Shs.append : ∀ {ts us ts' us' : List Tr}, Shs ts us → Shs ts' us' → Shs (ts ++ ts') (us ++ us')
  | _, _, _, _, .nil, h => h
  | _, _, _, _, .cons a b, h => .cons a (Shs.append b h)

def Fr (p : Addr) (H H' : Hp) : Prop := ∀ b o, b ≠ p → H b = some o → H' b = some o
theorem Fr.refl (p : Addr) (H : Hp) : Fr p H H := fun _ _ _ h => h
theorem Fr.trans {p : Addr} {H H1 H2 : Hp} (a : Fr p H H1) (b : Fr p H1 H2) : Fr p H H2 := fun c o n h => b c o n (a c o n h)
theorem Fr.same {p : Addr} {H H' : Hp} (s : Same H H') : Fr p H H' := fun b o _ h => s b o h
theorem Fr.chg {p : Addr} {H H' : Hp} (c : Chg p H H') : Fr p H H' := fun _ _ n h => c.at h n
theorem Fr.new {p q : Addr} {H H' : Hp} {o : HO} (f : Fr p H H') (h : H q = none) : Fr p H (upd H' q o) := fun b u n e => by
  rw [upd_ne (ne_of_none e h)]
  exact f b u n e
theorem same_add {q : Addr} {H H' : Hp} {o : HO} (f : Same H H') (h : H q = none) : Same H (upd H' q o) := fun b u e => by
  rw [upd_ne (ne_of_none e h)]
  exact f b u e
theorem Fr.free {p q : Addr} {H H' : Hp} (f : Fr p H H') (hp : H' p ≠ none) (h : H' q = none) : H q = none := by
  cases e : H q with
  | none => rfl
  | some o =>
    by_cases hq : q = p
    · subst hq; exact absurd h hp
    · rw [f q o hq e] at h; cases h
theorem Fr.seq {K : PySem.W.Frag} {p a : Addr} {H H' : Hp} {xs : List V} (c : Fr p H H') (hp : H p = none) (h : SqL K H a xs) : SqL K H' a xs := by
  rcases h with (h | ⟨o, h⟩) | h
  · exact .inl (.inl (c _ _ (ne_of_none h hp) h))
  · exact .inl (.inr ⟨o, c _ _ (ne_of_none h hp) h⟩)
  · exact .inr h
theorem TrAt.same {ok : Addr → Prop} {H H' : Hp} {v : V} {t : Tr} (x : TrAt ok H v t) (s : Same H H') : TrAt ok H' v t := x.keep fun b o _ h => s b o h
theorem TrsAt.same {ok : Addr → Prop} {H H' : Hp} {vs : List V} {ts : List Tr} (x : TrsAt ok H vs ts) (s : Same H H') : TrsAt ok H' vs ts := x.keep fun b o _ h => s b o h
theorem TrAt.off {ok : Addr → Prop} {H : Hp} {v : V} {t : Tr} {w : Addr} (x : TrAt ok H v t) (h : H w = none) : TrAt (fun b => ok b ∧ b ≠ w) H v t :=
  (TrAt.there t v x).weak fun b ⟨k, o, e⟩ => ⟨k, ne_of_none e h⟩
theorem TrsAt.off {ok : Addr → Prop} {H : Hp} {vs : List V} {ts : List Tr} {w : Addr} (x : TrsAt ok H vs ts) (h : H w = none) : TrsAt (fun b => ok b ∧ b ≠ w) H vs ts :=
  (TrsAt.there ts vs x).weak fun b ⟨k, o, e⟩ => ⟨k, ne_of_none e h⟩
theorem upd_keep {H : Hp} {w : Addr} {o : HO} {ok : Addr → Prop} (h : ∀ b, ok b → b ≠ w) : ∀ b u, ok b → H b = some u → (upd H w o) b = some u := fun b u k e => by
  rw [upd_ne (h b k)]
  exact e
theorem lc_outer {K : PySem.W.Frag} {a : Addr} {xs : List V} {Bd : V → Hp → (Hp → Prop) → Prop} {Qd : Hp → Prop} {H0 : Hp} (Pv : Nat → Hp → Prop) (h0 : Pv 0 H0) (hl : ∀ i H, i ≤ xs.length → Pv i H → SqL K H a xs)
    (hs : ∀ i x H, xs[i]? = some x → Pv i H → Bd x H (Pv (i + 1))) (hd : ∀ H, Pv xs.length H → Qd H) :
    ∃ W : Nat → Nat → Hp → Prop, (∃ m, W 0 m H0) ∧ ∀ i m H, W i m H → ((Itl K a).stop i H ∧ Qd H) ∨ ((Itl K a).go i H ∧ ∃ Nx : Hp → Prop, (∀ H', Nx H' → ∃ m', m' < m ∧ W (i + 1) m' H') ∧ ∀ x H', (Itl K a).yld i H x H' → Bd x H' Nx) := by
  refine ⟨fun i m H => m = xs.length - i ∧ i ≤ xs.length ∧ Pv i H, ⟨xs.length, by simp, Nat.zero_le _, h0⟩, ?_⟩
  rintro i m H ⟨rfl, hi, p⟩
  have q := hl i H hi p
  by_cases hlt : i < xs.length
  · refine .inr ⟨⟨xs, xs[i], q, by simp [hlt]⟩, Pv (i + 1), fun H' p' => ⟨xs.length - (i + 1), by omega, rfl, hlt, p'⟩, fun x H' y => ?_⟩
    obtain ⟨e, y⟩ := y
    subst e
    exact hs i x _ (y xs q) p
  · have e : i = xs.length := by omega
    subst e
    exact .inl ⟨⟨xs, q, Nat.le_refl _⟩, hd H p⟩
theorem take_succ_of {α : Type} {l : List α} {i : Nat} {x : α} (h : l[i]? = some x) : l.take (i + 1) = l.take i ++ [x] := by
  rw [List.take_add_one, h]
  rfl

mutual
def Tr.dat : Tr → PyData
  | .node c ks => .tuple [.str (ch c), .list (dats ks)]
def dats : List Tr → List PyData
  | [] => []
  | t :: r => t.dat :: dats r
end
mutual
theorem dat_depth : ∀ t : Tr, t.dat.depth ≤ 2 * t.depth
  | .node c ks => by
    have := dats_depth ks
    simp only [Tr.dat, PyData.depth, PyData.depthAll, Tr.depth]
    omega
theorem dats_depth : ∀ ts : List Tr, PyData.depthAll (dats ts) ≤ 2 * depths ts
  | [] => by simp only [dats, PyData.depthAll, depths]; omega
  | t :: r => by
    have a := dat_depth t
    have b := dats_depth r
    simp only [dats, PyData.depthAll, depths]
    omega
end
section
variable {ok : Addr → Prop} {H : Hp} {K : PySem.W.Frag}
theorem strOk_ch {c : Nat} (h : c ≤ 122) : PyData.strOk (ch c) = true := by
  unfold PyData.strOk ch
  simp
  omega
mutual
theorem TrAt.lay : ∀ (t : Tr) (v : V), TrAt ok H v t → t.dat.canLay0 = true
  | .node c ks, v, x => by
    cases x with
    | node h1 h2 k1 k2 c1 c2 r => simp only [Tr.dat, PyData.canLay0, PyData.canLayAll0, strOk_ch c2, TrsAt.lay ks _ r, Bool.and_self]
theorem TrsAt.lay : ∀ (ts : List Tr) (vs : List V), TrsAt ok H vs ts → PyData.canLayAll0 (dats ts) = true
  | [], _, _ => by simp only [dats, PyData.canLayAll0]
  | t :: r, _, x => by
    cases x with
    | cons a b => simp only [dats, PyData.canLayAll0, TrAt.lay t _ a, TrsAt.lay r _ b, Bool.and_self]
end
mutual
theorem TrAt.dp : ∀ (t : Tr) (v : V), TrAt ok H v t → Dp K H v t.dat
  | .node c ks, v, x => by
    cases x with
    | node h1 h2 k1 k2 c1 c2 r =>
      simp only [Tr.dat]
      exact .tup (SqT.of h1) (.cons (.str _) (.cons (.lst (SqL.of h2) (TrsAt.dp ks _ r)) .nil))
theorem TrsAt.dp : ∀ (ts : List Tr) (vs : List V), TrsAt ok H vs ts → DpAll K H vs (dats ts)
  | [], _, x => by cases x; exact .nil
  | t :: r, _, x => by
    cases x with
    | cons a b => exact .cons (TrAt.dp t _ a) (TrsAt.dp r _ b)
end
theorem shaped_tr {v : V} {t : Tr} (x : TrAt ok H v t) (h : t.depth ≤ 32) : SeqAt.shaped t.dat = true := by
  unfold SeqAt.shaped
  rw [Bool.and_eq_true]
  exact ⟨TrAt.lay t v x, decide_eq_true (by have := dat_depth t; omega)⟩
theorem shaped_trs {vs : List V} {ts : List Tr} (x : TrsAt ok H vs ts) (h : depths ts ≤ 31) : SeqAt.shaped (.list (dats ts)) = true := by
  unfold SeqAt.shaped
  rw [Bool.and_eq_true]
  refine ⟨by simp only [PyData.canLay0]; exact TrsAt.lay ts vs x, decide_eq_true ?_⟩
  have := dats_depth ts
  simp only [PyData.depth]
  omega
end
def DatOk (K : PySem.W.Frag) (H : Hp) (v : V) : Prop := ∃ d, Dp K H v d ∧ d.canLay0 = true ∧ d.depth ≤ 63
theorem DatOk.all {K : PySem.W.Frag} {H : Hp} : ∀ {vs : List V}, (∀ v ∈ vs, DatOk K H v) → ∃ ds, DpAll K H vs ds ∧ SeqAt.shaped (.list ds) = true ∧ ds.length = vs.length
  | [], _ => ⟨[], .nil, by decide +kernel, rfl⟩
  | v :: r, h => by
    obtain ⟨d, h1, h2, h3⟩ := h v List.mem_cons_self
    obtain ⟨ds, g1, g2, g3⟩ := DatOk.all (vs := r) fun u hu => h u (List.mem_cons_of_mem _ hu)
    unfold SeqAt.shaped at g2
    rw [Bool.and_eq_true] at g2
    have g4 := of_decide_eq_true g2.2
    have g5 := g2.1
    simp only [PyData.canLay0] at g5
    simp only [PyData.depth] at g4
    refine ⟨d :: ds, .cons h1 g1, ?_, by simp only [List.length_cons, g3]⟩
    unfold SeqAt.shaped
    rw [Bool.and_eq_true]
    refine ⟨by simp only [PyData.canLay0, PyData.canLayAll0, h2, g5, Bool.and_self], decide_eq_true ?_⟩
    simp only [PyData.depth, PyData.depthAll]
    omega
theorem datOk_int {K : PySem.W.Frag} {H : Hp} (i : Int) : DatOk K H (.int i) := ⟨.int i, .int i, by simp only [PyData.canLay0], by simp only [PyData.depth]; omega⟩
theorem datOk_tr {K : PySem.W.Frag} {H : Hp} {ok : Addr → Prop} {v : V} {t : Tr} (x : TrAt ok H v t) (h : t.depth ≤ 31) : DatOk K H v := ⟨t.dat, TrAt.dp t v x, TrAt.lay t v x, by have := dat_depth t; omega⟩
theorem eqv_nil (ds : List PyData) : PyData.eqv (.list ds) (.list []) = decide (ds.length = 0) := by
  cases ds with
  | nil => simp [PyData.eqv, PyData.eqvAll]
  | cons d r => simp [PyData.eqv, PyData.eqvAll]
theorem shaped_nil : SeqAt.shaped (.list []) = true := by decide +kernel
theorem dp_nil {K : PySem.W.Frag} {H : Hp} {a : Addr} (h : H a = some (.lst [])) : Dp K H (.ref a) (.list []) := .lst (SqL.of h) .nil

mutual
inductive Dt (ok : Addr → Prop) (H : Hp) : V → PyData → Prop
  | non : Dt ok H .non .none
  | bl (b : Bool) : Dt ok H (.bl b) (.bool b)
  | int (i : Int) : Dt ok H (.int i) (.int i)
  | str (x : Str) : Dt ok H (.str x) (.str x)
  | dic {a : Addr} : H a = some (.dK []) → ok a → Dt ok H (.ref a) (.dict [])
  | lst {a : Addr} {xs : List V} {ds : List PyData} : H a = some (.lst xs) → ok a → xs.length ≤ 1000 → DtAll ok H xs ds → Dt ok H (.ref a) (.list ds)
  | tup {a : Addr} {xs : List V} {ds : List PyData} : H a = some (.tup xs) → ok a → xs.length ≤ 1000 → DtAll ok H xs ds → Dt ok H (.ref a) (.tuple ds)
inductive DtAll (ok : Addr → Prop) (H : Hp) : List V → List PyData → Prop
  | nil : DtAll ok H [] []
  | cons {v : V} {vs : List V} {d : PyData} {ds : List PyData} : Dt ok H v d → DtAll ok H vs ds → DtAll ok H (v :: vs) (d :: ds)
end
section
variable {ok ok' : Addr → Prop} {H H' : Hp} {K : PySem.W.Frag}
mutual
theorem Dt.imp (hk : ∀ b o, ok b → H b = some o → ok' b) (h : ∀ b o, ok b → H b = some o → H' b = some o) : ∀ {v : V} {d : PyData}, Dt ok H v d → Dt ok' H' v d
  | _, _, .non => .non
  | _, _, .bl b => .bl b
  | _, _, .int i => .int i
  | _, _, .str x => .str x
  | _, _, .dic e k => .dic (h _ _ k e) (hk _ _ k e)
  | _, _, .lst e k l r => .lst (h _ _ k e) (hk _ _ k e) l (DtAll.imp hk h r)
  | _, _, .tup e k l r => .tup (h _ _ k e) (hk _ _ k e) l (DtAll.imp hk h r)
theorem DtAll.imp (hk : ∀ b o, ok b → H b = some o → ok' b) (h : ∀ b o, ok b → H b = some o → H' b = some o) : ∀ {vs : List V} {ds : List PyData}, DtAll ok H vs ds → DtAll ok' H' vs ds
  | _, _, .nil => .nil
  | _, _, .cons a b => .cons (Dt.imp hk h a) (DtAll.imp hk h b)
end
theorem Dt.keep {v : V} {d : PyData} (x : Dt ok H v d) (h : ∀ b o, ok b → H b = some o → H' b = some o) : Dt ok H' v d := x.imp (fun _ _ k _ => k) h
theorem Dt.same {v : V} {d : PyData} (x : Dt ok H v d) (s : Same H H') : Dt ok H' v d := x.keep fun b o _ h => s b o h
theorem Dt.weak {v : V} {d : PyData} (x : Dt ok H v d) (h : ∀ b, ok b → ok' b) : Dt ok' H v d := x.imp (fun b _ k _ => h b k) fun _ _ _ e => e
theorem Dt.any {v : V} {d : PyData} (x : Dt ok H v d) : Dt (fun _ => True) H v d := x.weak fun _ _ => trivial
theorem Dt.off {w : Addr} {v : V} {d : PyData} (x : Dt ok H v d) (h : H w = none) : Dt (fun b => ok b ∧ b ≠ w) H v d := x.imp (fun _ _ k e => ⟨k, ne_of_none e h⟩) fun _ _ _ e => e
theorem DtAll.keep {vs : List V} {ds : List PyData} (x : DtAll ok H vs ds) (h : ∀ b o, ok b → H b = some o → H' b = some o) : DtAll ok H' vs ds := x.imp (fun _ _ k _ => k) h
theorem DtAll.same {vs : List V} {ds : List PyData} (x : DtAll ok H vs ds) (s : Same H H') : DtAll ok H' vs ds := x.keep fun b o _ h => s b o h
theorem DtAll.weak {vs : List V} {ds : List PyData} (x : DtAll ok H vs ds) (h : ∀ b, ok b → ok' b) : DtAll ok' H vs ds := x.imp (fun b _ k _ => h b k) fun _ _ _ e => e
mutual
theorem Dt.dp : ∀ {v : V} {d : PyData}, Dt ok H v d → d.canLay0 = true → Dp K H v d
  | _, _, .non, _ => .non
  | _, _, .bl b, _ => .bl b
  | _, _, .int i, _ => .int i
  | _, _, .str x, _ => .str x
  | _, _, .dic _ _, h => by simp [PyData.canLay0] at h
  | _, _, .lst e _ _ r, h => .lst (SqL.of e) (DtAll.dp r (by simpa only [PyData.canLay0] using h))
  | _, _, .tup e _ _ r, h => .tup (SqT.of e) (DtAll.dp r (by simpa only [PyData.canLay0] using h))
theorem DtAll.dp : ∀ {vs : List V} {ds : List PyData}, DtAll ok H vs ds → PyData.canLayAll0 ds = true → DpAll K H vs ds
  | _, _, .nil, _ => .nil
  | _, _, .cons a b, h => by
    simp only [PyData.canLayAll0, Bool.and_eq_true] at h
    exact .cons (Dt.dp a h.1) (DtAll.dp b h.2)
end
theorem DtAll.len : ∀ {vs : List V} {ds : List PyData}, DtAll ok H vs ds → vs.length = ds.length
  | _, _, .nil => rfl
  | _, _, .cons _ b => by simp only [List.length_cons, DtAll.len b]
theorem DtAll.getV : ∀ {vs : List V} {ds : List PyData} {i : Nat} {x : V}, DtAll ok H vs ds → vs[i]? = some x → ∃ d, ds[i]? = some d ∧ Dt ok H x d
  | _, _, 0, _, .cons a _, h => by cases h; exact ⟨_, rfl, a⟩
  | _, _, i + 1, _, .cons _ b, h => by
    rw [List.getElem?_cons_succ] at h
    obtain ⟨d, h1, h2⟩ := DtAll.getV b h
    exact ⟨d, by rw [List.getElem?_cons_succ]; exact h1, h2⟩
theorem DtAll.snoc : ∀ {vs : List V} {ds : List PyData} {v : V} {d : PyData}, DtAll ok H vs ds → Dt ok H v d → DtAll ok H (vs ++ [v]) (ds ++ [d])
  | _, _, _, _, .nil, y => .cons y .nil
  | _, _, _, _, .cons a b, y => .cons a (DtAll.snoc b y)
theorem dt_ints : ∀ xs : List Int, DtAll ok H (xs.map V.int) (xs.map PyData.int)
  | [] => .nil
  | x :: r => .cons (.int x) (dt_ints r)
theorem dt_intsL {a : Addr} {xs : List Int} (h : H a = some (.lst (xs.map V.int))) (k : ok a) (l : xs.length ≤ 1000) : Dt ok H (.ref a) (.list (xs.map PyData.int)) := .lst h k (by rw [List.length_map]; exact l) (dt_ints xs)
theorem dtAll_ints : ∀ {w : List Int} {vs : List V}, DtAll ok H vs (w.map PyData.int) → vs = w.map V.int
  | [], _, h => by cases h; rfl
  | x :: r, _, h => by
    cases h with
    | cons a b =>
      cases a
      rw [dtAll_ints b]
      rfl
theorem Dt.intsL {v : V} {w : List Int} (h : Dt ok H v (.list (w.map PyData.int))) : ∃ a, v = .ref a ∧ H a = some (.lst (w.map V.int)) ∧ ok a := by
  cases h with
  | lst e k l r =>
    rw [dtAll_ints r] at e
    exact ⟨_, rfl, e, k⟩
end
theorem layAll_mem {d : PyData} : ∀ {ds : List PyData}, PyData.canLayAll0 ds = true → d ∈ ds → d.canLay0 = true
  | x :: r, h, hm => by
    simp only [PyData.canLayAll0, Bool.and_eq_true] at h
    rcases List.mem_cons.mp hm with rfl | hm
    · exact h.1
    · exact layAll_mem h.2 hm
theorem depthAll_mem {d : PyData} : ∀ {ds : List PyData}, d ∈ ds → d.depth ≤ PyData.depthAll ds
  | x :: r, h => by
    simp only [PyData.depthAll]
    rcases List.mem_cons.mp h with rfl | h
    · omega
    · have := depthAll_mem h
      omega
theorem eqT {x y : V} {i : Decidable (x = y)} {A B : Prop} (h : x = y) (k : A) : if (@decide (x = y) i) = true then A else B := by
  rw [decide_eq_true h]
  exact iteT k
theorem eqF {x y : V} {i : Decidable (x = y)} {A B : Prop} (h : x ≠ y) (k : B) : if (@decide (x = y) i) = true then A else B := by
  rw [decide_eq_false h]
  exact iteF k
theorem noneOf {sp : Sp} {P : Program} {w : World} {K : PySem.W.Frag} {mg : Str → Option Value} {base : Heap} {f : Addr} {fd : FuncData} {ps : List Str} {k : Nat} (no : ∀ vs H Q E, ¬ sp vs H Q E) : FnOk P w K mg base CX0 k f fd ps sp :=
  ⟨fun vs H Q E h => absurd h (no vs H Q E), fun A outer s H args us vs Q E _ _ _ _ h => absurd h (no vs H Q E)⟩

def spLaw (K : PySem.W.Frag) : Sp := fun vs H Q _ => ∃ (a : Addr) (ns : List Int), vs = [.ref a] ∧ SqL K H a (ns.map V.int) ∧ ns.length ≤ 63 ∧ ∀ H', Q (.bl true) H'


def Dk (H : Hp) (p : Addr) : Prop := ∃ xs : List Int, H p = some (.lst (xs.map V.int))
theorem Dk.some {H : Hp} {p : Addr} (h : Dk H p) : H p ≠ none := by obtain ⟨xs, e⟩ := h; rw [e]; simp
theorem Dk.ne {H : Hp} {p q : Addr} (h : Dk H p) (e : H q = none) : q ≠ p := fun e2 => h.some (by rw [← e2]; exact e)
theorem Dk.keep {H H' : Hp} {p : Addr} (h : Dk H p) (s : Same H H') : Dk H' p := by obtain ⟨xs, e⟩ := h; exact ⟨xs, s _ _ e⟩
theorem Dk.upd {H : Hp} {p q : Addr} {o : HO} (h : Dk H p) (n : q ≠ p) : Dk (upd H q o) p := by obtain ⟨xs, e⟩ := h; exact ⟨xs, by rw [upd_ne (fun e => n e.symm)]; exact e⟩
def sp__law_cell_at (K : PySem.W.Frag) : Sp := fun vs H Q _ => ∃ (a : Addr) (ns : List Int) (k : Int), vs = [.ref a, .int k] ∧ SqL K H a (ns.map V.int) ∧ 0 ≤ k ∧ ∀ x, Q (.int x) H
def sp__law_numbers : Sp := fun vs H Q _ => ∃ (c m : Int), vs = [.int c, .int m] ∧ 0 ≤ m ∧ m ≤ 1000 ∧ ∀ p (xs : List Int) H', Same H H' → H p = none → H' p = some (.lst (xs.map V.int)) → Q (.ref p) H'
def sp__law_take : Sp := fun vs H Q _ => ∃ (p : Addr) (m : Int), vs = [.ref p, .int m] ∧ Dk H p ∧ 0 < m ∧ ∀ r H', 0 ≤ r → r < m → Fr p H H' → Dk H' p → Q (.int r) H'
section
variable {P : Program} {w : World} {K : PySem.W.Frag} {mg : Str → Option Value} {base : Heap}
theorem ok__law_cell_at (T : Txt K mg) : FnOk P w K mg base CX0 1 T.f__law_cell_at T.d__law_cell_at ["script", "k"] (sp__law_cell_at K) := by
  refine T.F__law_cell_at.ok sc__law_cell_at (fun vs H Q E h => ?_) (fun cdv A outer s H vs Q E hr h => ?_)
  · obtain ⟨a, ns, k, rfl, _⟩ := h
    rfl
  obtain ⟨a, ns, k, rfl, hS, h0, q⟩ := h
  refine ⟨_, (pss_cons (ps_if (pt_cmpR op_lt (pv 1) (pe_callB call_len_seq (by rfl) T.z_len PySem.boot_len (pa_cons (pv 0) pa_nil)) (nomark _)) (pss_one (ps_ret (pe_ix ix_list (pv 0) (pv 1) (fun _ _ => rfl)))) pss_nil) (pss_one (ps_ret pe_int))), ?_⟩
  refine ⟨_, rfl, _, rfl, a, _, rfl, .inl hS, _, _, rfl, rfl, _, rfl, ?_⟩
  refine ite2 (fun c => ?_) (fun c => ?_)
  · have hk : k.toNat < ns.length := by
      have c' : k < (((ns.map V.int).length : Nat) : Int) := of_decide_eq_true c
      rw [List.length_map] at c'
      omega
    exact ⟨_, rfl, _, rfl, a, _, _, _, rfl, rfl, hS, at_of (j := k.toNat) (v := V.int ns[k.toNat]) (by omega) (by rw [List.getElem?_map, List.getElem?_eq_getElem hk]; rfl), q _⟩
  · exact q _
theorem ok__law_numbers (T : Txt K mg) : FnOk P w K mg base CX0 1 T.f__law_numbers T.d__law_numbers ["cell", "many"] sp__law_numbers := by
  refine T.F__law_numbers.ok sc__law_numbers (fun vs H Q E h => ?_) (fun cdv A outer s H vs Q E hr h => ?_)
  · obtain ⟨c, m, rfl, _⟩ := h
    rfl
  obtain ⟨c, m, rfl, h0, h1, q⟩ := h
  refine ⟨_, (pss_cons (ps_set (i := 2) sc__law_numbers.nd rfl (Or.inl rfl) (pe_lst pa_nil)) (pss_cons (ps_set (i := 3) sc__law_numbers.nd rfl (Or.inl rfl) (pv 0)) (pss_cons (ps_set (i := 4) sc__law_numbers.nd rfl (Or.inl rfl) (pe_op op_mod (pv 0) pe_int)) (pss_cons (ps_for PassesOwn.never rfl (pi_range1 (by rfl) T.z_range (pa_cons (pv 1) pa_nil)) (pg_name (i := 5) sc__law_numbers.nd rfl (Or.inl rfl)) (pss_one (ps_if (PW.pt (pw_and (pt_cmpR op_ge (pv 0) (pe_op op_pow pe_int pe_int) (nomark _)) (pw_and1 (pt_cmpR op_gt (pv 3) pe_int (nomark _))))) (pss_cons (ps_expr (pe_bm PySem.F.plainAttrs_list PySem.F.slot_list_append PySem.F.type_list_append mt_append (pv 2) (pa_cons (pe_op op_mod (pv 3) pe_int) pa_nil))) (pss_one (ps_set (i := 3) sc__law_numbers.nd rfl (Or.inl rfl) (pe_op op_fdivW (pv 3) pe_int)))) (pss_cons (ps_set (i := 4) sc__law_numbers.nd rfl (Or.inl rfl) (pe_op op_mod (pe_op op_mul (pe_op op_add (pe_op op_add (pv 4) (pe_op op_mul pe_int (pv 5))) pe_int) pe_int) pe_int)) (pss_cons (ps_set (i := 6) sc__law_numbers.nd rfl (Or.inl rfl) (pe_op op_mod (pe_op op_mul (pe_op op_mod (pe_op op_mul (pv 4) (pv 4)) pe_int) pe_int) pe_int)) (pss_one (ps_expr (pe_bm PySem.F.plainAttrs_list PySem.F.slot_list_append PySem.F.type_list_append mt_append (pv 2) (pa_cons (pe_op op_mod (pe_op op_fdivW (pv 6) pe_int) pe_int) pa_nil))))))))) (pss_one (ps_ret (pv 2))))))), ?_⟩
  refine ⟨(by show 0 ≤ sizeLine; decide), fun p hp => ?_⟩
  have s0 : 0 ≤ c % 2147483647 := Int.emod_nonneg _ (by decide)
  have s1 : c % 2147483647 < 2147483647 := Int.emod_lt_of_pos _ (by decide)
  refine ⟨_, rfl, _, rfl, _, _, rfl, rfl, (by show (0 : Int) < 2147483647; decide), ?_⟩
  refine ⟨_, rfl, m, rfl, by omega, by omega, for_range (lo := 0) (n := m.toNat) (fun i σ H' => ∃ (rest stir : Int) (xs : List Int) (y5 y6 : Option V), σ = [some (.int c), some (.int m), some (.ref p), some (.int rest), some (.int stir), y5, y6] ∧ 0 ≤ stir ∧ stir < 2147483647 ∧ H' p = some (.lst (xs.map V.int)) ∧ xs.length ≤ i ∧ Same H H')
    ⟨_, _, [], _, _, rfl, s0, s1, upd_same, Nat.le_refl _, same_new hp⟩ ?_ ?_⟩
  · rintro i σ H' hi ⟨rest, stir, xs, y5, y6, rfl, g0, g1, g2, g3, g4⟩
    have fits : (xs.map V.int).length < sizeLine := by
      rw [List.length_map]
      exact Nat.lt_of_le_of_lt (show _ ≤ 1000000 by omega) (by decide)
    have app : ∀ z : Int, xs.map V.int ++ [V.int z] = (xs ++ [z]).map V.int := fun z => by rw [List.map_append]; rfl
    have m1 : ∀ x : Int, 0 ≤ x % 2147483629 ∧ x % 2147483629 < 2147483629 := fun x => ⟨Int.emod_nonneg _ (by decide), Int.emod_lt_of_pos _ (by decide)⟩
    refine ⟨_, rfl, 10, 18, rfl, rfl, ⟨by decide, by decide, by decide⟩, _, _, rfl, rfl, _, rfl, ?_⟩
    refine ite2 (fun k1 => ⟨_, rfl, _, _, rfl, rfl, _, rfl, ite2 (fun k2 => ?A) (fun k2 => ?B)⟩) (fun k1 => ite2 (fun k2 => absurd k2 (by decide)) (fun k2 => ?C))
    case A =>
      refine ⟨_, rfl, .inl ⟨rfl, _, SqL.of g2⟩, _, rfl, _, _, rfl, rfl, (by show (0 : Int) < 64; decide), p, _, _, rfl, rfl, g2, fits, ?_⟩
      refine ⟨_, rfl, _, _, rfl, rfl, divW (by decide) (by decide), ?_⟩
      exact ⟨_, stir, xs ++ [rest % 64], _, _, rfl, g0, g1, by rw [upd_same, app], by rw [List.length_append, List.length_singleton]; omega, same_add g4 hp⟩
    all_goals
      refine ⟨_, rfl, _, rfl, 7, 0 + (i : Int), rfl, rfl, .inl ⟨by decide, by decide⟩, _, _, rfl, rfl, _, _, rfl, rfl, _, _, rfl, rfl, .inl ⟨by omega, by omega⟩, _, _, rfl, rfl, (by show (0 : Int) < 2147483647; decide), ?_⟩
      have t0 : 0 ≤ (stir + 7 * (0 + (i : Int)) + 3) * 48271 % 2147483647 := Int.emod_nonneg _ (by decide)
      have t1 : (stir + 7 * (0 + (i : Int)) + 3) * 48271 % 2147483647 < 2147483647 := Int.emod_lt_of_pos _ (by decide)
      refine ⟨_, rfl, _, rfl, _, _, rfl, rfl, .inl ⟨by omega, by omega⟩, _, _, rfl, rfl, (by show (0 : Int) < 2147483629; decide), _, _, rfl, rfl, .inl ⟨?_, ?_⟩, _, _, rfl, rfl, (by show (0 : Int) < 2147483587; decide), ?_⟩
      · exact Int.lt_of_lt_of_le (by decide) (m1 _).1
      · exact Int.lt_trans (m1 _).2 (by decide)
      refine ⟨_, rfl, .inl ⟨rfl, _, SqL.of g2⟩, _, rfl, _, _, rfl, rfl, divW (by decide) (by decide), _, _, rfl, rfl, (by show (0 : Int) < 720720; decide), p, _, _, rfl, rfl, g2, fits, ?_⟩
      exact ⟨rest, _, xs ++ [_], _, _, rfl, t0, t1, by rw [upd_same, app], by rw [List.length_append, List.length_singleton]; omega, same_add g4 hp⟩
  · rintro σ H' ⟨rest, stir, xs, y5, y6, rfl, g0, g1, g2, g3, g4⟩
    exact ⟨_, rfl, q p xs H' g4 hp g2⟩
theorem ok__law_deck (T : Txt K mg) : FnOk P w K mg base CX0 2 T.f__law_deck T.d__law_deck ["cell", "many"] sp__law_numbers := by
  have G__law_numbers : FnOk P w K mg base CX0 1 T.f__law_numbers T.d__law_numbers ["cell", "many"] sp__law_numbers := ok__law_numbers T
  refine T.F__law_deck.ok sc__law_deck (fun vs H Q E h => ?_) (fun cdv A outer s H vs Q E hr h => ?_)
  · obtain ⟨c, m, rfl, _⟩ := h
    rfl
  obtain ⟨c, m, rfl, h0, h1, q⟩ := h
  refine ⟨_, (pss_one (ps_ret (pe_revL (pe_call G__law_numbers (hr.mono (by omega)) (by rfl) T.m__law_numbers T.F__law_numbers.kp T.b__law_numbers .nil pass0 (pa_cons (pv 0) (pa_cons (pv 1) pa_nil)))))), ?_⟩
  refine ⟨_, rfl, _, rfl, c, m, rfl, h0, h1, fun p xs H' s hp hx => ⟨p, _, rfl, SqL.of hx, fun p2 hp2 => ?_⟩⟩
  exact q p2 xs.reverse _ (s.trans (same_new hp2)) (s.free hp2) (by rw [upd_same, List.map_reverse])
theorem ok__law_take (T : Txt K mg) : FnOk P w K mg base CX0 1 T.f__law_take T.d__law_take ["deck", "many"] sp__law_take := by
  refine T.F__law_take.ok sc__law_take (fun vs H Q E h => ?_) (fun cdv A outer s H vs Q E hr h => ?_)
  · obtain ⟨p, m, rfl, _⟩ := h
    rfl
  obtain ⟨p, m, rfl, ⟨xs, hp⟩, hm, q⟩ := h
  refine ⟨_, (pss_cons (ps_if (pt_cmpR (op_eqD hr.units) (pv 0) (pe_lst pa_nil) (nomark _)) (pss_one (ps_ret pe_int)) pss_nil) (pss_one (ps_ret (pe_op op_mod (pe_bm0 PySem.F.plainAttrs_list PySem.F.slot_list_pop PySem.F.type_list_pop mt_pop (pv 0)) (pv 1))))), ?_⟩
  refine ⟨_, rfl, (by show 0 ≤ sizeLine; decide), fun e he => ?_⟩
  have sE := same_new he (o := .lst [])
  refine ⟨_, _, dp_intsL (SqL.of (sE _ _ hp)), dp_nil upd_same, shaped_ints _, shaped_nil, _, rfl, ?_⟩
  rw [eqv_nil, List.length_map]
  by_cases hu : xs.length = 0
  · rw [decide_eq_true hu]
    exact iteT (q 0 _ (by omega) hm (Fr.same sE) ⟨xs, sE _ _ hp⟩)
  · rw [decide_eq_false hu]
    have hl : xs.length - 1 < xs.length := by omega
    refine iteF ⟨_, rfl, .inl ⟨rfl, _, SqL.of (sE _ _ hp)⟩, p, _, _, rfl, rfl, sE _ _ hp, by rw [List.length_map, List.getElem?_map, List.getElem?_eq_getElem hl]; rfl, ?_⟩
    refine ⟨_, rfl, _, _, rfl, rfl, hm, ?_⟩
    refine q _ _ (Int.emod_nonneg _ (by omega)) (Int.emod_lt_of_pos _ hm) (fun b o n h => by rw [upd_ne n]; exact sE _ _ h) ⟨xs.dropLast, ?_⟩
    rw [upd_same, List.map_dropLast]
end


inductive Cd
  | least (w : List Int) (b : Int)
  | turns (w : List Int) (m r : Int)
  | neg (c : Cd)
  | both (c d : Cd)
  | either (c d : Cd)
def Cd.dat : Cd → PyData
  | .least w b => .tuple [.str (Str.ofString "least"), .list (w.map PyData.int), .int b]
  | .turns w m r => .tuple [.str (Str.ofString "turns"), .list (w.map PyData.int), .int m, .int r]
  | .neg c => .tuple [.str (Str.ofString "not"), c.dat]
  | .both c d => .tuple [.str (Str.ofString "both"), c.dat, d.dat]
  | .either c d => .tuple [.str (Str.ofString "either"), c.dat, d.dat]
def wOk (s : Nat) (w : List Int) : Prop := w.length = s ∧ ∀ x ∈ w, 0 ≤ x ∧ x ≤ 4
def Cd.ok (s : Nat) : Cd → Prop
  | .least w b => wOk s w ∧ 0 ≤ b ∧ b ≤ 4
  | .turns w m r => wOk s w ∧ 1 ≤ m ∧ m ≤ 4 ∧ 0 ≤ r ∧ r < m
  | .neg c => c.ok s
  | .both c d => c.ok s ∧ d.ok s
  | .either c d => c.ok s ∧ d.ok s
def Cd.deep : Cd → Nat
  | .least _ _ => 1
  | .turns _ _ _ => 1
  | .neg c => 1 + c.deep
  | .both c d => 1 + max c.deep d.deep
  | .either c d => 1 + max c.deep d.deep
theorem Cd.deep_pos : ∀ c : Cd, 1 ≤ c.deep
  | .least _ _ => Nat.le_refl _
  | .turns _ _ _ => Nat.le_refl _
  | .neg c => by simp only [Cd.deep]; omega
  | .both c d => by simp only [Cd.deep]; omega
  | .either c d => by simp only [Cd.deep]; omega
theorem dep0 : ∀ xs : List Int, PyData.depthAll (xs.map PyData.int) = 0
  | [] => by simp only [List.map_nil, PyData.depthAll]
  | x :: r => by simp only [List.map_cons, PyData.depthAll, PyData.depth, dep0 r, Nat.max_self]
theorem Cd.dat_depth : ∀ c : Cd, c.dat.depth ≤ c.deep + 1
  | .least w b => by
    simp only [Cd.dat, PyData.depth, PyData.depthAll, Cd.deep, dep0]; omega
  | .turns w m r => by
    simp only [Cd.dat, PyData.depth, PyData.depthAll, Cd.deep, dep0]; omega
  | .neg c => by
    have := c.dat_depth
    simp only [Cd.dat, PyData.depth, PyData.depthAll, Cd.deep]; omega
  | .both c d => by
    have := c.dat_depth
    have := d.dat_depth
    simp only [Cd.dat, PyData.depth, PyData.depthAll, Cd.deep]; omega
  | .either c d => by
    have := c.dat_depth
    have := d.dat_depth
    simp only [Cd.dat, PyData.depth, PyData.depthAll, Cd.deep]; omega
theorem so_least : PyData.strOk (Str.ofString "least") = true := by decide +kernel
theorem so_turns : PyData.strOk (Str.ofString "turns") = true := by decide +kernel
theorem so_not : PyData.strOk (Str.ofString "not") = true := by decide +kernel
theorem so_both : PyData.strOk (Str.ofString "both") = true := by decide +kernel
theorem so_either : PyData.strOk (Str.ofString "either") = true := by decide +kernel
theorem Cd.lay : ∀ c : Cd, c.dat.canLay0 = true
  | .least w b => by simp only [Cd.dat, PyData.canLay0, PyData.canLayAll0, so_least, lay_ints, Bool.and_self]
  | .turns w m r => by simp only [Cd.dat, PyData.canLay0, PyData.canLayAll0, so_turns, lay_ints, Bool.and_self]
  | .neg c => by simp only [Cd.dat, PyData.canLay0, PyData.canLayAll0, so_not, c.lay, Bool.and_self]
  | .both c d => by simp only [Cd.dat, PyData.canLay0, PyData.canLayAll0, so_both, c.lay, d.lay, Bool.and_self]
  | .either c d => by simp only [Cd.dat, PyData.canLay0, PyData.canLayAll0, so_either, c.lay, d.lay, Bool.and_self]
theorem ine {a b : Int} (h : a ≠ b) : V.int a ≠ V.int b := fun e => h (V.int.inj e)
theorem sne {a b : Str} (h : a ≠ b) : V.str a ≠ V.str b := fun e => h (V.str.inj e)
def sp__law_weights : Sp := fun vs H Q _ => ∃ (p : Addr) (s : Int), vs = [.ref p, .int s] ∧ Dk H p ∧ 1 ≤ s ∧ s ≤ 6 ∧ ∀ a (w : List Int) H', wOk s.toNat w → H' a = some (.lst (w.map V.int)) → H a = none → Fr p H H' → Dk H' p → Q (.ref a) H'
def sp__law_condition (d : Nat) : Sp := fun vs H Q _ => ∃ (p : Addr) (s deep : Int), vs = [.ref p, .int s, .int deep] ∧ Dk H p ∧ 1 ≤ s ∧ s ≤ 6 ∧ 1 ≤ deep ∧ deep ≤ d ∧
  ∀ v (c : Cd) H', Fr p H H' → Dk H' p → Dt (fun b => b ≠ p) H' v c.dat → c.ok s.toNat → (c.deep : Int) ≤ deep → Q v H'
section
variable {P : Program} {w : World} {K : PySem.W.Frag} {mg : Str → Option Value} {base : Heap}
theorem ok__law_weights (T : Txt K mg) : FnOk P w K mg base CX0 2 T.f__law_weights T.d__law_weights ["deck", "s"] sp__law_weights := by
  have G__law_take : FnOk P w K mg base CX0 1 T.f__law_take T.d__law_take ["deck", "many"] sp__law_take := ok__law_take T
  refine T.F__law_weights.ok sc__law_weights (fun vs H Q E h => ?_) (fun cdv A outer s H vs Q E hr h => ?_)
  · obtain ⟨p, s, rfl, _⟩ := h
    rfl
  obtain ⟨p, s, rfl, hp, h1, h6, q⟩ := h
  refine ⟨_, (pss_cons (ps_set (i := 2) sc__law_weights.nd rfl (Or.inr rfl) (pe_ix ix_list (pe_lst (pa_cons pe_int (pa_cons pe_int (pa_cons pe_int pa_nil)))) (pe_call G__law_take (hr.mono (by omega)) (by rfl) T.m__law_take T.F__law_take.kp T.b__law_take .nil pass0 (pa_cons (pv 0) (pa_cons pe_int pa_nil))) (fun _ _ => rfl))) (pss_one (ps_ret (pe_lc (own := [("k", 3)]) (g := gName 3) (tt := tYes) rfl sc__law_weights.nd (pi_range1 (by rfl) T.z_range (pa_cons (pv 1) pa_nil)) (blkOk_by (own := [("k", 3)]) (N := ["deck", "s", "most", "k"]) (sc := (defScope s__law_weights)) (by decide +kernel)) (fun _ _ _ _ _ => (pg_name (i := 3) sc__law_weights.nd rfl (Or.inl rfl))) (fun _ _ _ _ _ => pts_nil) (fun _ _ _ _ _ => (pe_call G__law_take (hr.mono (by omega)) (by rfl) T.m__law_take T.F__law_take.kp T.b__law_take .nil pass0 (pa_cons (pv 0) (pa_cons (pv 2) pa_nil)))))))), ?_⟩
  refine ⟨(by show 3 ≤ sizeLine; decide), fun l hl => ?_⟩
  have sl := same_new hl (o := .lst [V.int 2, V.int 2, V.int 5])
  refine ⟨_, rfl, p, 3, rfl, hp.keep sl, by decide, fun r H2 r0 r1 f2 d2 => ?_⟩
  have hl2 := f2 l _ (hp.ne hl) upd_same
  obtain ⟨m, hm, hm0, hm5⟩ : ∃ m : Int, atI [V.int 2, V.int 2, V.int 5] r = some (V.int m) ∧ 0 < m ∧ m ≤ 5 := by
    rcases (by omega : r = 0 ∨ r = 1 ∨ r = 2) with rfl | rfl | rfl
    · exact ⟨2, at_of (j := 0) rfl rfl, by decide, by decide⟩
    · exact ⟨2, at_of (j := 1) rfl rfl, by decide, by decide⟩
    · exact ⟨5, at_of (j := 2) rfl rfl, by decide, by decide⟩
  refine ⟨l, _, r, V.int m, rfl, rfl, SqL.of hl2, hm, ?_⟩
  have F2 : Fr p H H2 := (Fr.same sl).trans f2
  refine ⟨_, rfl, s, rfl, by omega, by omega, fun D hD => lc_range (lo := 0) (n := s.toNat) (fun i H3 => ∃ w : List Int, w.length = i ∧ (∀ x ∈ w, 0 ≤ x ∧ x ≤ 4) ∧ H3 D = some (.lst (w.map V.int)) ∧ Fr p H H3 ∧ Dk H3 p)
    ⟨[], rfl, (fun _ h => by cases h), upd_same, F2.new (F2.free d2.some hD), d2.keep (same_new hD)⟩ ?_ ?_⟩
  · rintro i H3 hi ⟨w, g1, g2, g3, g4, g5⟩
    have nD : D ≠ p := d2.ne hD
    refine ⟨rfl, _, rfl, _, rfl, p, m, rfl, g5, hm0, fun x H4 x0 x1 f4 d4 => ⟨_, f4 _ _ nD g3, ?_, w ++ [x], by simp [g1], ?_, by rw [upd_same, List.map_append]; rfl, ?_, d4.upd nD⟩⟩
    · rw [List.length_map]
      exact Nat.lt_of_le_of_lt (show _ ≤ 1000000 by omega) (by decide)
    · intro y hy
      rcases List.mem_append.mp hy with hy | hy
      · exact g2 y hy
      · simp only [List.mem_singleton] at hy
        omega
    · exact (g4.trans f4).new (F2.free d2.some hD)
  · rintro H3 ⟨w, g1, g2, g3, g4, g5⟩
    exact q D w H3 ⟨g1, g2⟩ g3 (F2.free d2.some hD) g4 g5
theorem ok__law_condition (T : Txt K mg) : ∀ d : Nat, FnOk P w K mg base CX0 (d + 2) T.f__law_condition T.d__law_condition ["deck", "s", "deep"] (sp__law_condition d)
  | 0 => noneOf fun vs H Q E ⟨p, s, deep, _, _, _, _, h1, h2, _⟩ => by omega
  | d + 1 => by
    have G__law_condition : FnOk P w K mg base CX0 (d + 2) T.f__law_condition T.d__law_condition ["deck", "s", "deep"] (sp__law_condition d) := ok__law_condition T d
    have G__law_take : FnOk P w K mg base CX0 1 T.f__law_take T.d__law_take ["deck", "many"] sp__law_take := ok__law_take T
    have G__law_weights : FnOk P w K mg base CX0 2 T.f__law_weights T.d__law_weights ["deck", "s"] sp__law_weights := ok__law_weights T
    refine T.F__law_condition.ok sc__law_condition (fun vs H Q E h => ?_) (fun cdv A outer s H vs Q E hr h => ?_)
    · obtain ⟨p, s, deep, rfl, _⟩ := h
      rfl
    obtain ⟨p, s, deep, rfl, hp, h1, h6, hd1, hd, q⟩ := h
    refine ⟨_, (pss_cons (ps_set (i := 3) sc__law_condition.nd rfl (Or.inl rfl) (pe_call G__law_take (hr.mono (by omega)) (by rfl) T.m__law_take T.F__law_take.kp T.b__law_take .nil pass0 (pa_cons (pv 0) (pa_cons (pe_ix ix_list (pe_lst (pa_cons pe_int (pa_cons pe_int pa_nil))) (pe_callTy call_int1 (by rfl) T.z_int (by decide +kernel) (pa_cons (pe_cmpR op_gt (pv 2) pe_int (nomark _)) pa_nil)) (fun _ _ => rfl)) pa_nil)))) (pss_cons (ps_if (PW.pt (pw_or (pt_cmpR op_eq (pv 3) pe_int (nomark _)) (pw_or1 (pt_cmpR op_eq (pv 3) pe_int (nomark _))))) (pss_one (ps_ret (pe_tup (pa_cons pe_str (pa_cons (pe_call G__law_weights (hr.mono (by omega)) (by rfl) T.m__law_weights T.F__law_weights.kp T.b__law_weights .nil pass0 (pa_cons (pv 0) (pa_cons (pv 1) pa_nil))) (pa_cons (pe_call G__law_take (hr.mono (by omega)) (by rfl) T.m__law_take T.F__law_take.kp T.b__law_take .nil pass0 (pa_cons (pv 0) (pa_cons pe_int pa_nil))) pa_nil)))))) pss_nil) (pss_cons (ps_if (pt_cmpR op_eq (pv 3) pe_int (nomark _)) (pss_cons (ps_set (i := 4) sc__law_condition.nd rfl (Or.inl rfl) (pe_op op_add pe_int (pe_call G__law_take (hr.mono (by omega)) (by rfl) T.m__law_take T.F__law_take.kp T.b__law_take .nil pass0 (pa_cons (pv 0) (pa_cons pe_int pa_nil))))) (pss_one (ps_ret (pe_tup (pa_cons pe_str (pa_cons (pe_call G__law_weights (hr.mono (by omega)) (by rfl) T.m__law_weights T.F__law_weights.kp T.b__law_weights .nil pass0 (pa_cons (pv 0) (pa_cons (pv 1) pa_nil))) (pa_cons (pv 4) (pa_cons (pe_call G__law_take (hr.mono (by omega)) (by rfl) T.m__law_take T.F__law_take.kp T.b__law_take .nil pass0 (pa_cons (pv 0) (pa_cons (pv 4) pa_nil))) pa_nil)))))))) pss_nil) (pss_cons (ps_set (i := 5) sc__law_condition.nd rfl (Or.inl rfl) (pe_call G__law_condition (hr.mono (by omega)) (by rfl) T.m__law_condition T.F__law_condition.kp T.b__law_condition .nil pass0 (pa_cons (pv 0) (pa_cons (pv 1) (pa_cons (pe_op op_sub (pv 2) pe_int) pa_nil))))) (pss_cons (ps_if (pt_cmpR op_eq (pv 3) pe_int (nomark _)) (pss_one (ps_ret (pe_tup (pa_cons pe_str (pa_cons (pv 5) pa_nil))))) pss_nil) (pss_one (ps_ret (pe_tup (pa_cons (pe_ix ix_list (pe_lst (pa_cons pe_str (pa_cons pe_str pa_nil))) (pe_op op_sub (pv 3) pe_int) (fun _ _ => rfl)) (pa_cons (pv 5) (pa_cons (pe_call G__law_condition (hr.mono (by omega)) (by rfl) T.m__law_condition T.F__law_condition.kp T.b__law_condition .nil pass0 (pa_cons (pv 0) (pa_cons (pv 1) (pa_cons (pe_op op_sub (pv 2) pe_int) pa_nil)))) pa_nil))))))))))), ?_⟩
    obtain ⟨M, hM, hM2⟩ : ∃ M : Int, (M = 2 ∧ ¬ 1 < deep ∨ M = 6 ∧ 1 < deep) ∧ atI [V.int 2, V.int 6] (if (decide (1 < deep)) = true then 1 else 0) = some (V.int M) := by
      by_cases h : 1 < deep
      · rw [decide_eq_true h]
        exact ⟨6, .inr ⟨rfl, h⟩, at_of (j := 1) rfl rfl⟩
      · rw [decide_eq_false h]
        exact ⟨2, .inl ⟨rfl, h⟩, at_of (j := 0) rfl rfl⟩
    refine ⟨_, rfl, (by show 2 ≤ sizeLine; decide), fun l hl => ⟨_, rfl, _, _, rfl, rfl, .inr ⟨_, rfl, l, _, _, V.int M, rfl, rfl, SqL.of upd_same, hM2, ?_⟩⟩⟩
    have sl := same_new hl (o := .lst [V.int 2, V.int 6])
    refine ⟨p, M, rfl, hp.keep sl, by omega, fun way H2 w0 w1 f2 d2 => ?_⟩
    have F2 : Fr p H H2 := (Fr.same sl).trans f2
    by_cases h05 : way = 0 ∨ way = 5
    · rcases h05 with rfl | rfl
      case' inl => refine ⟨_, rfl, rfl, _, rfl, eqT rfl (iteT ?_)⟩
      case' inr => refine ⟨_, rfl, rfl, _, rfl, eqF (ine (by decide)) ⟨_, rfl, rfl, _, rfl, eqT rfl ?_⟩⟩
      all_goals
        refine ⟨_, rfl, _, rfl, p, s, rfl, d2, h1, h6, fun a w H3 hw ha hna f3 d3 => ?_⟩
        refine ⟨_, rfl, p, 5, rfl, d3, by decide, fun b H4 b0 b1 f4 d4 => ⟨(by show 3 ≤ sizeLine; decide), fun t ht => ?_⟩⟩
        have nap : a ≠ p := d2.ne hna
        have sT := same_new ht (o := .tup [.str (Str.ofString "least"), .ref a, .int b])
        have hw6 : w.length ≤ 1000 := by have := hw.1; omega
        exact q (.ref t) (.least w b) _ (((F2.trans f3).trans f4).trans (Fr.same sT)) (d4.keep sT) (.tup upd_same (d4.ne ht) (Nat.le_add_left _ 997) (.cons (.str _) (.cons (dt_intsL (sT _ _ (f4 _ _ nap ha)) nap hw6) (.cons (.int b) .nil)))) ⟨hw, b0, by omega⟩ (by simp only [Cd.deep]; omega)
    rw [not_or] at h05
    refine ⟨_, rfl, rfl, _, rfl, eqF (ine h05.1) ⟨_, rfl, rfl, _, rfl, eqF (ine h05.2) ?_⟩⟩
    by_cases hw1 : way = 1
    · subst hw1
      refine ⟨_, rfl, rfl, _, rfl, eqT rfl ?_⟩
      refine ⟨_, rfl, p, 4, rfl, d2, by decide, fun m H3 m0 m1 f3 d3 => ⟨1, m, rfl, rfl, ?_⟩⟩
      refine ⟨_, rfl, _, rfl, p, s, rfl, d3, h1, h6, fun a w H4 hw ha hna f4 d4 => ?_⟩
      refine ⟨_, rfl, _, rfl, _, rfl, p, 1 + m, rfl, d4, by omega, fun r H5 r0 r1 f5 d5 => ⟨(by show 4 ≤ sizeLine; decide), fun t ht => ?_⟩⟩
      have nap : a ≠ p := d3.ne hna
      have sT := same_new ht (o := .tup [.str (Str.ofString "turns"), .ref a, .int (1 + m), .int r])
      have hw6 : w.length ≤ 1000 := by have := hw.1; omega
      exact q (.ref t) (.turns w (1 + m) r) _ ((((F2.trans f3).trans f4).trans f5).trans (Fr.same sT)) (d5.keep sT) (.tup upd_same (d5.ne ht) (Nat.le_add_left _ 996) (.cons (.str _) (.cons (dt_intsL (sT _ _ (f5 _ _ nap ha)) nap hw6) (.cons (.int _) (.cons (.int r) .nil))))) ⟨hw, by omega, by omega, r0, r1⟩ (by simp only [Cd.deep]; omega)
    refine ⟨_, rfl, rfl, _, rfl, eqF (ine hw1) ?_⟩
    have hdp : 1 < deep := by omega
    refine ⟨_, rfl, _, rfl, _, rfl, _, _, rfl, rfl, p, s, deep - 1, rfl, d2, h1, h6, by omega, by omega, fun v c H3 f3 d3 hv hc hcd => ?_⟩
    by_cases hw2 : way = 2
    · subst hw2
      refine ⟨_, rfl, rfl, _, rfl, eqT rfl ?_⟩
      refine ⟨_, rfl, (by show 2 ≤ sizeLine; decide), fun t ht => ?_⟩
      have sT := same_new ht (o := .tup [.str (Str.ofString "not"), v])
      exact q (.ref t) (.neg c) _ ((F2.trans f3).trans (Fr.same sT)) (d3.keep sT) (.tup upd_same (d3.ne ht) (Nat.le_add_left _ 998) (.cons (.str _) (.cons (hv.same sT) .nil))) hc (by simp only [Cd.deep]; omega)
    refine ⟨_, rfl, rfl, _, rfl, eqF (ine hw2) ?_⟩
    refine ⟨(by show 2 ≤ sizeLine; decide), fun l2 hl2 => ?_⟩
    have s2 := same_new hl2 (o := .lst [.str (Str.ofString "both"), .str (Str.ofString "either")])
    have d3' := d3.keep s2
    have hv' := hv.same s2
    rcases (by omega : way = 3 ∨ way = 4) with rfl | rfl
    · refine ⟨_, rfl, _, _, rfl, rfl, l2, _, _, .str (Str.ofString "both"), rfl, rfl, SqL.of upd_same, at_of (j := 0) rfl rfl, ?_⟩
      refine ⟨_, rfl, _, rfl, _, rfl, _, rfl, _, _, rfl, rfl, p, s, deep - 1, rfl, d3', h1, h6, by omega, by omega, fun v2 c2 H4 f4 d4 hv2 hc2 hcd2 => ⟨(by show 3 ≤ sizeLine; decide), fun t ht => ?_⟩⟩
      have sT := same_new ht (o := .tup [.str (Str.ofString "both"), v, v2])
      exact q (.ref t) (.both c c2) _ ((((F2.trans f3).trans (Fr.same s2)).trans f4).trans (Fr.same sT)) (d4.keep sT) (.tup upd_same (d4.ne ht) (Nat.le_add_left _ 997) (.cons (.str _) (.cons ((hv'.keep fun b o h e => f4 b o h e).same sT) (.cons (hv2.same sT) .nil)))) ⟨hc, hc2⟩ (by simp only [Cd.deep]; omega)
    · refine ⟨_, rfl, _, _, rfl, rfl, l2, _, _, .str (Str.ofString "either"), rfl, rfl, SqL.of upd_same, at_of (j := 1) rfl rfl, ?_⟩
      refine ⟨_, rfl, _, rfl, _, rfl, _, rfl, _, _, rfl, rfl, p, s, deep - 1, rfl, d3', h1, h6, by omega, by omega, fun v2 c2 H4 f4 d4 hv2 hc2 hcd2 => ⟨(by show 3 ≤ sizeLine; decide), fun t ht => ?_⟩⟩
      have sT := same_new ht (o := .tup [.str (Str.ofString "either"), v, v2])
      exact q (.ref t) (.either c c2) _ ((((F2.trans f3).trans (Fr.same s2)).trans f4).trans (Fr.same sT)) (d4.keep sT) (.tup upd_same (d4.ne ht) (Nat.le_add_left _ 997) (.cons (.str _) (.cons ((hv'.keep fun b o h e => f4 b o h e).same sT) (.cons (hv2.same sT) .nil)))) ⟨hc, hc2⟩ (by simp only [Cd.deep]; omega)
end


def sp__law_copy (n : Nat) : Sp := fun vs H Q _ => ∃ (v : V) (d : PyData), vs = [v] ∧ Dt (fun _ => True) H v d ∧ d.canLay0 = true ∧ d.depth < n ∧ ∀ r H', Same H H' → Dt (fun b => H b = none) H' r d → Q r H'
section
variable {P : Program} {w : World} {K : PySem.W.Frag} {mg : Str → Option Value} {base : Heap}
theorem ok__law_copy (T : Txt K mg) : ∀ n : Nat, FnOk P w K mg base CX0 n T.f__law_copy T.d__law_copy ["thing"] (sp__law_copy n)
  | 0 => noneOf fun vs H Q E ⟨v, d, _, _, _, h, _⟩ => by omega
  | n + 1 => by
    have G__law_copy : FnOk P w K mg base CX0 n T.f__law_copy T.d__law_copy ["thing"] (sp__law_copy n) := ok__law_copy T n
    refine T.F__law_copy.ok sc__law_copy (fun vs H Q E h => ?_) (fun cdv A outer s H vs Q E hr h => ?_)
    · obtain ⟨v, d, rfl, _⟩ := h
      rfl
    obtain ⟨v, d, rfl, ht, hL, hd, q⟩ := h
    refine ⟨_, (pss_cons (ps_if (pt_val (pe_callB call_isi (by rfl) T.z_isinstance (by decide +kernel) (pa_cons (pv 0) (pa_cons (pe_bltn (v := .ty "list") (by rfl) T.z_list (by decide +kernel) rfl) pa_nil)))) (pss_one (ps_ret (pe_lc (own := [("one", 3)]) (g := gName 3) (tt := tYes) rfl sc__law_copy.nd (pi_list (pv 0)) (blkOk_by (own := [("one", 3)]) (N := ["thing", "found", "key", "one"]) (sc := (defScope s__law_copy)) (by decide +kernel)) (fun _ _ _ _ _ => (pg_name (i := 3) sc__law_copy.nd rfl (Or.inl rfl))) (fun _ _ _ _ _ => pts_nil) (fun _ _ _ _ _ => (pe_call G__law_copy (hr.mono (by omega)) (by rfl) T.m__law_copy T.F__law_copy.kp T.b__law_copy .nil pass0 (pa_cons (pv 3) pa_nil)))))) pss_nil) (pss_cons (ps_if (pt_val (pe_callB call_isi (by rfl) T.z_isinstance (by decide +kernel) (pa_cons (pv 0) (pa_cons (pe_bltn (v := .ty "tuple") (by rfl) T.z_tuple (by decide +kernel) rfl) pa_nil)))) (pss_one (ps_ret (pe_callTy call_tuple_of (by rfl) T.z_tuple (by decide +kernel) (pa_cons (pe_lc (own := [("one", 3)]) (g := gName 3) (tt := tYes) rfl sc__law_copy.nd (pi_tup (pv 0)) (blkOk_by (own := [("one", 3)]) (N := ["thing", "found", "key", "one"]) (sc := (defScope s__law_copy)) (by decide +kernel)) (fun _ _ _ _ _ => (pg_name (i := 3) sc__law_copy.nd rfl (Or.inl rfl))) (fun _ _ _ _ _ => pts_nil) (fun _ _ _ _ _ => (pe_call G__law_copy (hr.mono (by omega)) (by rfl) T.m__law_copy T.F__law_copy.kp T.b__law_copy .nil pass0 (pa_cons (pv 3) pa_nil)))) pa_nil)))) pss_nil) (pss_cons (ps_if (pt_not (pt_val (pe_callB call_isi (by rfl) T.z_isinstance (by decide +kernel) (pa_cons (pv 0) (pa_cons (pe_bltn (v := .ty "dict") (by rfl) T.z_dict (by decide +kernel) rfl) pa_nil))))) (pss_one (ps_ret (pv 0))) pss_nil) (pss_cons ps_never (pss_cons ps_never (pss_one (ps_ret (pv 1)))))))), ?_⟩
    cases ht with
    | non =>
      refine ⟨_, rfl, _, _, _, _, false, rfl, .ty "list", .base .non, kit_ty (by decide +kernel), _, rfl, iteF ?_⟩
      refine ⟨_, rfl, _, _, _, _, false, rfl, .ty "tuple", .base .non, kit_ty (by decide +kernel), _, rfl, iteF ?_⟩
      refine ⟨_, rfl, _, _, _, _, false, rfl, .ty "dict", .base .non, kit_ty (by decide +kernel), _, rfl, iteT ?_⟩
      exact ⟨_, rfl, q _ _ (Same.refl _) .non⟩
    | bl i =>
      refine ⟨_, rfl, _, _, _, _, false, rfl, .ty "list", .base (.bl _), kit_ty (by decide +kernel), _, rfl, iteF ?_⟩
      refine ⟨_, rfl, _, _, _, _, false, rfl, .ty "tuple", .base (.bl _), kit_ty (by decide +kernel), _, rfl, iteF ?_⟩
      refine ⟨_, rfl, _, _, _, _, false, rfl, .ty "dict", .base (.bl _), kit_ty (by decide +kernel), _, rfl, iteT ?_⟩
      exact ⟨_, rfl, q _ _ (Same.refl _) (.bl i)⟩
    | dic e k => simp [PyData.canLay0] at hL
    | int i =>
      refine ⟨_, rfl, _, _, _, _, false, rfl, .ty "list", .base (.int _), kit_ty (by decide +kernel), _, rfl, iteF ?_⟩
      refine ⟨_, rfl, _, _, _, _, false, rfl, .ty "tuple", .base (.int _), kit_ty (by decide +kernel), _, rfl, iteF ?_⟩
      refine ⟨_, rfl, _, _, _, _, false, rfl, .ty "dict", .base (.int _), kit_ty (by decide +kernel), _, rfl, iteT ?_⟩
      exact ⟨_, rfl, q _ _ (Same.refl _) (.int i)⟩
    | str x =>
      refine ⟨_, rfl, _, _, _, _, false, rfl, .ty "list", .base (.str _), kit_ty (by decide +kernel), _, rfl, iteF ?_⟩
      refine ⟨_, rfl, _, _, _, _, false, rfl, .ty "tuple", .base (.str _), kit_ty (by decide +kernel), _, rfl, iteF ?_⟩
      refine ⟨_, rfl, _, _, _, _, false, rfl, .ty "dict", .base (.str _), kit_ty (by decide +kernel), _, rfl, iteT ?_⟩
      exact ⟨_, rfl, q _ _ (Same.refl _) (.str x)⟩
    | lst e k l r =>
      rename_i a xs ds
      simp only [PyData.depth] at hd
      simp only [PyData.canLay0] at hL
      have lr := r.len
      refine ⟨_, rfl, _, _, _, _, true, rfl, .ty "list", .base (.lst e), kit_ty (by decide +kernel), _, rfl, iteT ?_⟩
      refine ⟨_, rfl, a, rfl, ⟨_, SqL.of e⟩, fun D hD => ?_⟩
      refine lc_list (xs := xs) (fun i H2 => ∃ acc, H2 D = some (.lst acc) ∧ DtAll (fun b => H b = none ∧ b ≠ D) H2 acc (ds.take i) ∧ Same H H2) ⟨[], upd_same, .nil, same_new hD⟩ (fun i H2 _ ⟨_, _, _, s⟩ => SqL.of (s _ _ e)) ?_ ?_
      · rintro i x H2 hx ⟨acc, g1, g2, g3⟩
        obtain ⟨d1, hd1, hx2⟩ := r.getV hx
        have dd := depthAll_mem (List.mem_of_getElem? hd1)
        have la := g2.len
        rw [List.length_take] at la
        refine ⟨rfl, _, rfl, x, d1, rfl, hx2.same g3, layAll_mem hL (List.mem_of_getElem? hd1), by omega, fun y H3 s3 hy => ⟨acc, s3 _ _ g1, Nat.lt_of_le_of_lt (show acc.length ≤ 1000000 by omega) (by decide), acc ++ [y], upd_same, ?_, same_add (g3.trans s3) hD⟩⟩
        rw [take_succ_of hd1]
        have hy2 : Dt (fun b => H b = none ∧ b ≠ D) H3 y d1 := hy.weak fun b hb => ⟨g3.free hb, fun e => by rw [e, g1] at hb; cases hb⟩
        exact ((g2.same s3).snoc hy2).keep (upd_keep fun b h => h.2)
      · rintro H2 ⟨acc, g1, g2, g3⟩
        rw [lr, List.take_length] at g2
        exact q (.ref D) H2 g3 (.lst g1 hD (by rw [g2.len]; omega) (g2.weak fun b h => h.1))
    | tup e k l r =>
      rename_i a xs ds
      simp only [PyData.depth] at hd
      simp only [PyData.canLay0] at hL
      have lr := r.len
      refine ⟨_, rfl, _, _, _, _, false, rfl, .ty "list", .base (.tup e), kit_ty (by decide +kernel), _, rfl, iteF ?_⟩
      refine ⟨_, rfl, _, _, _, _, true, rfl, .ty "tuple", .base (.tup e), kit_ty (by decide +kernel), _, rfl, iteT ?_⟩
      refine ⟨_, rfl, a, rfl, ⟨_, SqT.of e⟩, fun D hD => ?_⟩
      refine lc_tup (xs := xs) (fun i H2 => ∃ acc, H2 D = some (.lst acc) ∧ DtAll (fun b => H b = none ∧ b ≠ D) H2 acc (ds.take i) ∧ Same H H2) ⟨[], upd_same, .nil, same_new hD⟩ (fun i H2 _ ⟨_, _, _, s⟩ => SqT.of (s _ _ e)) ?_ ?_
      · rintro i x H2 hx ⟨acc, g1, g2, g3⟩
        obtain ⟨d1, hd1, hx2⟩ := r.getV hx
        have dd := depthAll_mem (List.mem_of_getElem? hd1)
        have la := g2.len
        rw [List.length_take] at la
        refine ⟨rfl, _, rfl, x, d1, rfl, hx2.same g3, layAll_mem hL (List.mem_of_getElem? hd1), by omega, fun y H3 s3 hy => ⟨acc, s3 _ _ g1, Nat.lt_of_le_of_lt (show acc.length ≤ 1000000 by omega) (by decide), acc ++ [y], upd_same, ?_, same_add (g3.trans s3) hD⟩⟩
        rw [take_succ_of hd1]
        have hy2 : Dt (fun b => H b = none ∧ b ≠ D) H3 y d1 := hy.weak fun b hb => ⟨g3.free hb, fun e => by rw [e, g1] at hb; cases hb⟩
        exact ((g2.same s3).snoc hy2).keep (upd_keep fun b h => h.2)
      · rintro H2 ⟨acc, g1, g2, g3⟩
        rw [lr, List.take_length] at g2
        refine ⟨D, acc, rfl, .inl ⟨SqL.of g1, fun t ht => ?_⟩⟩
        have sT := same_new ht (o := .tup acc)
        exact q (.ref t) _ (g3.trans sT) (.tup upd_same (g3.free ht) (by rw [g2.len]; omega) ((g2.same sT).weak fun b h => h.1))
end


theorem lc_zip {K : PySem.W.Frag} {a b : Addr} {xs ys : List V} {Bd : V → Hp → (Hp → Prop) → Prop} {Qd : Hp → Prop} {H0 : Hp} (hlen : xs.length = ys.length) (Pv : Nat → Hp → Prop) (h0 : Pv 0 H0) (hl : ∀ i H, i ≤ xs.length → Pv i H → SqL K H a xs ∧ SqL K H b ys)
    (hs : ∀ i x y T H, xs[i]? = some x → ys[i]? = some y → Pv i H → H T = none → Bd (.ref T) (upd H T (.tup [x, y])) (Pv (i + 1))) (hd : ∀ H, Pv xs.length H → Qd H) :
    ∃ W : Nat → Nat → Hp → Prop, (∃ m, W 0 m H0) ∧ ∀ i m H, W i m H → ((Itz K a b).stop i H ∧ Qd H) ∨ ((Itz K a b).go i H ∧ ∃ Nx : Hp → Prop, (∀ H', Nx H' → ∃ m', m' < m ∧ W (i + 1) m' H') ∧ ∀ x H', (Itz K a b).yld i H x H' → Bd x H' Nx) := by
  refine ⟨fun i m H => m = xs.length - i ∧ i ≤ xs.length ∧ Pv i H, ⟨xs.length, by simp, Nat.zero_le _, h0⟩, ?_⟩
  rintro i m H ⟨rfl, hi, p⟩
  obtain ⟨q1, q2⟩ := hl i H hi p
  by_cases hlt : i < xs.length
  · have hlt2 : i < ys.length := by omega
    refine .inr ⟨⟨xs, ys, xs[i], ys[i], q1, q2, by simp [hlt], by simp [hlt2]⟩, Pv (i + 1), fun H' p' => ⟨xs.length - (i + 1), by omega, rfl, hlt, p'⟩, fun x H' y => ?_⟩
    obtain ⟨T, x1, y1, rfl, hT, rfl, g1, g2⟩ := y
    exact hs i x1 y1 T H (g1 xs q1) (g2 ys q2) p hT
  · have e : i = xs.length := by omega
    subst e
    exact .inl ⟨⟨xs, ys, q1, q2, .inl (Nat.le_refl _)⟩, hd H p⟩

def prods (w ns : List Int) : List Int := (w.zip ns).map fun p => p.1 * p.2
def dot (w ns : List Int) : Int := (prods w ns).sum
def Cd.val (ns : List Int) : Cd → Bool
  | .least w b => decide (dot w ns ≥ b)
  | .turns w m r => decide (dot w ns % m = r)
  | .neg c => !c.val ns
  | .both c d => c.val ns && d.val ns
  | .either c d => c.val ns || d.val ns
theorem prods_at {w ns : List Int} {i : Nat} {x y : Int} (hx : w[i]? = some x) (hy : ns[i]? = some y) : (prods w ns)[i]? = some (x * y) := by
  unfold prods
  rw [List.getElem?_map, List.getElem?_zip_eq_some (z := (x, y)).mpr ⟨hx, hy⟩]
  rfl
theorem prods_len {w ns : List Int} (h : w.length = ns.length) : (prods w ns).length = ns.length := by
  unfold prods
  rw [List.length_map, List.length_zip]
  omega
theorem dint {a b : Int} {i : Decidable (V.int a = V.int b)} : @decide (V.int a = V.int b) i = decide (a = b) := by
  by_cases h : a = b
  · rw [decide_eq_true h, decide_eq_true (congrArg V.int h)]
  · rw [decide_eq_false h, decide_eq_false (ine h)]
theorem turns_eq {x m r : Int} (h0 : 0 ≤ r) (h1 : r < m) : decide ((x - r) % m = 0) = decide (x % m = r) := by
  have e : r % m = r := Int.emod_eq_of_lt h0 h1
  have k := Int.emod_eq_emod_iff_emod_sub_eq_zero (m := x) (n := m) (k := r)
  rw [e] at k
  exact decide_eq_decide.mpr k.symm
def sp__weighed : Sp := fun vs H Q _ => ∃ (a b : Addr) (w ns : List Int) (s : Nat), vs = [.ref a, .ref b] ∧ H a = some (.lst (w.map V.int)) ∧ H b = some (.lst (ns.map V.int)) ∧ wOk s w ∧ ns.length = s ∧ s ≤ 6 ∧ ∀ H', Same H H' → Q (.int (dot w ns)) H'
def sp_condition_holds (d : Nat) : Sp := fun vs H Q _ => ∃ (v : V) (b : Addr) (c : Cd) (ns : List Int) (s : Nat), vs = [v, .ref b] ∧ Dt (fun _ => True) H v c.dat ∧ H b = some (.lst (ns.map V.int)) ∧ c.ok s ∧ ns.length = s ∧ s ≤ 6 ∧ c.deep ≤ d ∧ ∀ H', Same H H' → Q (.bl (c.val ns)) H'
section
variable {P : Program} {w : World} {K : PySem.W.Frag} {mg : Str → Option Value} {base : Heap}
theorem ok__weighed (T : Txt K mg) : FnOk P w K mg base CX0 1 T.f__weighed T.d__weighed ["weights", "numbers"] sp__weighed := by
  refine T.F__weighed.ok sc__weighed (fun vs H Q E h => ?_) (fun cdv A outer s H vs Q E hr h => ?_)
  · obtain ⟨a, b, w, ns, s, rfl, _⟩ := h
    rfl
  obtain ⟨a, b, w, ns, n, rfl, ha, hb, hw, hn, h6, q⟩ := h
  refine ⟨_, (pss_one (ps_ret (pe_callB (cr_sum rfl) (by rfl) T.z_sum (by decide +kernel) (pa_cons (pe_lc (own := [("weight", 2), ("number", 3)]) (g := gTup K 2 (gCons (gName 2) (gCons (gName 3) gNil))) (tt := tYes) rfl sc__weighed.nd (pi_zip (by rfl) T.z_zip (pa_cons (pv 0) (pa_cons (pv 1) pa_nil))) (blkOk_by (own := [("weight", 2), ("number", 3)]) (N := ["weights", "numbers", "weight", "number"]) (sc := (defScope s__weighed)) (by decide +kernel)) (fun _ _ _ _ _ => (pg_tup rfl (pgs_cons (pg_name (i := 2) sc__weighed.nd rfl (Or.inl rfl)) (pgs_cons (pg_name (i := 3) sc__weighed.nd rfl (Or.inl rfl)) pgs_nil)))) (fun _ _ _ _ _ => pts_nil) (fun _ _ _ _ _ => (pe_op op_mul (pv 2) (pv 3)))) pa_nil)))), ?_⟩
  have hlen : w.length = ns.length := by rw [hw.1, hn]
  refine ⟨_, rfl, _, rfl, a, b, _, _, rfl, SqL.of ha, SqL.of hb, fun D hD => ?_⟩
  refine lc_zip (xs := w.map V.int) (ys := ns.map V.int) (by rw [List.length_map, List.length_map, hlen]) (fun i H2 => H2 D = some (.lst (((prods w ns).take i).map V.int)) ∧ Same H H2) ⟨upd_same, same_new hD⟩ (fun i H2 _ ⟨_, s⟩ => ⟨SqL.of (s _ _ ha), SqL.of (s _ _ hb)⟩) ?_ ?_
  · rintro i x y Tt H2 hx hy ⟨g1, g2⟩ hT
    rw [List.getElem?_map] at hx hy
    cases hc : w[i]? with
    | none => rw [hc] at hx; cases hx
    | some x1 =>
    cases hc2 : ns[i]? with
    | none => rw [hc2] at hy; cases hy
    | some y1 =>
    rw [hc] at hx
    rw [hc2] at hy
    cases hx
    cases hy
    have g3 : Same H (upd H2 Tt (.tup [V.int x1, V.int y1])) := same_add g2 (g2.free hT)
    have hb4 := hw.2 x1 (List.mem_of_getElem? hc)
    refine ⟨_, _, rfl, SqT.of upd_same, rfl, _, _, rfl, _, _, rfl, rfl, rfl, _, rfl, _, rfl, _, _, rfl, rfl, .inl ⟨by omega, by omega⟩, ?_⟩
    refine ⟨_, by rw [upd_ne (ne_of_none g1 hT)]; exact g1, ?_, ?_, ?_⟩
    · rw [List.length_map, List.length_take, prods_len hlen]
      exact Nat.lt_of_le_of_lt (show _ ≤ 1000000 by omega) (by decide)
    · rw [upd_same, take_succ_of (prods_at hc hc2), List.map_append]
      rfl
    · exact same_add g3 hD
  · rintro H2 ⟨g1, g2⟩
    rw [List.length_map, hlen, ← prods_len hlen, List.take_length] at g1
    exact ⟨D, _, rfl, SqL.of g1, q _ g2⟩
theorem ok_condition_holds (T : Txt K mg) : ∀ d : Nat, FnOk P w K mg base CX0 (d + 1) T.f_condition_holds T.d_condition_holds ["condition", "numbers"] (sp_condition_holds d)
  | 0 => noneOf fun vs H Q E ⟨v, b, c, ns, s, _, _, _, _, _, _, h, _⟩ => by have := c.deep_pos; omega
  | d + 1 => by
    have G_condition_holds : FnOk P w K mg base CX0 (d + 1) T.f_condition_holds T.d_condition_holds ["condition", "numbers"] (sp_condition_holds d) := ok_condition_holds T d
    have G__weighed : FnOk P w K mg base CX0 1 T.f__weighed T.d__weighed ["weights", "numbers"] sp__weighed := ok__weighed T
    refine T.F_condition_holds.ok sc_condition_holds (fun vs H Q E h => ?_) (fun cdv A outer s H vs Q E hr h => ?_)
    · obtain ⟨v, b, c, ns, s, rfl, _⟩ := h
      rfl
    obtain ⟨v, b, c, ns, n, rfl, ht, hb, hc, hn, h6, hd, q⟩ := h
    refine ⟨_, (pss_cons (ps_set (i := 2) sc_condition_holds.nd rfl (Or.inl rfl) (pe_ix ix_tup (pv 0) pe_int (fun _ _ => rfl))) (pss_cons (ps_if (pt_cmpR op_eq (pv 2) pe_str (nomark _)) (pss_one (ps_ret (pe_cmpR op_ge (pe_call G__weighed (hr.mono (by omega)) (by rfl) T.m__weighed T.F__weighed.kp T.b__weighed .nil pass0 (pa_cons (pe_ix ix_tup (pv 0) pe_int (fun _ _ => rfl)) (pa_cons (pv 1) pa_nil))) (pe_ix ix_tup (pv 0) pe_int (fun _ _ => rfl)) (nomark _)))) pss_nil) (pss_cons (ps_if (pt_cmpR op_eq (pv 2) pe_str (nomark _)) (pss_one (ps_ret (pe_cmpR op_eq (pe_op op_mod (pe_op op_sub (pe_call G__weighed (hr.mono (by omega)) (by rfl) T.m__weighed T.F__weighed.kp T.b__weighed .nil pass0 (pa_cons (pe_ix ix_tup (pv 0) pe_int (fun _ _ => rfl)) (pa_cons (pv 1) pa_nil))) (pe_ix ix_tup (pv 0) pe_int (fun _ _ => rfl))) (pe_ix ix_tup (pv 0) pe_int (fun _ _ => rfl))) pe_int (nomark _)))) pss_nil) (pss_cons (ps_if (pt_cmpR op_eq (pv 2) pe_str (nomark _)) (pss_one (ps_ret (pe_not (pe_call G_condition_holds (hr.mono (by omega)) (by rfl) T.m_condition_holds T.F_condition_holds.kp T.b_condition_holds .nil pass0 (pa_cons (pe_ix ix_tup (pv 0) pe_int (fun _ _ => rfl)) (pa_cons (pv 1) pa_nil)))))) pss_nil) (pss_cons (ps_if (pt_cmpR op_eq (pv 2) pe_str (nomark _)) (pss_one (ps_ret (pe_and (pe_call G_condition_holds (hr.mono (by omega)) (by rfl) T.m_condition_holds T.F_condition_holds.kp T.b_condition_holds .nil pass0 (pa_cons (pe_ix ix_tup (pv 0) pe_int (fun _ _ => rfl)) (pa_cons (pv 1) pa_nil))) (pe_one (pe_call G_condition_holds (hr.mono (by omega)) (by rfl) T.m_condition_holds T.F_condition_holds.kp T.b_condition_holds .nil pass0 (pa_cons (pe_ix ix_tup (pv 0) pe_int (fun _ _ => rfl)) (pa_cons (pv 1) pa_nil))))))) pss_nil) (pss_one (ps_ret (pe_or (pe_call G_condition_holds (hr.mono (by omega)) (by rfl) T.m_condition_holds T.F_condition_holds.kp T.b_condition_holds .nil pass0 (pa_cons (pe_ix ix_tup (pv 0) pe_int (fun _ _ => rfl)) (pa_cons (pv 1) pa_nil))) (pe_one (pe_call G_condition_holds (hr.mono (by omega)) (by rfl) T.m_condition_holds T.F_condition_holds.kp T.b_condition_holds .nil pass0 (pa_cons (pe_ix ix_tup (pv 0) pe_int (fun _ _ => rfl)) (pa_cons (pv 1) pa_nil)))))))))))), ?_⟩
    cases c with
    | least w k =>
      cases ht with
      | tup e _ _ r =>
      cases r with
      | cons r0 r =>
      cases r with
      | cons r1 r =>
      cases r with
      | cons r2 r =>
      cases r
      cases r0
      cases r2
      obtain ⟨wa, rfl, hwa, _⟩ := r1.intsL
      refine ⟨_, rfl, _, _, 0, _, rfl, rfl, SqT.of e, atI_nat (j := 0) rfl, ?_⟩
      refine ⟨_, rfl, rfl, _, rfl, eqT rfl ?_⟩
      refine ⟨_, rfl, _, _, 1, _, rfl, rfl, SqT.of e, atI_nat (j := 1) rfl, _, rfl, wa, b, w, ns, n, rfl, hwa, hb, hc.1, hn, h6, fun H1 s1 => ?_⟩
      exact ⟨_, rfl, _, _, 2, _, rfl, rfl, SqT.of (s1 _ _ e), atI_nat (j := 2) rfl, _, _, rfl, rfl, q _ s1⟩
    | turns w m k =>
      cases ht with
      | tup e _ _ r =>
      cases r with
      | cons r0 r =>
      cases r with
      | cons r1 r =>
      cases r with
      | cons r2 r =>
      cases r with
      | cons r3 r =>
      cases r
      cases r0
      cases r2
      cases r3
      obtain ⟨wa, rfl, hwa, _⟩ := r1.intsL
      refine ⟨_, rfl, _, _, 0, _, rfl, rfl, SqT.of e, atI_nat (j := 0) rfl, ?_⟩
      refine ⟨_, rfl, rfl, _, rfl, eqF (sne (by decide +kernel)) ?_⟩
      refine ⟨_, rfl, rfl, _, rfl, eqT rfl ?_⟩
      refine ⟨_, rfl, _, _, 1, _, rfl, rfl, SqT.of e, atI_nat (j := 1) rfl, _, rfl, wa, b, w, ns, n, rfl, hwa, hb, hc.1, hn, h6, fun H1 s1 => ?_⟩
      obtain ⟨c1, c2, c3, c4, c5⟩ := hc
      refine ⟨_, rfl, _, _, 3, _, rfl, rfl, SqT.of (s1 _ _ e), atI_nat (j := 3) rfl, _, _, rfl, rfl, _, rfl, _, _, 2, _, rfl, rfl, SqT.of (s1 _ _ e), atI_nat (j := 2) rfl, _, _, rfl, rfl, (by show 0 < m; omega), rfl, ?_⟩
      rw [dint, turns_eq c4 c5]
      exact q _ s1
    | neg c1 =>
      cases ht with
      | tup e _ _ r =>
      cases r with
      | cons r0 r =>
      cases r with
      | cons r1 r =>
      cases r
      cases r0
      simp only [Cd.deep] at hd
      refine ⟨_, rfl, _, _, 0, _, rfl, rfl, SqT.of e, atI_nat (j := 0) rfl, ?_⟩
      refine ⟨_, rfl, rfl, _, rfl, eqF (sne (by decide +kernel)) ?_⟩
      refine ⟨_, rfl, rfl, _, rfl, eqF (sne (by decide +kernel)) ?_⟩
      refine ⟨_, rfl, rfl, _, rfl, eqT rfl ?_⟩
      exact ⟨_, rfl, _, _, 1, _, rfl, rfl, SqT.of e, atI_nat (j := 1) rfl, _, rfl, _, b, c1, ns, n, rfl, r1, hb, hc, hn, h6, by omega, fun H1 s1 => ⟨_, rfl, q _ s1⟩⟩
    | both c1 c2 =>
      cases ht with
      | tup e _ _ r =>
      cases r with
      | cons r0 r =>
      cases r with
      | cons r1 r =>
      cases r with
      | cons r2 r =>
      cases r
      cases r0
      simp only [Cd.deep] at hd
      refine ⟨_, rfl, _, _, 0, _, rfl, rfl, SqT.of e, atI_nat (j := 0) rfl, ?_⟩
      refine ⟨_, rfl, rfl, _, rfl, eqF (sne (by decide +kernel)) ?_⟩
      refine ⟨_, rfl, rfl, _, rfl, eqF (sne (by decide +kernel)) ?_⟩
      refine ⟨_, rfl, rfl, _, rfl, eqF (sne (by decide +kernel)) ?_⟩
      refine ⟨_, rfl, rfl, _, rfl, eqT rfl ?_⟩
      refine ⟨_, rfl, _, _, 1, _, rfl, rfl, SqT.of e, atI_nat (j := 1) rfl, _, rfl, _, b, c1, ns, n, rfl, r1, hb, hc.1, hn, h6, by omega, fun H1 s1 => ⟨_, rfl, ite2 (fun hv => ?_) (fun hv => ?_)⟩⟩
      · refine ⟨_, rfl, _, _, 2, _, rfl, rfl, SqT.of (s1 _ _ e), atI_nat (j := 2) rfl, _, rfl, _, b, c2, ns, n, rfl, r2.same s1, s1 _ _ hb, hc.2, hn, h6, by omega, fun H2 s2 => ?_⟩
        have e1 : (Cd.both c1 c2).val ns = c2.val ns := by simp only [Cd.val, hv, Bool.true_and]
        rw [← e1]
        exact q _ (s1.trans s2)
      · have e1 : (Cd.both c1 c2).val ns = false := by simp only [Cd.val, Bool.eq_false_iff.mpr hv, Bool.false_and]
        rw [← e1]
        exact q _ s1
    | either c1 c2 =>
      cases ht with
      | tup e _ _ r =>
      cases r with
      | cons r0 r =>
      cases r with
      | cons r1 r =>
      cases r with
      | cons r2 r =>
      cases r
      cases r0
      simp only [Cd.deep] at hd
      refine ⟨_, rfl, _, _, 0, _, rfl, rfl, SqT.of e, atI_nat (j := 0) rfl, ?_⟩
      refine ⟨_, rfl, rfl, _, rfl, eqF (sne (by decide +kernel)) ?_⟩
      refine ⟨_, rfl, rfl, _, rfl, eqF (sne (by decide +kernel)) ?_⟩
      refine ⟨_, rfl, rfl, _, rfl, eqF (sne (by decide +kernel)) ?_⟩
      refine ⟨_, rfl, rfl, _, rfl, eqF (sne (by decide +kernel)) ?_⟩
      refine ⟨_, rfl, _, _, 1, _, rfl, rfl, SqT.of e, atI_nat (j := 1) rfl, _, rfl, _, b, c1, ns, n, rfl, r1, hb, hc.1, hn, h6, by omega, fun H1 s1 => ⟨_, rfl, ite2 (fun hv => ?_) (fun hv => ?_)⟩⟩
      · have e1 : (Cd.either c1 c2).val ns = true := by simp only [Cd.val, hv, Bool.true_or]
        rw [← e1]
        exact q _ s1
      · refine ⟨_, rfl, _, _, 2, _, rfl, rfl, SqT.of (s1 _ _ e), atI_nat (j := 2) rfl, _, rfl, _, b, c2, ns, n, rfl, r2.same s1, s1 _ _ hb, hc.2, hn, h6, by omega, fun H2 s2 => ?_⟩
        have e1 : (Cd.either c1 c2).val ns = c2.val ns := by simp only [Cd.val, Bool.eq_false_iff.mpr hv, Bool.false_or]
        rw [← e1]
        exact q _ (s1.trans s2)
end


section
variable {P : Program} {w : World} {K : PySem.W.Frag} {mg : Str → Option Value} {base : Heap}
theorem ok__law_holds (T : Txt K mg) : ∀ d : Nat, FnOk P w K mg base CX0 d T.f__law_holds T.d__law_holds ["condition", "numbers"] (sp_condition_holds d)
  | 0 => noneOf fun vs H Q E ⟨v, b, c, ns, s, _, _, _, _, _, _, h, _⟩ => by have := c.deep_pos; omega
  | d + 1 => by
    have G__law_holds : FnOk P w K mg base CX0 d T.f__law_holds T.d__law_holds ["condition", "numbers"] (sp_condition_holds d) := ok__law_holds T d
    refine T.F__law_holds.ok sc__law_holds (fun vs H Q E h => ?_) (fun cdv A outer s H vs Q E hr h => ?_)
    · obtain ⟨v, b, c, ns, s, rfl, _⟩ := h
      rfl
    obtain ⟨v, b, c, ns, n, rfl, ht, hb, hc, hn, h6, hd, q⟩ := h
    refine ⟨_, (pss_cons (ps_if (pt_cmpR op_eq (pe_ix ix_tup (pv 0) pe_int (fun _ _ => rfl)) pe_str (nomark _)) (pss_one (ps_ret (pe_not (pe_call G__law_holds (hr.mono (by omega)) (by rfl) T.m__law_holds T.F__law_holds.kp T.b__law_holds .nil pass0 (pa_cons (pe_ix ix_tup (pv 0) pe_int (fun _ _ => rfl)) (pa_cons (pv 1) pa_nil)))))) pss_nil) (pss_cons (ps_if (pt_cmpR op_eq (pe_ix ix_tup (pv 0) pe_int (fun _ _ => rfl)) pe_str (nomark _)) (pss_one (ps_ret (pe_and (pe_call G__law_holds (hr.mono (by omega)) (by rfl) T.m__law_holds T.F__law_holds.kp T.b__law_holds .nil pass0 (pa_cons (pe_ix ix_tup (pv 0) pe_int (fun _ _ => rfl)) (pa_cons (pv 1) pa_nil))) (pe_one (pe_call G__law_holds (hr.mono (by omega)) (by rfl) T.m__law_holds T.F__law_holds.kp T.b__law_holds .nil pass0 (pa_cons (pe_ix ix_tup (pv 0) pe_int (fun _ _ => rfl)) (pa_cons (pv 1) pa_nil))))))) pss_nil) (pss_cons (ps_if (pt_cmpR op_eq (pe_ix ix_tup (pv 0) pe_int (fun _ _ => rfl)) pe_str (nomark _)) (pss_one (ps_ret (pe_or (pe_call G__law_holds (hr.mono (by omega)) (by rfl) T.m__law_holds T.F__law_holds.kp T.b__law_holds .nil pass0 (pa_cons (pe_ix ix_tup (pv 0) pe_int (fun _ _ => rfl)) (pa_cons (pv 1) pa_nil))) (pe_one (pe_call G__law_holds (hr.mono (by omega)) (by rfl) T.m__law_holds T.F__law_holds.kp T.b__law_holds .nil pass0 (pa_cons (pe_ix ix_tup (pv 0) pe_int (fun _ _ => rfl)) (pa_cons (pv 1) pa_nil))))))) pss_nil) (pss_cons (ps_set (i := 2) sc__law_holds.nd rfl (Or.inl rfl) pe_int) (pss_cons (ps_for PassesOwn.never rfl (pi_range1 (by rfl) T.z_range (pa_cons (pe_callB call_len_seq (by rfl) T.z_len PySem.boot_len (pa_cons (pv 1) pa_nil)) pa_nil)) (pg_name (i := 3) sc__law_holds.nd rfl (Or.inl rfl)) (pss_one (ps_set (i := 2) sc__law_holds.nd rfl (Or.inl rfl) (pe_op op_add (pv 2) (pe_op op_mul (pe_ix ix_list (pe_ix ix_tup (pv 0) pe_int (fun _ _ => rfl)) (pv 3) (fun _ _ => rfl)) (pe_ix ix_list (pv 1) (pv 3) (fun _ _ => rfl))))))) (pss_cons (ps_if (pt_cmpR op_eq (pe_ix ix_tup (pv 0) pe_int (fun _ _ => rfl)) pe_str (nomark _)) (pss_one (ps_ret (pe_cmpR op_ge (pv 2) (pe_ix ix_tup (pv 0) pe_int (fun _ _ => rfl)) (nomark _)))) pss_nil) (pss_one (ps_ret (pe_cmpR op_eq (pe_op op_mod (pv 2) (pe_ix ix_tup (pv 0) pe_int (fun _ _ => rfl))) (pe_ix ix_tup (pv 0) pe_int (fun _ _ => rfl)) (nomark _)))))))))), ?_⟩
    cases c with
    | least w k =>
      cases ht with
      | @tup ca cxs cds e _ _ r =>
      cases r with
      | cons r0 r =>
      cases r with
      | cons r1 r =>
      cases r with
      | cons r2 r =>
      cases r
      cases r0
      cases r2
      obtain ⟨wa, rfl, hwa, _⟩ := r1.intsL
      have hlen : w.length = ns.length := by rw [hc.1.1, hn]
      refine ⟨_, rfl, _, _, 0, _, rfl, rfl, SqT.of e, atI_nat (j := 0) rfl, rfl, _, rfl, eqF (sne (by decide +kernel)) ?_⟩
      refine ⟨_, rfl, _, _, 0, _, rfl, rfl, SqT.of e, atI_nat (j := 0) rfl, rfl, _, rfl, eqF (sne (by decide +kernel)) ?_⟩
      refine ⟨_, rfl, _, _, 0, _, rfl, rfl, SqT.of e, atI_nat (j := 0) rfl, rfl, _, rfl, eqF (sne (by decide +kernel)) ?_⟩
      refine ⟨_, rfl, b, _, rfl, .inl (SqL.of hb), (ns.length : Int), congrArg (fun z : Nat => [V.int z]) (List.length_map _), by omega, by omega, for_range (lo := 0) (n := (ns.length : Int).toNat) (fun i σ H' => H' = H ∧ ∃ y, σ = [some (.ref ca), some (.ref b), some (.int ((prods w ns).take i).sum), y]) ⟨rfl, _, rfl⟩ ?_ ?_⟩
      · rintro i σ H' hi ⟨rfl, y, rfl⟩
        rw [Int.toNat_natCast] at hi
        have hx : w[i]? = some w[i] := List.getElem?_eq_getElem _
        have hy : ns[i]? = some ns[i] := List.getElem?_eq_getElem _
        have hb4 := hc.1.2 w[i] (List.mem_of_getElem? hx)
        refine ⟨_, rfl, _, rfl, _, _, 1, _, rfl, rfl, SqT.of e, atI_nat (j := 1) rfl, _, rfl, wa, _, _, V.int w[i], rfl, rfl, SqL.of hwa, at_of (j := i) (by omega) (by rw [List.getElem?_map, hx]; rfl), _, rfl, _, rfl, b, _, _, V.int ns[i], rfl, rfl, SqL.of hb, at_of (j := i) (by omega) (by rw [List.getElem?_map, hy]; rfl), _, _, rfl, rfl, .inl ⟨by omega, by omega⟩, _, _, rfl, rfl, ?_⟩
        have es : ((prods w ns).take (i + 1)).sum = ((prods w ns).take i).sum + w[i] * ns[i] := by
          rw [take_succ_of (prods_at hx hy), List.sum_append]
          simp
        rw [es]
        exact ⟨rfl, _, rfl⟩
      · rintro σ H' ⟨rfl, y, rfl⟩
        rw [Int.toNat_natCast, ← prods_len hlen, List.take_length]
        refine ⟨_, rfl, _, _, 0, _, rfl, rfl, SqT.of e, atI_nat (j := 0) rfl, rfl, _, rfl, eqT rfl ?_⟩
        exact ⟨_, rfl, _, rfl, _, _, 2, _, rfl, rfl, SqT.of e, atI_nat (j := 2) rfl, _, _, rfl, rfl, q _ (Same.refl _)⟩
    | turns w m k =>
      cases ht with
      | @tup ca cxs cds e _ _ r =>
      cases r with
      | cons r0 r =>
      cases r with
      | cons r1 r =>
      cases r with
      | cons r2 r =>
      cases r with
      | cons r3 r =>
      cases r
      cases r0
      cases r2
      cases r3
      obtain ⟨wa, rfl, hwa, _⟩ := r1.intsL
      have hlen : w.length = ns.length := by rw [hc.1.1, hn]
      refine ⟨_, rfl, _, _, 0, _, rfl, rfl, SqT.of e, atI_nat (j := 0) rfl, rfl, _, rfl, eqF (sne (by decide +kernel)) ?_⟩
      refine ⟨_, rfl, _, _, 0, _, rfl, rfl, SqT.of e, atI_nat (j := 0) rfl, rfl, _, rfl, eqF (sne (by decide +kernel)) ?_⟩
      refine ⟨_, rfl, _, _, 0, _, rfl, rfl, SqT.of e, atI_nat (j := 0) rfl, rfl, _, rfl, eqF (sne (by decide +kernel)) ?_⟩
      refine ⟨_, rfl, b, _, rfl, .inl (SqL.of hb), (ns.length : Int), congrArg (fun z : Nat => [V.int z]) (List.length_map _), by omega, by omega, for_range (lo := 0) (n := (ns.length : Int).toNat) (fun i σ H' => H' = H ∧ ∃ y, σ = [some (.ref ca), some (.ref b), some (.int ((prods w ns).take i).sum), y]) ⟨rfl, _, rfl⟩ ?_ ?_⟩
      · rintro i σ H' hi ⟨rfl, y, rfl⟩
        rw [Int.toNat_natCast] at hi
        have hx : w[i]? = some w[i] := List.getElem?_eq_getElem _
        have hy : ns[i]? = some ns[i] := List.getElem?_eq_getElem _
        have hb4 := hc.1.2 w[i] (List.mem_of_getElem? hx)
        refine ⟨_, rfl, _, rfl, _, _, 1, _, rfl, rfl, SqT.of e, atI_nat (j := 1) rfl, _, rfl, wa, _, _, V.int w[i], rfl, rfl, SqL.of hwa, at_of (j := i) (by omega) (by rw [List.getElem?_map, hx]; rfl), _, rfl, _, rfl, b, _, _, V.int ns[i], rfl, rfl, SqL.of hb, at_of (j := i) (by omega) (by rw [List.getElem?_map, hy]; rfl), _, _, rfl, rfl, .inl ⟨by omega, by omega⟩, _, _, rfl, rfl, ?_⟩
        have es : ((prods w ns).take (i + 1)).sum = ((prods w ns).take i).sum + w[i] * ns[i] := by
          rw [take_succ_of (prods_at hx hy), List.sum_append]
          simp
        rw [es]
        exact ⟨rfl, _, rfl⟩
      · rintro σ H' ⟨rfl, y, rfl⟩
        obtain ⟨c1, c2, c3, c4, c5⟩ := hc
        rw [Int.toNat_natCast, ← prods_len hlen, List.take_length]
        refine ⟨_, rfl, _, _, 0, _, rfl, rfl, SqT.of e, atI_nat (j := 0) rfl, rfl, _, rfl, eqF (sne (by decide +kernel)) ?_⟩
        refine ⟨_, rfl, _, rfl, _, _, 2, _, rfl, rfl, SqT.of e, atI_nat (j := 2) rfl, _, _, rfl, rfl, (by show 0 < m; omega), _, rfl, _, _, 3, _, rfl, rfl, SqT.of e, atI_nat (j := 3) rfl, rfl, ?_⟩
        rw [dint]
        exact q _ (Same.refl _)
    | neg c1 =>
      cases ht with
      | @tup ca cxs cds e _ _ r =>
      cases r with
      | cons r0 r =>
      cases r with
      | cons r1 r =>
      cases r
      cases r0
      simp only [Cd.deep] at hd
      refine ⟨_, rfl, _, _, 0, _, rfl, rfl, SqT.of e, atI_nat (j := 0) rfl, rfl, _, rfl, eqT rfl ?_⟩
      exact ⟨_, rfl, _, _, 1, _, rfl, rfl, SqT.of e, atI_nat (j := 1) rfl, _, rfl, _, b, c1, ns, n, rfl, r1, hb, hc, hn, h6, by omega, fun H1 s1 => ⟨_, rfl, q _ s1⟩⟩
    | both c1 c2 =>
      cases ht with
      | @tup ca cxs cds e _ _ r =>
      cases r with
      | cons r0 r =>
      cases r with
      | cons r1 r =>
      cases r with
      | cons r2 r =>
      cases r
      cases r0
      simp only [Cd.deep] at hd
      refine ⟨_, rfl, _, _, 0, _, rfl, rfl, SqT.of e, atI_nat (j := 0) rfl, rfl, _, rfl, eqF (sne (by decide +kernel)) ?_⟩
      refine ⟨_, rfl, _, _, 0, _, rfl, rfl, SqT.of e, atI_nat (j := 0) rfl, rfl, _, rfl, eqT rfl ?_⟩
      refine ⟨_, rfl, _, _, 1, _, rfl, rfl, SqT.of e, atI_nat (j := 1) rfl, _, rfl, _, b, c1, ns, n, rfl, r1, hb, hc.1, hn, h6, by omega, fun H1 s1 => ⟨_, rfl, ite2 (fun hv => ?_) (fun hv => ?_)⟩⟩
      · refine ⟨_, rfl, _, _, 2, _, rfl, rfl, SqT.of (s1 _ _ e), atI_nat (j := 2) rfl, _, rfl, _, b, c2, ns, n, rfl, r2.same s1, s1 _ _ hb, hc.2, hn, h6, by omega, fun H2 s2 => ?_⟩
        have e1 : (Cd.both c1 c2).val ns = c2.val ns := by simp only [Cd.val, hv, Bool.true_and]
        rw [← e1]
        exact q _ (s1.trans s2)
      · have e1 : (Cd.both c1 c2).val ns = false := by simp only [Cd.val, Bool.eq_false_iff.mpr hv, Bool.false_and]
        rw [← e1]
        exact q _ s1
    | either c1 c2 =>
      cases ht with
      | @tup ca cxs cds e _ _ r =>
      cases r with
      | cons r0 r =>
      cases r with
      | cons r1 r =>
      cases r with
      | cons r2 r =>
      cases r
      cases r0
      simp only [Cd.deep] at hd
      refine ⟨_, rfl, _, _, 0, _, rfl, rfl, SqT.of e, atI_nat (j := 0) rfl, rfl, _, rfl, eqF (sne (by decide +kernel)) ?_⟩
      refine ⟨_, rfl, _, _, 0, _, rfl, rfl, SqT.of e, atI_nat (j := 0) rfl, rfl, _, rfl, eqF (sne (by decide +kernel)) ?_⟩
      refine ⟨_, rfl, _, _, 0, _, rfl, rfl, SqT.of e, atI_nat (j := 0) rfl, rfl, _, rfl, eqT rfl ?_⟩
      refine ⟨_, rfl, _, _, 1, _, rfl, rfl, SqT.of e, atI_nat (j := 1) rfl, _, rfl, _, b, c1, ns, n, rfl, r1, hb, hc.1, hn, h6, by omega, fun H1 s1 => ⟨_, rfl, ite2 (fun hv => ?_) (fun hv => ?_)⟩⟩
      · have e1 : (Cd.either c1 c2).val ns = true := by simp only [Cd.val, hv, Bool.true_or]
        rw [← e1]
        exact q _ s1
      · refine ⟨_, rfl, _, _, 2, _, rfl, rfl, SqT.of (s1 _ _ e), atI_nat (j := 2) rfl, _, rfl, _, b, c2, ns, n, rfl, r2.same s1, s1 _ _ hb, hc.2, hn, h6, by omega, fun H2 s2 => ?_⟩
        have e1 : (Cd.either c1 c2).val ns = c2.val ns := by simp only [Cd.val, Bool.eq_false_iff.mpr hv, Bool.false_or]
        rw [← e1]
        exact q _ (s1.trans s2)
end


def sp__law_some_numbers : Sp := fun vs H Q _ => ∃ (p : Addr) (s : Int), vs = [.ref p, .int s] ∧ Dk H p ∧ 1 ≤ s ∧ s ≤ 6 ∧ ∀ a (ns : List Int) H', ns.length = s.toNat → H' a = some (.lst (ns.map V.int)) → H a = none → Fr p H H' → Dk H' p → Q (.ref a) H'
section
variable {P : Program} {w : World} {K : PySem.W.Frag} {mg : Str → Option Value} {base : Heap}
theorem ok__law_some_numbers (T : Txt K mg) : FnOk P w K mg base CX0 2 T.f__law_some_numbers T.d__law_some_numbers ["deck", "s"] sp__law_some_numbers := by
  have G__law_take : FnOk P w K mg base CX0 1 T.f__law_take T.d__law_take ["deck", "many"] sp__law_take := ok__law_take T
  refine T.F__law_some_numbers.ok sc__law_some_numbers (fun vs H Q E h => ?_) (fun cdv A outer s H vs Q E hr h => ?_)
  · obtain ⟨p, s, rfl, _⟩ := h
    rfl
  obtain ⟨p, s, rfl, hp, h1, h6, q⟩ := h
  refine ⟨_, (pss_cons (ps_set (i := 2) sc__law_some_numbers.nd rfl (Or.inl rfl) (pe_call G__law_take (hr.mono (by omega)) (by rfl) T.m__law_take T.F__law_take.kp T.b__law_take .nil pass0 (pa_cons (pv 0) (pa_cons pe_int pa_nil)))) (pss_cons (ps_if (pt_cmpR op_eq (pv 2) pe_int (nomark _)) (pss_one (ps_ret (pe_lc (own := [("k", 4)]) (g := gName 4) (tt := tYes) rfl sc__law_some_numbers.nd (pi_range1 (by rfl) T.z_range (pa_cons (pv 1) pa_nil)) (blkOk_by (own := [("k", 4)]) (N := ["deck", "s", "way", "far", "k", "one"]) (sc := (defScope s__law_some_numbers)) (by decide +kernel)) (fun _ _ _ _ _ => (pg_name (i := 4) sc__law_some_numbers.nd rfl (Or.inl rfl))) (fun _ _ _ _ _ => pts_nil) (fun _ _ _ _ _ => (pe_call G__law_take (hr.mono (by omega)) (by rfl) T.m__law_take T.F__law_take.kp T.b__law_take .nil pass0 (pa_cons (pv 0) (pa_cons pe_int pa_nil))))))) pss_nil) (pss_cons (ps_if (pt_cmpR op_eq (pv 2) pe_int (nomark _)) (pss_one (ps_ret (pe_lc (own := [("k", 4)]) (g := gName 4) (tt := tYes) rfl sc__law_some_numbers.nd (pi_range1 (by rfl) T.z_range (pa_cons (pv 1) pa_nil)) (blkOk_by (own := [("k", 4)]) (N := ["deck", "s", "way", "far", "k", "one"]) (sc := (defScope s__law_some_numbers)) (by decide +kernel)) (fun _ _ _ _ _ => (pg_name (i := 4) sc__law_some_numbers.nd rfl (Or.inl rfl))) (fun _ _ _ _ _ => pts_nil) (fun _ _ _ _ _ => (pe_call G__law_take (hr.mono (by omega)) (by rfl) T.m__law_take T.F__law_take.kp T.b__law_take .nil pass0 (pa_cons (pv 0) (pa_cons pe_int pa_nil))))))) pss_nil) (pss_cons (ps_if (pt_cmpR op_eq (pv 2) pe_int (nomark _)) (pss_one (ps_ret (pe_lc (own := [("k", 4)]) (g := gName 4) (tt := tYes) rfl sc__law_some_numbers.nd (pi_range1 (by rfl) T.z_range (pa_cons (pv 1) pa_nil)) (blkOk_by (own := [("k", 4)]) (N := ["deck", "s", "way", "far", "k", "one"]) (sc := (defScope s__law_some_numbers)) (by decide +kernel)) (fun _ _ _ _ _ => (pg_name (i := 4) sc__law_some_numbers.nd rfl (Or.inl rfl))) (fun _ _ _ _ _ => pts_nil) (fun _ _ _ _ _ => (pe_op op_mul (pe_call G__law_take (hr.mono (by omega)) (by rfl) T.m__law_take T.F__law_take.kp T.b__law_take .nil pass0 (pa_cons (pv 0) (pa_cons pe_int pa_nil))) (pe_call G__law_take (hr.mono (by omega)) (by rfl) T.m__law_take T.F__law_take.kp T.b__law_take .nil pass0 (pa_cons (pv 0) (pa_cons pe_int pa_nil)))))))) pss_nil) (pss_cons (ps_setLc (i := 3) (own := [("k", 4)]) (g := gName 4) (tt := tYes) rfl sc__law_some_numbers.nd rfl rfl (sw_true rfl rfl rfl (by decide +kernel)) (pi_range1 (by rfl) T.z_range (pa_cons (pv 1) pa_nil)) (blkOk_by (own := [("k", 4)]) (N := ["deck", "s", "way", "far", "k", "one"]) (sc := (defScope s__law_some_numbers)) (by decide +kernel)) (fun _ _ _ _ _ => (pg_name (i := 4) sc__law_some_numbers.nd rfl (Or.inl rfl))) (fun _ _ _ _ _ => pts_nil) (fun _ _ _ _ _ => (pe_op op_add (pe_op op_mul (pe_op op_pow pe_int pe_int) (pe_call G__law_take (hr.mono (by omega)) (by rfl) T.m__law_take T.F__law_take.kp T.b__law_take .nil pass0 (pa_cons (pv 0) (pa_cons pe_int pa_nil)))) (pe_op op_mul (pe_call G__law_take (hr.mono (by omega)) (by rfl) T.m__law_take T.F__law_take.kp T.b__law_take .nil pass0 (pa_cons (pv 0) (pa_cons pe_int pa_nil))) (pe_op op_pow pe_int pe_int))))) (pss_one (ps_ret (pe_lc (own := [("one", 5)]) (g := gName 5) (tt := tYes) rfl sc__law_some_numbers.nd (pi_list (pv 3)) (blkOk_by (own := [("one", 5)]) (N := ["deck", "s", "way", "far", "k", "one"]) (sc := (defScope s__law_some_numbers)) (by decide +kernel)) (fun _ _ _ _ _ => (pg_name (i := 5) sc__law_some_numbers.nd rfl (Or.inl rfl))) (fun _ _ _ _ _ => pts_nil) (fun _ _ _ _ _ => (pe_op op_add (pv 5) (pe_call G__law_take (hr.mono (by omega)) (by rfl) T.m__law_take T.F__law_take.kp T.b__law_take .nil pass0 (pa_cons (pv 0) (pa_cons pe_int pa_nil))))))))))))), ?_⟩
  refine ⟨_, rfl, p, 4, rfl, hp, by decide, fun way H2 w0 w1 f2 d2 => ?_⟩
  have fits : ∀ w : List Int, w.length ≤ 6 → (w.map V.int).length < sizeLine := fun w h => by
    rw [List.length_map]
    exact Nat.lt_of_le_of_lt (show _ ≤ 1000000 by omega) (by decide)
  have stp : ∀ {D : Addr} {w : List Int} {H3 H4 : Hp} {x : Int} {i : Nat}, D ≠ p → H D = none → w.length = i → Fr p H H3 → Fr p H3 H4 → Dk H4 p → H3 D = some (.lst (w.map V.int)) →
      ∃ w2 : List Int, w2.length = i + 1 ∧ (upd H4 D (.lst (w.map V.int ++ [V.int x]))) D = some (.lst (w2.map V.int)) ∧ Fr p H (upd H4 D (.lst (w.map V.int ++ [V.int x]))) ∧ Dk (upd H4 D (.lst (w.map V.int ++ [V.int x]))) p :=
    fun {D w H3 H4 x i} nD hD hl f3 f4 d4 _ => ⟨w ++ [x], by simp [hl], by rw [upd_same, List.map_append]; rfl, (f3.trans f4).new hD, d4.upd nD⟩
  by_cases e0 : way = 0
  · subst e0
    refine ⟨_, rfl, rfl, _, rfl, eqT rfl ?_⟩
    refine ⟨_, rfl, s, rfl, by omega, by omega, fun D hD => lc_range (lo := 0) (n := s.toNat) (fun i H3 => ∃ w : List Int, w.length = i ∧ H3 D = some (.lst (w.map V.int)) ∧ Fr p H H3 ∧ Dk H3 p)
      ⟨[], rfl, upd_same, f2.new (f2.free d2.some hD), d2.keep (same_new hD)⟩ ?_ ?_⟩
    · rintro i H3 hi ⟨w, g1, g3, g4, g5⟩
      have nD : D ≠ p := d2.ne hD
      exact ⟨rfl, _, rfl, p, 10, rfl, g5, by decide, fun x H4 x0 x1 f4 d4 => ⟨_, f4 _ _ nD g3, fits w (by omega), stp nD (f2.free d2.some hD) g1 g4 f4 d4 g3⟩⟩
    · rintro H3 ⟨w, g1, g3, g4, g5⟩
      exact q D w H3 g1 g3 (f2.free d2.some hD) g4 g5
  refine ⟨_, rfl, rfl, _, rfl, eqF (ine e0) ?_⟩
  by_cases e1 : way = 1
  · subst e1
    refine ⟨_, rfl, rfl, _, rfl, eqT rfl ?_⟩
    refine ⟨_, rfl, s, rfl, by omega, by omega, fun D hD => lc_range (lo := 0) (n := s.toNat) (fun i H3 => ∃ w : List Int, w.length = i ∧ H3 D = some (.lst (w.map V.int)) ∧ Fr p H H3 ∧ Dk H3 p)
      ⟨[], rfl, upd_same, f2.new (f2.free d2.some hD), d2.keep (same_new hD)⟩ ?_ ?_⟩
    · rintro i H3 hi ⟨w, g1, g3, g4, g5⟩
      have nD : D ≠ p := d2.ne hD
      exact ⟨rfl, _, rfl, p, 2, rfl, g5, by decide, fun x H4 x0 x1 f4 d4 => ⟨_, f4 _ _ nD g3, fits w (by omega), stp nD (f2.free d2.some hD) g1 g4 f4 d4 g3⟩⟩
    · rintro H3 ⟨w, g1, g3, g4, g5⟩
      exact q D w H3 g1 g3 (f2.free d2.some hD) g4 g5
  refine ⟨_, rfl, rfl, _, rfl, eqF (ine e1) ?_⟩
  by_cases e2 : way = 2
  · subst e2
    refine ⟨_, rfl, rfl, _, rfl, eqT rfl ?_⟩
    refine ⟨_, rfl, s, rfl, by omega, by omega, fun D hD => lc_range (lo := 0) (n := s.toNat) (fun i H3 => ∃ w : List Int, w.length = i ∧ H3 D = some (.lst (w.map V.int)) ∧ Fr p H H3 ∧ Dk H3 p)
      ⟨[], rfl, upd_same, f2.new (f2.free d2.some hD), d2.keep (same_new hD)⟩ ?_ ?_⟩
    · rintro i H3 hi ⟨w, g1, g3, g4, g5⟩
      have nD : D ≠ p := d2.ne hD
      exact ⟨rfl, _, rfl, p, 3, rfl, g5, by decide, fun x H4 x0 x1 f4 d4 => ⟨_, rfl, p, 3, rfl, d4, by decide, fun y H5 y0 y1 f5 d5 => ⟨x, y, rfl, rfl, .inl ⟨by omega, by omega⟩, _, f5 _ _ nD (f4 _ _ nD g3), fits w (by omega), stp nD (f2.free d2.some hD) g1 g4 (f4.trans f5) d5 g3⟩⟩⟩
    · rintro H3 ⟨w, g1, g3, g4, g5⟩
      exact q D w H3 g1 g3 (f2.free d2.some hD) g4 g5
  refine ⟨_, rfl, rfl, _, rfl, eqF (ine e2) ?_⟩
  refine ⟨_, rfl, s, rfl, by omega, by omega, fun D hD => lc_range (lo := 0) (n := s.toNat) (fun i H3 => ∃ w : List Int, w.length = i ∧ H3 D = some (.lst (w.map V.int)) ∧ Fr p H H3 ∧ Dk H3 p)
    ⟨[], rfl, upd_same, f2.new (f2.free d2.some hD), d2.keep (same_new hD)⟩ ?_ ?_⟩
  · rintro i H3 hi ⟨w, g1, g3, g4, g5⟩
    have nD : D ≠ p := d2.ne hD
    exact ⟨rfl, 10, 29, rfl, rfl, ⟨by decide, by decide, by decide⟩, _, rfl, p, 9, rfl, g5, by decide, fun x H4 x0 x1 f4 d4 => ⟨_, x, rfl, rfl, .inr ⟨by omega, by omega⟩, _, rfl, p, 720720, rfl, d4, by decide, fun y H5 y0 y1 f5 d5 => ⟨10, 11, rfl, rfl, ⟨by decide, by decide, by decide⟩, y, _, rfl, rfl, .inl ⟨by omega, by omega⟩, _, _, rfl, rfl, _, f5 _ _ nD (f4 _ _ nD g3), fits w (by omega), stp nD (f2.free d2.some hD) g1 g4 (f4.trans f5) d5 g3⟩⟩⟩
  · rintro H3 ⟨w, g1, g3, g4, g5⟩
    have nD : D ≠ p := d2.ne hD
    refine ⟨_, rfl, D, rfl, ⟨_, SqL.of g3⟩, fun D2 hD2 => ?_⟩
    have nD2 : D2 ≠ p := g5.ne hD2
    have nDD : D ≠ D2 := ne_of_none g3 hD2
    refine lc_list (xs := w.map V.int) (fun i H4 => ∃ u : List Int, u.length = i ∧ H4 D2 = some (.lst (u.map V.int)) ∧ Fr p H H4 ∧ Dk H4 p ∧ H4 D = some (.lst (w.map V.int)))
      ⟨[], rfl, upd_same, g4.new (g4.free g5.some hD2), g5.keep (same_new hD2), by rw [upd_ne nDD]; exact g3⟩ (fun i H4 _ ⟨_, _, _, _, _, h⟩ => SqL.of h) ?_ ?_
    · rintro i x H4 hx ⟨u, k1, k3, k4, k5, k6⟩
      rw [List.getElem?_map] at hx
      cases hc : w[i]? with
      | none => rw [hc] at hx; cases hx
      | some x1 =>
      rw [hc] at hx
      cases hx
      have hi := (List.getElem?_eq_some_iff.mp hc).1
      refine ⟨rfl, _, rfl, _, rfl, p, 9, rfl, k5, by decide, fun y H5 y0 y1 f5 d5 => ⟨x1, y, rfl, rfl, _, f5 _ _ nD2 k3, fits u (by omega), ?_⟩⟩
      obtain ⟨w2, z1, z2, z3, z4⟩ := stp (x := x1 + y) nD2 (g4.free g5.some hD2) k1 k4 f5 d5 k3
      exact ⟨w2, z1, z2, z3, z4, by rw [upd_ne nDD]; exact f5 _ _ nD k6⟩
    · rintro H4 ⟨u, k1, k3, k4, k5, k6⟩
      rw [List.length_map] at k1
      exact q D2 u H4 (by rw [k1, g1]) k3 (g4.free g5.some hD2) k4 k5
end
section
variable {P : Program} {w : World} {K : PySem.W.Frag} {mg : Str → Option Value} {base : Heap}
theorem shaped_pair {c : Cd} {ns : List Int} (h : c.deep ≤ 5) : SeqAt.shaped (.list [c.dat, .list (ns.map PyData.int)]) = true := by
  unfold SeqAt.shaped
  rw [Bool.and_eq_true]
  refine ⟨by simp only [PyData.canLay0, PyData.canLayAll0, c.lay, lay_ints, Bool.and_self], decide_eq_true ?_⟩
  have := c.dat_depth
  simp only [PyData.depth, PyData.depthAll, dep0]
  omega
theorem ok_law (T : Txt K mg) : FnOk P w K mg base CX0 8 T.f_law T.d_law ["script"] (spLaw K) := by
  have G__law_cell_at : FnOk P w K mg base CX0 1 T.f__law_cell_at T.d__law_cell_at ["script", "k"] (sp__law_cell_at K) := ok__law_cell_at T
  have G__law_deck : FnOk P w K mg base CX0 2 T.f__law_deck T.d__law_deck ["cell", "many"] sp__law_numbers := ok__law_deck T
  have G__law_take : FnOk P w K mg base CX0 1 T.f__law_take T.d__law_take ["deck", "many"] sp__law_take := ok__law_take T
  have G__law_condition : FnOk P w K mg base CX0 6 T.f__law_condition T.d__law_condition ["deck", "s", "deep"] (sp__law_condition 4) := ok__law_condition T 4
  have G__law_some_numbers : FnOk P w K mg base CX0 2 T.f__law_some_numbers T.d__law_some_numbers ["deck", "s"] sp__law_some_numbers := ok__law_some_numbers T
  have G__law_copy : FnOk P w K mg base CX0 7 T.f__law_copy T.d__law_copy ["thing"] (sp__law_copy 7) := ok__law_copy T 7
  have G__law_holds : FnOk P w K mg base CX0 4 T.f__law_holds T.d__law_holds ["condition", "numbers"] (sp_condition_holds 4) := ok__law_holds T 4
  have G_condition_holds : FnOk P w K mg base CX0 5 T.f_condition_holds T.d_condition_holds ["condition", "numbers"] (sp_condition_holds 4) := ok_condition_holds T 4
  refine T.F_law.ok sc_law (fun vs H Q E h => ?_) (fun cdv A outer s H vs Q E hr h => ?_)
  · obtain ⟨a, ns, rfl, _⟩ := h
    rfl
  obtain ⟨a, ns, rfl, hS, h63, q⟩ := h
  refine ⟨_, (pss_cons (ps_for PassesOwn.never rfl (pi_range1 (by rfl) T.z_range (pa_cons (pe_callB (call_max2 rfl) (by rfl) T.z_max (by decide +kernel) (pa_cons pe_int (pa_cons (pe_callB (call_min2 rfl) (by rfl) T.z_min (by decide +kernel) (pa_cons (pe_callB call_len_seq (by rfl) T.z_len PySem.boot_len (pa_cons (pv 0) pa_nil)) (pa_cons pe_int pa_nil))) pa_nil))) pa_nil)) (pg_name (i := 1) sc_law.nd rfl (Or.inl rfl)) (pss_cons (ps_set (i := 2) sc_law.nd rfl (Or.inr rfl) (pe_call G__law_deck (hr.mono (by omega)) (by rfl) T.m__law_deck T.F__law_deck.kp T.b__law_deck .nil pass0 (pa_cons (pe_call G__law_cell_at (hr.mono (by omega)) (by rfl) T.m__law_cell_at T.F__law_cell_at.kp T.b__law_cell_at .nil pass0 (pa_cons (pv 0) (pa_cons (pv 1) pa_nil))) (pa_cons pe_int pa_nil)))) (pss_cons (ps_set (i := 3) sc_law.nd rfl (Or.inr rfl) (pe_op op_add pe_int (pe_call G__law_take (hr.mono (by omega)) (by rfl) T.m__law_take T.F__law_take.kp T.b__law_take .nil pass0 (pa_cons (pv 2) (pa_cons pe_int pa_nil))))) (pss_cons (ps_set (i := 4) sc_law.nd rfl (Or.inl rfl) (pe_call G__law_condition (hr.mono (by omega)) (by rfl) T.m__law_condition T.F__law_condition.kp T.b__law_condition .nil pass0 (pa_cons (pv 2) (pa_cons (pv 3) (pa_cons (pe_op op_add pe_int (pe_call G__law_take (hr.mono (by omega)) (by rfl) T.m__law_take T.F__law_take.kp T.b__law_take .nil pass0 (pa_cons (pv 2) (pa_cons pe_int pa_nil)))) pa_nil))))) (pss_cons (ps_set (i := 5) sc_law.nd rfl (Or.inl rfl) (pe_op op_cat (pe_lst (pa_cons (pe_op op_rep (pe_lst (pa_cons pe_int pa_nil)) (pv 3)) pa_nil)) (pe_lc (own := [("turn", 9)]) (g := gName 9) (tt := tYes) rfl sc_law.nd (pi_range1 (by rfl) T.z_range (pa_cons pe_int pa_nil)) (blkOk_by (own := [("turn", 9)]) (N := ["script", "k", "deck", "s", "condition", "rows", "numbers", "handed", "found", "turn"]) (sc := (defScope s_law)) (by decide +kernel)) (fun _ _ _ _ _ => (pg_name (i := 9) sc_law.nd rfl (Or.inl rfl))) (fun _ _ _ _ _ => pts_nil) (fun _ _ _ _ _ => (pe_call G__law_some_numbers (hr.mono (by omega)) (by rfl) T.m__law_some_numbers T.F__law_some_numbers.kp T.b__law_some_numbers .nil pass0 (pa_cons (pv 2) (pa_cons (pv 3) pa_nil))))))) (pss_one (ps_for PassesOwn.never rfl (pi_list (pv 5)) (pg_name (i := 6) sc_law.nd rfl (Or.inl rfl)) (pss_cons (ps_set (i := 7) sc_law.nd rfl (Or.inl rfl) (pe_lst (pa_cons (pe_call G__law_copy (hr.mono (by omega)) (by rfl) T.m__law_copy T.F__law_copy.kp T.b__law_copy .nil pass0 (pa_cons (pv 4) pa_nil)) (pa_cons (pe_callTy call_list_of (by rfl) T.z_list (by decide +kernel) (pa_cons (pv 6) pa_nil)) pa_nil)))) (pss_cons (ps_set (i := 8) sc_law.nd rfl (Or.inl rfl) (pe_call G_condition_holds (hr.mono (by omega)) (by rfl) T.m_condition_holds T.F_condition_holds.kp T.b_condition_holds .nil pass0 (pa_cons (pe_ix ix_list (pv 7) pe_int (fun _ _ => rfl)) (pa_cons (pe_ix ix_list (pv 7) pe_int (fun _ _ => rfl)) pa_nil)))) (pss_cons (ps_if (PW.pt (pw_or (pt_not (pt_val (pe_callB call_isi (by rfl) T.z_isinstance (by decide +kernel) (pa_cons (pv 8) (pa_cons (pe_bltn (v := .ty "bool") (by rfl) T.z_bool (by decide +kernel) rfl) pa_nil))))) (pw_or1 (pt_cmpR op_ne (pv 8) (pe_call G__law_holds (hr.mono (by omega)) (by rfl) T.m__law_holds T.F__law_holds.kp T.b__law_holds .nil pass0 (pa_cons (pv 4) (pa_cons (pv 6) pa_nil))) (nomark _))))) (pss_one (ps_ret pe_bl)) pss_nil) (pss_one (ps_if (pt_cmpR (op_neD hr.units) (pv 7) (pe_lst (pa_cons (pv 4) (pa_cons (pv 6) pa_nil))) (nomark _)) (pss_one (ps_ret pe_bl)) pss_nil)))))))))))) (pss_one (ps_ret pe_bl))), ?_⟩
  have hl : (ns.map V.int).length = ns.length := List.length_map _
  obtain ⟨j, hj, hj0, hj1⟩ : ∃ j : Int, (if (if ((ns.map V.int).length : Int) > 12 then 12 else ((ns.map V.int).length : Int)) > 1 then (if ((ns.map V.int).length : Int) > 12 then 12 else ((ns.map V.int).length : Int)) else 1) = j ∧ 0 ≤ j ∧ j ≤ 30 := ⟨_, rfl, by split <;> split <;> omega, by split <;> split <;> omega⟩
  refine ⟨_, rfl, a, _, rfl, .inl hS, _, _, rfl, _, _, rfl, j, congrArg (fun z => [V.int z]) hj, by omega, by omega, for_range (lo := 0) (n := j.toNat) (fun i σ H' => (∃ y1 y2 y3 y4 y5 y6 y7 y8 y9, σ = [some (.ref a), y1, y2, y3, y4, y5, y6, y7, y8, y9]) ∧ SqL K H' a (ns.map V.int)) ⟨⟨_, _, _, _, _, _, _, _, _, rfl⟩, hS⟩ ?_ ?_⟩
  · rintro i σ H0 hi ⟨⟨y1, y2, y3, y4, y5, y6, y7, y8, y9, rfl⟩, hS0⟩
    refine ⟨_, rfl, _, rfl, a, ns, _, rfl, hS0, by omega, fun x => ⟨x, 190, rfl, by decide, by decide, fun p xs H1 s1 hp hx => ?_⟩⟩
    have D1 : Dk H1 p := ⟨xs, hx⟩
    refine ⟨_, rfl, p, 6, rfl, D1, by decide, fun r H2 r0 r1 f2 d2 => ⟨1, r, rfl, rfl, ?_⟩⟩
    refine ⟨_, rfl, _, rfl, _, rfl, p, 4, rfl, d2, by decide, fun m H3 m0 m1 f3 d3 => ⟨1, m, rfl, rfl, p, 1 + r, 1 + m, rfl, d3, by omega, by omega, by omega, by omega, fun cv c H4 f4 d4 hcv hcok hcd => ?_⟩⟩
    have hc4 : c.deep ≤ 4 := by omega
    have F4 : Fr p H0 H4 := (((Fr.same s1).trans f2).trans f3).trans f4
    have hs1 : 1 ≤ 1 + r := by omega
    have hs6 : 1 + r ≤ 6 := by omega
    refine ⟨(by show 1 ≤ sizeLine; decide), fun z hz => ⟨_, rfl, z, (1 + r), _, rfl, rfl, upd_same, by omega, by omega, ?_, fun pz hpz => ⟨(by show 1 ≤ sizeLine; decide), fun L0 hL0 => ?_⟩⟩⟩
    · rw [List.length_singleton, Nat.one_mul]
      exact Nat.le_of_lt (Nat.lt_of_le_of_lt (show _ ≤ 1000000 by omega) (by decide))
    have ez : (List.replicate (1 + r).toNat [V.int 0]).flatten = (List.replicate (1 + r).toNat (0 : Int)).map V.int := by
      generalize (1 + r).toNat = k
      induction k with
      | zero => rfl
      | succ k ih => rw [List.replicate_succ, List.flatten_cons, ih]; rfl
    rw [ez] at hL0 ⊢
    have sz1 := same_new hz (o := .lst [V.int 0])
    have sz2 := same_new hpz (o := .lst ((List.replicate (1 + r).toNat (0 : Int)).map V.int))
    have sz3 := same_new hL0 (o := .lst [V.ref pz])
    have hpz5 := sz3 _ _ (upd_same (H := upd H4 z (.lst [V.int 0])) (a := pz) (o := .lst ((List.replicate (1 + r).toNat (0 : Int)).map V.int)))
    have hL05 := upd_same (H := upd (upd H4 z (.lst [V.int 0])) pz (.lst ((List.replicate (1 + r).toNat (0 : Int)).map V.int))) (a := L0) (o := .lst [V.ref pz])
    have s45 : Same H4 _ := (sz1.trans sz2).trans sz3
    have npz : pz ≠ p := (d4.keep sz1).ne hpz
    have nL0 : L0 ≠ p := (d4.keep (sz1.trans sz2)).ne hL0
    generalize hH5 : upd (upd (upd H4 z (.lst [V.int 0])) pz (.lst ((List.replicate (1 + r).toNat (0 : Int)).map V.int))) L0 (.lst [V.ref pz]) = H5 at *
    have d5 : Dk H5 p := d4.keep s45
    refine ⟨8, rfl, by decide, by decide, fun D hD => lc_range (lo := 0) (n := 8) (fun i H6 => ∃ rs : List (Addr × List Int), rs.length = i ∧ H6 D = some (.lst (rs.map fun e => V.ref e.1)) ∧ (∀ e ∈ rs, e.1 ≠ p ∧ e.1 ≠ D ∧ H6 e.1 = some (.lst (e.2.map V.int)) ∧ e.2.length = (1 + r).toNat) ∧ Fr p H5 H6 ∧ Dk H6 p)
      ⟨[], rfl, upd_same, (fun _ h => by cases h), (Fr.refl p H5).new hD, d5.keep (same_new hD)⟩ ?_ ?_⟩
    · rintro i6 H6 hi6 ⟨rs, g1, g2, g3, g4, g5⟩
      have nD : D ≠ p := d5.ne hD
      refine ⟨rfl, _, rfl, _, rfl, p, (1 + r), rfl, g5, hs1, hs6, fun b nb H7 n1 n2 n3 f7 d7 => ⟨_, f7 _ _ nD g2, ?_, rs ++ [(b, nb)], by simp [g1], by rw [upd_same, List.map_append]; rfl, ?_, (g4.trans f7).new hD, d7.upd nD⟩⟩
      · rw [List.length_map]
        exact Nat.lt_of_le_of_lt (show _ ≤ 1000000 by omega) (by decide)
      · intro e he
        have nbD : b ≠ D := fun e => by rw [e, g2] at n3; cases n3
        rcases List.mem_append.mp he with he | he
        · obtain ⟨w1, w2, w3, w4⟩ := g3 e he
          exact ⟨w1, w2, by rw [upd_ne w2]; exact f7 _ _ w1 w3, w4⟩
        · simp only [List.mem_singleton] at he
          subst he
          exact ⟨g5.ne n3, nbD, by rw [upd_ne nbD]; exact n2, n1⟩
    · rintro H6 ⟨rs, g1, g2, g3, g4, g5⟩
      refine ⟨L0, D, _, _, rfl, rfl, g4 _ _ nL0 hL05, g2, ?_, fun R hR => ?_⟩
      · rw [List.length_map, g1]
        show 9 ≤ sizeLine
        decide
      have sR := same_new hR (o := .lst ([V.ref pz] ++ rs.map fun e => V.ref e.1))
      have hcv6 : Dt (fun b => b ≠ p) H6 cv c.dat := (hcv.same s45).keep fun b o h e => g4 b o h e
      have hcv7 : Dt (fun _ => True) (upd H6 R (.lst ([V.ref pz] ++ rs.map fun e => V.ref e.1))) cv c.dat := (hcv6.same sR).any
      have hS7 : SqL K (upd H6 R (.lst ([V.ref pz] ++ rs.map fun e => V.ref e.1))) a (ns.map V.int) := (((F4.trans (Fr.same s45)).trans g4).trans (Fr.same sR)).seq hp hS0
      have hall : ∀ e ∈ (pz, List.replicate (1 + r).toNat (0 : Int)) :: rs, (upd H6 R (.lst ([V.ref pz] ++ rs.map fun e => V.ref e.1))) e.1 = some (.lst (e.2.map V.int)) ∧ e.2.length = (1 + r).toNat := by
        intro e he
        rcases List.mem_cons.mp he with rfl | he
        · exact ⟨sR _ _ (g4 _ _ npz hpz5), List.length_replicate⟩
        · obtain ⟨w1, w2, w3, w4⟩ := g3 e he
          exact ⟨sR _ _ w3, w4⟩
      have hRx : (upd H6 R (.lst ([V.ref pz] ++ rs.map fun e => V.ref e.1))) R = some (.lst (((pz, List.replicate (1 + r).toNat (0 : Int)) :: rs).map fun e => V.ref e.1)) := upd_same
      generalize hH7 : upd H6 R (.lst ([V.ref pz] ++ rs.map fun e => V.ref e.1)) = H7 at *
      generalize hal : (pz, List.replicate (1 + r).toNat (0 : Int)) :: rs = all at *
      refine ⟨_, rfl, R, rfl, ⟨_, SqL.of hRx⟩, for_list (xs := all.map fun e => V.ref e.1) (fun i7 σ H' => ∃ y6 y7 y8 y9, σ = [some (.ref a), some (.int (0 + i)), some (.ref p), some (.int (1 + r)), some cv, some (.ref R), y6, y7, y8, y9] ∧ Same H7 H') ⟨_, _, _, _, rfl, Same.refl _⟩ (fun i7 σ H' _ ⟨_, _, _, _, _, s⟩ => SqL.of (s _ _ hRx)) ?_ ?_⟩
      · rintro i7 x σ H8 hx7 ⟨z6, z7, z8, z9, rfl, s8⟩
        rw [List.getElem?_map] at hx7
        cases hce : all[i7]? with
        | none => rw [hce] at hx7; cases hx7
        | some e =>
        rw [hce] at hx7
        cases hx7
        obtain ⟨w1, w2⟩ := hall e (List.mem_of_getElem? hce)
        obtain ⟨b, nb⟩ := e
        dsimp only at w1 w2
        have dd := c.dat_depth
        refine ⟨_, rfl, cv, c.dat, rfl, hcv7.same s8, c.lay, by omega, fun hv H9 s9 hD9 => ⟨_, rfl, b, _, rfl, .inl (SqL.of (s9 _ _ (s8 _ _ w1))), fun bc hbc => ⟨(by show 2 ≤ sizeLine; decide), fun li hli => ?_⟩⟩⟩
        have sA := same_new hbc (o := .lst (nb.map V.int))
        have sB := same_new hli (o := .lst [hv, V.ref bc])
        have hliX := upd_same (H := upd H9 bc (.lst (nb.map V.int))) (a := li) (o := .lst [hv, V.ref bc])
        have hbcX := sB _ _ (upd_same (H := H9) (a := bc) (o := .lst (nb.map V.int)))
        have s89 : Same H8 _ := (s9.trans sA).trans sB
        have hhv := (hD9.same (sA.trans sB)).any
        generalize hHX : upd (upd H9 bc (.lst (nb.map V.int))) li (.lst [hv, V.ref bc]) = HX at *
        refine ⟨_, rfl, li, _, 0, _, rfl, rfl, SqL.of hliX, atI_nat (j := 0) rfl, _, rfl, li, _, 1, _, rfl, rfl, SqL.of hliX, atI_nat (j := 1) rfl, hv, bc, c, nb, (1 + r).toNat, rfl, hhv, hbcX, hcok, w2, by omega, hc4, fun H10 s10 => ?_⟩
        have sX := s89.trans s10
        refine ⟨_, rfl, _, _, _, _, true, rfl, .ty "bool", .base (.bl _), kit_ty (by decide +kernel), _, rfl, iteF ⟨_, rfl, _, rfl, _, rfl, cv, b, c, nb, (1 + r).toNat, rfl, (hcv7.same s8).same sX, sX _ _ (s8 _ _ w1), hcok, w2, by omega, hc4, fun H11 s11 => ⟨rfl, _, rfl, iteNS rfl ?_⟩⟩⟩
        have sY := sX.trans s11
        refine ⟨_, rfl, _, rfl, _, rfl, (by show 2 ≤ sizeLine; decide), fun l2 hl2 => ?_⟩
        have sL := same_new hl2 (o := .lst [cv, V.ref b])
        have sZ := sY.trans sL
        have x1 : Dp K (upd H11 l2 (.lst [cv, V.ref b])) (.ref li) (.list [c.dat, .list (nb.map PyData.int)]) := .lst (SqL.of (sL _ _ (s11 _ _ (s10 _ _ hliX)))) (.cons ((((hhv.same s10).same s11).same sL).dp c.lay) (.cons (dp_intsL (SqL.of (sL _ _ (s11 _ _ (s10 _ _ hbcX))))) .nil))
        have x2 : Dp K (upd H11 l2 (.lst [cv, V.ref b])) (.ref l2) (.list [c.dat, .list (nb.map PyData.int)]) := .lst (SqL.of upd_same) (.cons (((hcv7.same s8).same sZ).dp c.lay) (.cons (dp_intsL (SqL.of (sZ _ _ (s8 _ _ w1)))) .nil))
        refine ⟨_, _, x1, x2, shaped_pair (by omega), shaped_pair (by omega), _, rfl, ?_⟩
        rw [eqv_self (shaped_pair (by omega))]
        exact iteF ⟨_, _, _, _, rfl, s8.trans sZ⟩
      · rintro σ H8 ⟨z6, z7, z8, z9, rfl, s8⟩
        exact ⟨⟨_, _, _, _, _, _, _, _, _, rfl⟩, s8.seq hS7⟩
  · rintro σ H0 ⟨⟨y1, y2, y3, y4, y5, y6, y7, y8, y9, rfl⟩, hS0⟩
    exact q _
end
theorem all_mk {l : PySem.W.OpenLaw} {w : World} {K : PySem.W.Frag} {h : Heap} {mg : Str → Option Value} {fa f0 f1 f2 f3 f4 f5 f6 f7 f8 f9 f10 f11 : Addr} (X : K.In h) (G : h.Ns mainGlobals mg) (hfa : mg "law" = some (.ref fa))
    {od0 an0 od1 an1 od2 an2 od3 an3 od4 an4 od5 an5 od6 an6 od7 an7 od8 an8 od9 an9 od10 an10 od11 an11 : Option Addr} {sl0 sl1 sl2 sl3 sl4 sl5 sl6 sl7 sl8 sl9 sl10 sl11 : Array (Option Value)} {oc0 kV0 dc0 pm0 cd0 ct0 oc1 kV1 dc1 pm1 cd1 ct1 oc2 kV2 dc2 pm2 cd2 ct2 oc3 kV3 dc3 pm3 cd3 ct3 oc4 kV4 dc4 pm4 cd4 ct4 oc5 kV5 dc5 pm5 cd5 ct5 oc6 kV6 dc6 pm6 cd6 ct6 oc7 kV7 dc7 pm7 cd7 ct7 oc8 kV8 dc8 pm8 cd8 ct8 oc9 kV9 dc9 pm9 cd9 ct9 oc10 kV10 dc10 pm10 cd10 ct10 oc11 kV11 dc11 pm11 cd11 ct11 : Value}
    (a0 : PySem.W.nsIn K mainGlobals "condition_holds" = some (some (.ref f0))) (l0 : K.lookup f0 = some ⟨oc0, od0, .func (PySem.W.fnOf "condition_holds" "condition_holds" (defArgs s_condition_holds) (defBody s_condition_holds) (defScope s_condition_holds) .none kV0 dc0 pm0 an0 cd0 ct0), sl0⟩) (c0 : PySem.W.codeIn K cd0 "condition_holds" = true) (k0 : PySem.W.keepIn K (.ref f0) = true)
    (a1 : PySem.W.nsIn K mainGlobals "_weighed" = some (some (.ref f1))) (l1 : K.lookup f1 = some ⟨oc1, od1, .func (PySem.W.fnOf "_weighed" "_weighed" (defArgs s__weighed) (defBody s__weighed) (defScope s__weighed) .none kV1 dc1 pm1 an1 cd1 ct1), sl1⟩) (c1 : PySem.W.codeIn K cd1 "_weighed" = true) (k1 : PySem.W.keepIn K (.ref f1) = true)
    (a2 : PySem.W.nsIn K mainGlobals "_law_cell_at" = some (some (.ref f2))) (l2 : K.lookup f2 = some ⟨oc2, od2, .func (PySem.W.fnOf "_law_cell_at" "_law_cell_at" (defArgs s__law_cell_at) (defBody s__law_cell_at) (defScope s__law_cell_at) .none kV2 dc2 pm2 an2 cd2 ct2), sl2⟩) (c2 : PySem.W.codeIn K cd2 "_law_cell_at" = true) (k2 : PySem.W.keepIn K (.ref f2) = true)
    (a3 : PySem.W.nsIn K mainGlobals "_law_numbers" = some (some (.ref f3))) (l3 : K.lookup f3 = some ⟨oc3, od3, .func (PySem.W.fnOf "_law_numbers" "_law_numbers" (defArgs s__law_numbers) (defBody s__law_numbers) (defScope s__law_numbers) .none kV3 dc3 pm3 an3 cd3 ct3), sl3⟩) (c3 : PySem.W.codeIn K cd3 "_law_numbers" = true) (k3 : PySem.W.keepIn K (.ref f3) = true)
    (a4 : PySem.W.nsIn K mainGlobals "_law_deck" = some (some (.ref f4))) (l4 : K.lookup f4 = some ⟨oc4, od4, .func (PySem.W.fnOf "_law_deck" "_law_deck" (defArgs s__law_deck) (defBody s__law_deck) (defScope s__law_deck) .none kV4 dc4 pm4 an4 cd4 ct4), sl4⟩) (c4 : PySem.W.codeIn K cd4 "_law_deck" = true) (k4 : PySem.W.keepIn K (.ref f4) = true)
    (a5 : PySem.W.nsIn K mainGlobals "_law_take" = some (some (.ref f5))) (l5 : K.lookup f5 = some ⟨oc5, od5, .func (PySem.W.fnOf "_law_take" "_law_take" (defArgs s__law_take) (defBody s__law_take) (defScope s__law_take) .none kV5 dc5 pm5 an5 cd5 ct5), sl5⟩) (c5 : PySem.W.codeIn K cd5 "_law_take" = true) (k5 : PySem.W.keepIn K (.ref f5) = true)
    (a6 : PySem.W.nsIn K mainGlobals "_law_weights" = some (some (.ref f6))) (l6 : K.lookup f6 = some ⟨oc6, od6, .func (PySem.W.fnOf "_law_weights" "_law_weights" (defArgs s__law_weights) (defBody s__law_weights) (defScope s__law_weights) .none kV6 dc6 pm6 an6 cd6 ct6), sl6⟩) (c6 : PySem.W.codeIn K cd6 "_law_weights" = true) (k6 : PySem.W.keepIn K (.ref f6) = true)
    (a7 : PySem.W.nsIn K mainGlobals "_law_condition" = some (some (.ref f7))) (l7 : K.lookup f7 = some ⟨oc7, od7, .func (PySem.W.fnOf "_law_condition" "_law_condition" (defArgs s__law_condition) (defBody s__law_condition) (defScope s__law_condition) .none kV7 dc7 pm7 an7 cd7 ct7), sl7⟩) (c7 : PySem.W.codeIn K cd7 "_law_condition" = true) (k7 : PySem.W.keepIn K (.ref f7) = true)
    (a8 : PySem.W.nsIn K mainGlobals "_law_holds" = some (some (.ref f8))) (l8 : K.lookup f8 = some ⟨oc8, od8, .func (PySem.W.fnOf "_law_holds" "_law_holds" (defArgs s__law_holds) (defBody s__law_holds) (defScope s__law_holds) .none kV8 dc8 pm8 an8 cd8 ct8), sl8⟩) (c8 : PySem.W.codeIn K cd8 "_law_holds" = true) (k8 : PySem.W.keepIn K (.ref f8) = true)
    (a9 : PySem.W.nsIn K mainGlobals "_law_copy" = some (some (.ref f9))) (l9 : K.lookup f9 = some ⟨oc9, od9, .func (PySem.W.fnOf "_law_copy" "_law_copy" (defArgs s__law_copy) (defBody s__law_copy) (defScope s__law_copy) .none kV9 dc9 pm9 an9 cd9 ct9), sl9⟩) (c9 : PySem.W.codeIn K cd9 "_law_copy" = true) (k9 : PySem.W.keepIn K (.ref f9) = true)
    (a10 : PySem.W.nsIn K mainGlobals "_law_some_numbers" = some (some (.ref f10))) (l10 : K.lookup f10 = some ⟨oc10, od10, .func (PySem.W.fnOf "_law_some_numbers" "_law_some_numbers" (defArgs s__law_some_numbers) (defBody s__law_some_numbers) (defScope s__law_some_numbers) .none kV10 dc10 pm10 an10 cd10 ct10), sl10⟩) (c10 : PySem.W.codeIn K cd10 "_law_some_numbers" = true) (k10 : PySem.W.keepIn K (.ref f10) = true)
    (a11 : PySem.W.nsIn K mainGlobals "law" = some (some (.ref f11))) (l11 : K.lookup f11 = some ⟨oc11, od11, .func (PySem.W.fnOf "law" "law" (defArgs s_law) (defBody s_law) (defScope s_law) .none kV11 dc11 pm11 an11 cd11 ct11), sl11⟩) (c11 : PySem.W.codeIn K cd11 "law" = true) (k11 : PySem.W.keepIn K (.ref f11) = true)
    (z_bool : PySem.W.nsIn K mainGlobals "bool" = some none)
    (z_dict : PySem.W.nsIn K mainGlobals "dict" = some none)
    (z_int : PySem.W.nsIn K mainGlobals "int" = some none)
    (z_isinstance : PySem.W.nsIn K mainGlobals "isinstance" = some none)
    (z_len : PySem.W.nsIn K mainGlobals "len" = some none)
    (z_list : PySem.W.nsIn K mainGlobals "list" = some none)
    (z_max : PySem.W.nsIn K mainGlobals "max" = some none)
    (z_min : PySem.W.nsIn K mainGlobals "min" = some none)
    (z_range : PySem.W.nsIn K mainGlobals "range" = some none)
    (z_sum : PySem.W.nsIn K mainGlobals "sum" = some none)
    (z_tuple : PySem.W.nsIn K mainGlobals "tuple" = some none)
    (z_zip : PySem.W.nsIn K mainGlobals "zip" = some none)
    : ∃ fd : FuncData, (∀ (s : Shared) (v : Value), BindsTo s fd ⟨[v], []⟩ [("script", v)]) ∧ ∀ base : Heap, K.In base → base.Ns mainGlobals mg → FnOk l.prog w K mg base CX0 8 fa fd ["script"] (spLaw K) := by
  have e := hfa.symm.trans (PySem.W.mg_of X G a11)
  cases e
  have F0 := fun_mk (st := s_condition_holds) l0 c0 k0
  have b0 := F0.binds (ps := ["condition", "numbers"]) fun _ _ _ _ _ _ us hl => match us, hl with | [_, _], _ => rfl
  have F1 := fun_mk (st := s__weighed) l1 c1 k1
  have b1 := F1.binds (ps := ["weights", "numbers"]) fun _ _ _ _ _ _ us hl => match us, hl with | [_, _], _ => rfl
  have F2 := fun_mk (st := s__law_cell_at) l2 c2 k2
  have b2 := F2.binds (ps := ["script", "k"]) fun _ _ _ _ _ _ us hl => match us, hl with | [_, _], _ => rfl
  have F3 := fun_mk (st := s__law_numbers) l3 c3 k3
  have b3 := F3.binds (ps := ["cell", "many"]) fun _ _ _ _ _ _ us hl => match us, hl with | [_, _], _ => rfl
  have F4 := fun_mk (st := s__law_deck) l4 c4 k4
  have b4 := F4.binds (ps := ["cell", "many"]) fun _ _ _ _ _ _ us hl => match us, hl with | [_, _], _ => rfl
  have F5 := fun_mk (st := s__law_take) l5 c5 k5
  have b5 := F5.binds (ps := ["deck", "many"]) fun _ _ _ _ _ _ us hl => match us, hl with | [_, _], _ => rfl
  have F6 := fun_mk (st := s__law_weights) l6 c6 k6
  have b6 := F6.binds (ps := ["deck", "s"]) fun _ _ _ _ _ _ us hl => match us, hl with | [_, _], _ => rfl
  have F7 := fun_mk (st := s__law_condition) l7 c7 k7
  have b7 := F7.binds (ps := ["deck", "s", "deep"]) fun _ _ _ _ _ _ us hl => match us, hl with | [_, _, _], _ => rfl
  have F8 := fun_mk (st := s__law_holds) l8 c8 k8
  have b8 := F8.binds (ps := ["condition", "numbers"]) fun _ _ _ _ _ _ us hl => match us, hl with | [_, _], _ => rfl
  have F9 := fun_mk (st := s__law_copy) l9 c9 k9
  have b9 := F9.binds (ps := ["thing"]) fun _ _ _ _ _ _ us hl => match us, hl with | [_], _ => rfl
  have F10 := fun_mk (st := s__law_some_numbers) l10 c10 k10
  have b10 := F10.binds (ps := ["deck", "s"]) fun _ _ _ _ _ _ us hl => match us, hl with | [_, _], _ => rfl
  have F11 := fun_mk (st := s_law) l11 c11 k11
  have b11 := F11.binds (ps := ["script"]) fun _ _ _ _ _ _ us hl => match us, hl with | [_], _ => rfl
  let T : Txt K mg := ⟨f0, _, F0, b0, PySem.W.mg_of X G a0, f1, _, F1, b1, PySem.W.mg_of X G a1, f2, _, F2, b2, PySem.W.mg_of X G a2, f3, _, F3, b3, PySem.W.mg_of X G a3, f4, _, F4, b4, PySem.W.mg_of X G a4, f5, _, F5, b5, PySem.W.mg_of X G a5, f6, _, F6, b6, PySem.W.mg_of X G a6, f7, _, F7, b7, PySem.W.mg_of X G a7, f8, _, F8, b8, PySem.W.mg_of X G a8, f9, _, F9, b9, PySem.W.mg_of X G a9, f10, _, F10, b10, PySem.W.mg_of X G a10, fa, _, F11, b11, PySem.W.mg_of X G a11, PySem.W.mg_none_of X G z_bool, PySem.W.mg_none_of X G z_dict, PySem.W.mg_none_of X G z_int, PySem.W.mg_none_of X G z_isinstance, PySem.W.mg_none_of X G z_len, PySem.W.mg_none_of X G z_list, PySem.W.mg_none_of X G z_max, PySem.W.mg_none_of X G z_min, PySem.W.mg_none_of X G z_range, PySem.W.mg_none_of X G z_sum, PySem.W.mg_none_of X G z_tuple, PySem.W.mg_none_of X G z_zip⟩
  exact ⟨PySem.W.fnOf "law" "law" (defArgs s_law) (defBody s_law) (defScope s_law) .none kV11 dc11 pm11 an11 cd11 ct11, fun s v => .of_eq rfl, fun base _ _ => ok_law T⟩
end My
open PySem PySem.W PyProof.Rows
set_option maxRecDepth 100000 in
set_option maxHeartbeats 0 in
theorem PySem.Challenge.cw_heaptrees_k16_conditions_hold_holds : PySem.Challenge.rw_heaptrees_k16_conditions_hold.Holds := by
  w_on; o_law; k_head; (case hw => w_witness2)
  k_fill
  refine L2.walk_of (l := PySem.Challenge.rw_heaptrees_k16_conditions_hold) (n := 63) (k := 8) (x := "script") (CX := fun _ => L2.CX0) (sp := fun w => My.spLaw _) rfl (by decide) rfl ⟨rfl, by decide, by decide⟩ (fun w h Y => PySem.W.kIn_of Y) ?F (fun _ _ a ns hl _ hS => ⟨a, ns, rfl, hS, hl, fun _ => rfl⟩) (fun _ _ _ _ _ h => h)
  case F =>
    intro w mg fa h KX G hmg
    refine' My.all_mk KX G hmg ?a0 ?l0 ?c0 ?k0 ?a1 ?l1 ?c1 ?k1 ?a2 ?l2 ?c2 ?k2 ?a3 ?l3 ?c3 ?k3 ?a4 ?l4 ?c4 ?k4 ?a5 ?l5 ?c5 ?k5 ?a6 ?l6 ?c6 ?k6 ?a7 ?l7 ?c7 ?k7 ?a8 ?l8 ?c8 ?k8 ?a9 ?l9 ?c9 ?k9 ?a10 ?l10 ?c10 ?k10 ?a11 ?l11 ?c11 ?k11 ?z_bool ?z_dict ?z_int ?z_isinstance ?z_len ?z_list ?z_max ?z_min ?z_range ?z_sum ?z_tuple ?z_zip
    (case a0 => k_is)
    (case l0 => k_is)
    (case c0 => k_is)
    (case k0 => k_is)
    (case a1 => k_is)
    (case l1 => k_is)
    (case c1 => k_is)
    (case k1 => k_is)
    (case a2 => k_is)
    (case l2 => k_is)
    (case c2 => k_is)
    (case k2 => k_is)
    (case a3 => k_is)
    (case l3 => k_is)
    (case c3 => k_is)
    (case k3 => k_is)
    (case a4 => k_is)
    (case l4 => k_is)
    (case c4 => k_is)
    (case k4 => k_is)
    (case a5 => k_is)
    (case l5 => k_is)
    (case c5 => k_is)
    (case k5 => k_is)
    (case a6 => k_is)
    (case l6 => k_is)
    (case c6 => k_is)
    (case k6 => k_is)
    (case a7 => k_is)
    (case l7 => k_is)
    (case c7 => k_is)
    (case k7 => k_is)
    (case a8 => k_is)
    (case l8 => k_is)
    (case c8 => k_is)
    (case k8 => k_is)
    (case a9 => k_is)
    (case l9 => k_is)
    (case c9 => k_is)
    (case k9 => k_is)
    (case a10 => k_is)
    (case l10 => k_is)
    (case c10 => k_is)
    (case k10 => k_is)
    (case a11 => k_is)
    (case l11 => k_is)
    (case c11 => k_is)
    (case k11 => k_is)
    (case z_bool => k_is)
    (case z_dict => k_is)
    (case z_int => k_is)
    (case z_isinstance => k_is)
    (case z_len => k_is)
    (case z_list => k_is)
    (case z_max => k_is)
    (case z_min => k_is)
    (case z_range => k_is)
    (case z_sum => k_is)
    (case z_tuple => k_is)
    (case z_zip => k_is)
#print axioms PySem.Challenge.cw_heaptrees_k16_conditions_hold_holds
