
import PyProof.Rows.All
import Wide.All
import OpenK.AllK
import Wide.FinOn
import HandS.ForMost
import HandS.Wide
import HandS.IsInst
import HandS.Flow
import HandS.Style
import HandS.Codes
import HandS.Lambda
import HandS.EndTab
import HandS.SortKw
import HandS.FStr
import HandS.NoneIn
import HandS.More
import HandS.Zip
import HandS.Conv
import HandS.TupAny
import HandS.RaiseMore
import HandS.Walk
import HandS.Iter
import HandS.Dict
import PyProof.StrLawsRepr
import KE.SortKeyHeap
import PySem.Challenge.RW_heaptrees_k01_what_is_a_tree
set_option Elab.async false
set_option linter.all false
set_option maxRecDepth 100000
set_option maxHeartbeats 4000000
namespace My
open PySem PySem.Spec PyProof.Rows L2
def topS (i : Nat) : Stmt := PySem.Challenge.pw_heaptrees_k01_what_is_a_tree.main.body.getD i (.Pass ⟨0, 0, 0, 0⟩)
abbrev s_is_letter : Stmt := topS 1
theorem sc_is_letter : FnScope ["thing"] ["thing"] (defScope s_is_letter) := ⟨rfl, rfl, rfl, by decide +kernel, rfl, by decide +kernel, by decide +kernel⟩
abbrev s_is_tree : Stmt := topS 3
theorem sc_is_tree : FnScope ["thing", "waiting", "part"] ["thing"] (defScope s_is_tree) := ⟨rfl, rfl, rfl, by decide +kernel, rfl, by decide +kernel, by decide +kernel⟩
abbrev s__is_part : Stmt := topS 4
theorem sc__is_part : FnScope ["thing"] ["thing"] (defScope s__is_part) := ⟨rfl, rfl, rfl, by decide +kernel, rfl, by decide +kernel, by decide +kernel⟩
abbrev s__law_pool : Stmt := topS 6
theorem sc__law_pool : FnScope ["script", "k", "cell"] ["script", "k"] (defScope s__law_pool) := ⟨rfl, rfl, rfl, by decide +kernel, rfl, by decide +kernel, by decide +kernel⟩
abbrev s__law_take : Stmt := topS 7
theorem sc__law_take : FnScope ["pool", "many", "found", "step", "mark"] ["pool", "many"] (defScope s__law_take) := ⟨rfl, rfl, rfl, by decide +kernel, rfl, by decide +kernel, by decide +kernel⟩
abbrev s__law_mixed_up : Stmt := topS 8
theorem sc__law_mixed_up : FnScope ["pool", "things", "left", "found"] ["pool", "things"] (defScope s__law_mixed_up) := ⟨rfl, rfl, rfl, by decide +kernel, rfl, by decide +kernel, by decide +kernel⟩
abbrev s__law_grown : Stmt := topS 9
theorem sc__law_grown : FnScope ["pool", "most", "letters", "many", "way", "depths", "rows", "k", "head", "trees", "children", "child"] ["pool", "most", "letters"] (defScope s__law_grown) := ⟨rfl, rfl, rfl, by decide +kernel, rfl, by decide +kernel, by decide +kernel⟩
abbrev s__law_shuffled : Stmt := topS 10
theorem sc__law_shuffled : FnScope ["pool", "tree", "child"] ["pool", "tree"] (defScope s__law_shuffled) := ⟨rfl, rfl, rfl, by decide +kernel, rfl, by decide +kernel, by decide +kernel⟩
abbrev s__law_tree : Stmt := topS 11
theorem sc__law_tree : FnScope ["pool", "most", "letters", "one", "other", "rows"] ["pool", "most", "letters"] (defScope s__law_tree) := ⟨rfl, rfl, rfl, by decide +kernel, rfl, by decide +kernel, by decide +kernel⟩
abbrev s__law_letters : Stmt := topS 12
theorem sc__law_letters : FnScope ["pool"] ["pool"] (defScope s__law_letters) := ⟨rfl, rfl, rfl, by decide +kernel, rfl, by decide +kernel, by decide +kernel⟩
abbrev s__law_is_tree : Stmt := topS 13
theorem sc__law_is_tree : FnScope ["thing", "child"] ["thing"] (defScope s__law_is_tree) := ⟨rfl, rfl, rfl, by decide +kernel, rfl, by decide +kernel, by decide +kernel⟩
abbrev s__law_odd : Stmt := topS 14
theorem sc__law_odd : FnScope ["pool", "tree", "letter", "children", "signs", "sign", "at", "letters", "lists", "rows"] ["pool", "tree"] (defScope s__law_odd) := ⟨rfl, rfl, rfl, by decide +kernel, rfl, by decide +kernel, by decide +kernel⟩
abbrev s__law_spoilt : Stmt := topS 15
theorem sc__law_spoilt : FnScope ["pool", "tree", "at"] ["pool", "tree"] (defScope s__law_spoilt) := ⟨rfl, rfl, rfl, by decide +kernel, rfl, by decide +kernel, by decide +kernel⟩
abbrev s_law : Stmt := topS 16
theorem sc_law : FnScope ["script", "k", "pool", "tree", "thing", "kept", "found", "deep", "bad", "side", "wide", "spoilt", "turn"] ["script"] (defScope s_law) := ⟨rfl, rfl, rfl, by decide +kernel, rfl, by decide +kernel, by decide +kernel⟩
structure Txt (K : PySem.W.Frag) (mg : Str → Option Value) where
  f_is_letter : Addr
  d_is_letter : FuncData
  F_is_letter : Fun K "is_letter" "is_letter" s_is_letter f_is_letter d_is_letter
  b_is_letter : Binds K d_is_letter ["thing"] []
  m_is_letter : mg "is_letter" = some (.ref f_is_letter)
  f_is_tree : Addr
  d_is_tree : FuncData
  F_is_tree : Fun K "is_tree" "is_tree" s_is_tree f_is_tree d_is_tree
  b_is_tree : Binds K d_is_tree ["thing"] []
  m_is_tree : mg "is_tree" = some (.ref f_is_tree)
  f__is_part : Addr
  d__is_part : FuncData
  F__is_part : Fun K "_is_part" "_is_part" s__is_part f__is_part d__is_part
  b__is_part : Binds K d__is_part ["thing"] []
  m__is_part : mg "_is_part" = some (.ref f__is_part)
  f__law_pool : Addr
  d__law_pool : FuncData
  F__law_pool : Fun K "_law_pool" "_law_pool" s__law_pool f__law_pool d__law_pool
  b__law_pool : Binds K d__law_pool ["script", "k"] []
  m__law_pool : mg "_law_pool" = some (.ref f__law_pool)
  f__law_take : Addr
  d__law_take : FuncData
  F__law_take : Fun K "_law_take" "_law_take" s__law_take f__law_take d__law_take
  b__law_take : Binds K d__law_take ["pool", "many"] []
  m__law_take : mg "_law_take" = some (.ref f__law_take)
  f__law_mixed_up : Addr
  d__law_mixed_up : FuncData
  F__law_mixed_up : Fun K "_law_mixed_up" "_law_mixed_up" s__law_mixed_up f__law_mixed_up d__law_mixed_up
  b__law_mixed_up : Binds K d__law_mixed_up ["pool", "things"] []
  m__law_mixed_up : mg "_law_mixed_up" = some (.ref f__law_mixed_up)
  f__law_grown : Addr
  d__law_grown : FuncData
  F__law_grown : Fun K "_law_grown" "_law_grown" s__law_grown f__law_grown d__law_grown
  b__law_grown : Binds K d__law_grown ["pool", "most", "letters"] []
  m__law_grown : mg "_law_grown" = some (.ref f__law_grown)
  f__law_shuffled : Addr
  d__law_shuffled : FuncData
  F__law_shuffled : Fun K "_law_shuffled" "_law_shuffled" s__law_shuffled f__law_shuffled d__law_shuffled
  b__law_shuffled : Binds K d__law_shuffled ["pool", "tree"] []
  m__law_shuffled : mg "_law_shuffled" = some (.ref f__law_shuffled)
  f__law_tree : Addr
  d__law_tree : FuncData
  F__law_tree : Fun K "_law_tree" "_law_tree" s__law_tree f__law_tree d__law_tree
  b__law_tree : Binds K d__law_tree ["pool", "most", "letters"] []
  m__law_tree : mg "_law_tree" = some (.ref f__law_tree)
  f__law_letters : Addr
  d__law_letters : FuncData
  F__law_letters : Fun K "_law_letters" "_law_letters" s__law_letters f__law_letters d__law_letters
  b__law_letters : Binds K d__law_letters ["pool"] []
  m__law_letters : mg "_law_letters" = some (.ref f__law_letters)
  f__law_is_tree : Addr
  d__law_is_tree : FuncData
  F__law_is_tree : Fun K "_law_is_tree" "_law_is_tree" s__law_is_tree f__law_is_tree d__law_is_tree
  b__law_is_tree : Binds K d__law_is_tree ["thing"] []
  m__law_is_tree : mg "_law_is_tree" = some (.ref f__law_is_tree)
  f__law_odd : Addr
  d__law_odd : FuncData
  F__law_odd : Fun K "_law_odd" "_law_odd" s__law_odd f__law_odd d__law_odd
  b__law_odd : Binds K d__law_odd ["pool", "tree"] []
  m__law_odd : mg "_law_odd" = some (.ref f__law_odd)
  f__law_spoilt : Addr
  d__law_spoilt : FuncData
  F__law_spoilt : Fun K "_law_spoilt" "_law_spoilt" s__law_spoilt f__law_spoilt d__law_spoilt
  b__law_spoilt : Binds K d__law_spoilt ["pool", "tree"] []
  m__law_spoilt : mg "_law_spoilt" = some (.ref f__law_spoilt)
  f_law : Addr
  d_law : FuncData
  F_law : Fun K "law" "law" s_law f_law d_law
  b_law : Binds K d_law ["script"] []
  m_law : mg "law" = some (.ref f_law)
  z_bool : mg "bool" = none
  z_isinstance : mg "isinstance" = none
  z_len : mg "len" = none
  z_list : mg "list" = none
  z_max : mg "max" = none
  z_min : mg "min" = none
  z_range : mg "range" = none
  z_repr : mg "repr" = none
  z_str : mg "str" = none
  z_tuple : mg "tuple" = none
local macro_rules | `(tactic| walk_at "my rd") => `(tactic| repeat (first | refine ⟨_, rfl, ?_⟩ | refine ⟨_, _, rfl, rfl, ?_⟩ | refine ⟨rfl, ?_⟩))
local macro_rules | `(tactic| walk_at "my one") => `(tactic| first | refine ⟨_, rfl, ?_⟩ | refine ⟨_, _, rfl, rfl, ?_⟩ | refine ⟨rfl, ?_⟩)
def Chg (p : Addr) (H H' : Hp) : Prop := ∀ b, b ≠ p → H' b = H b
theorem Chg.refl (p : Addr) (H : Hp) : Chg p H H := fun _ _ => rfl
theorem Chg.trans {p : Addr} {H H1 H2 : Hp} (a : Chg p H H1) (b : Chg p H1 H2) : Chg p H H2 := fun c hc => (b c hc).trans (a c hc)
theorem Chg.upd {p : Addr} {H : Hp} {o : HO} : Chg p H (upd H p o) := fun _ h => upd_ne h
theorem Chg.at {p b : Addr} {H H' : Hp} {o : HO} (c : Chg p H H') (h : H b = some o) (n : b ≠ p) : H' b = some o := (c b n).trans h
theorem Chg.seq {K : PySem.W.Frag} {p a : Addr} {H H' : Hp} {xs : List V} (c : Chg p H H') (hp : H p = none) (h : SqL K H a xs) : SqL K H' a xs := by
  rcases h with (h | ⟨o, h⟩) | h
  · exact .inl (.inl (c.at h (ne_of_none h hp)))
  · exact .inl (.inr ⟨o, c.at h (ne_of_none h hp)⟩)
  · exact .inr h
theorem same_new {H : Hp} {p : Addr} {o : HO} (h : H p = none) : Same H (upd H p o) := fun b u q => by rw [upd_ne (ne_of_none q h)]; exact q
theorem nn_mul {a b A B : Int} (h0 : 0 ≤ a) (h1 : a ≤ A) (g0 : 0 ≤ b) (g1 : b ≤ B) : 0 ≤ a * b ∧ a * b ≤ A * B :=
  ⟨Int.mul_nonneg h0 g0, Int.mul_le_mul h1 g1 g0 (Int.le_trans h0 h1)⟩
theorem divW {i j : Int} (h : 0 < j) (h2 : j < 2 ^ 60) : CDivW i j := wide_div (b := 60) h (by omega) (by decide) (by decide)

theorem lay_ints : ∀ xs : List Int, PyData.canLayAll0 (xs.map PyData.int) = true
  | [] => by simp only [List.map_nil, PyData.canLayAll0]
  | x :: r => by simp only [List.map_cons, PyData.canLayAll0, PyData.canLay0, lay_ints r, Bool.and_self]
theorem dep_ints : ∀ xs : List Int, PyData.depthAll (xs.map PyData.int) ≤ 1
  | [] => by simp only [List.map_nil, PyData.depthAll]; omega
  | x :: r => by
    have := dep_ints r
    simp only [List.map_cons, PyData.depthAll, PyData.depth]
    omega
theorem shaped_ints (xs : List Int) : SeqAt.shaped (.list (xs.map PyData.int)) = true := by
  have a := lay_ints xs
  have b := dep_ints xs
  unfold SeqAt.shaped
  rw [Bool.and_eq_true]
  refine ⟨by simp only [PyData.canLay0]; exact a, decide_eq_true ?_⟩
  simp only [PyData.depth]
  omega
theorem dp_ints {K : PySem.W.Frag} {H : Hp} : ∀ xs : List Int, DpAll K H (xs.map V.int) (xs.map PyData.int)
  | [] => .nil
  | x :: r => .cons (.int x) (dp_ints r)
theorem dp_intsL {K : PySem.W.Frag} {H : Hp} {a : Addr} {xs : List Int} (h : SqL K H a (xs.map V.int)) : Dp K H (.ref a) (.list (xs.map PyData.int)) := .lst h (dp_ints xs)
theorem eqv_self {d : PyData} (h : SeqAt.shaped d = true) : PyData.eqv d d = true := SeqAt.eqv_refl d (SeqAt.canLay_of_shaped h)

inductive Tr where
  | node (c : Nat) (ks : List Tr)
def ch (c : Nat) : Str := ⟨#[c]⟩
mutual
def Tr.size : Tr → Nat
  | .node _ ks => 1 + sizes ks
def sizes : List Tr → Nat
  | [] => 0
  | t :: r => t.size + sizes r
end
mutual
def Tr.depth : Tr → Nat
  | .node _ ks => 1 + depths ks
def depths : List Tr → Nat
  | [] => 0
  | t :: r => max t.depth (depths r)
end
mutual
def Tr.post : Tr → List Tr
  | .node c ks => posts ks ++ [.node c ks]
def posts : List Tr → List Tr
  | [] => []
  | t :: r => t.post ++ posts r
end

mutual
def Tr.lets (p : Nat → Prop) : Tr → Prop
  | .node c ks => p c ∧ letss p ks
def letss (p : Nat → Prop) : List Tr → Prop
  | [] => True
  | t :: r => t.lets p ∧ letss p r
end
def Tr.kids : Tr → List Tr
  | .node _ ks => ks
def Tr.top : Tr → Nat
  | .node c _ => c
theorem sizes_append : ∀ a b : List Tr, sizes (a ++ b) = sizes a + sizes b
  | [], b => by simp only [List.nil_append, sizes]; omega
  | t :: r, b => by simp only [List.cons_append, sizes, sizes_append r b]; omega
theorem depths_append : ∀ a b : List Tr, depths (a ++ b) = max (depths a) (depths b)
  | [], b => by simp only [List.nil_append, depths]; omega
  | t :: r, b => by simp only [List.cons_append, depths, depths_append r b]; omega
theorem posts_append : ∀ a b : List Tr, posts (a ++ b) = posts a ++ posts b
  | [], b => by simp only [List.nil_append, posts]
  | t :: r, b => by simp only [List.cons_append, posts, posts_append r b, List.append_assoc]
theorem letss_append (p : Nat → Prop) : ∀ a b : List Tr, letss p (a ++ b) ↔ letss p a ∧ letss p b
  | [], b => by simp only [List.nil_append, letss, true_and]
  | t :: r, b => by simp only [List.cons_append, letss, letss_append p r b, and_assoc]
theorem size_pos : ∀ t : Tr, 1 ≤ t.size
  | .node c ks => by simp only [Tr.size]; omega
theorem len_sizes : ∀ ts : List Tr, ts.length ≤ sizes ts
  | [] => Nat.le_refl _
  | t :: r => by
    have a := size_pos t
    have b := len_sizes r
    simp only [List.length_cons, sizes]
    omega
mutual
theorem post_len : ∀ t : Tr, t.post.length = t.size
  | .node c ks => by simp only [Tr.post, List.length_append, posts_len ks, List.length_singleton, Tr.size]; omega
theorem posts_len : ∀ ts : List Tr, (posts ts).length = sizes ts
  | [] => rfl
  | t :: r => by simp only [posts, List.length_append, post_len t, posts_len r, sizes]
end
theorem sizes_mem : ∀ {ts : List Tr} {t : Tr}, t ∈ ts → t.size ≤ sizes ts
  | u :: r, t, h => by
    rcases List.mem_cons.mp h with e | h
    · subst e; simp only [sizes]; omega
    · have := sizes_mem h
      simp only [sizes]; omega
theorem depths_mem : ∀ {ts : List Tr} {t : Tr}, t ∈ ts → t.depth ≤ depths ts
  | u :: r, t, h => by
    rcases List.mem_cons.mp h with e | h
    · subst e; simp only [depths]; omega
    · have := depths_mem h
      simp only [depths]; omega
theorem letss_mem {p : Nat → Prop} : ∀ {ts : List Tr} {t : Tr}, letss p ts → t ∈ ts → t.lets p
  | u :: r, t, hl, h => by
    simp only [letss] at hl
    rcases List.mem_cons.mp h with e | h
    · subst e; exact hl.1
    · exact letss_mem hl.2 h
mutual
theorem lets_mono {p q : Nat → Prop} (h : ∀ c, p c → q c) : ∀ t : Tr, t.lets p → t.lets q
  | .node c ks, a => by
    simp only [Tr.lets] at a ⊢
    exact ⟨h _ a.1, letss_mono h ks a.2⟩
theorem letss_mono {p q : Nat → Prop} (h : ∀ c, p c → q c) : ∀ ts : List Tr, letss p ts → letss q ts
  | [], _ => trivial
  | t :: r, a => by
    simp only [letss] at a ⊢
    exact ⟨lets_mono h t a.1, letss_mono h r a.2⟩
end
mutual
inductive TrAt (ok : Addr → Prop) (H : Hp) : V → Tr → Prop
  | node {a l : Addr} {vs : List V} {c : Nat} {ks : List Tr} : H a = some (.tup [.str (ch c), .ref l]) → H l = some (.lst vs) → ok a → ok l → 97 ≤ c → c ≤ 122 → TrsAt ok H vs ks → TrAt ok H (.ref a) (.node c ks)
inductive TrsAt (ok : Addr → Prop) (H : Hp) : List V → List Tr → Prop
  | nil : TrsAt ok H [] []
  | cons {v : V} {vs : List V} {t : Tr} {ts : List Tr} : TrAt ok H v t → TrsAt ok H vs ts → TrsAt ok H (v :: vs) (t :: ts)
end
section
variable {ok ok' : Addr → Prop} {H H' : Hp}
mutual
theorem TrAt.imp (hk : ∀ b, ok b → ok' b) (h : ∀ b o, ok b → H b = some o → H' b = some o) : ∀ (t : Tr) (v : V), TrAt ok H v t → TrAt ok' H' v t
  | .node c ks, v, x => by
    cases x with
    | node h1 h2 k1 k2 c1 c2 r => exact .node (h _ _ k1 h1) (h _ _ k2 h2) (hk _ k1) (hk _ k2) c1 c2 (TrsAt.imp hk h ks _ r)
theorem TrsAt.imp (hk : ∀ b, ok b → ok' b) (h : ∀ b o, ok b → H b = some o → H' b = some o) : ∀ (ts : List Tr) (vs : List V), TrsAt ok H vs ts → TrsAt ok' H' vs ts
  | [], _, x => by cases x; exact .nil
  | t :: r, _, x => by
    cases x with
    | cons a b => exact .cons (TrAt.imp hk h t _ a) (TrsAt.imp hk h r _ b)
end
theorem TrAt.keep {v : V} {t : Tr} (x : TrAt ok H v t) (h : ∀ b o, ok b → H b = some o → H' b = some o) : TrAt ok H' v t := TrAt.imp (fun _ k => k) h t v x
theorem TrsAt.keep {vs : List V} {ts : List Tr} (x : TrsAt ok H vs ts) (h : ∀ b o, ok b → H b = some o → H' b = some o) : TrsAt ok H' vs ts := TrsAt.imp (fun _ k => k) h ts vs x
theorem TrAt.weak {v : V} {t : Tr} (x : TrAt ok H v t) (h : ∀ b, ok b → ok' b) : TrAt ok' H v t := TrAt.imp h (fun _ _ _ e => e) t v x
theorem TrsAt.weak {vs : List V} {ts : List Tr} (x : TrsAt ok H vs ts) (h : ∀ b, ok b → ok' b) : TrsAt ok' H vs ts := TrsAt.imp h (fun _ _ _ e => e) ts vs x
mutual
theorem TrAt.there : ∀ (t : Tr) (v : V), TrAt ok H v t → TrAt (fun b => ok b ∧ ∃ o, H b = some o) H v t
  | .node c ks, v, x => by
    cases x with
    | node h1 h2 k1 k2 c1 c2 r => exact .node h1 h2 ⟨k1, _, h1⟩ ⟨k2, _, h2⟩ c1 c2 (TrsAt.there ks _ r)
theorem TrsAt.there : ∀ (ts : List Tr) (vs : List V), TrsAt ok H vs ts → TrsAt (fun b => ok b ∧ ∃ o, H b = some o) H vs ts
  | [], _, x => by cases x; exact .nil
  | t :: r, _, x => by
    cases x with
    | cons a b => exact .cons (TrAt.there t _ a) (TrsAt.there r _ b)
end
theorem TrsAt.len : ∀ {vs : List V} {ts : List Tr}, TrsAt ok H vs ts → vs.length = ts.length
  | [], [], _ => rfl
  | v :: vs, t :: ts, h => by
    cases h with
    | cons a b => simp only [List.length_cons, TrsAt.len b]
  | [], _ :: _, h => by cases h
  | _ :: _, [], h => by cases h
theorem TrsAt.get : ∀ {vs : List V} {ts : List Tr} {i : Nat} {t : Tr}, TrsAt ok H vs ts → ts[i]? = some t → ∃ v, vs[i]? = some v ∧ TrAt ok H v t
  | _, _, i, t, .nil, e => by simp at e
  | _, _, 0, t, .cons a _, e => by simp at e; subst e; exact ⟨_, rfl, a⟩
  | _, _, i + 1, t, .cons _ b, e => by
    obtain ⟨v, h1, h2⟩ := TrsAt.get (i := i) (t := t) b (by simpa using e)
    exact ⟨v, by simpa using h1, h2⟩
theorem TrsAt.getV : ∀ {vs : List V} {ts : List Tr} {i : Nat} {v : V}, TrsAt ok H vs ts → vs[i]? = some v → ∃ t, ts[i]? = some t ∧ TrAt ok H v t
  | _, _, i, t, .nil, e => by simp at e
  | _, _, 0, t, .cons a _, e => by simp at e; subst e; exact ⟨_, rfl, a⟩
  | _, _, i + 1, t, .cons _ b, e => by
    obtain ⟨v, h1, h2⟩ := TrsAt.getV (i := i) (v := t) b (by simpa using e)
    exact ⟨v, by simpa using h1, h2⟩
theorem TrsAt.append : ∀ {vs ws : List V} {ts us : List Tr}, TrsAt ok H vs ts → TrsAt ok H ws us → TrsAt ok H (vs ++ ws) (ts ++ us)
  | [], _, [], _, _, h => h
  | v :: vs, _, t :: ts, _, h, g => by
    cases h with
    | cons a b => exact .cons a (TrsAt.append b g)
  | [], _, _ :: _, _, h, _ => by cases h
  | _ :: _, _, [], _, h, _ => by cases h
theorem TrsAt.split : ∀ {vs ws : List V} {ts : List Tr}, TrsAt ok H (vs ++ ws) ts → ∃ a b, ts = a ++ b ∧ TrsAt ok H vs a ∧ TrsAt ok H ws b
  | [], ws, ts, h => ⟨[], ts, rfl, .nil, h⟩
  | v :: vs, ws, _, h => by
    cases h with
    | cons x y =>
      obtain ⟨a, b, e, h1, h2⟩ := TrsAt.split y
      exact ⟨_ :: a, b, by rw [e]; rfl, .cons x h1, h2⟩
theorem TrsAt.perm {vs ws : List V} (p : vs.Perm ws) : ∀ {ts : List Tr}, TrsAt ok H vs ts → ∃ us, ts.Perm us ∧ TrsAt ok H ws us := by
  induction p with
  | nil => intro ts h; exact ⟨ts, .refl _, h⟩
  | cons x _ ih =>
    intro ts h
    cases h with
    | cons a b =>
      obtain ⟨us, p1, h1⟩ := ih b
      exact ⟨_ :: us, p1.cons _, .cons a h1⟩
  | swap x y l =>
    intro ts h
    cases h with
    | cons a b =>
      cases b with
      | cons c d => exact ⟨_, .swap _ _ _, .cons c (.cons a d)⟩
  | trans _ _ ih1 ih2 =>
    intro ts h
    obtain ⟨us, p1, h1⟩ := ih1 h
    obtain ⟨ws, p2, h2⟩ := ih2 h1
    exact ⟨ws, p1.trans p2, h2⟩
theorem TrsAt.rev {vs : List V} {ts : List Tr} (h : TrsAt ok H vs ts) : TrsAt ok H vs.reverse ts.reverse := by
  induction vs generalizing ts with
  | nil => cases h; exact .nil
  | cons v vs ih =>
    cases h with
    | cons a b =>
      rw [List.reverse_cons, List.reverse_cons]
      exact (ih b).append (.cons a .nil)
end
theorem sizes_perm {a b : List Tr} (p : a.Perm b) : sizes a = sizes b := by
  induction p with
  | nil => rfl
  | cons x _ ih => simp only [sizes, ih]
  | swap x y l => simp only [sizes]; omega
  | trans _ _ ih1 ih2 => exact ih1.trans ih2
theorem depths_perm {a b : List Tr} (p : a.Perm b) : depths a = depths b := by
  induction p with
  | nil => rfl
  | cons x _ ih => simp only [depths, ih]
  | swap x y l => simp only [depths]; omega
  | trans _ _ ih1 ih2 => exact ih1.trans ih2
theorem letss_perm {p : Nat → Prop} {a b : List Tr} (h : a.Perm b) : letss p a → letss p b := by
  induction h with
  | nil => exact id
  | cons x _ ih =>
    intro q
    simp only [letss] at q ⊢
    exact ⟨q.1, ih q.2⟩
  | swap x y l =>
    intro q
    simp only [letss] at q ⊢
    exact ⟨q.2.1, q.1, q.2.2⟩
  | trans _ _ ih1 ih2 => exact fun q => ih2 (ih1 q)
mutual
inductive Sh : Tr → Tr → Prop
  | node {c : Nat} {ks us ls : List Tr} : ks.Perm us → Shs us ls → Sh (.node c ks) (.node c ls)
inductive Shs : List Tr → List Tr → Prop
  | nil : Shs [] []
  | cons {t u : Tr} {ts us : List Tr} : Sh t u → Shs ts us → Shs (t :: ts) (u :: us)
end
mutual
theorem Sh.refl : ∀ t : Tr, Sh t t
  | .node c ks => .node (.refl _) (Shs.refl ks)
theorem Shs.refl : ∀ ts : List Tr, Shs ts ts
  | [] => .nil
  | t :: r => .cons (Sh.refl t) (Shs.refl r)
end
mutual
theorem Sh.size : ∀ {t u : Tr}, Sh t u → t.size = u.size
  | _, _, .node p h => by simp only [Tr.size, sizes_perm p, Shs.sizes h]
theorem Shs.sizes : ∀ {ts us : List Tr}, Shs ts us → My.sizes ts = My.sizes us
  | _, _, .nil => rfl
  | _, _, .cons a b => by simp only [My.sizes, Sh.size a, Shs.sizes b]
end
mutual
theorem Sh.depth : ∀ {t u : Tr}, Sh t u → t.depth = u.depth
  | _, _, .node p h => by simp only [Tr.depth, depths_perm p, Shs.depths h]
theorem Shs.depths : ∀ {ts us : List Tr}, Shs ts us → My.depths ts = My.depths us
  | _, _, .nil => rfl
  | _, _, .cons a b => by simp only [My.depths, Sh.depth a, Shs.depths b]
end
mutual
theorem Sh.lets {p : Nat → Prop} : ∀ {t u : Tr}, Sh t u → t.lets p → u.lets p
  | _, _, .node q h, a => by
    simp only [Tr.lets] at a ⊢
    exact ⟨a.1, Shs.letss h (letss_perm q a.2)⟩
theorem Shs.letss {p : Nat → Prop} : ∀ {ts us : List Tr}, Shs ts us → My.letss p ts → My.letss p us
  | _, _, .nil, a => a
  | _, _, .cons x y, a => by
    simp only [My.letss] at a ⊢
    exact ⟨Sh.lets x a.1, Shs.letss y a.2⟩
end
theorem Shs.len : ∀ {ts us : List Tr}, Shs ts us → ts.length = us.length
  | _, _, .nil => rfl
  | _, _, .cons a b => by simp only [List.length_cons, Shs.len b]
theorem Shs.append : ∀ {ts us ts' us' : List Tr}, Shs ts us → Shs ts' us' → Shs (ts ++ ts') (us ++ us')
  | _, _, _, _, .nil, h => h
  | _, _, _, _, .cons a b, h => .cons a (Shs.append b h)

def Fr (p : Addr) (H H' : Hp) : Prop := ∀ b o, b ≠ p → H b = some o → H' b = some o
theorem Fr.refl (p : Addr) (H : Hp) : Fr p H H := fun _ _ _ h => h
theorem Fr.trans {p : Addr} {H H1 H2 : Hp} (a : Fr p H H1) (b : Fr p H1 H2) : Fr p H H2 := fun c o n h => b c o n (a c o n h)
theorem Fr.same {p : Addr} {H H' : Hp} (s : Same H H') : Fr p H H' := fun b o _ h => s b o h
theorem Fr.chg {p : Addr} {H H' : Hp} (c : Chg p H H') : Fr p H H' := fun _ _ n h => c.at h n
theorem Fr.new {p q : Addr} {H H' : Hp} {o : HO} (f : Fr p H H') (h : H q = none) : Fr p H (upd H' q o) := fun b u n e => by
  rw [upd_ne (ne_of_none e h)]
  exact f b u n e
theorem same_add {q : Addr} {H H' : Hp} {o : HO} (f : Same H H') (h : H q = none) : Same H (upd H' q o) := fun b u e => by
  rw [upd_ne (ne_of_none e h)]
  exact f b u e
theorem Fr.free {p q : Addr} {H H' : Hp} (f : Fr p H H') (hp : H' p ≠ none) (h : H' q = none) : H q = none := by
  cases e : H q with
  | none => rfl
  | some o =>
    by_cases hq : q = p
    · subst hq; exact absurd h hp
    · rw [f q o hq e] at h; cases h
theorem Fr.seq {K : PySem.W.Frag} {p a : Addr} {H H' : Hp} {xs : List V} (c : Fr p H H') (hp : H p = none) (h : SqL K H a xs) : SqL K H' a xs := by
  rcases h with (h | ⟨o, h⟩) | h
  · exact .inl (.inl (c _ _ (ne_of_none h hp) h))
  · exact .inl (.inr ⟨o, c _ _ (ne_of_none h hp) h⟩)
  · exact .inr h
theorem TrAt.same {ok : Addr → Prop} {H H' : Hp} {v : V} {t : Tr} (x : TrAt ok H v t) (s : Same H H') : TrAt ok H' v t := x.keep fun b o _ h => s b o h
theorem TrsAt.same {ok : Addr → Prop} {H H' : Hp} {vs : List V} {ts : List Tr} (x : TrsAt ok H vs ts) (s : Same H H') : TrsAt ok H' vs ts := x.keep fun b o _ h => s b o h
theorem TrAt.off {ok : Addr → Prop} {H : Hp} {v : V} {t : Tr} {w : Addr} (x : TrAt ok H v t) (h : H w = none) : TrAt (fun b => ok b ∧ b ≠ w) H v t :=
  (TrAt.there t v x).weak fun b ⟨k, o, e⟩ => ⟨k, ne_of_none e h⟩
theorem TrsAt.off {ok : Addr → Prop} {H : Hp} {vs : List V} {ts : List Tr} {w : Addr} (x : TrsAt ok H vs ts) (h : H w = none) : TrsAt (fun b => ok b ∧ b ≠ w) H vs ts :=
  (TrsAt.there ts vs x).weak fun b ⟨k, o, e⟩ => ⟨k, ne_of_none e h⟩
theorem upd_keep {H : Hp} {w : Addr} {o : HO} {ok : Addr → Prop} (h : ∀ b, ok b → b ≠ w) : ∀ b u, ok b → H b = some u → (upd H w o) b = some u := fun b u k e => by
  rw [upd_ne (h b k)]
  exact e
theorem lc_outer {K : PySem.W.Frag} {a : Addr} {xs : List V} {Bd : V → Hp → (Hp → Prop) → Prop} {Qd : Hp → Prop} {H0 : Hp} (Pv : Nat → Hp → Prop) (h0 : Pv 0 H0) (hl : ∀ i H, i ≤ xs.length → Pv i H → SqL K H a xs)
    (hs : ∀ i x H, xs[i]? = some x → Pv i H → Bd x H (Pv (i + 1))) (hd : ∀ H, Pv xs.length H → Qd H) :
    ∃ W : Nat → Nat → Hp → Prop, (∃ m, W 0 m H0) ∧ ∀ i m H, W i m H → ((Itl K a).stop i H ∧ Qd H) ∨ ((Itl K a).go i H ∧ ∃ Nx : Hp → Prop, (∀ H', Nx H' → ∃ m', m' < m ∧ W (i + 1) m' H') ∧ ∀ x H', (Itl K a).yld i H x H' → Bd x H' Nx) := by
  refine ⟨fun i m H => m = xs.length - i ∧ i ≤ xs.length ∧ Pv i H, ⟨xs.length, by simp, Nat.zero_le _, h0⟩, ?_⟩
  rintro i m H ⟨rfl, hi, p⟩
  have q := hl i H hi p
  by_cases hlt : i < xs.length
  · refine .inr ⟨⟨xs, xs[i], q, by simp [hlt]⟩, Pv (i + 1), fun H' p' => ⟨xs.length - (i + 1), by omega, rfl, hlt, p'⟩, fun x H' y => ?_⟩
    obtain ⟨e, y⟩ := y
    subst e
    exact hs i x _ (y xs q) p
  · have e : i = xs.length := by omega
    subst e
    exact .inl ⟨⟨xs, q, Nat.le_refl _⟩, hd H p⟩
theorem take_succ_of {α : Type} {l : List α} {i : Nat} {x : α} (h : l[i]? = some x) : l.take (i + 1) = l.take i ++ [x] := by
  rw [List.take_add_one, h]
  rfl

mutual
def Tr.dat : Tr → PyData
  | .node c ks => .tuple [.str (ch c), .list (dats ks)]
def dats : List Tr → List PyData
  | [] => []
  | t :: r => t.dat :: dats r
end
mutual
theorem dat_depth : ∀ t : Tr, t.dat.depth ≤ 2 * t.depth
  | .node c ks => by
    have := dats_depth ks
    simp only [Tr.dat, PyData.depth, PyData.depthAll, Tr.depth]
    omega
theorem dats_depth : ∀ ts : List Tr, PyData.depthAll (dats ts) ≤ 2 * depths ts
  | [] => by simp only [dats, PyData.depthAll, depths]; omega
  | t :: r => by
    have a := dat_depth t
    have b := dats_depth r
    simp only [dats, PyData.depthAll, depths]
    omega
end
section
variable {ok : Addr → Prop} {H : Hp} {K : PySem.W.Frag}
theorem strOk_ch {c : Nat} (h : c ≤ 122) : PyData.strOk (ch c) = true := by
  unfold PyData.strOk ch
  simp
  omega
mutual
theorem TrAt.lay : ∀ (t : Tr) (v : V), TrAt ok H v t → t.dat.canLay0 = true
  | .node c ks, v, x => by
    cases x with
    | node h1 h2 k1 k2 c1 c2 r => simp only [Tr.dat, PyData.canLay0, PyData.canLayAll0, strOk_ch c2, TrsAt.lay ks _ r, Bool.and_self]
theorem TrsAt.lay : ∀ (ts : List Tr) (vs : List V), TrsAt ok H vs ts → PyData.canLayAll0 (dats ts) = true
  | [], _, _ => by simp only [dats, PyData.canLayAll0]
  | t :: r, _, x => by
    cases x with
    | cons a b => simp only [dats, PyData.canLayAll0, TrAt.lay t _ a, TrsAt.lay r _ b, Bool.and_self]
end
mutual
theorem TrAt.dp : ∀ (t : Tr) (v : V), TrAt ok H v t → Dp K H v t.dat
  | .node c ks, v, x => by
    cases x with
    | node h1 h2 k1 k2 c1 c2 r =>
      simp only [Tr.dat]
      exact .tup (SqT.of h1) (.cons (.str _) (.cons (.lst (SqL.of h2) (TrsAt.dp ks _ r)) .nil))
theorem TrsAt.dp : ∀ (ts : List Tr) (vs : List V), TrsAt ok H vs ts → DpAll K H vs (dats ts)
  | [], _, x => by cases x; exact .nil
  | t :: r, _, x => by
    cases x with
    | cons a b => exact .cons (TrAt.dp t _ a) (TrsAt.dp r _ b)
end
theorem shaped_tr {v : V} {t : Tr} (x : TrAt ok H v t) (h : t.depth ≤ 32) : SeqAt.shaped t.dat = true := by
  unfold SeqAt.shaped
  rw [Bool.and_eq_true]
  exact ⟨TrAt.lay t v x, decide_eq_true (by have := dat_depth t; omega)⟩
theorem shaped_trs {vs : List V} {ts : List Tr} (x : TrsAt ok H vs ts) (h : depths ts ≤ 31) : SeqAt.shaped (.list (dats ts)) = true := by
  unfold SeqAt.shaped
  rw [Bool.and_eq_true]
  refine ⟨by simp only [PyData.canLay0]; exact TrsAt.lay ts vs x, decide_eq_true ?_⟩
  have := dats_depth ts
  simp only [PyData.depth]
  omega
end
def DatOk (K : PySem.W.Frag) (H : Hp) (v : V) : Prop := ∃ d, Dp K H v d ∧ d.canLay0 = true ∧ d.depth ≤ 63
theorem DatOk.all {K : PySem.W.Frag} {H : Hp} : ∀ {vs : List V}, (∀ v ∈ vs, DatOk K H v) → ∃ ds, DpAll K H vs ds ∧ SeqAt.shaped (.list ds) = true ∧ ds.length = vs.length
  | [], _ => ⟨[], .nil, by decide +kernel, rfl⟩
  | v :: r, h => by
    obtain ⟨d, h1, h2, h3⟩ := h v List.mem_cons_self
    obtain ⟨ds, g1, g2, g3⟩ := DatOk.all (vs := r) fun u hu => h u (List.mem_cons_of_mem _ hu)
    unfold SeqAt.shaped at g2
    rw [Bool.and_eq_true] at g2
    have g4 := of_decide_eq_true g2.2
    have g5 := g2.1
    simp only [PyData.canLay0] at g5
    simp only [PyData.depth] at g4
    refine ⟨d :: ds, .cons h1 g1, ?_, by simp only [List.length_cons, g3]⟩
    unfold SeqAt.shaped
    rw [Bool.and_eq_true]
    refine ⟨by simp only [PyData.canLay0, PyData.canLayAll0, h2, g5, Bool.and_self], decide_eq_true ?_⟩
    simp only [PyData.depth, PyData.depthAll]
    omega
theorem datOk_int {K : PySem.W.Frag} {H : Hp} (i : Int) : DatOk K H (.int i) := ⟨.int i, .int i, by simp only [PyData.canLay0], by simp only [PyData.depth]; omega⟩
theorem datOk_tr {K : PySem.W.Frag} {H : Hp} {ok : Addr → Prop} {v : V} {t : Tr} (x : TrAt ok H v t) (h : t.depth ≤ 31) : DatOk K H v := ⟨t.dat, TrAt.dp t v x, TrAt.lay t v x, by have := dat_depth t; omega⟩
theorem eqv_nil (ds : List PyData) : PyData.eqv (.list ds) (.list []) = decide (ds.length = 0) := by
  cases ds with
  | nil => simp [PyData.eqv, PyData.eqvAll]
  | cons d r => simp [PyData.eqv, PyData.eqvAll]
theorem shaped_nil : SeqAt.shaped (.list []) = true := by decide +kernel
theorem dp_nil {K : PySem.W.Frag} {H : Hp} {a : Addr} (h : H a = some (.lst [])) : Dp K H (.ref a) (.list []) := .lst (SqL.of h) .nil

mutual
inductive Dt (ok : Addr → Prop) (H : Hp) : V → PyData → Prop
  | non : Dt ok H .non .none
  | bl (b : Bool) : Dt ok H (.bl b) (.bool b)
  | int (i : Int) : Dt ok H (.int i) (.int i)
  | str (x : Str) : Dt ok H (.str x) (.str x)
  | dic {a : Addr} : H a = some (.dK []) → ok a → Dt ok H (.ref a) (.dict [])
  | lst {a : Addr} {xs : List V} {ds : List PyData} : H a = some (.lst xs) → ok a → xs.length ≤ 1000 → DtAll ok H xs ds → Dt ok H (.ref a) (.list ds)
  | tup {a : Addr} {xs : List V} {ds : List PyData} : H a = some (.tup xs) → ok a → xs.length ≤ 1000 → DtAll ok H xs ds → Dt ok H (.ref a) (.tuple ds)
inductive DtAll (ok : Addr → Prop) (H : Hp) : List V → List PyData → Prop
  | nil : DtAll ok H [] []
  | cons {v : V} {vs : List V} {d : PyData} {ds : List PyData} : Dt ok H v d → DtAll ok H vs ds → DtAll ok H (v :: vs) (d :: ds)
end
section
variable {ok ok' : Addr → Prop} {H H' : Hp} {K : PySem.W.Frag}
mutual
theorem Dt.imp (hk : ∀ b o, ok b → H b = some o → ok' b) (h : ∀ b o, ok b → H b = some o → H' b = some o) : ∀ {v : V} {d : PyData}, Dt ok H v d → Dt ok' H' v d
  | _, _, .non => .non
  | _, _, .bl b => .bl b
  | _, _, .int i => .int i
  | _, _, .str x => .str x
  | _, _, .dic e k => .dic (h _ _ k e) (hk _ _ k e)
  | _, _, .lst e k l r => .lst (h _ _ k e) (hk _ _ k e) l (DtAll.imp hk h r)
  | _, _, .tup e k l r => .tup (h _ _ k e) (hk _ _ k e) l (DtAll.imp hk h r)
theorem DtAll.imp (hk : ∀ b o, ok b → H b = some o → ok' b) (h : ∀ b o, ok b → H b = some o → H' b = some o) : ∀ {vs : List V} {ds : List PyData}, DtAll ok H vs ds → DtAll ok' H' vs ds
  | _, _, .nil => .nil
  | _, _, .cons a b => .cons (Dt.imp hk h a) (DtAll.imp hk h b)
end
theorem Dt.keep {v : V} {d : PyData} (x : Dt ok H v d) (h : ∀ b o, ok b → H b = some o → H' b = some o) : Dt ok H' v d := x.imp (fun _ _ k _ => k) h
theorem Dt.same {v : V} {d : PyData} (x : Dt ok H v d) (s : Same H H') : Dt ok H' v d := x.keep fun b o _ h => s b o h
theorem Dt.weak {v : V} {d : PyData} (x : Dt ok H v d) (h : ∀ b, ok b → ok' b) : Dt ok' H v d := x.imp (fun b _ k _ => h b k) fun _ _ _ e => e
theorem Dt.any {v : V} {d : PyData} (x : Dt ok H v d) : Dt (fun _ => True) H v d := x.weak fun _ _ => trivial
theorem Dt.off {w : Addr} {v : V} {d : PyData} (x : Dt ok H v d) (h : H w = none) : Dt (fun b => ok b ∧ b ≠ w) H v d := x.imp (fun _ _ k e => ⟨k, ne_of_none e h⟩) fun _ _ _ e => e
theorem DtAll.keep {vs : List V} {ds : List PyData} (x : DtAll ok H vs ds) (h : ∀ b o, ok b → H b = some o → H' b = some o) : DtAll ok H' vs ds := x.imp (fun _ _ k _ => k) h
theorem DtAll.same {vs : List V} {ds : List PyData} (x : DtAll ok H vs ds) (s : Same H H') : DtAll ok H' vs ds := x.keep fun b o _ h => s b o h
theorem DtAll.weak {vs : List V} {ds : List PyData} (x : DtAll ok H vs ds) (h : ∀ b, ok b → ok' b) : DtAll ok' H vs ds := x.imp (fun b _ k _ => h b k) fun _ _ _ e => e
mutual
theorem Dt.dp : ∀ {v : V} {d : PyData}, Dt ok H v d → d.canLay0 = true → Dp K H v d
  | _, _, .non, _ => .non
  | _, _, .bl b, _ => .bl b
  | _, _, .int i, _ => .int i
  | _, _, .str x, _ => .str x
  | _, _, .dic _ _, h => by simp [PyData.canLay0] at h
  | _, _, .lst e _ _ r, h => .lst (SqL.of e) (DtAll.dp r (by simpa only [PyData.canLay0] using h))
  | _, _, .tup e _ _ r, h => .tup (SqT.of e) (DtAll.dp r (by simpa only [PyData.canLay0] using h))
theorem DtAll.dp : ∀ {vs : List V} {ds : List PyData}, DtAll ok H vs ds → PyData.canLayAll0 ds = true → DpAll K H vs ds
  | _, _, .nil, _ => .nil
  | _, _, .cons a b, h => by
    simp only [PyData.canLayAll0, Bool.and_eq_true] at h
    exact .cons (Dt.dp a h.1) (DtAll.dp b h.2)
end
theorem DtAll.len : ∀ {vs : List V} {ds : List PyData}, DtAll ok H vs ds → vs.length = ds.length
  | _, _, .nil => rfl
  | _, _, .cons _ b => by simp only [List.length_cons, DtAll.len b]
theorem DtAll.getV : ∀ {vs : List V} {ds : List PyData} {i : Nat} {x : V}, DtAll ok H vs ds → vs[i]? = some x → ∃ d, ds[i]? = some d ∧ Dt ok H x d
  | _, _, 0, _, .cons a _, h => by cases h; exact ⟨_, rfl, a⟩
  | _, _, i + 1, _, .cons _ b, h => by
    rw [List.getElem?_cons_succ] at h
    obtain ⟨d, h1, h2⟩ := DtAll.getV b h
    exact ⟨d, by rw [List.getElem?_cons_succ]; exact h1, h2⟩
theorem DtAll.snoc : ∀ {vs : List V} {ds : List PyData} {v : V} {d : PyData}, DtAll ok H vs ds → Dt ok H v d → DtAll ok H (vs ++ [v]) (ds ++ [d])
  | _, _, _, _, .nil, y => .cons y .nil
  | _, _, _, _, .cons a b, y => .cons a (DtAll.snoc b y)
theorem dt_ints : ∀ xs : List Int, DtAll ok H (xs.map V.int) (xs.map PyData.int)
  | [] => .nil
  | x :: r => .cons (.int x) (dt_ints r)
theorem dt_intsL {a : Addr} {xs : List Int} (h : H a = some (.lst (xs.map V.int))) (k : ok a) (l : xs.length ≤ 1000) : Dt ok H (.ref a) (.list (xs.map PyData.int)) := .lst h k (by rw [List.length_map]; exact l) (dt_ints xs)
theorem dtAll_ints : ∀ {w : List Int} {vs : List V}, DtAll ok H vs (w.map PyData.int) → vs = w.map V.int
  | [], _, h => by cases h; rfl
  | x :: r, _, h => by
    cases h with
    | cons a b =>
      cases a
      rw [dtAll_ints b]
      rfl
theorem Dt.intsL {v : V} {w : List Int} (h : Dt ok H v (.list (w.map PyData.int))) : ∃ a, v = .ref a ∧ H a = some (.lst (w.map V.int)) ∧ ok a := by
  cases h with
  | lst e k l r =>
    rw [dtAll_ints r] at e
    exact ⟨_, rfl, e, k⟩
end
theorem layAll_mem {d : PyData} : ∀ {ds : List PyData}, PyData.canLayAll0 ds = true → d ∈ ds → d.canLay0 = true
  | x :: r, h, hm => by
    simp only [PyData.canLayAll0, Bool.and_eq_true] at h
    rcases List.mem_cons.mp hm with rfl | hm
    · exact h.1
    · exact layAll_mem h.2 hm
theorem depthAll_mem {d : PyData} : ∀ {ds : List PyData}, d ∈ ds → d.depth ≤ PyData.depthAll ds
  | x :: r, h => by
    simp only [PyData.depthAll]
    rcases List.mem_cons.mp h with rfl | h
    · omega
    · have := depthAll_mem h
      omega
theorem eqT {x y : V} {i : Decidable (x = y)} {A B : Prop} (h : x = y) (k : A) : if (@decide (x = y) i) = true then A else B := by
  rw [decide_eq_true h]
  exact iteT k
theorem eqF {x y : V} {i : Decidable (x = y)} {A B : Prop} (h : x ≠ y) (k : B) : if (@decide (x = y) i) = true then A else B := by
  rw [decide_eq_false h]
  exact iteF k
theorem noneOf {sp : Sp} {P : Program} {w : World} {K : PySem.W.Frag} {mg : Str → Option Value} {base : Heap} {f : Addr} {fd : FuncData} {ps : List Str} {k : Nat} (no : ∀ vs H Q E, ¬ sp vs H Q E) : FnOk P w K mg base CX0 k f fd ps sp :=
  ⟨fun vs H Q E h => absurd h (no vs H Q E), fun A outer s H args us vs Q E _ _ _ _ h => absurd h (no vs H Q E)⟩

def spLaw (K : PySem.W.Frag) : Sp := fun vs H Q _ => ∃ (a : Addr) (ns : List Int), vs = [.ref a] ∧ SqL K H a (ns.map V.int) ∧ ns.length ≤ 63 ∧ ∀ H', Q (.bl true) H'

theorem ine {a b : Int} (h : a ≠ b) : V.int a ≠ V.int b := fun e => h (V.int.inj e)
theorem sne {a b : Str} (h : a ≠ b) : V.str a ≠ V.str b := fun e => h (V.str.inj e)
theorem concat_of {α : Type} {l : List α} (h : l ≠ []) : ∃ a b, l = a ++ [b] := ⟨l.dropLast, l.getLast h, (List.dropLast_concat_getLast h).symm⟩
def tyN : PyData → String
  | .none => "NoneType"
  | .bool _ => "bool"
  | .int _ => "int"
  | .str _ => "str"
  | .list _ => "list"
  | .tuple _ => "tuple"
  | .dict _ => "dict"
theorem Dt.ty {ok : Addr → Prop} {H : Hp} {K : PySem.W.Frag} {v : V} {d : PyData} (h : Dt ok H v d) : TyX K H v (.type (tyN d)) := by
  cases h with
  | non => exact .base .non
  | bl b => exact .base (.bl b)
  | int i => exact .base (.int i)
  | str x => exact .base (.str x)
  | lst e _ _ _ => exact .base (.lst e)
  | tup e _ _ _ => exact .base (.tup e)
  | dic e _ => exact .base (.dK e)
def isIntD : PyData → Bool
  | .int _ => true
  | .bool _ => true
  | _ => false
def isBoolD : PyData → Bool
  | .bool _ => true
  | _ => false
def isStrD : PyData → Bool
  | .str _ => true
  | _ => false
def isListD : PyData → Bool
  | .list _ => true
  | _ => false
def isTupD : PyData → Bool
  | .tuple _ => true
  | _ => false
def isDictD : PyData → Bool
  | .dict _ => true
  | _ => false
section
variable {K : PySem.W.Frag}
theorem k_int (d : PyData) : PySem.W.kitOne K (.type (tyN d)) (.type "int") = some (isIntD d) := by cases d <;> exact kit_ty (by dsimp only [tyN, isIntD]; decide +kernel)
theorem k_bool (d : PyData) : PySem.W.kitOne K (.type (tyN d)) (.type "bool") = some (isBoolD d) := by cases d <;> exact kit_ty (by dsimp only [tyN, isBoolD]; decide +kernel)
theorem k_str (d : PyData) : PySem.W.kitOne K (.type (tyN d)) (.type "str") = some (isStrD d) := by cases d <;> exact kit_ty (by dsimp only [tyN, isStrD]; decide +kernel)
theorem k_list (d : PyData) : PySem.W.kitOne K (.type (tyN d)) (.type "list") = some (isListD d) := by cases d <;> exact kit_ty (by dsimp only [tyN, isListD]; decide +kernel)
theorem k_tuple (d : PyData) : PySem.W.kitOne K (.type (tyN d)) (.type "tuple") = some (isTupD d) := by cases d <;> exact kit_ty (by dsimp only [tyN, isTupD]; decide +kernel)
theorem k_dict (d : PyData) : PySem.W.kitOne K (.type (tyN d)) (.type "dict") = some (isDictD d) := by cases d <;> exact kit_ty (by dsimp only [tyN, isDictD]; decide +kernel)
end

mutual
def cnt : PyData → Nat
  | .none => 1
  | .bool _ => 1
  | .int _ => 1
  | .str _ => 1
  | .list ds => cntAll ds + 1
  | .tuple ds => cntAll ds + 1
  | .dict _ => 1
def cntAll : List PyData → Nat
  | [] => 0
  | d :: r => cnt d + cntAll r
end
mutual
def fineD : PyData → Bool
  | .none => true
  | .bool _ => true
  | .int i => decide (i.natAbs ≤ 10 ^ 20)
  | .str x => PyData.strOk x && decide (x.length ≤ 10)
  | .list ds => fineAll ds && PyData.canLayAll0 ds
  | .tuple ds => fineAll ds
  | .dict kvs => kvs.isEmpty
def fineAll : List PyData → Bool
  | [] => true
  | d :: r => fineD d && fineAll r
end
theorem textFrom_up : ∀ (ts : List Str) (k : Nat) (acc : Str), (textFrom k acc ts).length ≤ acc.length + piled ts
  | [], k, acc => by show acc.length ≤ acc.length + 0; omega
  | t :: r, k, acc => by
    have ih := textFrom_up r (k + 1) (acc ++ (if k > 0 then ", " else "" : String) ++ t)
    have e : (textFrom k acc (t :: r)).length = (textFrom (k + 1) (acc ++ (if k > 0 then ", " else "" : String) ++ t) r).length := rfl
    rw [e, piled_cons]
    rw [strLen_append, strLen_append] at ih
    have h : ((if k > 0 then ", " else "" : String) : Str).length ≤ 2 := by split <;> decide
    omega
theorem listText_up (ts : List Str) : (listText ts).length ≤ piled ts + 2 := by
  unfold listText
  have h := textFrom_up ts 0 "["
  have e1 : ("[" : Str).length = 1 := by decide
  have e2 : ("]" : Str).length = 1 := by decide
  rw [strLen_append]
  omega
theorem tupleText_up (ts : List Str) : (tupleText ts).length ≤ piled ts + 3 := by
  unfold tupleText
  rw [strLen_append, strLen_append]
  have e1 : ("(" : Str).length = 1 := by decide
  have e2 : ((if ts.length == 1 then ",)" else ")" : String) : Str).length ≤ 2 := by split <;> decide
  by_cases h : ts = []
  · subst h
    have e3 : (Str.join ", " []).length = 0 := by decide
    have e4 : ((if ([] : List Str).length == 1 then ",)" else ")" : String) : Str).length = 1 := by decide
    omega
  · have := join_length_add ts h
    omega
theorem lt_log2 {n : Nat} (h : n ≤ 10 ^ 20) : n.log2 < 1920 := by
  by_cases h0 : n = 0
  · subst h0; decide
  · have h1 : n < 2 ^ 100 := Nat.lt_of_le_of_lt h (by decide)
    have := (Nat.log2_lt h0).mpr h1
    omega
mutual
theorem fine_shown : ∀ {d : PyData}, fineD d = true → d.showable = true ∧ d.shown.length + 2 ≤ 150 * cnt d
  | .none, _ => ⟨rfl, by decide⟩
  | .bool true, _ => ⟨rfl, by decide⟩
  | .bool false, _ => ⟨rfl, by decide⟩
  | .int i, h => by
    simp only [fineD, decide_eq_true_eq] at h
    refine ⟨by simp only [PyData.showable, decide_eq_true_eq]; exact lt_log2 h, ?_⟩
    have h1 := int_text_length_le10 (a := i) (k := 21) (by decide) (Nat.lt_of_le_of_lt h (by decide))
    have e : (PyData.int i).shown.length = (toString i).length := by
      have e1 : (PyData.int i).shown = Str.ofString (toString i) := by simp only [PyData.shown]
      rw [e1, PySem.ofString_length]
    rw [e]
    simp only [cnt]
    omega
  | .str x, h => by
    simp only [fineD, Bool.and_eq_true, decide_eq_true_eq] at h
    refine ⟨rfl, ?_⟩
    have h1 := PySem.StrLaws.reprText_len x (fun c hc => by
      have h2 := h.1
      unfold PyData.strOk at h2
      rw [← Array.all_toList, List.all_eq_true] at h2
      have := of_decide_eq_true (h2 c hc)
      omega)
    have e : (PyData.str x).shown.length = (reprText x).length := by simp only [PyData.shown]
    rw [e]
    simp only [cnt]
    omega
  | .list ds, h => by
    simp only [fineD, Bool.and_eq_true] at h
    obtain ⟨a, b⟩ := fineAll_shown h.1
    refine ⟨by simp only [PyData.showable]; exact a, ?_⟩
    have := listText_up (PyData.shownAll ds)
    simp only [PyData.shown, cnt]
    omega
  | .tuple ds, h => by
    simp only [fineD] at h
    obtain ⟨a, b⟩ := fineAll_shown h
    refine ⟨by simp only [PyData.showable]; exact a, ?_⟩
    have := tupleText_up (PyData.shownAll ds)
    simp only [PyData.shown, cnt]
    omega
  | .dict [], _ => ⟨by simp only [PyData.showable, PyData.showableKv], by simp only [PyData.shown, PyData.shownKv, cnt]; decide⟩
  | .dict (_ :: _), h => by simp only [fineD, List.isEmpty_cons] at h; cases h
theorem fineAll_shown : ∀ {ds : List PyData}, fineAll ds = true → PyData.showableAll ds = true ∧ piled (PyData.shownAll ds) ≤ 150 * cntAll ds
  | [], _ => ⟨by simp only [PyData.showableAll], by simp only [PyData.shownAll, piled_nil]; omega⟩
  | d :: r, h => by
    simp only [fineAll, Bool.and_eq_true] at h
    obtain ⟨a, b⟩ := fine_shown h.1
    obtain ⟨a2, b2⟩ := fineAll_shown h.2
    refine ⟨by simp only [PyData.showableAll, a, a2, Bool.and_self], ?_⟩
    simp only [PyData.shownAll, piled_cons, cntAll]
    omega
end
theorem fineAll_mem {d : PyData} : ∀ {ds : List PyData}, fineAll ds = true → d ∈ ds → fineD d = true
  | x :: r, h, hm => by
    simp only [fineAll, Bool.and_eq_true] at h
    rcases List.mem_cons.mp hm with rfl | hm
    · exact h.1
    · exact fineAll_mem h.2 hm
theorem fineAll_of : ∀ {ds : List PyData}, (∀ d ∈ ds, fineD d = true) → fineAll ds = true
  | [], _ => by simp only [fineAll]
  | x :: r, h => by
    simp only [fineAll, Bool.and_eq_true]
    exact ⟨h _ (List.mem_cons_self ..), fineAll_of fun d hd => h d (List.mem_cons_of_mem _ hd)⟩
theorem cntAll_app : ∀ (a b : List PyData), cntAll (a ++ b) = cntAll a + cntAll b
  | [], b => by simp only [List.nil_append, cntAll]; omega
  | x :: r, b => by simp only [List.cons_append, cntAll, cntAll_app r b]; omega
theorem cntAll_take (n : Nat) : ∀ ds : List PyData, cntAll (ds.take n) ≤ cntAll ds := fun ds => by
  have h := cntAll_app (ds.take n) (ds.drop n)
  rw [List.take_append_drop] at h
  omega
theorem cntAll_drop (n : Nat) : ∀ ds : List PyData, cntAll (ds.drop n) ≤ cntAll ds := fun ds => by
  have h := cntAll_app (ds.take n) (ds.drop n)
  rw [List.take_append_drop] at h
  omega

mutual
def fine0 : PyData → Bool
  | .none => true
  | .bool _ => true
  | .int i => decide (i.natAbs ≤ 10 ^ 20)
  | .str x => PyData.strOk x && decide (x.length ≤ 10)
  | .list ds => fine0s ds
  | .tuple ds => fine0s ds
  | .dict kvs => kvs.isEmpty
def fine0s : List PyData → Bool
  | [] => true
  | d :: r => fine0 d && fine0s r
end
theorem fine0s_mem {d : PyData} : ∀ {ds : List PyData}, fine0s ds = true → d ∈ ds → fine0 d = true
  | x :: r, h, hm => by
    simp only [fine0s, Bool.and_eq_true] at h
    rcases List.mem_cons.mp hm with rfl | hm
    · exact h.1
    · exact fine0s_mem h.2 hm
theorem fine0s_of : ∀ {ds : List PyData}, (∀ d ∈ ds, fine0 d = true) → fine0s ds = true
  | [], _ => by simp only [fine0s]
  | x :: r, h => by
    simp only [fine0s, Bool.and_eq_true]
    exact ⟨h _ (List.mem_cons_self ..), fine0s_of fun d hd => h d (List.mem_cons_of_mem _ hd)⟩
mutual
theorem fine0_shown : ∀ {d : PyData}, fine0 d = true → d.showable = true ∧ d.shown.length + 2 ≤ 150 * cnt d
  | .none, _ => fine_shown (by simp only [fineD])
  | .bool _, _ => fine_shown (by simp only [fineD])
  | .int i, h => fine_shown (by simpa only [fineD, fine0] using h)
  | .str x, h => fine_shown (by simpa only [fineD, fine0] using h)
  | .list ds, h => by
    simp only [fine0] at h
    obtain ⟨a, b⟩ := fine0s_shown h
    refine ⟨by simp only [PyData.showable]; exact a, ?_⟩
    have := listText_up (PyData.shownAll ds)
    simp only [PyData.shown, cnt]
    omega
  | .tuple ds, h => by
    simp only [fine0] at h
    obtain ⟨a, b⟩ := fine0s_shown h
    refine ⟨by simp only [PyData.showable]; exact a, ?_⟩
    have := tupleText_up (PyData.shownAll ds)
    simp only [PyData.shown, cnt]
    omega
  | .dict kvs, h => fine_shown (by simpa only [fineD, fine0] using h)
theorem fine0s_shown : ∀ {ds : List PyData}, fine0s ds = true → PyData.showableAll ds = true ∧ piled (PyData.shownAll ds) ≤ 150 * cntAll ds
  | [], _ => ⟨by simp only [PyData.showableAll], by simp only [PyData.shownAll, piled_nil]; omega⟩
  | d :: r, h => by
    simp only [fine0s, Bool.and_eq_true] at h
    obtain ⟨a, b⟩ := fine0_shown h.1
    obtain ⟨a2, b2⟩ := fine0s_shown h.2
    refine ⟨by simp only [PyData.showableAll, a, a2, Bool.and_self], ?_⟩
    simp only [PyData.shownAll, piled_cons, cntAll]
    omega
end

section
variable {ok : Addr → Prop} {H H' : Hp}
theorem DtAll.take : ∀ {vs : List V} {ds : List PyData} (n : Nat), DtAll ok H vs ds → DtAll ok H (vs.take n) (ds.take n)
  | _, _, 0, _ => .nil
  | _, _, n + 1, .nil => .nil
  | _, _, n + 1, .cons a b => .cons a (DtAll.take n b)
theorem DtAll.drop : ∀ {vs : List V} {ds : List PyData} (n : Nat), DtAll ok H vs ds → DtAll ok H (vs.drop n) (ds.drop n)
  | _, _, 0, h => h
  | _, _, n + 1, .nil => .nil
  | _, _, n + 1, .cons a b => DtAll.drop n b
theorem DtAll.app : ∀ {vs us : List V} {ds es : List PyData}, DtAll ok H vs ds → DtAll ok H us es → DtAll ok H (vs ++ us) (ds ++ es)
  | _, _, _, _, .nil, y => y
  | _, _, _, _, .cons a b, y => .cons a (DtAll.app b y)
theorem DtAll.at {vs : List V} {ds : List PyData} {r : Int} (h : DtAll ok H vs ds) (h0 : 0 ≤ r) (h1 : r < ds.length) : ∃ v d, atI vs r = some v ∧ ds[r.toNat]? = some d ∧ Dt ok H v d := by
  have hl := h.len
  have hn : r.toNat < vs.length := by omega
  obtain ⟨d, hd, hv⟩ := h.getV (List.getElem?_eq_getElem hn)
  exact ⟨_, d, at_of (j := r.toNat) (by omega) (List.getElem?_eq_getElem hn), hd, hv⟩
end
theorem cut_hi {xs : List V} {k : Nat} (h : k ≤ xs.length) : cutV xs none (some (k : Int)) = xs.take k := by
  unfold cutV
  rw [HT.sIx_none, HT.sIx_nat, List.drop_zero, Nat.sub_zero, Nat.min_eq_left h]
theorem cut_lo {xs : List V} {k : Nat} (h : k ≤ xs.length) : cutV xs (some (k : Int)) none = xs.drop k := by
  unfold cutV
  rw [HT.sIx_nat, HT.sIx_none, Nat.min_eq_left h, List.take_of_length_le (by rw [List.length_drop]; omega)]
theorem cut_m1 {xs : List V} : cutV xs none (some (-1)) = xs.take (xs.length - 1) := by
  have h : HT.sIx xs.length xs.length (some (-1)) = xs.length - 1 := by
    show (if (-1 : Int) < 0 then ((-1 : Int) + (xs.length : Int)).toNat else min (-1 : Int).toNat xs.length) = xs.length - 1
    rw [if_pos (by decide)]
    omega
  unfold cutV
  rw [HT.sIx_none, h, List.drop_zero, Nat.sub_zero]
theorem cut_whole {xs : List V} {lo hi : Option Int} (h : HT.sIx xs.length 0 lo = 0 ∧ HT.sIx xs.length xs.length hi = xs.length) : cutV xs lo hi = xs := by
  unfold cutV
  rw [h.1, h.2, List.drop_zero, Nat.sub_zero, List.take_length]
theorem slA {K : PySem.W.Frag} {H : Hp} {a : Addr} {xs : List V} {lo hi : Option Int} {Q : VK} (hx : H a = some (.tup xs))
    (q : ∀ t H', Same H H' → H' t = some (.tup (cutV xs lo hi)) → (t = a ∨ H t = none) → Q (.ref t) H') : rSlA K (.ref a) lo hi H Q :=
  ⟨a, xs, rfl, SqT.of hx, fun hw => q a H (Same.refl _) (by rw [cut_whole hw]; exact hx) (.inl rfl), fun _ p hp => q p _ (same_new hp) upd_same (.inr hp)⟩
theorem catA {K : PySem.W.Frag} {H : Hp} {a b : Addr} {xs ys : List V} {Q : VK} (ha : H a = some (.tup xs)) (hb : H b = some (.tup ys)) (hz : xs.length + ys.length ≤ 3000)
    (q : ∀ t H', Same H H' → H' t = some (.tup (xs ++ ys)) → (t = a ∨ t = b ∨ H t = none) → Q (.ref t) H') : rCatA K (.ref a) (.ref b) H Q :=
  ⟨a, b, xs, ys, rfl, rfl, SqT.of ha, SqT.of hb, Nat.le_trans hz (by decide), fun e => q b H (Same.refl _) (by rw [e]; exact hb) (.inr (.inl rfl)), fun _ e => q a H (Same.refl _) (by rw [e, List.append_nil]; exact ha) (.inl rfl),
    fun _ _ p hp => q p _ (same_new hp) upd_same (.inr (.inr hp))⟩


def leA (x : Str) : Bool := !decide (x.cps.toList < (Str.ofString "a").cps.toList)
def leZ (x : Str) : Bool := !decide ((Str.ofString "z").cps.toList < x.cps.toList)
def isLetD : PyData → Bool
  | .str x => decide ((x.length : Int) = 1) && (leA x && leZ x)
  | _ => false
mutual
def isTD : PyData → Bool
  | .tuple [d0, .list ks] => isLetD d0 && isTDs ks
  | _ => false
def isTDs : List PyData → Bool
  | [] => true
  | d :: r => isTD d && isTDs r
end
def isPartD : PyData → Bool
  | .tuple [d0, .list _] => isLetD d0
  | _ => false
def kidsD : PyData → List PyData
  | .tuple [_, .list ks] => ks
  | _ => []
theorem isTDs_app : ∀ a b : List PyData, isTDs (a ++ b) = (isTDs a && isTDs b)
  | [], b => by simp only [List.nil_append, isTDs, Bool.true_and]
  | x :: r, b => by simp only [List.cons_append, isTDs, isTDs_app r b, Bool.and_assoc]
theorem isTD_part {d : PyData} (h : isPartD d = false) : isTD d = false := by
  cases hh : isTD d with
  | false => rfl
  | true =>
    unfold isTD at hh
    split at hh
    · simp only [isPartD] at h
      rw [h, Bool.false_and] at hh
      exact hh.symm
    · cases hh
theorem part_of {d : PyData} (h : isPartD d = true) : ∃ d0 ks, d = .tuple [d0, .list ks] ∧ isLetD d0 = true := by
  unfold isPartD at h
  split at h
  · exact ⟨_, _, rfl, h⟩
  · cases h
def sp_is_letter : Sp := fun vs H Q _ => ∃ (v : V) (d : PyData), vs = [v] ∧ Dt (fun _ => True) H v d ∧ fine0 d = true ∧ Q (.bl (isLetD d)) H
def sp__is_part : Sp := fun vs H Q _ => ∃ (v : V) (d : PyData), vs = [v] ∧ Dt (fun _ => True) H v d ∧ fine0 d = true ∧ Q (.bl (isPartD d)) H
def sp_is_tree : Sp := fun vs H Q _ => ∃ (v : V) (d : PyData), vs = [v] ∧ Dt (fun _ => True) H v d ∧ fine0 d = true ∧ cnt d ≤ 500000 ∧ ∀ H', Same H H' → Q (.bl (isTD d)) H'
section
variable {P : Program} {w : World} {K : PySem.W.Frag} {mg : Str → Option Value} {base : Heap}
theorem str_fits {x : Str} (h : fine0 (.str x) = true) : x.length ≤ sizeLine := by
  simp only [fine0, Bool.and_eq_true, decide_eq_true_eq] at h
  exact Nat.le_trans h.2 (by decide)
theorem ok_is_letter (T : Txt K mg) : FnOk P w K mg base CX0 1 T.f_is_letter T.d_is_letter ["thing"] sp_is_letter := by
  refine T.F_is_letter.ok sc_is_letter (fun vs H Q E h => ?_) (fun cdv A outer s H vs Q E hr h => ?_)
  · obtain ⟨v, d, rfl, _⟩ := h
    rfl
  obtain ⟨v, d, rfl, ht, hf, q⟩ := h
  refine ⟨_, (pss_one (ps_ret (pe_and (pe_callB call_isi (by rfl) T.z_isinstance (by decide +kernel) (pa_cons (pv 0) (pa_cons (pe_bltn (v := .ty "str") (by rfl) T.z_str (by decide +kernel) rfl) pa_nil))) (pe_and (pe_cmpR op_eq (pe_callB call_len_str (by rfl) T.z_len PySem.boot_len (pa_cons (pv 0) pa_nil)) pe_int (nomark _)) (pe_one (pe_chain op_le_str op_le_str pe_str (pv 0) pe_str)))))), ?_⟩
  refine ⟨_, rfl, _, _, _, _, _, rfl, .ty "str", ht.ty, k_str d, _, rfl, ?_⟩
  cases hS : isStrD d with
  | false =>
    have e1 : isLetD d = false := by cases d <;> first | rfl | cases hS
    rw [e1] at q
    exact iteF q
  | true =>
    cases ht with
    | str x =>
      refine iteT ?_
      refine ⟨_, rfl, _, rfl, str_fits hf, rfl, _, rfl, ?_⟩
      by_cases h1 : (x.length : Int) = 1
      · rw [decide_eq_true (congrArg V.int h1)]
        refine iteT ⟨_, rfl, _, _, rfl, rfl, _, rfl, ?_⟩
        have e1 : isLetD (.str x) = (leA x && leZ x) := by simp only [isLetD, decide_eq_true h1, Bool.true_and]
        rw [e1] at q
        refine ite2 (fun c1 => ?_) (fun c1 => ?_)
        · refine ⟨_, _, rfl, rfl, ?_⟩
          rw [show leA x = true from c1, Bool.true_and] at q
          exact q
        · rw [show leA x = false from Bool.eq_false_iff.mpr c1, Bool.false_and] at q
          exact q
      · rw [decide_eq_false (ine h1)]
        have e1 : isLetD (.str x) = false := by simp only [isLetD, decide_eq_false h1, Bool.false_and]
        rw [e1] at q
        exact iteF q
    | _ => cases hS
theorem ok__is_part (T : Txt K mg) : FnOk P w K mg base CX0 2 T.f__is_part T.d__is_part ["thing"] sp__is_part := by
  have G_is_letter : FnOk P w K mg base CX0 1 T.f_is_letter T.d_is_letter ["thing"] sp_is_letter := ok_is_letter T
  refine T.F__is_part.ok sc__is_part (fun vs H Q E h => ?_) (fun cdv A outer s H vs Q E hr h => ?_)
  · obtain ⟨v, d, rfl, _⟩ := h
    rfl
  obtain ⟨v, d, rfl, ht, hf, q⟩ := h
  refine ⟨_, (pss_cons (ps_if (PW.pt (pw_or (pt_not (pt_val (pe_callB call_isi (by rfl) T.z_isinstance (by decide +kernel) (pa_cons (pv 0) (pa_cons (pe_bltn (v := .ty "tuple") (by rfl) T.z_tuple (by decide +kernel) rfl) pa_nil))))) (pw_or1 (pt_cmpR op_ne (pe_callB call_len_seq (by rfl) T.z_len PySem.boot_len (pa_cons (pv 0) pa_nil)) pe_int (nomark _))))) (pss_one (ps_ret pe_bl)) pss_nil) (pss_one (ps_ret (pe_and (pe_call G_is_letter (hr.mono (by omega)) (by rfl) T.m_is_letter T.F_is_letter.kp T.b_is_letter .nil pass0 (pa_cons (pe_ix ix_tup (pv 0) pe_int (fun _ _ => rfl)) pa_nil)) (pe_one (pe_callB call_isi (by rfl) T.z_isinstance (by decide +kernel) (pa_cons (pe_ix ix_tup (pv 0) pe_int (fun _ _ => rfl)) (pa_cons (pe_bltn (v := .ty "list") (by rfl) T.z_list (by decide +kernel) rfl) pa_nil)))))))), ?_⟩
  refine ⟨_, rfl, _, _, _, _, _, rfl, .ty "tuple", ht.ty, k_tuple d, _, rfl, ?_⟩
  cases hT : isTupD d with
  | false =>
    have e1 : isPartD d = false := by cases d <;> first | rfl | cases hT
    rw [e1] at q
    exact iteT (iteT q)
  | true =>
  cases ht with
  | @tup a xs ds e _ hlen r =>
    have lr := r.len
    refine iteF ⟨_, rfl, _, _, rfl, .inr (SqT.of e), rfl, _, rfl, ?_⟩
    rw [lr]
    by_cases h2 : ds.length = 2
    · match ds, h2 with
      | [d0, d1], _ =>
      cases r with
      | cons r0 r1 =>
      cases r1 with
      | cons r2 r3 =>
      cases r3
      refine iteNS rfl ?_
      have hf2 : fine0 d0 = true := fine0s_mem (by simpa only [fine0] using hf) (List.mem_cons_self ..)
      refine ⟨_, rfl, _, _, 0, _, rfl, rfl, SqT.of e, atI_nat (j := 0) rfl, _, d0, rfl, r0, hf2, _, rfl, ite2 (fun hL => ?_) (fun hL => ?_)⟩
      · refine ⟨_, rfl, _, _, 1, _, rfl, rfl, SqT.of e, atI_nat (j := 1) rfl, _, _, _, _, _, rfl, .ty "list", r2.ty, k_list d1, ?_⟩
        have e1 : isListD d1 = isPartD (.tuple [d0, d1]) := by
          cases d1 <;> first | rfl | exact hL.symm
        rw [e1]
        exact q
      · have e1 : isPartD (.tuple [d0, d1]) = false := by
          cases d1 <;> first | rfl | exact Bool.eq_false_iff.mpr hL
        rw [e1] at q
        exact q
    · rw [decide_eq_false (ine (show (ds.length : Int) ≠ 2 by omega))]
      have e1 : isPartD (.tuple ds) = false := by
        match ds, h2 with
        | [], _ => rfl
        | [_], _ => rfl
        | _ :: d1 :: _ :: _, _ => cases d1 <;> rfl
      rw [e1] at q
      exact iteT q
  | _ => cases hT
theorem DtAll.split {ok : Addr → Prop} {H : Hp} {x : V} : ∀ {ws : List V} {ds : List PyData}, DtAll ok H (ws ++ [x]) ds → ∃ es d, ds = es ++ [d] ∧ DtAll ok H ws es ∧ Dt ok H x d
  | [], _, .cons a b => by cases b; exact ⟨[], _, rfl, .nil, a⟩
  | w :: ws, _, .cons a b => by
    obtain ⟨es, d, rfl, h1, h2⟩ := DtAll.split b
    exact ⟨_ :: es, d, rfl, .cons a h1, h2⟩
theorem cnt_pos : ∀ d : PyData, 1 ≤ cnt d := fun d => by cases d <;> simp only [cnt] <;> omega
theorem len_cnt : ∀ ds : List PyData, ds.length ≤ cntAll ds
  | [] => Nat.le_refl _
  | d :: r => by
    have := cnt_pos d
    have := len_cnt r
    simp only [List.length_cons, cntAll]; omega
theorem ok_is_tree (T : Txt K mg) : FnOk P w K mg base CX0 3 T.f_is_tree T.d_is_tree ["thing"] sp_is_tree := by
  have G__is_part : FnOk P w K mg base CX0 2 T.f__is_part T.d__is_part ["thing"] sp__is_part := ok__is_part T
  refine T.F_is_tree.ok sc_is_tree (fun vs H Q E h => ?_) (fun cdv A outer s H vs Q E hr h => ?_)
  · obtain ⟨v, d, rfl, _⟩ := h
    rfl
  obtain ⟨v, d, rfl, ht, hf, hz, q⟩ := h
  refine ⟨_, (pss_cons (ps_set (i := 1) sc_is_tree.nd rfl (Or.inl rfl) (pe_lst (pa_cons (pv 0) pa_nil))) (pss_cons (ps_while PassesOwn.never (pt_truth (pv 1) (by intro _; rfl)) (pss_cons (ps_set (i := 2) sc_is_tree.nd rfl (Or.inl rfl) (pe_bm0 PySem.F.plainAttrs_list PySem.F.slot_list_pop PySem.F.type_list_pop mt_pop (pv 1))) (pss_cons (ps_if (pt_not (pt_val (pe_call G__is_part (hr.mono (by omega)) (by rfl) T.m__is_part T.F__is_part.kp T.b__is_part .nil pass0 (pa_cons (pv 2) pa_nil)))) (pss_one (ps_ret pe_bl)) pss_nil) (pss_one (ps_expr (pe_bm PySem.F.plainAttrs_list PySem.F.slot_list_extend PySem.F.type_list_extend mt_extend (pv 1) (pa_cons (pe_ix ix_tup (pv 2) pe_int (fun _ _ => rfl)) pa_nil))))))) (pss_one (ps_ret pe_bl)))), ?_⟩
  refine ⟨_, rfl, (by show 1 ≤ sizeLine; decide), fun p hp => ?_⟩
  refine ⟨fun m σ H' => ∃ y ws ds, σ = [some v, some (.ref p), y] ∧ H' p = some (.lst ws) ∧ DtAll (fun b => True ∧ b ≠ p) H' ws ds ∧ cntAll ds = m ∧ m ≤ 500000 ∧ fine0s ds = true ∧ isTDs ds = isTD d ∧ Same H H',
    ⟨cnt d, none, [v], [d], rfl, upd_same, .cons ((ht.off hp).same (same_new hp)) .nil, by simp only [cntAll]; omega, hz, by simp only [fine0s, hf, Bool.and_self], by simp only [isTDs, Bool.and_true], same_new hp⟩, ?_⟩
  rintro m σ H' ⟨y, ws, ds, rfl, hw, hts, hm, hm2, hfs, hI, hs⟩
  by_cases he : ws = []
  · subst he
    cases hts
    refine ⟨_, rfl, false, .inl ⟨_, SqL.of hw, rfl⟩, iteF ?_⟩
    simp only [isTDs] at hI
    rw [← hI] at q
    exact q _ hs
  · refine ⟨_, rfl, true, .inl ⟨_, SqL.of hw, by cases ws with | nil => exact absurd rfl he | cons a b => rfl⟩, iteT ?_⟩
    obtain ⟨ws', x, rfl⟩ := concat_of he
    obtain ⟨es, dx, rfl, h1, hx⟩ := hts.split
    refine ⟨fun σ2 H2 => ∃ y ws ds, σ2 = [some v, some (.ref p), y] ∧ H2 p = some (.lst ws) ∧ DtAll (fun b => True ∧ b ≠ p) H2 ws ds ∧ cntAll ds < m ∧ fine0s ds = true ∧ isTDs ds = isTD d ∧ Same H H2, fun σ2 H2 ⟨y, ws, ds, e1, e2, e3, e4, e5, e6, e7⟩ => ⟨cntAll ds, e4, y, ws, ds, e1, e2, e3, rfl, by omega, e5, e6, e7⟩, ?_⟩
    refine ⟨_, rfl, .inl ⟨rfl, _, SqL.of hw⟩, _, _, x, rfl, rfl, hw, by simp, ?_⟩
    have kp : ∀ b u, (True ∧ b ≠ p) → H' b = some u → (upd H' p (.lst (ws' ++ [x]).dropLast)) b = some u := upd_keep fun b h => h.2
    have hx2 := hx.keep kp
    have hp3 : (upd H' p (.lst (ws' ++ [x]).dropLast)) p = some (.lst ws') := by rw [upd_same, List.dropLast_concat]
    have hs3 : Same H (upd H' p (.lst (ws' ++ [x]).dropLast)) := same_add hs hp
    have hfx : fine0 dx = true := fine0s_mem hfs (by simp)
    rw [isTDs_app] at hI
    simp only [isTDs, Bool.and_true] at hI
    refine ⟨_, rfl, x, dx, rfl, hx2.weak fun _ _ => trivial, hfx, _, rfl, ?_⟩
    cases hP : isPartD dx with
    | false =>
      rw [isTD_part hP, Bool.and_false] at hI
      rw [← hI] at q
      exact iteT (q _ hs3)
    | true =>
      refine iteF ?_
      obtain ⟨d0, ks, rfl, hL⟩ := part_of hP
      cases hx2 with
      | @tup a xs _ g1 k1 l1 r =>
      cases r with
      | cons r0 r1 =>
      cases r1 with
      | cons r2 r3 =>
      cases r3
      cases r2 with
      | @lst l ys _ g2 k2 l2 r4 =>
        have ll := r4.len
        have l2' := h1.len
        have l3 := len_cnt es
        have l4 := len_cnt ks
        rw [cntAll_app] at hm
        simp only [cntAll, cnt] at hm
        refine ⟨_, rfl, .inl ⟨rfl, _, SqL.of hp3⟩, _, rfl, _, _, 1, _, rfl, rfl, SqT.of g1, atI_nat (j := 1) rfl, p, _, ws', _, rfl, rfl, hp3, g2, ?_, ?_⟩
        · exact Nat.le_trans (show ws'.length + _ ≤ 1000000 by omega) (by decide)
        · refine ⟨some _, _, es ++ ks, rfl, upd_same, ?_, ?_, ?_, ?_, ?_⟩
          · exact ((h1.keep kp).app r4).keep (upd_keep fun b h => h.2)
          · rw [cntAll_app]
            omega
          · refine fine0s_of fun y hy => ?_
            rcases List.mem_append.mp hy with hy | hy
            · exact fine0s_mem hfs (List.mem_append_left _ hy)
            · simp only [fine0, fine0s, Bool.and_eq_true] at hfx
              exact fine0s_mem hfx.2.1 hy
          · rw [isTDs_app, ← hI]
            simp only [isTD, hL, Bool.true_and]
          · exact same_add hs3 hp
end


def alphaS : Str := Str.ofString "abcdefghijklmnopqrstuvwxyz"
theorem alpha_list : alphaS.cps.toList = List.range' 97 26 := by decide +kernel
theorem leA_ch (c : Nat) : leA (ch c) = decide (97 ≤ c) := by
  have e : (Str.ofString "a").cps.toList = [97] := by decide +kernel
  unfold leA
  rw [e]
  show (!decide (([c] : List Nat) < [97])) = decide (97 ≤ c)
  by_cases h : 97 ≤ c
  · have : ¬ (([c] : List Nat) < [97]) := by
      intro q
      rcases List.cons_lt_cons_iff.mp q with z | ⟨z, y⟩
      · omega
      · exact absurd y (by decide)
    rw [decide_eq_false this, decide_eq_true h]
    rfl
  · have : ([c] : List Nat) < [97] := List.cons_lt_cons_iff.mpr (.inl (by omega))
    rw [decide_eq_true this, decide_eq_false h]
    rfl
theorem leZ_ch (c : Nat) : leZ (ch c) = decide (c ≤ 122) := by
  have e : (Str.ofString "z").cps.toList = [122] := by decide +kernel
  unfold leZ
  rw [e]
  show (!decide (([122] : List Nat) < [c])) = decide (c ≤ 122)
  by_cases h : c ≤ 122
  · have : ¬ (([122] : List Nat) < [c]) := by
      intro q
      rcases List.cons_lt_cons_iff.mp q with z | ⟨z, y⟩
      · omega
      · exact absurd y (by decide)
    rw [decide_eq_false this, decide_eq_true h]
    rfl
  · have : ([122] : List Nat) < [c] := List.cons_lt_cons_iff.mpr (.inl (by omega))
    rw [decide_eq_true this, decide_eq_false h]
    rfl
theorem let_alpha (c : Nat) : isLetD (.str (ch c)) = decide (c ∈ alphaS.cps.toList) := by
  have h1 : decide (((ch c).length : Int) = 1) = true := rfl
  simp only [isLetD, h1, Bool.true_and, leA_ch, leZ_ch, alpha_list]
  rw [← Bool.decide_and]
  refine decide_eq_decide.mpr ?_
  rw [List.mem_range']
  constructor
  · rintro ⟨a, b⟩
    exact ⟨c - 97, by omega, by omega⟩
  · rintro ⟨i, a, b⟩
    omega
theorem one_ch {x : Str} (h : (x.length : Int) = 1) : ∃ c, x = ch c := by
  obtain ⟨a⟩ := x
  have h1 : a.size = 1 := by
    have : ((⟨a⟩ : Str).length : Int) = a.size := rfl
    omega
  obtain ⟨l⟩ := a
  match l, h1 with
  | [c], _ => exact ⟨c, rfl⟩
theorem isTDs_all : ∀ ds : List PyData, isTDs ds = ds.all isTD
  | [] => by simp only [isTDs, List.all_nil]
  | d :: r => by simp only [isTDs, List.all_cons, isTDs_all r]
theorem filt_all {α : Type} (p : α → Bool) : ∀ l : List α, decide ((l.filter fun d => !p d).length = 0) = l.all p
  | [] => rfl
  | x :: r => by
    have ih := filt_all p r
    cases hp : p x with
    | false => simp [hp]
    | true =>
      simp only [List.filter_cons, hp, Bool.not_true, Bool.false_eq_true, if_false, List.all_cons, Bool.true_and]
      exact ih
theorem filt_take {α : Type} {p : α → Bool} {l : List α} {i : Nat} {x : α} (h : l[i]? = some x) : (l.take (i + 1)).filter p = (l.take i).filter p ++ (if p x = true then [x] else []) := by
  rw [take_succ_of h, List.filter_append]
  congr 1
  by_cases hp : p x = true
  · rw [if_pos hp, List.filter_cons, if_pos hp, List.filter_nil]
  · rw [if_neg hp, List.filter_cons, if_neg hp, List.filter_nil]
def sp__law_is_tree (n : Nat) : Sp := fun vs H Q _ => ∃ (v : V) (d : PyData), vs = [v] ∧ Dt (fun _ => True) H v d ∧ fine0 d = true ∧ d.depth < 2 * n ∧ ∀ H', Same H H' → Q (.bl (isTD d)) H'
section
variable {P : Program} {w : World} {K : PySem.W.Frag} {mg : Str → Option Value} {base : Heap}
theorem ok__law_is_tree (T : Txt K mg) : ∀ n : Nat, FnOk P w K mg base CX0 n T.f__law_is_tree T.d__law_is_tree ["thing"] (sp__law_is_tree n)
  | 0 => noneOf fun vs H Q E ⟨v, d, _, _, _, h, _⟩ => by omega
  | n + 1 => by
    have G__law_is_tree : FnOk P w K mg base CX0 n T.f__law_is_tree T.d__law_is_tree ["thing"] (sp__law_is_tree n) := ok__law_is_tree T n
    refine T.F__law_is_tree.ok sc__law_is_tree (fun vs H Q E h => ?_) (fun cdv A outer s H vs Q E hr h => ?_)
    · obtain ⟨v, d, rfl, _⟩ := h
      rfl
    obtain ⟨v, d, rfl, ht, hf, hd, q⟩ := h
    refine ⟨_, (pss_cons (ps_if (PW.pt (pw_or (pt_not (pt_val (pe_callB call_isi (by rfl) T.z_isinstance (by decide +kernel) (pa_cons (pv 0) (pa_cons (pe_bltn (v := .ty "tuple") (by rfl) T.z_tuple (by decide +kernel) rfl) pa_nil))))) (pw_or1 (pt_cmpR op_ne (pe_callB call_len_seq (by rfl) T.z_len PySem.boot_len (pa_cons (pv 0) pa_nil)) pe_int (nomark _))))) (pss_one (ps_ret pe_bl)) pss_nil) (pss_cons (ps_if (PW.pt (pw_or (pt_not (pt_val (pe_callB call_isi (by rfl) T.z_isinstance (by decide +kernel) (pa_cons (pe_ix ix_tup (pv 0) pe_int (fun _ _ => rfl)) (pa_cons (pe_bltn (v := .ty "str") (by rfl) T.z_str (by decide +kernel) rfl) pa_nil))))) (pw_or (pt_cmpR op_ne (pe_callB call_len_str (by rfl) T.z_len PySem.boot_len (pa_cons (pe_ix ix_tup (pv 0) pe_int (fun _ _ => rfl)) pa_nil)) pe_int (nomark _)) (pw_or1 (pt_cmpR op_notIn_sign (pe_ix ix_tup (pv 0) pe_int (fun _ _ => rfl)) pe_str (by rfl)))))) (pss_one (ps_ret pe_bl)) pss_nil) (pss_one (ps_ret (pe_and (pe_callB call_isi (by rfl) T.z_isinstance (by decide +kernel) (pa_cons (pe_ix ix_tup (pv 0) pe_int (fun _ _ => rfl)) (pa_cons (pe_bltn (v := .ty "list") (by rfl) T.z_list (by decide +kernel) rfl) pa_nil))) (pe_one (pe_cmpR (op_eqD hr.units) (pe_lc (own := [("child", 1)]) (g := gName 1) rfl sc__law_is_tree.nd (pi_list (pe_ix ix_tup (pv 0) pe_int (fun _ _ => rfl))) (blkOk_by (own := [("child", 1)]) (N := ["thing", "child"]) (sc := (defScope s__law_is_tree)) (by decide +kernel)) (fun _ _ _ _ _ => (pg_name (i := 1) sc__law_is_tree.nd rfl (Or.inl rfl))) (fun _ _ _ _ _ => pts_one (pt_not (pt_val (pe_call G__law_is_tree (hr.mono (by omega)) (by rfl) T.m__law_is_tree T.F__law_is_tree.kp T.b__law_is_tree .nil pass0 (pa_cons (pv 1) pa_nil))))) (fun _ _ _ _ _ => pe_int)) (pe_lst pa_nil) (nomark _)))))))), ?_⟩
    refine ⟨_, rfl, _, _, _, _, _, rfl, .ty "tuple", ht.ty, k_tuple d, _, rfl, ?_⟩
    cases hT : isTupD d with
    | false =>
      have e1 : isTD d = false := isTD_part (by cases d <;> first | rfl | cases hT)
      rw [e1] at q
      exact iteT (iteT (q _ (Same.refl _)))
    | true =>
    cases ht with
    | @tup a xs ds e _ hlen r =>
      have lr := r.len
      refine iteF ⟨_, rfl, _, _, rfl, .inr (SqT.of e), rfl, _, rfl, ?_⟩
      rw [lr]
      by_cases h2 : ds.length = 2
      · match ds, h2 with
        | [d0, d1], _ =>
        cases r with
        | @cons v0 _ _ _ r0 r1 =>
        cases r1 with
        | @cons v1 _ _ _ r2 r3 =>
        cases r3
        refine iteNS rfl ?_
        simp only [fine0] at hf
        have hf0 : fine0 d0 = true := fine0s_mem hf (by simp)
        have hf1 : fine0 d1 = true := fine0s_mem hf (by simp)
        refine ⟨_, rfl, _, _, 0, _, rfl, rfl, SqT.of e, atI_nat (j := 0) rfl, ?_⟩
        refine ⟨_, _, _, _, _, rfl, .ty "str", r0.ty, k_str d0, _, rfl, ?_⟩
        have noLet : isLetD d0 = false → isTD (.tuple [d0, d1]) = false := fun h => isTD_part (by cases d1 <;> first | rfl | exact h)
        cases hS : isStrD d0 with
        | false =>
          rw [noLet (by cases d0 <;> first | rfl | cases hS)] at q
          exact iteT (iteT (q _ (Same.refl _)))
        | true =>
        refine iteF ?_
        cases r0 with
        | str x =>
          refine ⟨_, rfl, _, _, 0, _, rfl, rfl, SqT.of e, atI_nat (j := 0) rfl, _, rfl, str_fits hf0, rfl, _, rfl, ?_⟩
          by_cases hx : (x.length : Int) = 1
          · rw [decide_eq_true (congrArg V.int hx)]
            refine iteF ?_
            obtain ⟨c, rfl⟩ := one_ch hx
            refine ⟨_, rfl, _, _, 0, _, rfl, rfl, SqT.of e, atI_nat (j := 0) rfl, c, alphaS, rfl, rfl, _, rfl, ?_⟩
            rw [← let_alpha]
            cases hL : isLetD (.str (ch c)) with
            | false =>
              rw [noLet hL] at q
              exact iteT (q _ (Same.refl _))
            | true =>
            refine iteF ?_
            refine ⟨_, rfl, _, _, 1, _, rfl, rfl, SqT.of e, atI_nat (j := 1) rfl, ?_⟩
            refine ⟨_, _, _, _, _, rfl, .ty "list", r2.ty, k_list d1, _, rfl, ?_⟩
            cases hLs : isListD d1 with
            | false =>
              rw [isTD_part (by cases d1 <;> first | rfl | cases hLs)] at q
              exact iteF (q _ (Same.refl _))
            | true =>
            refine iteT ?_
            cases r2 with
            | @lst b ys ks eb _ hlb rr =>
              have lrr := rr.len
              simp only [fine0] at hf1
              simp only [PyData.depth, PyData.depthAll] at hd
              refine ⟨_, rfl, _, _, 1, _, rfl, rfl, SqT.of e, atI_nat (j := 1) rfl, b, rfl, ⟨_, SqL.of eb⟩, fun D hD => ?_⟩
              refine lc_list (xs := ys) (fun i H4 => H4 D = some (.lst ((((ks.take i).filter (fun d => !isTD d)).map (fun _ => (1 : Int))).map V.int)) ∧ Same H H4) ⟨upd_same, same_new hD⟩ (fun i H4 _ ⟨_, z⟩ => SqL.of (z _ _ eb)) ?_ ?_
              · rintro i y H4 hy ⟨g1, g2⟩
                obtain ⟨d2, hd2, hy2⟩ := rr.getV hy
                have hmem := List.mem_of_getElem? hd2
                have hdm := depthAll_mem hmem
                refine ⟨rfl, _, rfl, y, d2, rfl, hy2.same g2, fine0s_mem hf1 hmem, by omega, fun H5 s5 => ?_⟩
                rw [filt_take hd2, List.map_append, List.map_append]
                cases hb : isTD d2 with
                | true => exact ⟨_, rfl, iteF ⟨by rw [s5 _ _ g1]; simp, g2.trans s5⟩⟩
                | false =>
                  refine ⟨_, rfl, iteT ⟨_, s5 _ _ g1, ?_, by rw [upd_same]; rfl, same_add (g2.trans s5) hD⟩⟩
                  rw [List.length_map, List.length_map]
                  exact Nat.lt_of_le_of_lt (Nat.le_trans (List.length_filter_le _ _) (show (ks.take i).length ≤ 1000000 by rw [List.length_take]; omega)) (by decide)
              · rintro H4 ⟨g1, g2⟩
                rw [lrr, List.take_length] at g1
                refine ⟨(by show 0 ≤ sizeLine; decide), fun z hz2 => ?_⟩
                have s2 := same_new hz2 (o := .lst [])
                refine ⟨_, _, dp_intsL (SqL.of (s2 _ _ g1)), dp_nil upd_same, shaped_ints _, shaped_nil, ?_⟩
                rw [eqv_nil, List.length_map, List.length_map, filt_all, ← isTDs_all]
                have e4 : isTD (.tuple [.str (ch c), .list ks]) = isTDs ks := by simp only [isTD, hL, Bool.true_and]
                rw [← e4]
                exact q _ (g2.trans s2)
            | _ => cases hLs
          · rw [decide_eq_false (ine hx)]
            rw [noLet (by simp only [isLetD, decide_eq_false hx, Bool.false_and])] at q
            exact iteT (iteT (q _ (Same.refl _)))
        | _ => cases hS
      · rw [decide_eq_false (ine (show (ds.length : Int) ≠ 2 by omega))]
        have e1 : isTD (.tuple ds) = false := isTD_part (by
          match ds, h2 with
          | [], _ => rfl
          | [_], _ => rfl
          | _ :: d1 :: _ :: _, _ => cases d1 <;> rfl)
        rw [e1] at q
        exact iteT (q _ (Same.refl _))
    | _ => cases hT
end


def Pool (H : Hp) (p : Addr) (n : Nat) : Prop := ∃ x f s : Int, H p = some (.lst [.int x, .int f, .int s]) ∧ 0 ≤ s ∧ s ≤ (n : Int)
theorem Pool.mono {H : Hp} {p : Addr} {n m : Nat} (h : Pool H p n) (l : n ≤ m) : Pool H p m := let ⟨x, f, s, a, b, c⟩ := h; ⟨x, f, s, a, b, by omega⟩
theorem Pool.keep {H H' : Hp} {p : Addr} {n : Nat} (h : Pool H p n) (e : Same H H') : Pool H' p n := let ⟨x, f, s, a, b, c⟩ := h; ⟨x, f, s, e _ _ a, b, c⟩
theorem Pool.ne {H : Hp} {p q : Addr} {n : Nat} (h : Pool H p n) (e : H q = none) : p ≠ q := let ⟨_, _, _, a, _⟩ := h; ne_of_none a e
theorem Pool.some {H : Hp} {p : Addr} {n : Nat} (h : Pool H p n) : H p ≠ none := let ⟨_, _, _, a, _⟩ := h; by rw [a]; simp
def sp__law_pool (K : PySem.W.Frag) : Sp := fun vs H Q _ => ∃ (a : Addr) (ns : List Int) (k : Int), vs = [.ref a, .int k] ∧ SqL K H a (ns.map V.int) ∧ ns.length ≤ 63 ∧ 0 ≤ k ∧ k ≤ 63 ∧
  ∀ p H', H p = none → Chg p H H' → Pool H' p 3000 → Q (.ref p) H'
def sp__law_take : Sp := fun vs H Q _ => ∃ (p : Addr) (m : Int) (n : Nat), vs = [.ref p, .int m] ∧ Pool H p n ∧ n < 1000000 ∧ 0 < m ∧ m < 2 ^ 60 ∧
  ∀ r H', 0 ≤ r → r < m → Chg p H H' → Pool H' p (n + 1) → Q (.int r) H'
section
variable {P : Program} {w : World} {K : PySem.W.Frag} {mg : Str → Option Value} {base : Heap}
theorem ok__law_pool (T : Txt K mg) : FnOk P w K mg base CX0 1 T.f__law_pool T.d__law_pool ["script", "k"] (sp__law_pool K) := by
  refine T.F__law_pool.ok sc__law_pool (fun vs H Q E h => ?_) (fun cdv A outer s H vs Q E hr h => ?_)
  · obtain ⟨a, ns, k, rfl, _⟩ := h
    rfl
  obtain ⟨a, ns, k, rfl, hS, h63, h0, h1, q⟩ := h
  refine ⟨_, (pss_cons (ps_set (i := 2) sc__law_pool.nd rfl (Or.inl rfl) pe_int) (pss_cons (ps_if (pt_cmpR op_lt (pv 1) (pe_callB call_len_seq (by rfl) T.z_len PySem.boot_len (pa_cons (pv 0) pa_nil)) (nomark _)) (pss_one (ps_set (i := 2) sc__law_pool.nd rfl (Or.inl rfl) (pe_ix ix_list (pv 0) (pv 1) (fun _ _ => rfl)))) pss_nil) (pss_cons (ps_if (pt_cmpR op_ge (pv 2) (pe_op op_pow pe_int pe_int) (nomark _)) (pss_one (ps_ret (pe_lst (pa_cons (pe_op op_sub (pv 2) (pe_op op_pow pe_int pe_int)) (pa_cons pe_int (pa_cons pe_int pa_nil)))))) pss_nil) (pss_one (ps_ret (pe_lst (pa_cons (pv 2) (pa_cons pe_int (pa_cons (pe_op op_mul pe_int (pv 1)) pa_nil))))))))), ?_⟩
  have fin : ∀ p, H p = none → ∀ x f s : Int, 0 ≤ s → s ≤ 3000 → Q (.ref p) (upd H p (.lst [.int x, .int f, .int s])) := fun p hp x f s hs0 hs1 =>
    q p _ hp Chg.upd ⟨x, f, s, upd_same, hs0, by omega⟩
  refine ⟨_, rfl, _, rfl, a, _, rfl, .inl hS, _, _, rfl, rfl, _, rfl, ?_⟩
  refine ite2 (fun c => ?_) (fun c => ?_)
  · have hk : k.toNat < ns.length := by
      have c' : k < (((ns.map V.int).length : Nat) : Int) := of_decide_eq_true c
      rw [List.length_map] at c'
      omega
    refine ⟨_, rfl, _, rfl, a, _, _, _, rfl, rfl, hS, at_of (j := k.toNat) (v := V.int ns[k.toNat]) (by omega) (by rw [List.getElem?_map, List.getElem?_eq_getElem hk]; rfl), ?_⟩
    refine ⟨_, rfl, 10, 18, rfl, rfl, ⟨by decide, by decide, by decide⟩, _, _, rfl, rfl, _, rfl, ?_⟩
    refine ite2 (fun c2 => ?_) (fun c2 => ?_)
    · refine ⟨_, rfl, 10, 18, rfl, rfl, ⟨by decide, by decide, by decide⟩, _, _, rfl, rfl, (by show 3 ≤ sizeLine; decide), fun p hp => ?_⟩
      exact fin p hp _ _ _ (by decide) (by decide)
    · refine ⟨_, rfl, _, rfl, _, _, rfl, rfl, .inl ⟨by decide, by decide⟩, (by show 3 ≤ sizeLine; decide), fun p hp => ?_⟩
      exact fin p hp _ _ _ (by omega) (by omega)
  · refine ⟨_, rfl, 10, 18, rfl, rfl, ⟨by decide, by decide, by decide⟩, _, _, rfl, rfl, _, rfl, ?_⟩
    refine ite2 (fun c2 => ?_) (fun c2 => ?_)
    · exact absurd (of_decide_eq_true c2) (by decide)
    · refine ⟨_, rfl, _, rfl, _, _, rfl, rfl, .inl ⟨by decide, by decide⟩, (by show 3 ≤ sizeLine; decide), fun p hp => ?_⟩
      exact fin p hp _ _ _ (by omega) (by omega)
theorem ok__law_take (T : Txt K mg) : FnOk P w K mg base CX0 1 T.f__law_take T.d__law_take ["pool", "many"] sp__law_take := by
  refine T.F__law_take.ok sc__law_take (fun vs H Q E h => ?_) (fun cdv A outer s H vs Q E hr h => ?_)
  · obtain ⟨p, m, n, rfl, _⟩ := h
    rfl
  obtain ⟨p, m, n, rfl, ⟨x, f, t, hp, ht0, ht1⟩, hn, hm0, hm1, q⟩ := h
  refine ⟨_, (pss_cons (ps_if (pt_cmpR op_eq (pe_ix ix_list (pv 0) pe_int (fun _ _ => rfl)) pe_int (nomark _)) (pss_cons (ps_set (i := 2) sc__law_take.nd rfl (Or.inl rfl) (pe_op op_mod (pe_ix ix_list (pv 0) pe_int (fun _ _ => rfl)) (pv 1))) (pss_cons (ps_asg (pe_op op_fdivW (pe_ix ix_list (pv 0) pe_int (fun _ _ => rfl)) (pv 1)) (pg_sub (pv 0) pe_int set_list)) (pss_one (ps_ret (pv 2))))) pss_nil) (pss_cons (ps_asg (pe_op op_add (pe_ix ix_list (pv 0) pe_int (fun _ _ => rfl)) pe_int) (pg_sub (pv 0) pe_int set_list)) (pss_cons (ps_set (i := 3) sc__law_take.nd rfl (Or.inl rfl) (pe_ix ix_list (pv 0) pe_int (fun _ _ => rfl))) (pss_cons (ps_set (i := 4) sc__law_take.nd rfl (Or.inl rfl) (pe_op op_mul (pe_op op_add (pe_op op_mod (pe_ix ix_list (pv 0) pe_int (fun _ _ => rfl)) pe_int) pe_int) (pe_op op_add (pe_op op_mul pe_int (pv 3)) pe_int))) (pss_cons (ps_set (i := 4) sc__law_take.nd rfl (Or.inl rfl) (pe_op op_add (pv 4) (pe_op op_mul (pe_op op_mul pe_int (pv 3)) (pv 3)))) (pss_cons (ps_set (i := 4) sc__law_take.nd rfl (Or.inl rfl) (pe_op op_mod (pe_op op_mul (pv 4) (pv 4)) pe_int)) (pss_one (ps_ret (pe_op op_mod (pe_op op_fdivW (pe_op op_mod (pe_op op_mul (pv 4) (pe_op op_add (pv 4) pe_int)) pe_int) pe_int) (pv 1)))))))))), ?_⟩
  have i0 : atI [V.int x, V.int f, V.int t] 0 = some (.int x) := atI_nat (j := 0) rfl
  have i1 : atI [V.int x, V.int f, V.int t] 1 = some (.int f) := atI_nat (j := 1) rfl
  have i2 : atI [V.int x, V.int f, V.int t] 2 = some (.int t) := atI_nat (j := 2) rfl
  refine ⟨_, rfl, p, _, 1, _, rfl, rfl, SqL.of hp, i1, rfl, _, rfl, ?_⟩
  refine ite2 (fun c => ?_) (fun c => ?_)
  · -- the digits
    refine ⟨_, rfl, p, _, 0, _, rfl, rfl, SqL.of hp, i0, _, rfl, x, m, rfl, rfl, hm0, ?_⟩
    refine ⟨_, rfl, p, _, 0, _, rfl, rfl, SqL.of hp, i0, _, rfl, x, m, rfl, rfl, divW hm0 hm1, ?_⟩
    refine ⟨_, rfl, p, _, 0, 0, rfl, rfl, hp, rfl, ?_⟩
    refine ⟨_, rfl, q _ _ (Int.emod_nonneg _ (by omega)) (Int.emod_lt_of_pos _ hm0) Chg.upd ⟨_, _, _, upd_same, ht0, by omega⟩⟩
  · -- mixed
    refine ⟨_, rfl, p, _, 2, _, rfl, rfl, SqL.of hp, i2, t, 1, rfl, rfl, ?_⟩
    refine ⟨_, rfl, p, _, 2, 2, rfl, rfl, hp, rfl, ?_⟩
    have hp' : (upd H p (.lst [V.int x, V.int f, V.int (t + 1)])) p = some (.lst [V.int x, V.int f, V.int (t + 1)]) := upd_same
    have j0 : atI [V.int x, V.int f, V.int (t + 1)] 0 = some (.int x) := atI_nat (j := 0) rfl
    have j2 : atI [V.int x, V.int f, V.int (t + 1)] 2 = some (.int (t + 1)) := atI_nat (j := 2) rfl
    refine ⟨_, rfl, p, _, 2, _, rfl, rfl, SqL.of hp', j2, ?_⟩
    have a0 : 0 ≤ x % 9999999557 := Int.emod_nonneg _ (by decide)
    have a1 : x % 9999999557 < 9999999557 := Int.emod_lt_of_pos _ (by decide)
    refine ⟨_, rfl, p, _, 0, _, rfl, rfl, SqL.of hp', j0, x, 9999999557, rfl, rfl, (by show (0 : Int) < 9999999557; decide), _, 1013, rfl, rfl, _, rfl, 41, t + 1, rfl, rfl, .inl ⟨by decide, by decide⟩, _, 71, rfl, rfl, _, _, rfl, rfl, .inl ⟨by omega, by omega⟩, ?_⟩
    have b1 := nn_mul (a := x % 9999999557 + 1013) (A := 10000000570) (b := 41 * (t + 1) + 71) (B := 41000112) (by omega) (by omega) (by omega) (by omega)
    obtain ⟨M, hM⟩ : ∃ M, (x % 9999999557 + 1013) * (41 * (t + 1) + 71) = M := ⟨_, rfl⟩
    rw [hM] at b1
    have b2 := nn_mul (a := 3571 * (t + 1)) (A := 3571000000) (b := t + 1) (B := 1000000) (by omega) (by omega) (by omega) (by omega)
    refine ⟨_, rfl, _, rfl, 3571, t + 1, rfl, rfl, .inl ⟨by decide, by decide⟩, _, rfl, _, t + 1, rfl, rfl, .inl ⟨by omega, by omega⟩, M, _, congrArg V.int hM, rfl, ?_⟩
    obtain ⟨M2, hM2⟩ : ∃ M2, M + 3571 * (t + 1) * (t + 1) = M2 := ⟨_, rfl⟩
    refine ⟨_, rfl, _, rfl, M2, M2, congrArg V.int hM2, congrArg V.int hM2, .inl ⟨by omega, by omega⟩, _, 99999999587, rfl, rfl, (by show (0 : Int) < 99999999587; decide), ?_⟩
    have d0 : 0 ≤ M2 * M2 % 99999999587 := Int.emod_nonneg _ (by decide)
    have d1 : M2 * M2 % 99999999587 < 99999999587 := Int.emod_lt_of_pos _ (by decide)
    obtain ⟨M3, hM3⟩ : ∃ M3, M2 * M2 % 99999999587 = M3 := ⟨_, rfl⟩
    rw [hM3] at d0 d1
    refine ⟨_, rfl, _, rfl, M3, 53, congrArg V.int hM3, rfl, M3, M3 + 53, congrArg V.int hM3, rfl, .inl ⟨by omega, by omega⟩, _, 99999999881, rfl, rfl, (by show (0 : Int) < 99999999881; decide), _, 103, rfl, rfl, divW (by decide) (by decide), _, rfl, _, m, rfl, rfl, hm0, ?_⟩
    exact q _ _ (Int.emod_nonneg _ (by omega)) (Int.emod_lt_of_pos _ hm0) Chg.upd ⟨_, _, _, upd_same, by omega, by omega⟩
end


section
variable {ok : Addr → Prop} {H : Hp} {p : Addr} {x : Int} {zs : List V}
mutual
theorem TrAt.offL (hp : H p = some (.lst (.int x :: zs))) : ∀ (t : Tr) (v : V), TrAt ok H v t → TrAt (fun b => ok b ∧ b ≠ p) H v t
  | .node c ks, v, h => by
    cases h with
    | node h1 h2 k1 k2 c1 c2 r =>
      refine .node h1 h2 ⟨k1, ne_of h1 hp (by intro z; cases z)⟩ ⟨k2, fun e => ?_⟩ c1 c2 (TrsAt.offL hp ks _ r)
      subst e
      rw [h2] at hp
      cases hp
      cases r with
      | cons a _ => cases a
theorem TrsAt.offL (hp : H p = some (.lst (.int x :: zs))) : ∀ (ts : List Tr) (vs : List V), TrsAt ok H vs ts → TrsAt (fun b => ok b ∧ b ≠ p) H vs ts
  | [], _, h => by cases h; exact .nil
  | t :: r, _, h => by
    cases h with
    | cons a b => exact .cons (TrAt.offL hp t _ a) (TrsAt.offL hp r _ b)
end
end
theorem Pool.off {ok : Addr → Prop} {H : Hp} {p : Addr} {n : Nat} {v : V} {t : Tr} (hp : Pool H p n) (h : TrAt ok H v t) : TrAt (fun b => ok b ∧ b ≠ p) H v t := let ⟨_, _, _, hx, _⟩ := hp; TrAt.offL hx t v h
theorem Pool.offs {ok : Addr → Prop} {H : Hp} {p : Addr} {n : Nat} {vs : List V} {ts : List Tr} (hp : Pool H p n) (h : TrsAt ok H vs ts) : TrsAt (fun b => ok b ∧ b ≠ p) H vs ts := let ⟨_, _, _, hx, _⟩ := hp; TrsAt.offL hx ts vs h
theorem TrAt.fr {ok : Addr → Prop} {H H' : Hp} {p : Addr} {v : V} {t : Tr} (h : TrAt (fun b => ok b ∧ b ≠ p) H v t) (f : Fr p H H') : TrAt (fun b => ok b ∧ b ≠ p) H' v t := h.keep fun b o k e => f b o k.2 e
theorem TrsAt.fr {ok : Addr → Prop} {H H' : Hp} {p : Addr} {vs : List V} {ts : List Tr} (h : TrsAt (fun b => ok b ∧ b ≠ p) H vs ts) (f : Fr p H H') : TrsAt (fun b => ok b ∧ b ≠ p) H' vs ts := h.keep fun b o k e => f b o k.2 e
theorem Pool.new {H : Hp} {p q : Addr} {n : Nat} {o : HO} (hp : Pool H p n) (h : H q = none) : Pool (upd H q o) p n := hp.keep (same_new h)
theorem Pool.ne' {H : Hp} {p q : Addr} {n : Nat} (hp : Pool H p n) (h : H q = none) : q ≠ p := fun e => (hp.ne h) e.symm
theorem Pool.upd {H : Hp} {p q : Addr} {n : Nat} {o : HO} (hp : Pool H p n) (h : q ≠ p) : Pool (upd H q o) p n := by
  obtain ⟨x, f, s, a, b, c⟩ := hp
  exact ⟨x, f, s, by rw [upd_ne (fun e => h e.symm)]; exact a, b, c⟩
theorem erase_perm {α : Type} : ∀ (l : List α) (i : Nat) (h : i < l.length), l.Perm (l[i] :: l.eraseIdx i)
  | a :: r, 0, _ => .refl _
  | a :: r, i + 1, h => by
    have ih := erase_perm r i (by simpa using h)
    exact (ih.cons a).trans (.swap _ _ _)
def sp__law_mixed_up (K : PySem.W.Frag) : Sp := fun vs H Q _ => ∃ (p l : Addr) (n : Nat) (xs : List V), vs = [.ref p, .ref l] ∧ Pool H p n ∧ n + xs.length < 1000000 ∧ SqL K H l xs ∧
  (∀ H', Fr p H H' → ∀ v ∈ xs, DatOk K H' v) ∧ ∀ r ws H', xs.Perm ws → H r = none → Fr p H H' → H' r = some (.lst ws) → Pool H' p (n + xs.length) → Q (.ref r) H'
section
variable {P : Program} {w : World} {K : PySem.W.Frag} {mg : Str → Option Value} {base : Heap}
theorem ok__law_mixed_up (T : Txt K mg) : FnOk P w K mg base CX0 2 T.f__law_mixed_up T.d__law_mixed_up ["pool", "things"] (sp__law_mixed_up K) := by
  have G__law_take : FnOk P w K mg base CX0 1 T.f__law_take T.d__law_take ["pool", "many"] sp__law_take := ok__law_take T
  refine T.F__law_mixed_up.ok sc__law_mixed_up (fun vs H Q E h => ?_) (fun cdv A outer s H vs Q E hr h => ?_)
  · obtain ⟨p, l, n, xs, rfl, _⟩ := h
    rfl
  obtain ⟨p, l, n, xs, rfl, hp, hn, hl, hd, q⟩ := h
  refine ⟨_, (pss_cons (ps_set (i := 2) sc__law_mixed_up.nd rfl (Or.inl rfl) (pe_callTy call_list_of (by rfl) T.z_list (by decide +kernel) (pa_cons (pv 1) pa_nil))) (pss_cons (ps_set (i := 3) sc__law_mixed_up.nd rfl (Or.inl rfl) (pe_lst pa_nil)) (pss_cons (ps_while PassesOwn.never (pt_cmpR (op_neD hr.units) (pv 2) (pe_lst pa_nil) (nomark _)) (pss_one (ps_expr (pe_bm PySem.F.plainAttrs_list PySem.F.slot_list_append PySem.F.type_list_append mt_append (pv 3) (pa_cons (pe_bm PySem.F.plainAttrs_list PySem.F.slot_list_pop PySem.F.type_list_pop mt_popAt (pv 2) (pa_cons (pe_call G__law_take (hr.mono (by omega)) (by rfl) T.m__law_take T.F__law_take.kp T.b__law_take .nil pass0 (pa_cons (pv 0) (pa_cons (pe_callB call_len_seq (by rfl) T.z_len PySem.boot_len (pa_cons (pv 2) pa_nil)) pa_nil))) pa_nil)) pa_nil))))) (pss_one (ps_ret (pv 3)))))), ?_⟩
  refine ⟨_, rfl, l, xs, rfl, .inl hl, fun a ha => ?_⟩
  refine ⟨(by show 0 ≤ sizeLine; decide), fun f hf => ?_⟩
  have naf : a ≠ f := fun e => by rw [e, upd_same] at hf; cases hf
  have hf0 : H f = none := by rw [upd_ne (fun e => naf e.symm)] at hf; exact hf
  have nap : a ≠ p := hp.ne' ha
  have nfp : f ≠ p := hp.ne' hf0
  refine ⟨fun m σ H' => ∃ us ys, σ = [some (.ref p), some (.ref l), some (.ref a), some (.ref f)] ∧ H' a = some (.lst us) ∧ H' f = some (.lst ys) ∧ xs.Perm (us ++ ys) ∧ m = us.length ∧ Pool H' p (n + ys.length) ∧ Fr p H H',
    ⟨xs.length, xs, [], rfl, by rw [upd_ne naf]; exact upd_same, upd_same, by rw [List.append_nil], rfl, (hp.new ha).new hf, ((Fr.refl p H).new ha).new hf0⟩, ?_⟩
  rintro m σ H' ⟨us, ys, rfl, hA, hF, hP, rfl, pp, fr⟩
  have hlen : us.length + ys.length = xs.length := by
    have := hP.length_eq
    rw [List.length_append] at this
    omega
  refine ⟨_, rfl, (by show 0 ≤ sizeLine; decide), fun e he => ?_⟩
  have he0 : H e = none := fr.free pp.some he
  have fr2 : Fr p H (upd H' e (.lst [])) := fr.new he0
  obtain ⟨ds, hds, hsh, hdl⟩ := DatOk.all (K := K) (H := upd H' e (.lst [])) (vs := us) fun v hv => hd _ fr2 v (hP.mem_iff.mpr (List.mem_append_left _ hv))
  have hA2 : (upd H' e (.lst [])) a = some (.lst us) := by rw [upd_ne (ne_of_none hA he)]; exact hA
  have hF2 : (upd H' e (.lst [])) f = some (.lst ys) := by rw [upd_ne (ne_of_none hF he)]; exact hF
  refine ⟨_, _, .lst (SqL.of hA2) hds, dp_nil upd_same, hsh, shaped_nil, _, rfl, ?_⟩
  rw [eqv_nil, hdl]
  by_cases hu : us.length = 0
  · rw [decide_eq_true hu]
    refine iteF ?_
    have : us = [] := List.length_eq_zero_iff.mp hu
    subst this
    refine ⟨_, rfl, q f ys _ (by simpa using hP) hf0 fr2 hF2 ?_⟩
    have e1 : ys.length = xs.length := by simpa using hlen
    rw [← e1]
    exact pp.new he
  · rw [decide_eq_false hu]
    refine iteT ?_
    refine ⟨fun σ2 H2 => ∃ us2 ys, σ2 = [some (.ref p), some (.ref l), some (.ref a), some (.ref f)] ∧ H2 a = some (.lst us2) ∧ H2 f = some (.lst ys) ∧ xs.Perm (us2 ++ ys) ∧ us2.length < us.length ∧ Pool H2 p (n + ys.length) ∧ Fr p H H2,
      fun σ2 H2 ⟨us2, ys, e1, e2, e3, e4, e5, e6, e7⟩ => ⟨us2.length, e5, us2, ys, e1, e2, e3, e4, rfl, e6, e7⟩, ?_⟩
    refine ⟨_, rfl, .inl ⟨rfl, _, SqL.of hF2⟩, _, rfl, .inl ⟨rfl, _, SqL.of hA2⟩, _, rfl, _, rfl, a, us, rfl, .inl (SqL.of hA2), ?_⟩
    refine ⟨p, _, n + ys.length, rfl, pp.new he, by omega, by omega, by omega, fun r H2 r0 r1 c2 p2 => ?_⟩
    obtain ⟨k, rfl⟩ : ∃ k : Nat, r = (k : Int) := ⟨r.toNat, by omega⟩
    have hk : k < us.length := by omega
    have hA3 := c2.at hA2 nap
    have hF3 := c2.at hF2 nfp
    refine ⟨a, us, k, k, us[k], rfl, rfl, hA3, by omega, by omega, PySem.seqIndex_of (by omega) (by omega) |>.trans (by simp), List.getElem?_eq_getElem hk, ?_⟩
    have hF4 : (upd H2 a (.lst (us.eraseIdx k))) f = some (.lst ys) := by rw [upd_ne (fun e => naf e.symm)]; exact hF3
    refine ⟨f, ys, us[k], rfl, rfl, hF4, Nat.lt_of_le_of_lt (show ys.length ≤ 1000000 by omega) (by decide), ?_⟩
    refine ⟨us.eraseIdx k, ys ++ [us[k]], rfl, by rw [upd_ne naf]; exact upd_same, upd_same, ?_, ?_, ?_, ?_⟩
    · refine hP.trans ?_
      have pe : us.Perm (us[k] :: us.eraseIdx k) := erase_perm us k hk
      refine (pe.append_right ys).trans ?_
      rw [← List.append_assoc, List.cons_append]
      exact (List.perm_append_singleton _ _).symm
    · rw [List.length_eraseIdx_of_lt hk]
      omega
    · rw [List.length_append, List.length_singleton, ← Nat.add_assoc]
      exact (p2.upd nap).upd nfp
    · intro b o hb e
      have nb1 : b ≠ f := ne_of_none e hf0
      have nb2 : b ≠ a := ne_of_none e ha
      rw [upd_ne nb1, upd_ne nb2]
      exact c2.at (fr2 b o hb e) hb
end

def Lets (L : Str) : Prop := 1 ≤ L.length ∧ L.length ≤ 26 ∧ ∀ c ∈ L.cps.toList, 97 ≤ c ∧ c ≤ 122
def sp__law_shuffled (d : Nat) : Sp := fun vs H Q _ => ∃ (p : Addr) (n : Nat) (v : V) (t : Tr), vs = [.ref p, v] ∧ Pool H p n ∧ n + t.size < 1000000 ∧ TrAt (fun _ => True) H v t ∧ t.depth ≤ d ∧ t.depth ≤ 32 ∧
  ∀ r u H', Sh t u → Fr p H H' → TrAt (fun b => H b = none) H' r u → Pool H' p (n + (t.size - 1)) → Q r H'
def sp__law_copy (d : Nat) : Sp := fun vs H Q _ => ∃ (v : V) (t : Tr), vs = [v] ∧ TrAt (fun _ => True) H v t ∧ t.depth ≤ d ∧ t.size ≤ 1000000 ∧
  ∀ r H', Same H H' → TrAt (fun b => H b = none) H' r t → Q r H'
def sp__law_letters : Sp := fun vs H Q _ => ∃ (p : Addr) (n : Nat), vs = [.ref p] ∧ Pool H p n ∧ n < 1000000 ∧ ∀ L H', Lets L → Fr p H H' → Pool H' p (n + 1) → Q (.str L) H'
theorem none_of {sp : Sp} {P : Program} {w : World} {K : PySem.W.Frag} {mg : Str → Option Value} {base : Heap} {f : Addr} {fd : FuncData} {ps : List Str} {k : Nat} (no : ∀ vs H Q E, ¬ sp vs H Q E) : FnOk P w K mg base CX0 k f fd ps sp :=
  ⟨fun vs H Q E h => absurd h (no vs H Q E), fun A outer s H args us vs Q E _ _ _ _ h => absurd h (no vs H Q E)⟩
theorem depth_pos : ∀ t : Tr, 1 ≤ t.depth
  | .node c ks => by simp only [Tr.depth]; omega
section
variable {P : Program} {w : World} {K : PySem.W.Frag} {mg : Str → Option Value} {base : Heap}
theorem ok__law_shuffled (T : Txt K mg) : ∀ d : Nat, FnOk P w K mg base CX0 (d + 2) T.f__law_shuffled T.d__law_shuffled ["pool", "tree"] (sp__law_shuffled d)
  | 0 => none_of fun vs H Q E ⟨p, n, v, t, _, _, _, _, h, _⟩ => by have := depth_pos t; omega
  | d + 1 => by
    have G__law_shuffled : FnOk P w K mg base CX0 (d + 2) T.f__law_shuffled T.d__law_shuffled ["pool", "tree"] (sp__law_shuffled d) := ok__law_shuffled T d
    have G__law_mixed_up : FnOk P w K mg base CX0 2 T.f__law_mixed_up T.d__law_mixed_up ["pool", "things"] (sp__law_mixed_up K) := ok__law_mixed_up T
    refine T.F__law_shuffled.ok sc__law_shuffled (fun vs H Q E h => ?_) (fun cdv A outer s H vs Q E hr h => ?_)
    · obtain ⟨p, n, v, t, rfl, _⟩ := h
      rfl
    obtain ⟨p, n, v, t, rfl, hp, hn, ht, hd, hd2, q⟩ := h
    refine ⟨_, (pss_one (ps_ret (pe_tup (pa_cons (pe_ix ix_tup (pv 1) pe_int (fun _ _ => rfl)) (pa_cons (pe_lc (own := [("child", 2)]) (g := gName 2) (tt := tYes) rfl sc__law_shuffled.nd (pi_list (pe_call G__law_mixed_up (hr.mono (by omega)) (by rfl) T.m__law_mixed_up T.F__law_mixed_up.kp T.b__law_mixed_up .nil pass0 (pa_cons (pv 0) (pa_cons (pe_ix ix_tup (pv 1) pe_int (fun _ _ => rfl)) pa_nil)))) (blkOk_by (own := [("child", 2)]) (N := ["pool", "tree", "child"]) (sc := (defScope s__law_shuffled)) (by decide +kernel)) (fun _ _ _ _ _ => (pg_name (i := 2) sc__law_shuffled.nd rfl (Or.inl rfl))) (fun _ _ _ _ _ => pts_nil) (fun _ _ _ _ _ => (pe_call G__law_shuffled (hr.mono (by omega)) (by rfl) T.m__law_shuffled T.F__law_shuffled.kp T.b__law_shuffled .nil pass0 (pa_cons (pv 0) (pa_cons (pv 2) pa_nil))))) pa_nil))))), ?_⟩
    obtain ⟨c, ks⟩ := t
    simp only [Tr.depth] at hd hd2
    simp only [Tr.size] at hn q
    have lz := len_sizes ks
    cases hp.off ht with
    | node h1 h2 k1 k2 c1 c2 r =>
      rename_i a l xs
      have lr := r.len
      refine ⟨_, rfl, _, _, 0, _, rfl, rfl, SqT.of h1, atI_nat (j := 0) rfl, ?_⟩
      refine ⟨_, rfl, _, rfl, _, _, 1, _, rfl, rfl, SqT.of h1, atI_nat (j := 1) rfl, p, l, n, xs, rfl, hp, by omega, SqL.of h2, ?_, fun m ws H1 pw m0 f1 hm p1 => ?_⟩
      · intro H' f v hv
        obtain ⟨i, hi⟩ := List.getElem?_of_mem hv
        obtain ⟨t1, ht1, hx⟩ := (r.fr f).getV hi
        have dt := depths_mem (List.mem_of_getElem? ht1)
        exact datOk_tr hx (by omega)
      obtain ⟨us, pu, hus⟩ := (r.fr f1).perm pw
      have lu := hus.len
      have zu := sizes_perm pu
      have du := depths_perm pu
      have nu := pu.length_eq
      refine ⟨m, rfl, ⟨_, SqL.of hm⟩, fun D hD => ?_⟩
      have hD0 : H D = none := f1.free p1.some hD
      have hmD : m ≠ D := ne_of_none hm hD
      have nmp : m ≠ p := hp.ne' m0
      have nDp : D ≠ p := p1.ne' hD
      have husD := hus.off hD
      refine lc_list (xs := ws) (fun i H2 => ∃ acc vs2, H2 D = some (.lst acc) ∧ TrsAt (fun b => H b = none ∧ b ≠ D) H2 acc vs2 ∧ Shs (us.take i) vs2 ∧ H2 m = some (.lst ws) ∧ Pool H2 p (n + xs.length + (sizes (us.take i) - i)) ∧ Fr p H1 H2 ∧ i ≤ us.length)
        ⟨[], [], upd_same, .nil, .nil, by rw [upd_ne hmD]; exact hm, p1.new hD, (Fr.refl p H1).new hD, Nat.zero_le _⟩ (fun i H2 _ ⟨_, _, _, _, _, s, _⟩ => SqL.of s) ?_ ?_
      · rintro i x H2 hx ⟨acc, vs2, g1, g2, g3, g4, g5, g6, g7⟩
        obtain ⟨t1, ht1, hx2⟩ := hus.getV hx
        have dt := depths_mem (List.mem_of_getElem? ht1)
        have st := sizes_mem (List.mem_of_getElem? ht1)
        have tk := congrArg sizes (List.take_append_drop (i + 1) us)
        rw [sizes_append] at tk
        have e1 := take_succ_of ht1
        have li : i < us.length := (List.getElem?_eq_some_iff.mp ht1).1
        have lt := len_sizes (us.take i)
        rw [List.length_take] at lt
        have ld := len_sizes (us.drop (i + 1))
        rw [List.length_drop] at ld
        have pz := size_pos t1
        have la := g2.len
        have lb := Shs.len g3
        rw [List.length_take] at lb
        have e2 : sizes (us.take (i + 1)) = sizes (us.take i) + t1.size := by
          rw [e1, sizes_append]
          simp only [sizes]
          omega
        refine ⟨rfl, _, rfl, _, rfl, p, _, x, t1, rfl, g5, by omega, (hx2.fr g6).weak fun _ _ => trivial, by omega, by omega, fun y u H3 hsh f3 hy p3 => ?_⟩
        have g1' := f3 _ _ nDp g1
        refine ⟨acc, g1', Nat.lt_of_le_of_lt (show acc.length ≤ 1000000 by omega) (by decide), acc ++ [y], vs2 ++ [u], upd_same, ?_, ?_, ?_, ?_, ?_, by omega⟩
        · have hy2 : TrAt (fun b => H b = none ∧ b ≠ D) H3 y u := hy.weak fun b hb => ⟨f1.free p1.some (g6.free g5.some hb), fun e => by rw [e, g1] at hb; cases hb⟩
          refine ((?_ : TrsAt (fun b => H b = none ∧ b ≠ D) H3 acc vs2).append (.cons hy2 .nil)).keep (upd_keep fun b h => h.2)
          exact g2.keep fun b o k e => f3 b o (hp.ne' k.1) e
        · rw [e1]
          exact g3.append (.cons hsh .nil)
        · rw [upd_ne hmD]
          exact f3 _ _ nmp g4
        · refine (p3.upd nDp).mono ?_
          omega
        · exact (g6.trans f3).new hD
      · rintro H2 ⟨acc, vs2, g1, g2, g3, g4, g5, g6, g7⟩
        rw [lu, List.take_length] at g3 g5
        refine ⟨(by show 2 ≤ sizeLine; decide), fun e he => ?_⟩
        have he0 := f1.free p1.some (g6.free g5.some he)
        have nDe : D ≠ e := ne_of_none g1 he
        refine q _ (.node c vs2) _ (.node pu g3) ((f1.trans g6).new he0) (.node upd_same (by rw [upd_ne nDe]; exact g1) he0 hD0 c1 c2 ?_) ((g5.new he).mono ?_)
        · exact (g2.same (same_new he)).weak fun b h => h.1
        · omega
end


def rowOf (par : Nat → Nat) (k i : Nat) : List Nat := (List.range k).filter fun j => decide (1 ≤ j ∧ par j = i)
def setF {α : Type} (f : Nat → α) (k : Nat) (v : α) : Nat → α := fun j => if j = k then v else f j
theorem setF_same {α : Type} {f : Nat → α} {k : Nat} {v : α} : setF f k v k = v := if_pos rfl
theorem setF_ne {α : Type} {f : Nat → α} {k j : Nat} {v : α} (h : j ≠ k) : setF f k v j = f j := if_neg h
theorem rng_set {α β : Type} (G : α → β) (f : Nat → α) (k : Nat) (v : α) : ((List.range (k + 1)).map fun j => G (setF f k v j)) = ((List.range k).map fun j => G (f j)) ++ [G v] := by
  rw [List.range_succ, List.map_append]
  refine congr (congrArg _ (List.map_congr_left fun j hj => ?_)) ?_
  · rw [setF_ne (Nat.ne_of_lt (List.mem_range.mp hj))]
  · show [G (setF f k v k)] = [G v]
    rw [setF_same]
theorem rng_get {α : Type} (F : Nat → α) {k j : Nat} (h : j < k) : ((List.range k).map F)[j]? = some (F j) := by
  rw [List.getElem?_map, List.getElem?_range h]
  rfl
theorem row_succ (par : Nat → Nat) (k h i : Nat) (hk : 1 ≤ k) : rowOf (setF par k h) (k + 1) i = rowOf par k i ++ (if i = h then [k] else []) := by
  unfold rowOf
  rw [List.range_succ, List.filter_append]
  refine congr (congrArg _ (List.filter_congr fun j hj => ?_)) ?_
  · rw [setF_ne (Nat.ne_of_lt (List.mem_range.mp hj))]
  · rw [List.filter_cons, List.filter_nil, setF_same]
    by_cases e : i = h
    · subst e
      rw [if_pos rfl, if_pos (by simpa using hk)]
    · rw [if_neg e, if_neg (by simp; intro _ z; exact e z.symm)]
theorem row_out (par : Nat → Nat) (k i : Nat) (h : ∀ j, 1 ≤ j → j < k → par j < j) (hi : k ≤ i) : rowOf par k i = [] := by
  unfold rowOf
  rw [List.filter_eq_nil_iff]
  intro j hj e
  have e' := of_decide_eq_true e
  have hj' := List.mem_range.mp hj
  have := h j e'.1 hj'
  omega
theorem row_mem {par : Nat → Nat} {k i j : Nat} (h : j ∈ rowOf par k i) : 1 ≤ j ∧ par j = i ∧ j < k := by
  unfold rowOf at h
  have a := List.mem_filter.mp h
  have b := of_decide_eq_true a.2
  exact ⟨b.1, b.2, List.mem_range.mp a.1⟩
theorem row_len (par : Nat → Nat) (k i : Nat) : (rowOf par k i).length ≤ k := by
  have := List.length_filter_le (fun j => decide (1 ≤ j ∧ par j = i)) (List.range k)
  rw [List.length_range] at this
  exact this
def tot (par f : Nat → Nat) (s : Nat) : Nat → Nat
  | 0 => 0
  | m + 1 => tot par f s m + if s ≤ m ∧ (m = 0 ∨ par m < s) then f m else 0
def rowSum (par f : Nat → Nat) (i : Nat) : Nat → Nat
  | 0 => 0
  | m + 1 => rowSum par f i m + if 1 ≤ m ∧ par m = i then f m else 0
theorem rowSum_eq (par f : Nat → Nat) (i : Nat) : ∀ m, ((rowOf par m i).map f).sum = rowSum par f i m
  | 0 => rfl
  | m + 1 => by
    have ih := rowSum_eq par f i m
    unfold rowOf at ih ⊢
    rw [List.range_succ, List.filter_append, List.map_append, List.sum_append, ih, List.filter_cons, List.filter_nil]
    by_cases e : 1 ≤ m ∧ par m = i
    · rw [if_pos (decide_eq_true e)]
      simp only [rowSum, if_pos e, List.map_cons, List.map_nil, List.sum_cons, List.sum_nil, Nat.add_zero]
    · rw [if_neg (by simpa using e)]
      simp only [rowSum, if_neg e, List.map_nil, List.sum_nil]
theorem tot_step (par f : Nat → Nat) (s g : Nat) : ∀ m, (∀ j, 1 ≤ j → j < m → par j < j) → tot par (setF f s g) s m + rowSum par f s m = tot par f (s + 1) m + if s < m then g else 0
  | 0, _ => by simp [tot, rowSum]
  | m + 1, h => by
    have ih := tot_step par f s g m fun j a b => h j a (by omega)
    have hm := h m
    simp only [tot, rowSum]
    by_cases e : m = s
    · subst e
      rw [setF_same, if_pos (show m ≤ m ∧ (m = 0 ∨ par m < m) by omega), if_neg (show ¬ (1 ≤ m ∧ par m = m) by omega), if_neg (show ¬ (m + 1 ≤ m ∧ (m = 0 ∨ par m < m + 1)) by omega), if_pos (show m < m + 1 by omega)]
      rw [if_neg (show ¬ m < m by omega)] at ih
      omega
    · rw [setF_ne e]
      split <;> split <;> split <;> split <;> (split at ih) <;> omega
theorem tot_top (par f : Nat → Nat) : ∀ m, tot par f 0 (m + 1) = f 0
  | 0 => by simp [tot]
  | m + 1 => by
    have ih := tot_top par f m
    rw [tot, ih, if_neg (by omega)]
    rfl
theorem tot_none (par f : Nat → Nat) (s : Nat) : ∀ m, m ≤ s → tot par f s m = 0
  | 0, _ => rfl
  | m + 1, h => by
    rw [tot, tot_none par f s m (by omega), if_neg (by omega)]
theorem perm_map {α β : Type} (f : α → β) {l ws : List β} (p : l.Perm ws) : ∀ {xs : List α}, l = xs.map f → ∃ us, xs.Perm us ∧ ws = us.map f := by
  induction p with
  | nil =>
    intro xs e
    exact ⟨xs, .refl _, e⟩
  | cons x _ ih =>
    intro xs e
    cases xs with
    | nil => cases e
    | cons a r =>
      rw [List.map_cons] at e
      injection e with e1 e2
      obtain ⟨us, h1, h2⟩ := ih e2
      exact ⟨a :: us, h1.cons a, by rw [h2, e1, List.map_cons]⟩
  | swap x y l =>
    intro xs e
    match xs, e with
    | a :: b :: r, e =>
      simp only [List.map_cons, List.cons.injEq] at e
      exact ⟨b :: a :: r, .swap _ _ _, by simp only [List.map_cons, e.1, e.2.1, e.2.2]⟩
  | trans _ _ ih1 ih2 =>
    intro xs e
    obtain ⟨us, h1, h2⟩ := ih1 e
    obtain ⟨ws, h3, h4⟩ := ih2 h2
    exact ⟨ws, h1.trans h3, h4⟩
theorem trs_map {ok : Addr → Prop} {H : Hp} (tv : Nat → V) (tt : Nat → Tr) : ∀ {us : List Nat}, (∀ c ∈ us, TrAt ok H (tv c) (tt c)) → TrsAt ok H (us.map tv) (us.map tt)
  | [], _ => .nil
  | c :: r, h => .cons (h c List.mem_cons_self) (trs_map tv tt fun d hd => h d (List.mem_cons_of_mem _ hd))
theorem sizes_map (tt : Nat → Tr) : ∀ us : List Nat, sizes (us.map tt) = (us.map fun c => (tt c).size).sum
  | [] => rfl
  | c :: r => by simp only [List.map_cons, sizes, List.sum_cons, sizes_map tt r]
theorem depths_map (tt : Nat → Tr) (b : Nat) : ∀ us : List Nat, (∀ c ∈ us, (tt c).depth ≤ b) → depths (us.map tt) ≤ b
  | [], _ => Nat.zero_le _
  | c :: r, h => by
    have h1 := h c List.mem_cons_self
    have h2 := depths_map tt b r fun d hd => h d (List.mem_cons_of_mem _ hd)
    simp only [List.map_cons, depths]
    omega
theorem letss_map {p : Nat → Prop} (tt : Nat → Tr) : ∀ us : List Nat, (∀ c ∈ us, (tt c).lets p) → letss p (us.map tt)
  | [], _ => trivial
  | c :: r, h => by
    simp only [List.map_cons, letss]
    exact ⟨h c List.mem_cons_self, letss_map tt r fun d hd => h d (List.mem_cons_of_mem _ hd)⟩
theorem sum_perm {a b : List Nat} (p : a.Perm b) : a.sum = b.sum := by
  induction p with
  | nil => rfl
  | cons x _ ih => simp only [List.sum_cons, ih]
  | swap x y l => simp only [List.sum_cons]; omega
  | trans _ _ h1 h2 => exact h1.trans h2
theorem rep_rng {α : Type} (x : α) : ∀ k : Nat, (List.replicate k [x]).flatten = (List.range k).map fun _ => x
  | 0 => rfl
  | k + 1 => by
    rw [List.replicate_succ', List.flatten_append, rep_rng x k, List.range_succ, List.map_append]
    rfl
theorem ixN_nat {n k : Nat} (h : k < n) : ixN n (k : Int) = some k := by
  unfold ixN
  rw [if_pos (by omega), if_pos (by omega)]
  simp
theorem set_rng {α : Type} {F F' : Nat → α} {n k : Nat} {v : α} (h : ∀ j, j < n → j ≠ k → F j = F' j) (hk : F' k = v) : ((List.range n).map F).set k v = (List.range n).map F' := by
  refine List.ext_getElem? fun j => ?_
  rw [List.getElem?_set]
  by_cases hj : j < n
  · by_cases e : k = j
    · subst e
      rw [if_pos rfl, if_pos (by rw [List.length_map, List.length_range]; exact hj), rng_get _ hj, hk]
    · rw [if_neg e, rng_get _ hj, rng_get _ hj, h j hj (fun z => e z.symm)]
  · have o1 : ((List.range n).map F)[j]? = none := List.getElem?_eq_none_iff.mpr (by rw [List.length_map, List.length_range]; omega)
    have o2 : ((List.range n).map F')[j]? = none := List.getElem?_eq_none_iff.mpr (by rw [List.length_map, List.length_range]; omega)
    rw [o1, o2]
    split
    · rw [if_neg (by rw [List.length_map, List.length_range]; omega)]
    · rfl
theorem setF_size (tt : Nat → Tr) (k : Nat) (u : Tr) : (fun j => (setF tt k u j).size) = setF (fun j => (tt j).size) k u.size := by
  funext j
  unfold setF
  split <;> rfl
structure Rows (H0 H' : Hp) (p ro de : Addr) (n k : Nat) (par dep : Nat → Nat) (ad : Nat → Addr) : Prop where
  fr : Fr p H0 H'
  pool : Pool H' p n
  ro_ : H' ro = some (.lst ((List.range k).map fun j => V.ref (ad j)))
  de_ : H' de = some (.lst ((List.range k).map fun j => V.int (dep j : Nat)))
  row : ∀ j, j < k → H' (ad j) = some (.lst ((rowOf par k j).map fun i : Nat => V.int (i : Nat)))
  new : H0 ro = none ∧ H0 de = none ∧ ro ≠ de
  off : ∀ j, j < k → H0 (ad j) = none ∧ ad j ≠ ro ∧ ad j ≠ de
  inj : ∀ i j, i < k → j < k → ad i = ad j → i = j
  par_ : ∀ j, 1 ≤ j → j < k → par j < j ∧ dep j = dep (par j) + 1
  dep_ : ∀ j, j < k → 1 ≤ dep j ∧ dep j ≤ 30
  dep0 : dep 0 = 1
theorem Rows.go {H0 H' H2 : Hp} {p ro de : Addr} {n n2 k : Nat} {par dep : Nat → Nat} {ad : Nat → Addr} (R : Rows H0 H' p ro de n k par dep ad) (hp : H0 p ≠ none) (f : Fr p H' H2) (p2 : Pool H2 p n2) : Rows H0 H2 p ro de n2 k par dep ad := by
  have np : ∀ b, H0 b = none → b ≠ p := fun b h e => hp (by rw [← e]; exact h)
  exact ⟨R.fr.trans f, p2, f _ _ (np _ R.new.1) R.ro_, f _ _ (np _ R.new.2.1) R.de_, fun j hj => f _ _ (np _ (R.off j hj).1) (R.row j hj), R.new, R.off, R.inj, R.par_, R.dep_, R.dep0⟩
theorem Rows.step {H0 H' : Hp} {p ro de b : Addr} {n k h : Nat} {par dep : Nat → Nat} {ad : Nat → Addr} (R : Rows H0 H' p ro de n k par dep ad) (hp : H0 p ≠ none) (hk : 1 ≤ k) (hh : h < k) (hd : dep h ≤ 29)
    (hb : (upd H' (ad h) (.lst (((rowOf par k h).map fun i : Nat => V.int (i : Nat)) ++ [V.int (k : Nat)]))) b = none) :
    Rows H0 (upd (upd (upd (upd H' (ad h) (.lst (((rowOf par k h).map fun i : Nat => V.int (i : Nat)) ++ [V.int (k : Nat)]))) b (.lst [])) ro (.lst (((List.range k).map fun j => V.ref (ad j)) ++ [V.ref b]))) de (.lst (((List.range k).map fun j => V.int (dep j : Nat)) ++ [V.int ((dep h + 1 : Nat) : Int)])))
      p ro de n (k + 1) (setF par k h) (setF dep k (dep h + 1)) (setF ad k b) := by
  have np : ∀ b, H0 b = none → b ≠ p := fun b h e => hp (by rw [← e]; exact h)
  obtain ⟨n1, n2, n3⟩ := R.new
  have nah := R.off h hh
  have nb1 : b ≠ ad h := fun e => by rw [e, upd_same] at hb; cases hb
  have hb' : H' b = none := by rw [upd_ne nb1] at hb; exact hb
  have hb0 : H0 b = none := R.fr.free R.pool.some hb'
  have nbr : b ≠ ro := fun e => by rw [e, R.ro_] at hb'; cases hb'
  have nbd : b ≠ de := fun e => by rw [e, R.de_] at hb'; cases hb'
  have nba : ∀ j, j < k → b ≠ ad j := fun j hj e => by rw [e, R.row j hj] at hb'; cases hb'
  refine ⟨?_, ?_, ?_, ?_, fun j hj => ?_, R.new, fun j hj => ?_, fun i j hi hj e => ?_, fun j h1 hj => ?_, fun j hj => ?_, ?_⟩
  · intro c o hc e
    rw [upd_ne (ne_of_none e n2), upd_ne (ne_of_none e n1), upd_ne (ne_of_none e hb0), upd_ne (ne_of_none e nah.1)]
    exact R.fr c o hc e
  · exact (((R.pool.upd (np _ nah.1)).upd (np _ hb0)).upd (np _ n1)).upd (np _ n2)
  · rw [upd_ne n3, upd_same, rng_set V.ref]
  · rw [upd_same, rng_set (fun d : Nat => V.int (d : Nat))]
  · by_cases e : j = k
    · subst e
      rw [setF_same, upd_ne nbd, upd_ne nbr, upd_same, row_succ _ _ _ _ hk, if_neg (by omega), row_out par j j (fun i a c => (R.par_ i a c).1) (Nat.le_refl _)]
      rfl
    · have hj' : j < k := by omega
      have o := R.off j hj'
      rw [setF_ne e, upd_ne o.2.2, upd_ne o.2.1, upd_ne (fun z => nba j hj' z.symm), row_succ _ _ _ _ hk]
      by_cases ej : j = h
      · subst ej
        rw [upd_same, if_pos rfl, List.map_append]
        rfl
      · rw [upd_ne (fun z => ej (R.inj j h hj' hh z)), if_neg ej, List.append_nil]
        exact R.row j hj'
  · by_cases e : j = k
    · subst e
      rw [setF_same]
      exact ⟨hb0, nbr, nbd⟩
    · rw [setF_ne e]
      exact R.off j (by omega)
  · by_cases e1 : i = k
    · by_cases e2 : j = k
      · omega
      · rw [e1, setF_same, setF_ne e2] at e
        exact absurd e (nba j (by omega))
    · by_cases e2 : j = k
      · rw [e2, setF_same, setF_ne e1] at e
        exact absurd e.symm (nba i (by omega))
      · rw [setF_ne e1, setF_ne e2] at e
        exact R.inj i j (by omega) (by omega) e
  · by_cases e : j = k
    · subst e
      rw [setF_same, setF_same, setF_ne (by omega)]
      exact ⟨hh, rfl⟩
    · have q := R.par_ j h1 (by omega)
      rw [setF_ne e, setF_ne e, setF_ne (by omega)]
      exact q
  · by_cases e : j = k
    · subst e
      rw [setF_same]
      omega
    · rw [setF_ne e]
      exact R.dep_ j (by omega)
  · rw [setF_ne (by omega)]
    exact R.dep0
def sp__law_grown : Sp := fun vs H Q _ => ∃ (p : Addr) (n : Nat) (m : Nat) (L : Str), vs = [.ref p, .int m, .str L] ∧ Pool H p n ∧ n + 20000 < 1000000 ∧ 1 ≤ m ∧ m ≤ 100 ∧ Lets L ∧
  ∀ r t H', t.size ≤ m → t.depth ≤ 30 → t.lets (fun c => c ∈ L.cps.toList) → Fr p H H' → TrAt (fun b => H b = none) H' r t → Pool H' p (n + 20000) → Q r H'
section
variable {P : Program} {w : World} {K : PySem.W.Frag} {mg : Str → Option Value} {base : Heap}
theorem ok__law_grown (T : Txt K mg) : FnOk P w K mg base CX0 3 T.f__law_grown T.d__law_grown ["pool", "most", "letters"] sp__law_grown := by
  have G__law_take : FnOk P w K mg base CX0 1 T.f__law_take T.d__law_take ["pool", "many"] sp__law_take := ok__law_take T
  have G__law_mixed_up : FnOk P w K mg base CX0 2 T.f__law_mixed_up T.d__law_mixed_up ["pool", "things"] (sp__law_mixed_up K) := ok__law_mixed_up T
  refine T.F__law_grown.ok sc__law_grown (fun vs H Q E h => ?_) (fun cdv A outer s H vs Q E hr h => ?_)
  · obtain ⟨p, n, m, L, rfl, _⟩ := h
    rfl
  obtain ⟨p, n, m, L, rfl, hp, hn, hm0, hm1, hL, q⟩ := h
  refine ⟨_, (pss_cons (ps_set (i := 3) sc__law_grown.nd rfl (Or.inl rfl) (pe_op op_add pe_int (pe_ix ix_list (pe_lst (pa_cons (pe_call G__law_take (hr.mono (by omega)) (by rfl) T.m__law_take T.F__law_take.kp T.b__law_take .nil pass0 (pa_cons (pv 0) (pa_cons (pe_callB (call_min2 rfl) (by rfl) T.z_min (by decide +kernel) (pa_cons (pv 1) (pa_cons pe_int pa_nil))) pa_nil))) (pa_cons (pe_call G__law_take (hr.mono (by omega)) (by rfl) T.m__law_take T.F__law_take.kp T.b__law_take .nil pass0 (pa_cons (pv 0) (pa_cons (pv 1) pa_nil))) pa_nil))) (pe_call G__law_take (hr.mono (by omega)) (by rfl) T.m__law_take T.F__law_take.kp T.b__law_take .nil pass0 (pa_cons (pv 0) (pa_cons pe_int pa_nil))) (fun _ _ => rfl)))) (pss_cons (ps_set (i := 4) sc__law_grown.nd rfl (Or.inl rfl) (pe_call G__law_take (hr.mono (by omega)) (by rfl) T.m__law_take T.F__law_take.kp T.b__law_take .nil pass0 (pa_cons (pv 0) (pa_cons pe_int pa_nil)))) (pss_cons (ps_set (i := 5) sc__law_grown.nd rfl (Or.inl rfl) (pe_lst (pa_cons pe_int pa_nil))) (pss_cons (ps_set (i := 6) sc__law_grown.nd rfl (Or.inl rfl) (pe_lst (pa_cons (pe_lst pa_nil) pa_nil))) (pss_cons (ps_for PassesOwn.never rfl (pi_range2 (by rfl) T.z_range (pa_cons pe_int (pa_cons (pv 3) pa_nil))) (pg_name (i := 7) sc__law_grown.nd rfl (Or.inl rfl)) (pss_cons (ps_set (i := 8) sc__law_grown.nd rfl (Or.inl rfl) (pe_ix ix_list (pe_lst (pa_cons (pe_call G__law_take (hr.mono (by omega)) (by rfl) T.m__law_take T.F__law_take.kp T.b__law_take .nil pass0 (pa_cons (pv 0) (pa_cons (pv 7) pa_nil))) (pa_cons (pe_op op_sub (pv 7) pe_int) (pa_cons (pe_call G__law_take (hr.mono (by omega)) (by rfl) T.m__law_take T.F__law_take.kp T.b__law_take .nil pass0 (pa_cons (pv 0) (pa_cons (pe_callB (call_min2 rfl) (by rfl) T.z_min (by decide +kernel) (pa_cons (pv 7) (pa_cons pe_int pa_nil))) pa_nil))) pa_nil)))) (pv 4) (fun _ _ => rfl))) (C8.pss_cut (ps_if (pt_cmpR op_gt (pe_ix ix_list (pv 5) (pv 8) (fun _ _ => rfl)) pe_int (nomark _)) (pss_one (ps_set (i := 8) sc__law_grown.nd rfl (Or.inl rfl) pe_int)) pss_nil) (pss_cons (ps_expr (pe_bm PySem.F.plainAttrs_list PySem.F.slot_list_append PySem.F.type_list_append mt_append (pe_ix ix_list (pv 6) (pv 8) (fun _ _ => rfl)) (pa_cons (pv 7) pa_nil))) (pss_cons (ps_expr (pe_bm PySem.F.plainAttrs_list PySem.F.slot_list_append PySem.F.type_list_append mt_append (pv 6) (pa_cons (pe_lst pa_nil) pa_nil))) (pss_one (ps_expr (pe_bm PySem.F.plainAttrs_list PySem.F.slot_list_append PySem.F.type_list_append mt_append (pv 5) (pa_cons (pe_op op_add (pe_ix ix_list (pv 5) (pv 8) (fun _ _ => rfl)) pe_int) pa_nil))))))))) (pss_cons (ps_set (i := 9) sc__law_grown.nd rfl (Or.inr rfl) (pe_op op_rep (pe_lst (pa_cons pe_non pa_nil)) (pv 3))) (pss_cons (ps_for PassesOwn.never rfl (pi_range3 (by rfl) T.z_range (pa_cons (pe_op op_sub (pv 3) pe_int) (pa_cons (pe_un un_neg pe_int) (pa_cons (pe_un un_neg pe_int) pa_nil)))) (pg_name (i := 7) sc__law_grown.nd rfl (Or.inl rfl)) (pss_cons (ps_setLc (i := 10) (own := [("child", 11)]) (g := gName 11) (te := tOp (rIxL K) (tVar 9) (tVar 11)) (tt := tYes) rfl sc__law_grown.nd rfl rfl (sw_true rfl rfl rfl (by decide +kernel)) (pi_list (pe_call G__law_mixed_up (hr.mono (by omega)) (by rfl) T.m__law_mixed_up T.F__law_mixed_up.kp T.b__law_mixed_up .nil pass0 (pa_cons (pv 0) (pa_cons (pe_ix ix_list (pv 6) (pv 7) (fun _ _ => rfl)) pa_nil)))) (blkOk_by (own := [("child", 11)]) (N := ["pool", "most", "letters", "many", "way", "depths", "rows", "k", "head", "trees", "children", "child"]) (sc := (defScope s__law_grown)) (by decide +kernel)) (fun _ _ _ _ _ => (pg_name (i := 11) sc__law_grown.nd rfl (Or.inl rfl))) (fun _ _ _ _ _ => pts_nil) (fun _ _ _ _ _ => (pe_ix ix_list (pv 9) (pv 11) (fun _ _ => rfl)))) (pss_one (ps_asg (pe_tup (pa_cons (pe_ix ix_str (pv 2) (pe_call G__law_take (hr.mono (by omega)) (by rfl) T.m__law_take T.F__law_take.kp T.b__law_take .nil pass0 (pa_cons (pv 0) (pa_cons (pe_callB call_len_str (by rfl) T.z_len PySem.boot_len (pa_cons (pv 2) pa_nil)) pa_nil))) (fun _ _ => rfl)) (pa_cons (pv 10) pa_nil))) (pg_sub (pv 9) (pv 7) set_list))))) (pss_one (ps_ret (pe_ix ix_list (pv 9) pe_int (fun _ _ => rfl))))))))))), ?_⟩
  refine ⟨_, rfl, _, rfl, m, 7, rfl, p, _, n, rfl, hp, by omega, ?_, ?_, fun r1 H1 a0 a1 c1 p1 => ?_⟩
  · split <;> omega
  · split <;> omega
  refine ⟨_, rfl, _, rfl, p, m, n + 1, rfl, p1, by omega, by omega, by omega, fun r2 H2 b0 b1 c2 p2 => ?_⟩
  refine ⟨(by show 2 ≤ sizeLine; decide), fun l1 hl1 => ?_⟩
  refine ⟨_, rfl, p, 2, n + 2, rfl, p2.new hl1, by omega, by decide, by decide, fun r3 H3 d0 d1 c3 p3 => ?_⟩
  have nl1 : l1 ≠ p := p2.ne' hl1
  have hl3 := c3.at (upd_same (H := H2) (a := l1) (o := .lst [.int r1, .int r2])) nl1
  obtain ⟨many, hmany, hmv⟩ : ∃ many : Nat, (1 ≤ many ∧ many ≤ m) ∧ ∃ z : Int, atI [V.int r1, V.int r2] r3 = some (.int z) ∧ 1 + z = (many : Int) := by
    have a1' : r1 < m := by
      have := a1
      split at this <;> omega
    by_cases e : r3 = 0
    · subst e
      exact ⟨(1 + r1).toNat, by omega, r1, atI_nat (j := 0) rfl, by omega⟩
    · have e1 : r3 = 1 := by omega
      subst e1
      exact ⟨(1 + r2).toNat, by omega, r2, atI_nat (j := 1) rfl, by omega⟩
  obtain ⟨z, hz, hzm⟩ := hmv
  refine ⟨l1, _, r3, _, rfl, rfl, SqL.of hl3, hz, 1, z, rfl, rfl, ?_⟩
  have f3 : Fr p H H3 := (((Fr.chg c1).trans (Fr.chg c2)).new (by
    have := (c1.trans c2) l1 nl1
    rw [hl1] at this
    exact this.symm)).trans (Fr.chg c3)
  refine ⟨_, rfl, p, 3, n + 3, rfl, p3, by omega, by decide, by decide, fun way H4 w0 w1 c4 p4 => ?_⟩
  refine ⟨(by show 1 ≤ sizeLine; decide), fun de hde => ?_⟩
  refine ⟨(by show 0 ≤ sizeLine; decide), fun a0_ ha0 => ⟨(by show 1 ≤ sizeLine; decide), fun ro hro => ?_⟩⟩
  have n0 : H4 de = none := hde
  have na0 : a0_ ≠ de := fun e => by rw [e, upd_same] at ha0; cases ha0
  have ha0' : H4 a0_ = none := by rw [upd_ne na0] at ha0; exact ha0
  have nro1 : ro ≠ a0_ := fun e => by rw [e, upd_same] at hro; cases hro
  have hro1 := hro
  rw [upd_ne nro1] at hro1
  have nro2 : ro ≠ de := fun e => by rw [e, upd_same] at hro1; cases hro1
  rw [upd_ne nro2] at hro1
  have f4 : Fr p H H4 := f3.trans (Fr.chg c4)
  have e0 : ∀ {b}, H4 b = none → H b = none := fun h => f4.free p4.some h
  have hps : H p ≠ none := hp.some
  have np : ∀ b, H b = none → b ≠ p := fun b h e => hps (by rw [← e]; exact h)
  have R0 : Rows H (upd (upd (upd H4 de (.lst [V.int 1])) a0_ (.lst [])) ro (.lst [V.ref a0_])) p ro de (n + 4) 1 (fun _ => 0) (fun _ => 1) (fun _ => a0_) := by
    refine ⟨((f4.new (e0 hde)).new (e0 ha0')).new (e0 hro1), ?_, upd_same, by rw [upd_ne (fun e => nro2 e.symm), upd_ne (fun e => na0 e.symm)]; exact upd_same, fun j hj => ?_, ⟨e0 hro1, e0 hde, nro2⟩, fun j hj => ⟨e0 ha0', fun e => nro1 e.symm, na0⟩, fun i j hi hj _ => by omega, fun j h1 h2 => by omega, fun j hj => ⟨Nat.le_refl _, by decide⟩, rfl⟩
    · exact ((p4.upd (np _ (e0 hde))).upd (np _ (e0 ha0'))).upd (np _ (e0 hro1))
    · rw [upd_ne (fun e => nro1 e.symm)]
      exact upd_same
  refine ⟨_, rfl, 1, many, congrArg (fun x => [V.int 1, V.int x]) hzm, ⟨by decide, by decide, by omega, by omega⟩, for_range (lo := 1) (n := ((many : Int) - 1).toNat)
    (fun i σ H' => ∃ par dep ad y7 y8 y9 y10 y11, σ = [some (.ref p), some (.int m), some (.str L), some (.int many), some (.int way), some (.ref de), some (.ref ro), y7, y8, y9, y10, y11] ∧ Rows H H' p ro de (n + 4 + 2 * i) (1 + i) par dep ad)
    ⟨_, _, _, none, none, none, none, none, by rw [← hzm]; rfl, R0⟩ ?_ ?_⟩
  · rintro i σ H5 hi ⟨par, dep, ad, y7, y8, y9, y10, y11, rfl, R⟩
    have hk : 1 + i < many := by omega
    rw [show (1 : Int) + (i : Int) = ((1 + i : Nat) : Int) by omega]
    refine ⟨_, rfl, _, rfl, p, _, _, rfl, R.pool, by omega, by omega, by omega, fun s1 H6 a0 a1 c6 p6 => ?_⟩
    refine ⟨_, rfl, _, 1, rfl, rfl, _, rfl, _, rfl, _, 3, rfl, p, _, _, rfl, p6, by omega, ?_, ?_, fun s2 H7 b0 b1 c7 p7 => ?_⟩
    · split <;> omega
    · split <;> omega
    refine ⟨(by show 3 ≤ sizeLine; decide), fun e he => ?_⟩
    obtain ⟨hd, hdk, hdv⟩ : ∃ hd : Nat, hd < 1 + i ∧ atI [V.int s1, V.int (((1 + i : Nat) : Int) - 1), V.int s2] way = some (.int (hd : Nat)) := by
      have b1' : s2 < ((1 + i : Nat) : Int) := by
        have := b1
        split at this <;> omega
      obtain rfl | rfl | rfl : way = 0 ∨ way = 1 ∨ way = 2 := by omega
      · exact ⟨s1.toNat, by omega, at_of (j := 0) rfl (congrArg (fun z => some (V.int z)) (show s1 = ((s1.toNat : Nat) : Int) by omega))⟩
      · exact ⟨i, by omega, at_of (j := 1) rfl (congrArg (fun z => some (V.int z)) (show ((1 + i : Nat) : Int) - 1 = (i : Int) by omega))⟩
      · exact ⟨s2.toNat, by omega, at_of (j := 2) rfl (congrArg (fun z => some (V.int z)) (show s2 = ((s2.toNat : Nat) : Int) by omega))⟩
    have R7 : Rows H (upd H7 e (.lst [V.int s1, V.int (((1 + i : Nat) : Int) - 1), V.int s2])) p ro de (n + 4 + 2 * i + 2) (1 + i) par dep ad :=
      R.go hps ((Fr.chg (c6.trans c7)).new (by
        have := (c6.trans c7) e (p7.ne' he)
        rw [he] at this
        exact this.symm)) (p7.new he)
    refine ⟨_, rfl, e, _, way, _, rfl, rfl, SqL.of upd_same, hdv, ?_⟩
    generalize (upd H7 e (.lst [V.int s1, V.int (((1 + i : Nat) : Int) - 1), V.int s2])) = H8 at R7
    refine ⟨fun σ' H' => ∃ hd : Nat, hd < 1 + i ∧ dep hd ≤ 29 ∧ H' = H8 ∧ σ' = [some (.ref p), some (.int m), some (.str L), some (.int many), some (.int way), some (.ref de), some (.ref ro), some (.int ((1 + i : Nat) : Int)), some (.int (hd : Nat)), y9, y10, y11], ?_, ?_⟩
    · refine ⟨_, rfl, _, rfl, de, _, hd, _, rfl, rfl, SqL.of R7.de_, at_of (j := hd) rfl (rng_get _ hdk), _, 29, rfl, rfl, _, rfl, ?_⟩
      refine ite2 (fun c => ?_) (fun c => ?_)
      · exact ⟨0, by omega, by rw [R7.dep0]; decide, rfl, rfl⟩
      · have c' : ¬ (29 : Int) < (dep hd : Nat) := of_decide_eq_false (Bool.eq_false_iff.mpr c)
        exact ⟨hd, hdk, by omega, rfl, rfl⟩
    · rintro σ' H' ⟨hd, hdk, hd29, rfl, rfl⟩
      have rl := row_len par (1 + i) hd
      refine ⟨_, rfl, _, rfl, ro, _, hd, _, rfl, rfl, SqL.of R7.ro_, at_of (j := hd) rfl (rng_get _ hdk), .inl ⟨rfl, _, SqL.of (R7.row hd hdk)⟩, _, rfl, ad hd, _, _, rfl, rfl, R7.row hd hdk, ?_, ?_⟩
      · rw [List.length_map]
        exact small1000 (by omega)
      have o := R7.off hd hdk
      have hro9 : (upd H' (ad hd) (.lst (((rowOf par (1 + i) hd).map fun i : Nat => V.int (i : Nat)) ++ [V.int ((1 + i : Nat) : Int)]))) ro = some (.lst ((List.range (1 + i)).map fun j => V.ref (ad j))) := by
        rw [upd_ne (fun z => o.2.1 z.symm)]
        exact R7.ro_
      refine ⟨_, rfl, .inl ⟨rfl, _, SqL.of hro9⟩, (by show 0 ≤ sizeLine; decide), fun b hb => ?_⟩
      have nrb : ro ≠ b := ne_of_none hro9 hb
      refine ⟨ro, _, .ref b, rfl, rfl, by rw [upd_ne nrb]; exact hro9, by rw [List.length_map, List.length_range]; exact small1000 (by omega), ?_⟩
      have hde9 : (upd H' (ad hd) (.lst (((rowOf par (1 + i) hd).map fun i : Nat => V.int (i : Nat)) ++ [V.int ((1 + i : Nat) : Int)]))) de = some (.lst ((List.range (1 + i)).map fun j => V.int (dep j : Nat))) := by
        rw [upd_ne (fun z => o.2.2 z.symm)]
        exact R7.de_
      have hde10 : ∀ o1 o2, (upd (upd (upd H' (ad hd) (.lst (((rowOf par (1 + i) hd).map fun i : Nat => V.int (i : Nat)) ++ [V.int ((1 + i : Nat) : Int)]))) b o1) ro o2) de = some (.lst ((List.range (1 + i)).map fun j => V.int (dep j : Nat))) := fun o1 o2 => by
        rw [upd_ne (fun z => R7.new.2.2 z.symm), upd_ne (ne_of_none hde9 hb)]
        exact hde9
      refine ⟨_, rfl, .inl ⟨rfl, _, SqL.of (hde10 _ _)⟩, _, rfl, _, rfl, de, _, hd, _, rfl, rfl, SqL.of (hde10 _ _), at_of (j := hd) rfl (rng_get _ hdk), _, 1, rfl, rfl, de, _, _, rfl, rfl, hde10 _ _, by rw [List.length_map, List.length_range]; exact small1000 (by omega), ?_⟩
      have R8 := R7.step hps (by omega) hdk hd29 hb
      exact ⟨_, _, _, _, _, _, _, _, rfl, R8⟩
  · rintro σ H5 ⟨par, dep, ad, y7, y8, y9, y10, y11, rfl, R⟩
    have ek : 1 + ((many : Int) - 1).toNat = many := by omega
    rw [ek] at R
    refine ⟨(by show 1 ≤ sizeLine; decide), fun t0 ht0 => ⟨_, rfl, t0, many, [.non], rfl, rfl, upd_same, by omega, by omega, Nat.le_trans (show 1 * (many : Int).toNat ≤ 1000 by omega) (by decide), fun tr htr => ?_⟩⟩
    have nt : tr ≠ t0 := fun e => by rw [e, upd_same] at htr; cases htr
    have htr5 : H5 tr = none := by rw [upd_ne nt] at htr; exact htr
    have htr0 : H tr = none := R.fr.free R.pool.some htr5
    have ntp : tr ≠ p := np _ htr0
    refine ⟨_, rfl, _, 1, rfl, rfl, _, rfl, _, rfl, (many : Int) - 1, -1, -1, many, rfl, ?_, for_rangeC (lo := (many : Int) - 1) (c := -1) (n := many)
      (fun i σ H' => ∃ tv tt y7 y8 y10 y11, σ = [some (.ref p), some (.int m), some (.str L), some (.int many), some (.int way), some (.ref de), some (.ref ro), y7, y8, some (.ref tr), y10, y11] ∧
        H' tr = some (.lst ((List.range many).map fun j => if many - i ≤ j then tv j else .non)) ∧ (∀ j, many - i ≤ j → j < many → TrAt (fun b => H b = none ∧ b ≠ tr) H' (tv j) (tt j) ∧ (tt j).depth + dep j ≤ 31 ∧ (tt j).lets (fun c => c ∈ L.cps.toList)) ∧
        tot par (fun j => (tt j).size) (many - i) many = i ∧ Fr p H5 H' ∧ Pool H' p (n + 300 + 101 * i))
      ⟨fun _ => .non, fun _ => .node 97 [], _, _, _, _, rfl, ?_, fun j h1 h2 => by omega, tot_none _ _ _ _ (by omega), ((Fr.refl p H5).new (by exact ht0)).new htr5, ((R.pool.new ht0).new htr).mono (by omega)⟩ ?_ ?_⟩
    · have e := RgC.neg (i := (many : Int) - 1) (j := -1) (by omega) (by omega) (by omega) (by omega)
      rw [show ((many : Int) - 1 - -1).toNat = many by omega] at e
      exact e
    · rw [upd_same, show (many : Int).toNat = many by omega, rep_rng]
      refine congrArg (fun z => some (HO.lst z)) (List.map_congr_left fun j hj => ?_)
      rw [if_neg (by have := List.mem_range.mp hj; omega)]
    · rintro i σ H6 hi ⟨tv, tt, y7, y8, y10, y11, rfl, hT, hTr, hTot, f6, p6⟩
      obtain ⟨k, hk⟩ : ∃ k : Nat, k + 1 + i = many := ⟨many - 1 - i, by omega⟩
      rw [show (many : Int) - 1 + (i : Int) * -1 = (k : Int) by omega]
      have R6 := R.go hps f6 p6
      have hkm : k < many := by omega
      have rl := row_len par many k
      refine ⟨_, rfl, _, rfl, _, rfl, ro, _, k, _, rfl, rfl, SqL.of R6.ro_, at_of (j := k) rfl (rng_get _ hkm), p, ad k, _, _, rfl, p6, by rw [List.length_map]; omega, SqL.of (R6.row k hkm), ?_, fun mm ws H7 pw m0 f7 hm p7 => ?_⟩
      · intro H' f v hv
        obtain ⟨c, _, rfl⟩ := List.mem_map.mp hv
        exact datOk_int _
      obtain ⟨us, pu, rfl⟩ := perm_map _ pw rfl
      have lu : us.length = (rowOf par many k).length := pu.length_eq.symm
      have mem : ∀ c ∈ us, 1 ≤ c ∧ par c = k ∧ c < many ∧ k < c := fun c hc => by
        have a := row_mem (pu.mem_iff.mpr hc)
        have b := (R.par_ c a.1 a.2.2).1
        omega
      refine ⟨mm, rfl, ⟨_, SqL.of hm⟩, fun D hD => ?_⟩
      have hD6 : H6 D = none := f7.free p7.some hD
      have hD0 : H D = none := R6.fr.free p6.some hD6
      have nDt : D ≠ tr := fun e => by rw [e, hT] at hD6; cases hD6
      have hT7 := f7 _ _ ntp hT
      have nmD : mm ≠ D := ne_of_none hm hD
      refine lc_list (xs := us.map fun i : Nat => V.int (i : Nat)) (fun j H8 => H8 = upd H7 D (.lst ((us.take j).map tv))) rfl (fun j H8 _ e => by rw [e]; exact SqL.of (by rw [upd_ne nmD]; exact hm)) ?_ ?_
      · rintro j x H8 hx rfl
        rw [List.getElem?_map] at hx
        cases hc : us[j]? with
        | none => rw [hc] at hx; cases hx
        | some c =>
          rw [hc] at hx
          cases hx
          have hcm := mem c (List.mem_of_getElem? hc)
          have hg : ((List.range many).map fun j => if many - i ≤ j then tv j else .non)[c]? = some (tv c) := by
            rw [rng_get _ hcm.2.2.1, if_pos (by omega)]
          refine ⟨rfl, _, rfl, _, rfl, tr, _, c, tv c, rfl, rfl, SqL.of (by rw [upd_ne (fun z => nDt z.symm)]; exact hT7), at_of (j := c) rfl hg, _, upd_same, ?_, ?_⟩
          · rw [List.length_map, List.length_take]
            exact small1000 (by omega)
          · rw [upd_upd, take_succ_of hc, List.map_append]
            rfl
      · rintro H8 rfl
        rw [List.length_map, List.take_length]
        have hT8 : (upd H7 D (.lst (us.map tv))) tr = some (.lst ((List.range many).map fun j => if many - i ≤ j then tv j else .non)) := by
          rw [upd_ne (fun z => nDt z.symm)]
          exact hT7
        have hLs : L.cps.toList.length = L.length := by
          show L.cps.toList.length = L.cps.size
          exact Array.length_toList
        have p8 : Pool (upd H7 D (.lst (us.map tv))) p _ := p7.new hD
        refine ⟨_, rfl, _, rfl, _, rfl, L, rfl, Nat.le_trans hL.2.1 (by decide), p, _, _, rfl, p8, by rw [List.length_map]; omega, by have := hL.1; omega, by have := hL.2.1; omega, fun r H9 r0 r1 c9 p9 => ?_⟩
        obtain ⟨rn, rfl⟩ : ∃ rn : Nat, r = (rn : Int) := ⟨r.toNat, by omega⟩
        have hrn : rn < L.cps.toList.length := by rw [hLs]; omega
        obtain ⟨c, hc⟩ : ∃ c, L.cps.toList[rn]? = some c := ⟨_, List.getElem?_eq_getElem hrn⟩
        have cL := hL.2.2 c (List.mem_of_getElem? hc)
        refine ⟨L, rn, c, rfl, rfl, Nat.le_trans hL.2.1 (by decide), atI_nat hc, _, rfl, (by show 2 ≤ sizeLine; decide), fun g hg => ?_⟩
        have hT9 := c9.at hT8 ntp
        have ngt : g ≠ tr := fun e => by rw [e, hT9] at hg; cases hg
        have f9 : Fr p H6 H9 := (f7.new hD6).trans (Fr.chg c9)
        have hg6 : H6 g = none := f9.free p9.some hg
        have hg0 : H g = none := R6.fr.free p6.some hg6
        have hD9 : H9 D = some (.lst (us.map tv)) := c9.at upd_same (np _ hD0)
        have nDg : D ≠ g := ne_of_none hD9 hg
        refine ⟨_, rfl, _, rfl, tr, _, k, k, rfl, rfl, by rw [upd_ne (fun z => ngt z.symm)]; exact hT9, ixN_nat (by rw [List.length_map, List.length_range]; exact hkm), ?_⟩
        have keep : ∀ v t, TrAt (fun b => H b = none ∧ b ≠ tr) H6 v t → ∀ o, TrAt (fun b => H b = none ∧ b ≠ tr) (upd (upd H9 g (.tup [.str (ch c), .ref D])) tr o) v t := fun v t h o =>
          ((h.keep fun b o k e => f9 b o (np b k.1) e).same (same_new hg)).keep (upd_keep fun b k => k.2)
        refine ⟨setF tv k (.ref g), setF tt k (.node c (us.map tt)), _, _, _, _, rfl, ?_, ?_, ?_, ?_, ?_⟩
        · rw [upd_same]
          refine congrArg (fun z => some (HO.lst z)) (set_rng (fun j hj ne => ?_) ?_)
          · rw [setF_ne ne]
            by_cases e : many - i ≤ j
            · rw [if_pos e, if_pos (by omega)]
            · rw [if_neg e, if_neg (by omega)]
          · rw [if_pos (by omega), setF_same]
        · intro j h1 h2
          by_cases e : j = k
          · subst e
            rw [setF_same, setF_same]
            refine ⟨.node (by rw [upd_ne ngt]; exact upd_same) (by rw [upd_ne nDt, upd_ne nDg]; exact hD9) ⟨hg0, ngt⟩ ⟨hD0, nDt⟩ cL.1 cL.2 (trs_map tv tt fun d hd => keep _ _ (hTr d (by have := mem d hd; omega) (mem d hd).2.2.1).1 _), ?_, ?_⟩
            · have := depths_map tt (30 - dep j) us fun d hd => by
                have a := mem d hd
                have b := (hTr d (by omega) a.2.2.1).2.1
                have e := (R.par_ d a.1 a.2.2.1).2
                rw [a.2.1] at e
                omega
              have b := R.dep_ j hkm
              simp only [Tr.depth]
              omega
            · simp only [Tr.lets]
              exact ⟨List.mem_of_getElem? hc, letss_map tt us fun d hd => (hTr d (by have := mem d hd; omega) (mem d hd).2.2.1).2.2⟩
          · rw [setF_ne e, setF_ne e]
            have a := hTr j (by omega) h2
            exact ⟨keep _ _ a.1 _, a.2⟩
        · have st := tot_step par (fun j => (tt j).size) k (1 + sizes (us.map tt)) many fun j a b => (R.par_ j a b).1
          rw [← rowSum_eq, if_pos hkm, sum_perm (pu.map fun j => (tt j).size)] at st
          rw [setF_size, show many - (i + 1) = k by omega]
          rw [show many - i = k + 1 by omega] at hTot
          simp only [Tr.size]
          rw [sizes_map] at st ⊢
          omega
        · intro b o hb e
          rw [upd_ne (ne_of_none e htr5)]
          exact same_new hg _ _ (f9 b o hb (f6 b o hb e))
        · refine ((p9.new hg).upd ntp).mono ?_
          rw [List.length_map]
          omega
    · rintro σ H6 ⟨tv, tt, y7, y8, y10, y11, rfl, hT, hTr, hTot, f6, p6⟩
      have h0 := hTr 0 (by omega) (by omega)
      rw [show many - many = 0 by omega] at hTot
      obtain ⟨m', rfl⟩ : ∃ m', many = m' + 1 := ⟨many - 1, by omega⟩
      rw [tot_top] at hTot
      have hd0 := R.dep0
      refine ⟨_, rfl, tr, _, 0, tv 0, rfl, rfl, SqL.of hT, at_of (j := 0) rfl (by rw [rng_get _ (by omega), if_pos (by omega)]), ?_⟩
      refine q _ (tt 0) _ (by omega) (by omega) h0.2.2 (R.fr.trans f6) (h0.1.weak fun b k => k.1) (p6.mono (by omega))
end

section
variable {P : Program} {w : World} {K : PySem.W.Frag} {mg : Str → Option Value} {base : Heap}
theorem ok__law_letters (T : Txt K mg) : FnOk P w K mg base CX0 2 T.f__law_letters T.d__law_letters ["pool"] sp__law_letters := by
  have G__law_take : FnOk P w K mg base CX0 1 T.f__law_take T.d__law_take ["pool", "many"] sp__law_take := ok__law_take T
  refine T.F__law_letters.ok sc__law_letters (fun vs H Q E h => ?_) (fun cdv A outer s H vs Q E hr h => ?_)
  · obtain ⟨p, n, rfl, _⟩ := h
    rfl
  obtain ⟨p, n, rfl, hp, hn, q⟩ := h
  refine ⟨_, (pss_one (ps_ret (pe_ix ix_list (pe_lst (pa_cons pe_str (pa_cons pe_str (pa_cons pe_str (pa_cons pe_str (pa_cons pe_str pa_nil)))))) (pe_call G__law_take (hr.mono (by omega)) (by rfl) T.m__law_take T.F__law_take.kp T.b__law_take .nil pass0 (pa_cons (pv 0) (pa_cons pe_int pa_nil))) (fun _ _ => rfl)))), ?_⟩
  refine ⟨(by show 5 ≤ sizeLine; decide), fun l hl => ?_⟩
  refine ⟨_, rfl, p, 5, n, rfl, hp.new hl, hn, by decide, by decide, fun r H2 r0 r1 c2 p2 => ?_⟩
  have hl2 := c2.at upd_same (hp.ne' hl)
  have f2 : Fr p H H2 := ((Fr.refl p H).new hl).trans (Fr.chg c2)
  have fin : ∀ L, Lets L → Q (.str L) H2 := fun L h => q L H2 h f2 p2
  obtain rfl | rfl | rfl | rfl | rfl : r = 0 ∨ r = 1 ∨ r = 2 ∨ r = 3 ∨ r = 4 := by omega
  · exact ⟨l, _, 0, _, rfl, rfl, SqL.of hl2, at_of (j := 0) rfl rfl, fin _ ⟨by decide +kernel, by decide +kernel, by decide +kernel⟩⟩
  · exact ⟨l, _, 1, _, rfl, rfl, SqL.of hl2, at_of (j := 1) rfl rfl, fin _ ⟨by decide +kernel, by decide +kernel, by decide +kernel⟩⟩
  · exact ⟨l, _, 2, _, rfl, rfl, SqL.of hl2, at_of (j := 2) rfl rfl, fin _ ⟨by decide +kernel, by decide +kernel, by decide +kernel⟩⟩
  · exact ⟨l, _, 3, _, rfl, rfl, SqL.of hl2, at_of (j := 3) rfl rfl, fin _ ⟨by decide +kernel, by decide +kernel, by decide +kernel⟩⟩
  · exact ⟨l, _, 4, _, rfl, rfl, SqL.of hl2, at_of (j := 4) rfl rfl, fin _ ⟨by decide +kernel, by decide +kernel, by decide +kernel⟩⟩
end


theorem TrAt.go {H H1 H2 : Hp} {p : Addr} {v : V} {t : Tr} (x : TrAt (fun b => H b = none) H1 v t) (hp : H p ≠ none) (f : Fr p H1 H2) : TrAt (fun b => H b = none) H2 v t :=
  x.keep fun b o k e => f b o (fun z => hp (by rw [← z]; exact k)) e
theorem TrsAt.go {H H1 H2 : Hp} {p : Addr} {vs : List V} {ts : List Tr} (x : TrsAt (fun b => H b = none) H1 vs ts) (hp : H p ≠ none) (f : Fr p H1 H2) : TrsAt (fun b => H b = none) H2 vs ts :=
  x.keep fun b o k e => f b o (fun z => hp (by rw [← z]; exact k)) e
theorem TrAt.base {H H1 H2 : Hp} {p : Addr} {v : V} {t : Tr} (x : TrAt (fun b => H1 b = none) H2 v t) (f : Fr p H H1) (hp : H1 p ≠ none) : TrAt (fun b => H b = none) H2 v t := x.weak fun _ h => f.free hp h
theorem letss_of {p : Nat → Prop} : ∀ {ts : List Tr}, (∀ t ∈ ts, t.lets p) → letss p ts
  | [], _ => trivial
  | t :: r, h => by
    simp only [letss]
    exact ⟨h t List.mem_cons_self, letss_of fun u hu => h u (List.mem_cons_of_mem _ hu)⟩
def sp__law_tree : Sp := fun vs H Q _ => ∃ (p : Addr) (n : Nat) (m : Nat) (L : Str), vs = [.ref p, .int m, .str L] ∧ Pool H p n ∧ n + 50000 < 1000000 ∧ 6 ≤ m ∧ m ≤ 100 ∧ Lets L ∧
  ∀ r t H', t.size ≤ m → t.depth ≤ 31 → t.lets (fun c => c ∈ L.cps.toList) → Fr p H H' → TrAt (fun b => H b = none) H' r t → Pool H' p (n + 50000) → Q r H'
section
variable {P : Program} {w : World} {K : PySem.W.Frag} {mg : Str → Option Value} {base : Heap}
theorem ok__law_tree (T : Txt K mg) : FnOk P w K mg base CX0 40 T.f__law_tree T.d__law_tree ["pool", "most", "letters"] sp__law_tree := by
  have G__law_take : FnOk P w K mg base CX0 1 T.f__law_take T.d__law_take ["pool", "many"] sp__law_take := ok__law_take T
  have G__law_grown : FnOk P w K mg base CX0 3 T.f__law_grown T.d__law_grown ["pool", "most", "letters"] sp__law_grown := ok__law_grown T
  have G__law_mixed_up : FnOk P w K mg base CX0 2 T.f__law_mixed_up T.d__law_mixed_up ["pool", "things"] (sp__law_mixed_up K) := ok__law_mixed_up T
  have G__law_shuffled : FnOk P w K mg base CX0 (32 + 2) T.f__law_shuffled T.d__law_shuffled ["pool", "tree"] (sp__law_shuffled 32) := ok__law_shuffled T 32
  refine T.F__law_tree.ok sc__law_tree (fun vs H Q E h => ?_) (fun cdv A outer s H vs Q E hr h => ?_)
  · obtain ⟨p, n, m, L, rfl, _⟩ := h
    rfl
  obtain ⟨p, n, m, L, rfl, hp, hn, hm0, hm1, hL, q⟩ := h
  refine ⟨_, (pss_cons (ps_if (pt_cmpR op_eq (pe_call G__law_take (hr.mono (by omega)) (by rfl) T.m__law_take T.F__law_take.kp T.b__law_take .nil pass0 (pa_cons (pv 0) (pa_cons pe_int pa_nil))) pe_int (nomark _)) (pss_one (ps_ret (pe_call G__law_grown (hr.mono (by omega)) (by rfl) T.m__law_grown T.F__law_grown.kp T.b__law_grown .nil pass0 (pa_cons (pv 0) (pa_cons (pv 1) (pa_cons (pv 2) pa_nil)))))) pss_nil) (pss_cons (ps_set (i := 3) sc__law_tree.nd rfl (Or.inl rfl) (pe_call G__law_grown (hr.mono (by omega)) (by rfl) T.m__law_grown T.F__law_grown.kp T.b__law_grown .nil pass0 (pa_cons (pv 0) (pa_cons (pe_op op_fdivW (pv 1) pe_int) (pa_cons (pv 2) pa_nil))))) (pss_cons (ps_set (i := 4) sc__law_tree.nd rfl (Or.inl rfl) (pe_call G__law_grown (hr.mono (by omega)) (by rfl) T.m__law_grown T.F__law_grown.kp T.b__law_grown .nil pass0 (pa_cons (pv 0) (pa_cons (pe_op op_sub (pe_op op_fdivW (pv 1) pe_int) pe_int) (pa_cons (pv 2) pa_nil))))) (pss_cons (ps_set (i := 5) sc__law_tree.nd rfl (Or.inl rfl) (pe_lst (pa_cons (pe_lst (pa_cons (pv 3) (pa_cons (pe_call G__law_shuffled (hr.mono (by omega)) (by rfl) T.m__law_shuffled T.F__law_shuffled.kp T.b__law_shuffled .nil pass0 (pa_cons (pv 0) (pa_cons (pv 3) pa_nil))) pa_nil))) (pa_cons (pe_lst (pa_cons (pv 3) (pa_cons (pv 4) (pa_cons (pe_call G__law_shuffled (hr.mono (by omega)) (by rfl) T.m__law_shuffled T.F__law_shuffled.kp T.b__law_shuffled .nil pass0 (pa_cons (pv 0) (pa_cons (pv 3) pa_nil))) pa_nil)))) (pa_cons (pe_lst (pa_cons (pv 4) (pa_cons (pv 3) (pa_cons (pv 3) pa_nil)))) pa_nil))))) (pss_one (ps_ret (pe_tup (pa_cons (pe_ix ix_str (pv 2) (pe_call G__law_take (hr.mono (by omega)) (by rfl) T.m__law_take T.F__law_take.kp T.b__law_take .nil pass0 (pa_cons (pv 0) (pa_cons (pe_callB call_len_str (by rfl) T.z_len PySem.boot_len (pa_cons (pv 2) pa_nil)) pa_nil))) (fun _ _ => rfl)) (pa_cons (pe_call G__law_mixed_up (hr.mono (by omega)) (by rfl) T.m__law_mixed_up T.F__law_mixed_up.kp T.b__law_mixed_up .nil pass0 (pa_cons (pv 0) (pa_cons (pe_ix ix_list (pv 5) (pe_call G__law_take (hr.mono (by omega)) (by rfl) T.m__law_take T.F__law_take.kp T.b__law_take .nil pass0 (pa_cons (pv 0) (pa_cons pe_int pa_nil))) (fun _ _ => rfl)) pa_nil))) pa_nil))))))))), ?_⟩
  have hps : H p ≠ none := hp.some
  have np : ∀ b, H b = none → b ≠ p := fun b h e => hps (by rw [← e]; exact h)
  refine ⟨_, rfl, p, 2, n, rfl, hp, by omega, by decide, by decide, fun r0 H1 a0 a1 c1 p1 => ⟨rfl, _, rfl, ?_⟩⟩
  have f1 : Fr p H H1 := Fr.chg c1
  refine ite2 (fun _ => ?_) (fun _ => ?_)
  · refine ⟨_, rfl, _, rfl, _, rfl, p, n + 1, m, L, rfl, p1, by omega, by omega, hm1, hL, fun r t H' z1 z2 z3 f T1 p2 => ?_⟩
    exact q r t H' z1 (by omega) z3 (f1.trans f) (T1.base f1 p1.some) (p2.mono (by omega))
  · refine ⟨_, rfl, _, rfl, m, 3, rfl, rfl, divW (by decide) (by decide), _, rfl, p, n + 1, m / 3, L, congrArg (fun z => [V.ref p, V.int z, V.str L]) (show (m : Int) / 3 = ((m / 3 : Nat) : Int) by omega), p1, by omega, by omega, by omega, hL, fun one t1 H2 z1 d1 l1 f2 T1 p2 => ?_⟩
    refine ⟨_, rfl, _, rfl, m, 3, rfl, rfl, divW (by decide) (by decide), (m : Int) / 3, 1, rfl, rfl, _, rfl, p, _, m / 3 - 1, L, congrArg (fun z => [V.ref p, V.int z, V.str L]) (show (m : Int) / 3 - 1 = ((m / 3 - 1 : Nat) : Int) by omega), p2, by omega, by omega, by omega, hL, fun other t2 H3 z2 d2 l2 f3 T2 p3 => ?_⟩
    have T1a := T1.base f1 p1.some
    have T2a := T2.base (f1.trans f2) p2.some
    have T1b := T1a.go hps f3
    refine ⟨_, rfl, _, rfl, _, rfl, p, _, one, t1, rfl, p3, by omega, T1b.weak fun _ _ => trivial, by omega, by omega, fun s1 u1 H4 sh1 f4 S1 p4 => ⟨(by show 2 ≤ sizeLine; decide), fun ra hra => ?_⟩⟩
    have S1a := S1.base ((f1.trans f2).trans f3) p3.some
    have p5 := p4.new (o := .lst [one, s1]) hra
    have f5 : Fr p H4 (upd H4 ra (.lst [one, s1])) := (Fr.refl p H4).new hra
    have F5 := (((f1.trans f2).trans f3).trans f4).trans f5
    have T1c := T1b.go hps (f4.trans f5)
    have e1 := sh1.size
    have e2 := sh1.depth
    refine ⟨_, rfl, _, rfl, _, rfl, _, rfl, p, _, one, t1, rfl, p5, by omega, T1c.weak fun _ _ => trivial, by omega, by omega, fun s2 u2 H6 sh2 f6 S2 p6 => ⟨(by show 3 ≤ sizeLine; decide), fun rb hrb => ?_⟩⟩
    have S2a := S2.base F5 p5.some
    have e3 := sh2.size
    have e4 := sh2.depth
    have p7 := p6.new (o := .lst [one, other, s2]) hrb
    have f7 : Fr p H6 (upd H6 rb (.lst [one, other, s2])) := (Fr.refl p H6).new hrb
    refine ⟨_, rfl, _, rfl, _, rfl, (by show 3 ≤ sizeLine; decide), fun rc hrc => ⟨(by show 3 ≤ sizeLine; decide), fun rr hrr => ?_⟩⟩
    have nab : H (ra) = none := (((f1.trans f2).trans f3).trans f4).free p4.some hra
    have nbb : H rb = none := (F5.trans f6).free p6.some hrb
    have p8 := (p7.new (o := .lst [other, one, one]) hrc).new (o := .lst [.ref ra, .ref rb, .ref rc]) hrr
    have f8 : Fr p (upd H6 rb (.lst [one, other, s2])) _ := ((Fr.refl p _).new (o := .lst [other, one, one]) hrc).trans ((Fr.refl p _).new (o := .lst [.ref ra, .ref rb, .ref rc]) hrr)
    have ncb : H rc = none := ((F5.trans f6).trans f7).free p7.some hrc
    have nrb : H rr = none := ((F5.trans f6).trans f7).free p7.some (by
      by_cases e : rr = rc
      · rw [e, upd_same] at hrr; cases hrr
      · rw [upd_ne e] at hrr; exact hrr)
    have nrc : rr ≠ rc := fun e => by rw [e, upd_same] at hrr; cases hrr
    have hLs : L.cps.toList.length = L.length := by
      show L.cps.toList.length = L.cps.size
      exact Array.length_toList
    refine ⟨_, rfl, _, rfl, _, rfl, L, rfl, Nat.le_trans hL.2.1 (by decide), p, _, _, rfl, p8, by omega, by have := hL.1; omega, by have := hL.2.1; omega, fun r H9 r0 r1 c9 p9 => ?_⟩
    obtain ⟨rn, rfl⟩ : ∃ rn : Nat, r = (rn : Int) := ⟨r.toNat, by omega⟩
    have hrn : rn < L.cps.toList.length := by rw [hLs]; omega
    obtain ⟨c, hc⟩ : ∃ c, L.cps.toList[rn]? = some c := ⟨_, List.getElem?_eq_getElem hrn⟩
    have cL := hL.2.2 c (List.mem_of_getElem? hc)
    refine ⟨L, rn, c, rfl, rfl, Nat.le_trans hL.2.1 (by decide), atI_nat hc, _, rfl, _, rfl, _, rfl, p, 3, _, rfl, p9, by omega, by decide, by decide, fun r' H10 b0 b1 c10 p10 => ?_⟩
    have f10 : Fr p (upd H6 rb (.lst [one, other, s2])) H10 := (f8.trans (Fr.chg c9)).trans (Fr.chg c10)
    have F10 := ((F5.trans f6).trans f7).trans f10
    have T1e := T1c.go hps ((f6.trans f7).trans f10)
    have T2e := T2a.go hps ((((f4.trans f5).trans f6).trans f7).trans f10)
    have S1e := S1a.go hps (((f5.trans f6).trans f7).trans f10)
    have S2e := S2a.go hps (f7.trans f10)
    have hrr10 : H10 rr = some (.lst [.ref ra, .ref rb, .ref rc]) := c10.at (c9.at upd_same (np _ nrb)) (np _ nrb)
    have hra10 : H10 ra = some (.lst [one, s1]) := ((f6.trans f7).trans f10) _ _ (np _ nab) upd_same
    have hrb10 : H10 rb = some (.lst [one, other, s2]) := f10 _ _ (np _ nbb) upd_same
    have hrc10 : H10 rc = some (.lst [other, one, one]) := c10.at (c9.at (by rw [upd_ne (fun e => nrc e.symm)]; exact upd_same) (np _ ncb)) (np _ ncb)
    have done : ∀ (x : Addr) (xs : List V) (ts : List Tr), H10 x = some (.lst xs) → TrsAt (fun b => H b = none) H10 xs ts → 1 + sizes ts ≤ m → depths ts ≤ 30 → letss (fun c => c ∈ L.cps.toList) ts → ts.length ≤ 3 →
        sp__law_mixed_up K [.ref p, .ref x] H10 (fun y H' => 2 ≤ sizeLine ∧ ∀ e, H' e = none → Q (.ref e) (upd H' e (.tup [.str (ch c), y]))) E0 := by
      intro x xs ts hx hts hz hdp hlt hln
      have hlen := hts.len
      refine ⟨p, x, _, xs, rfl, p10, by omega, SqL.of hx, fun H' f v hv => ?_, fun r ws H' pw r0 f11 hr' p11 => ⟨by decide, fun e he => ?_⟩⟩
      · obtain ⟨i, hi⟩ := List.getElem?_of_mem hv
        obtain ⟨t1, ht1, hx⟩ := (hts.go hps f).getV hi
        have dt := depths_mem (List.mem_of_getElem? ht1)
        exact datOk_tr hx (by omega)
      · obtain ⟨us, pu, hus⟩ := (hts.go hps f11).perm pw
        have zu := sizes_perm pu
        have du := depths_perm pu
        have nr0 : H r = none := F10.free p10.some r0
        have ne0 : H e = none := (F10.trans f11).free p11.some he
        refine q _ (.node c us) _ (by simp only [Tr.size]; omega) (by simp only [Tr.depth]; omega) ?_ ((F10.trans f11).new ne0) (.node upd_same (by rw [upd_ne (ne_of_none hr' he)]; exact hr') ne0 nr0 cL.1 cL.2 (hus.same (same_new he))) ((p11.new he).mono (by omega))
        simp only [Tr.lets]
        exact ⟨List.mem_of_getElem? hc, letss_perm pu hlt⟩
    obtain rfl | rfl | rfl : r' = 0 ∨ r' = 1 ∨ r' = 2 := by omega
    · refine ⟨rr, _, 0, .ref ra, rfl, rfl, SqL.of hrr10, at_of (j := 0) rfl rfl, done ra _ [t1, u1] hra10 (.cons T1e (.cons S1e .nil)) ?_ ?_ ?_ (by simp)⟩
      · simp only [sizes]; omega
      · simp only [depths]; omega
      · simp only [letss]; exact ⟨l1, sh1.lets l1, trivial⟩
    · refine ⟨rr, _, 1, .ref rb, rfl, rfl, SqL.of hrr10, at_of (j := 1) rfl rfl, done rb _ [t1, t2, u2] hrb10 (.cons T1e (.cons T2e (.cons S2e .nil))) ?_ ?_ ?_ (by simp)⟩
      · simp only [sizes]; omega
      · simp only [depths]; omega
      · simp only [letss]; exact ⟨l1, l2, sh2.lets l1, trivial⟩
    · refine ⟨rr, _, 2, .ref rc, rfl, rfl, SqL.of hrr10, at_of (j := 2) rfl rfl, done rc _ [t2, t1, t1] hrc10 (.cons T2e (.cons T1e (.cons T1e .nil))) ?_ ?_ ?_ (by simp)⟩
      · simp only [sizes]; omega
      · simp only [depths]; omega
      · simp only [letss]; exact ⟨l2, l1, l1, trivial⟩
end


theorem depthAll_of {n : Nat} : ∀ {ds : List PyData}, (∀ d ∈ ds, d.depth ≤ n) → PyData.depthAll ds ≤ n
  | [], _ => by simp only [PyData.depthAll]; omega
  | x :: r, h => by
    have a := h _ (List.mem_cons_self ..)
    have b := depthAll_of (n := n) fun d hd => h d (List.mem_cons_of_mem x hd)
    simp only [PyData.depthAll]
    omega
structure Pz (z : Addr) (H : Hp) (p : Addr) (n : Nat) : Prop where
  pl : Pool H p n
  hz : H z ≠ none
theorem Pz.some {z : Addr} {H : Hp} {p : Addr} {n : Nat} (h : Pz z H p n) : H p ≠ none := h.pl.some
theorem Pz.ne {z : Addr} {H : Hp} {p q : Addr} {n : Nat} (h : Pz z H p n) (e : H q = none) : q ≠ p ∧ q ≠ z := ⟨h.pl.ne' e, fun e2 => h.hz (by rw [← e2]; exact e)⟩
theorem Pz.keep {z : Addr} {H H' : Hp} {p : Addr} {n : Nat} (h : Pz z H p n) (s : Same H H') : Pz z H' p n := ⟨h.pl.keep s, fun e => by
  cases hh : H z with
  | none => exact h.hz hh
  | some o => rw [s _ _ hh] at e; cases e⟩
theorem Pz.go {z : Addr} {H H' : Hp} {p : Addr} {n m : Nat} (h : Pz z H p n) (f : Fr p H H') (d : Pool H' p m) : Pz z H' p m := ⟨d, fun e => by
  cases hh : H z with
  | none => exact h.hz hh
  | some o =>
    by_cases hzp : z = p
    · rw [hzp] at e; exact d.some e
    · rw [f _ _ hzp hh] at e; cases e⟩
structure S0 (N D : Nat) (d : PyData) : Prop where
  fine : fine0 d = true
  cn : cnt d ≤ N
  dp : d.depth ≤ D
theorem S0.mono {N D N' D' : Nat} {d : PyData} (h : S0 N D d) (a : N ≤ N') (b : D ≤ D') : S0 N' D' d := ⟨h.fine, Nat.le_trans h.cn a, Nat.le_trans h.dp b⟩
section
variable {ok : Addr → Prop} {H : Hp}
theorem DtAll.hd {v : V} {vs : List V} {d : PyData} {ds : List PyData} (h : DtAll ok H (v :: vs) (d :: ds)) : Dt ok H v d := by cases h with | cons a b => exact a
theorem DtAll.tl {v : V} {vs : List V} {d : PyData} {ds : List PyData} (h : DtAll ok H (v :: vs) (d :: ds)) : DtAll ok H vs ds := by cases h with | cons a b => exact b
end
def signsA : Str := Str.ofString " !\"#$&'()*+,-./0123456789:;<=>?@ABCDEFGHIJKLMNOPQRSTUVWXYZ[\\]^_`"
def signsB : Str := Str.ofString "abcdefghijklmnopqrstuvwxyz{|}~\t\n"
def signsS : Str := signsA ++ signsB
theorem signs_len : signsS.length = 96 := by decide +kernel
theorem signs_ok : signsS.cps.toList.all (fun c => decide (c ≤ 126)) = true := by decide +kernel
/-@lem-/
theorem ch_fine {c : Nat} (h : c ≤ 126) : fine0 (.str (ch c)) = true := by
  simp only [fine0, Bool.and_eq_true, decide_eq_true_eq]
  refine ⟨?_, by show 1 ≤ 10; decide⟩
  unfold PyData.strOk ch
  simp
  omega
theorem ch2_fine {a b : Nat} (h : a ≤ 126) (h2 : b ≤ 126) : fine0 (.str (ch a ++ ch b)) = true := by
  simp only [fine0, Bool.and_eq_true, decide_eq_true_eq]
  refine ⟨?_, by show 2 ≤ 10; decide⟩
  show PyData.strOk (⟨#[a, b]⟩ : Str) = true
  unfold PyData.strOk
  simp
  omega
theorem odd_letters {c cc : Nat} (hc : c ≤ 122) (hsc : cc ≤ 126) : ∀ d ∈ ([.str ⟨#[cc]⟩, .str ⟨#[cc]⟩, .str (ch c ++ ⟨#[cc]⟩), .str (⟨#[cc]⟩ ++ ch c), .str (Str.ofString ""), .none, .int 1, .bool true, .list [.str (ch c)], .tuple [.str (ch c)], .dict [], .str (ch c ++ ch c)] : List PyData), S0 2 1 d := by
  intro d hd
  simp only [List.mem_cons, List.not_mem_nil, or_false] at hd
  rcases hd with rfl | rfl | rfl | rfl | rfl | rfl | rfl | rfl | rfl | rfl | rfl | rfl
  · exact ⟨ch_fine hsc, by simp only [cnt]; omega, by simp only [PyData.depth]; omega⟩
  · exact ⟨ch_fine hsc, by simp only [cnt]; omega, by simp only [PyData.depth]; omega⟩
  · exact ⟨ch2_fine (by omega) hsc, by simp only [cnt]; omega, by simp only [PyData.depth]; omega⟩
  · exact ⟨ch2_fine hsc (by omega), by simp only [cnt]; omega, by simp only [PyData.depth]; omega⟩
  · exact ⟨by decide +kernel, by simp only [cnt]; omega, by simp only [PyData.depth]; omega⟩
  · exact ⟨by simp only [fine0], by simp only [cnt]; omega, by simp only [PyData.depth]; omega⟩
  · exact ⟨by simp only [fine0]; decide, by simp only [cnt]; omega, by simp only [PyData.depth]; omega⟩
  · exact ⟨by simp only [fine0], by simp only [cnt]; omega, by simp only [PyData.depth]; omega⟩
  · exact ⟨by rw [fine0]; simp only [fine0s, ch_fine (show c ≤ 126 by omega), Bool.and_self], by simp only [cnt, cntAll]; omega, by simp only [PyData.depth, PyData.depthAll]; omega⟩
  · exact ⟨by rw [fine0]; simp only [fine0s, ch_fine (show c ≤ 126 by omega), Bool.and_self], by simp only [cnt, cntAll]; omega, by simp only [PyData.depth, PyData.depthAll]; omega⟩
  · exact ⟨by simp only [fine0, List.isEmpty_nil], by simp only [cnt]; omega, by simp only [PyData.depth, PyData.depthKv]; omega⟩
  · exact ⟨ch2_fine (by omega) (by omega), by simp only [cnt]; omega, by simp only [PyData.depth]; omega⟩
theorem ins_sm {ks : List PyData} {k : Nat} {x : PyData} (hf : fine0s ks = true) (hx : fine0 x = true) (h1 : cnt x ≤ 1) (h2 : x.depth ≤ 1) : S0 (cntAll ks + 2) (PyData.depthAll ks + 2) (.list (ks.take k ++ [x] ++ ks.drop k)) := by
  have hm : ∀ y ∈ ks.take k ++ [x] ++ ks.drop k, y ∈ ks ∨ y = x := fun y hy => by
    rcases List.mem_append.mp hy with hy | hy
    · rcases List.mem_append.mp hy with hy | hy
      · exact .inl (List.mem_of_mem_take hy)
      · exact .inr (List.mem_singleton.mp hy)
    · exact .inl (List.mem_of_mem_drop hy)
  have hs := cntAll_app (ks.take k) (ks.drop k)
  rw [List.take_append_drop] at hs
  refine ⟨?_, ?_, ?_⟩
  · simp only [fine0]
    exact fine0s_of fun y hy => (hm y hy).elim (fine0s_mem hf) fun e => by rw [e]; exact hx
  · simp only [cnt, cntAll_app, cntAll]
    omega
  · have : PyData.depthAll (ks.take k ++ [x] ++ ks.drop k) ≤ PyData.depthAll ks + 1 := depthAll_of fun y hy => (hm y hy).elim (fun h => by have := depthAll_mem h; omega) fun e => by rw [e]; omega
    simp only [PyData.depth]
    omega
theorem odd_lists {c k : Nat} {ks : List PyData} (hc : c ≤ 122) (hf : fine0s ks = true) : ∀ d ∈ (([.tuple ks, .none, .str (Str.ofString ""), .dict [], .list (ks.take k ++ [.none] ++ ks.drop k)] ++ [.list (ks.take k ++ [.list []] ++ ks.drop k), .list (ks.take k ++ [.str (ch c)] ++ ks.drop k)]) ++ [.list (ks.take k ++ [.tuple []] ++ ks.drop k), .int 0, .str (ch c)] : List PyData), S0 (cntAll ks + 2) (PyData.depthAll ks + 2) d := by
  intro d hd
  simp only [List.mem_append, List.mem_cons, List.not_mem_nil, or_false] at hd
  rcases hd with ((rfl | rfl | rfl | rfl | rfl) | (rfl | rfl)) | (rfl | rfl | rfl)
  · exact ⟨by simp only [fine0]; exact hf, by simp only [cnt]; omega, by simp only [PyData.depth]; omega⟩
  · exact ⟨by simp only [fine0], by simp only [cnt]; omega, by simp only [PyData.depth]; omega⟩
  · exact ⟨by decide +kernel, by simp only [cnt]; omega, by simp only [PyData.depth]; omega⟩
  · exact ⟨by simp only [fine0, List.isEmpty_nil], by simp only [cnt]; omega, by simp only [PyData.depth, PyData.depthKv]; omega⟩
  · exact ins_sm hf (by simp only [fine0]) (by simp only [cnt]; omega) (by simp only [PyData.depth]; omega)
  · exact ins_sm hf (by simp only [fine0, fine0s]) (by simp only [cnt, cntAll]; omega) (by simp only [PyData.depth, PyData.depthAll]; omega)
  · exact ins_sm hf (ch_fine (by omega)) (by simp only [cnt]; omega) (by simp only [PyData.depth]; omega)
  · exact ins_sm hf (by simp only [fine0, fine0s]) (by simp only [cnt, cntAll]; omega) (by simp only [PyData.depth, PyData.depthAll]; omega)
  · exact ⟨by simp only [fine0]; decide, by simp only [cnt]; omega, by simp only [PyData.depth]; omega⟩
  · exact ⟨ch_fine (by omega), by simp only [cnt]; omega, by simp only [PyData.depth]; omega⟩
theorem odd_rows {c : Nat} {ks : List PyData} {e1 e2 : PyData} (hc : c ≤ 122) (hf : fine0s ks = true) (h1 : S0 2 1 e1) (h2 : S0 (cntAll ks + 2) (PyData.depthAll ks + 2) e2) : ∀ d ∈ ([.tuple [e1, .list ks], .tuple [e1, .list ks], .tuple [e1, .list ks], .tuple [e1, .list ks], .tuple [e1, .list ks], .tuple [.str (ch c), e2], .tuple [.str (ch c), e2], .tuple [.str (ch c), e2], .tuple [.str (ch c), e2], .tuple [.str (ch c), e2], .list [.str (ch c), .list ks], .tuple [.str (ch c)], .tuple [.str (ch c), .list ks, .int 0], .tuple [.list ks, .str (ch c)], .none, .str (ch c), .list ks, .tuple [], .bool true, .tuple [.str (ch c), .list ks, .list ks]] : List PyData), S0 (2 * cntAll ks + 20) (PyData.depthAll ks + 5) d := by
  have hl : fine0 (.list ks) = true := by simp only [fine0]; exact hf
  have hcf := ch_fine (show c ≤ 126 by omega)
  have a1 := h1.cn
  have a2 := h2.cn
  have b1 := h1.dp
  have b2 := h2.dp
  have i1 : S0 (2 * cntAll ks + 20) (PyData.depthAll ks + 5) (.tuple [e1, .list ks]) := ⟨by rw [fine0]; simp only [fine0s, h1.fine, hl, Bool.and_self], by simp only [cnt, cntAll]; omega, by simp only [PyData.depth, PyData.depthAll]; omega⟩
  have i2 : S0 (2 * cntAll ks + 20) (PyData.depthAll ks + 5) (.tuple [.str (ch c), e2]) := ⟨by rw [fine0]; simp only [fine0s, h2.fine, hcf, Bool.and_self], by simp only [cnt, cntAll]; omega, by simp only [PyData.depth, PyData.depthAll]; omega⟩
  intro d hd
  simp only [List.mem_cons, List.not_mem_nil, or_false] at hd
  rcases hd with rfl | rfl | rfl | rfl | rfl | rfl | rfl | rfl | rfl | rfl | rfl | rfl | rfl | rfl | rfl | rfl | rfl | rfl | rfl | rfl
  · exact i1
  · exact i1
  · exact i1
  · exact i1
  · exact i1
  · exact i2
  · exact i2
  · exact i2
  · exact i2
  · exact i2
  · exact ⟨by rw [fine0]; simp only [fine0s, hl, hcf, Bool.and_self], by simp only [cnt, cntAll]; omega, by simp only [PyData.depth, PyData.depthAll]; omega⟩
  · exact ⟨by rw [fine0]; simp only [fine0s, hcf, Bool.and_self], by simp only [cnt, cntAll]; omega, by simp only [PyData.depth, PyData.depthAll]; omega⟩
  · exact ⟨by rw [fine0]; simp only [fine0s, hl, hcf, Bool.true_and, Bool.and_true]; simp only [fine0]; decide, by simp only [cnt, cntAll]; omega, by simp only [PyData.depth, PyData.depthAll]; omega⟩
  · exact ⟨by rw [fine0]; simp only [fine0s, hl, hcf, Bool.and_self], by simp only [cnt, cntAll]; omega, by simp only [PyData.depth, PyData.depthAll]; omega⟩
  · exact ⟨by simp only [fine0], by simp only [cnt]; omega, by simp only [PyData.depth]; omega⟩
  · exact ⟨hcf, by simp only [cnt]; omega, by simp only [PyData.depth]; omega⟩
  · exact ⟨hl, by simp only [cnt]; omega, by simp only [PyData.depth]; omega⟩
  · exact ⟨by simp only [fine0, fine0s], by simp only [cnt, cntAll]; omega, by simp only [PyData.depth, PyData.depthAll]; omega⟩
  · exact ⟨by simp only [fine0], by simp only [cnt]; omega, by simp only [PyData.depth]; omega⟩
  · exact ⟨by rw [fine0]; simp only [fine0s, hl, hcf, Bool.and_self], by simp only [cnt, cntAll]; omega, by simp only [PyData.depth, PyData.depthAll]; omega⟩
/-@-/
def sp__law_odd : Sp := fun vs H Q _ => ∃ (p z : Addr) (n : Nat) (v : V) (c : Nat) (ks : List PyData), vs = [.ref p, v] ∧ Pz z H p n ∧ n + 100 < 1000000 ∧ Dt (fun b => b ≠ p ∧ b ≠ z) H v (.tuple [.str (ch c), .list ks]) ∧ c ≤ 122 ∧ ks.length ≤ 500 ∧ fine0s ks = true ∧
  ∀ r d H', Fr p H H' → Pool H' p (n + 10) → Dt (fun b => b ≠ p ∧ b ≠ z) H' r d → S0 (2 * cntAll ks + 20) (PyData.depthAll ks + 5) d → Q r H'
section
variable {P : Program} {w : World} {K : PySem.W.Frag} {mg : Str → Option Value} {base : Heap}
theorem ok__law_odd (T : Txt K mg) : FnOk P w K mg base CX0 2 T.f__law_odd T.d__law_odd ["pool", "tree"] sp__law_odd := by
  have G__law_take : FnOk P w K mg base CX0 1 T.f__law_take T.d__law_take ["pool", "many"] sp__law_take := ok__law_take T
  refine T.F__law_odd.ok sc__law_odd (fun vs H Q E h => ?_) (fun cdv A outer s H vs Q E hr h => ?_)
  · obtain ⟨p, z, n, v, c, ks, rfl, _⟩ := h
    rfl
  obtain ⟨p, z, n, v, c, ks, rfl, hp, hn, ht, hc, hks, hf, q⟩ := h
  refine ⟨_, (pss_cons (ps_asg (pv 1) (pg_tup rfl (pgs_cons (pg_name (i := 2) sc__law_odd.nd rfl (Or.inl rfl)) (pgs_cons (pg_name (i := 3) sc__law_odd.nd rfl (Or.inl rfl)) pgs_nil)))) (pss_cons (ps_set (i := 4) sc__law_odd.nd rfl (Or.inl rfl) pe_str) (pss_cons (ps_set (i := 4) sc__law_odd.nd rfl (Or.inl rfl) (pe_op op_add_str (pv 4) pe_str)) (pss_cons (ps_set (i := 5) sc__law_odd.nd rfl (Or.inl rfl) (pe_ix ix_str (pv 4) (pe_call G__law_take (hr.mono (by omega)) (by rfl) T.m__law_take T.F__law_take.kp T.b__law_take .nil pass0 (pa_cons (pv 0) (pa_cons (pe_callB call_len_str (by rfl) T.z_len PySem.boot_len (pa_cons (pv 4) pa_nil)) pa_nil))) (fun _ _ => rfl))) (pss_cons (ps_set (i := 6) sc__law_odd.nd rfl (Or.inl rfl) (pe_call G__law_take (hr.mono (by omega)) (by rfl) T.m__law_take T.F__law_take.kp T.b__law_take .nil pass0 (pa_cons (pv 0) (pa_cons (pe_op op_add (pe_callB call_len_seq (by rfl) T.z_len PySem.boot_len (pa_cons (pv 3) pa_nil)) pe_int) pa_nil)))) (pss_cons (ps_set (i := 7) sc__law_odd.nd rfl (Or.inl rfl) (pe_lst (pa_cons (pv 5) (pa_cons (pv 5) (pa_cons (pe_op op_add_str (pv 2) (pv 5)) (pa_cons (pe_op op_add_str (pv 5) (pv 2)) (pa_cons pe_str (pa_cons pe_non (pa_cons pe_int (pa_cons pe_bl (pa_cons (pe_lst (pa_cons (pv 2) pa_nil)) (pa_cons (pe_tup (pa_cons (pv 2) pa_nil)) (pa_cons pe_dnewK (pa_cons (pe_op op_add_str (pv 2) (pv 2)) pa_nil)))))))))))))) (pss_cons (ps_set (i := 8) sc__law_odd.nd rfl (Or.inl rfl) (pe_lst (pa_cons (pe_callTy call_tuple_of (by rfl) T.z_tuple (by decide +kernel) (pa_cons (pv 3) pa_nil)) (pa_cons pe_non (pa_cons pe_str (pa_cons pe_dnewK (pa_cons (pe_op op_cat (pe_op op_cat (pe_slice sl_list (pv 3) po_none (po_some (pv 6))) (pe_lst (pa_cons pe_non pa_nil))) (pe_slice sl_list (pv 3) (po_some (pv 6)) po_none)) pa_nil))))))) (pss_cons (ps_set (i := 8) sc__law_odd.nd rfl (Or.inl rfl) (pe_op op_cat (pv 8) (pe_lst (pa_cons (pe_op op_cat (pe_op op_cat (pe_slice sl_list (pv 3) po_none (po_some (pv 6))) (pe_lst (pa_cons (pe_lst pa_nil) pa_nil))) (pe_slice sl_list (pv 3) (po_some (pv 6)) po_none)) (pa_cons (pe_op op_cat (pe_op op_cat (pe_slice sl_list (pv 3) po_none (po_some (pv 6))) (pe_lst (pa_cons (pv 2) pa_nil))) (pe_slice sl_list (pv 3) (po_some (pv 6)) po_none)) pa_nil))))) (pss_cons (ps_set (i := 8) sc__law_odd.nd rfl (Or.inl rfl) (pe_op op_cat (pv 8) (pe_lst (pa_cons (pe_op op_cat (pe_op op_cat (pe_slice sl_list (pv 3) po_none (po_some (pv 6))) (pe_lst (pa_cons (pe_tup pa_nil) pa_nil))) (pe_slice sl_list (pv 3) (po_some (pv 6)) po_none)) (pa_cons pe_int (pa_cons (pv 2) pa_nil)))))) (pss_cons (ps_set (i := 9) sc__law_odd.nd rfl (Or.inl rfl) (pe_op op_cat (pe_op op_rep (pe_lst (pa_cons (pe_tup (pa_cons (pe_ix ix_list (pv 7) (pe_call G__law_take (hr.mono (by omega)) (by rfl) T.m__law_take T.F__law_take.kp T.b__law_take .nil pass0 (pa_cons (pv 0) (pa_cons pe_int pa_nil))) (fun _ _ => rfl)) (pa_cons (pv 3) pa_nil))) pa_nil)) pe_int) (pe_op op_rep (pe_lst (pa_cons (pe_tup (pa_cons (pv 2) (pa_cons (pe_ix ix_list (pv 8) (pe_call G__law_take (hr.mono (by omega)) (by rfl) T.m__law_take T.F__law_take.kp T.b__law_take .nil pass0 (pa_cons (pv 0) (pa_cons pe_int pa_nil))) (fun _ _ => rfl)) pa_nil))) pa_nil)) pe_int))) (pss_cons (ps_set (i := 9) sc__law_odd.nd rfl (Or.inl rfl) (pe_op op_cat (pv 9) (pe_lst (pa_cons (pe_lst (pa_cons (pv 2) (pa_cons (pv 3) pa_nil))) (pa_cons (pe_tup (pa_cons (pv 2) pa_nil)) (pa_cons (pe_tup (pa_cons (pv 2) (pa_cons (pv 3) (pa_cons pe_int pa_nil)))) (pa_cons (pe_tup (pa_cons (pv 3) (pa_cons (pv 2) pa_nil))) (pa_cons pe_non (pa_cons (pv 2) (pa_cons (pv 3) pa_nil)))))))))) (pss_one (ps_ret (pe_ix ix_list (pe_op op_cat (pv 9) (pe_lst (pa_cons (pe_tup pa_nil) (pa_cons pe_bl (pa_cons (pe_tup (pa_cons (pv 2) (pa_cons (pv 3) (pa_cons (pv 3) pa_nil)))) pa_nil))))) (pe_call G__law_take (hr.mono (by omega)) (by rfl) T.m__law_take T.F__law_take.kp T.b__law_take .nil pass0 (pa_cons (pv 0) (pa_cons pe_int pa_nil))) (fun _ _ => rfl))))))))))))))), ?_⟩
  cases ht with
  | @tup a xs _ e na _ r =>
  cases r with
  | cons r0 r1 =>
  cases r1 with
  | cons r2 r3 =>
  cases r3
  cases r0
  cases r2 with
  | @lst l ys _ el nl hyl rk =>
  have ly := rk.len
  refine ⟨_, rfl, a, _, rfl, SqT.of e, rfl, _, _, rfl, _, _, rfl, rfl, ?_⟩
  refine ⟨_, rfl, signsA, signsB, rfl, rfl, by decide +kernel, ?_⟩
  refine ⟨_, rfl, _, rfl, _, rfl, signsS, rfl, by decide +kernel, p, (signsS.length : Int), n, rfl, hp.pl, by omega, by rw [signs_len]; decide, by rw [signs_len]; decide, fun si H1 s0 s1 c1 p1 => ?_⟩
  have hsi : si.toNat < signsS.cps.toList.length := by
    have : signsS.cps.toList.length = signsS.length := by simp [Str.length]
    omega
  have hat : atI signsS.cps.toList si = some (signsS.cps.toList[si.toNat]) := by
    have h := atI_nat (xs := signsS.cps.toList) (j := si.toNat) (List.getElem?_eq_getElem hsi)
    rw [show ((si.toNat : Nat) : Int) = si by omega] at h
    exact h
  have hsc : signsS.cps.toList[si.toNat] ≤ 126 := by
    have := List.all_eq_true.mp signs_ok _ (List.getElem_mem hsi)
    exact of_decide_eq_true this
  generalize signsS.cps.toList[si.toNat] = cc at *
  refine ⟨signsS, si, cc, rfl, rfl, by decide +kernel, hat, ?_⟩
  have f1 : Fr p H H1 := Fr.chg c1
  have P1 := hp.go f1 p1
  have el1 := f1 _ _ nl.1 el
  refine ⟨_, rfl, _, rfl, l, ys, rfl, .inl (SqL.of el1), _, _, rfl, rfl, p, (ys.length : Int) + 1, n + 1, rfl, p1, (show n + 1 < 1000000 by omega), (show (0 : Int) < (ys.length : Int) + 1 by omega), (show (ys.length : Int) + 1 < 2 ^ 60 by omega), fun at1 H2 a0 a1 c2 p2 => ?_⟩
  have f2 : Fr p H H2 := f1.trans (Fr.chg c2)
  have P2 := P1.go (Fr.chg c2) p2
  obtain ⟨k, hk⟩ : ∃ k : Nat, at1 = (k : Int) := ⟨at1.toNat, by omega⟩
  have hky : k ≤ ys.length := by omega
  have tl : ∀ a b : Nat, ((⟨#[a]⟩ : Str).length + (⟨#[b]⟩ : Str).length) ≤ sizeLine := fun a b => by show 2 ≤ sizeLine; decide
  have cutA : cutV ys none (some at1) = ys.take k := by rw [hk]; exact cut_hi hky
  have cutB : cutV ys (some at1) none = ys.drop k := by rw [hk]; exact cut_lo hky
  have hy5 : ys.length ≤ 500 := by omega
  have lenA : (ys.take k).length + 1 ≤ sizeLine := Nat.le_trans (show _ ≤ 1000 by rw [List.length_take]; omega) (by decide)
  have lenB : ∀ x : V, (ys.take k ++ [x]).length + (ys.drop k).length ≤ sizeLine := fun x => Nat.le_trans (show _ ≤ 1000 by rw [List.length_append, List.length_take, List.length_drop, List.length_singleton]; omega) (by decide)
  have lenC : ∀ x : V, (ys.take k ++ [x] ++ ys.drop k).length ≤ 1000 := fun x => by rw [List.length_append, List.length_append, List.length_take, List.length_drop, List.length_singleton]; omega
/-@body-/
  have k_l := f2 _ _ nl.1 el
  have C : DtAll (fun b => b ≠ p ∧ b ≠ z) H2 ys ks := rk.keep fun b o h e => f2 b o h.1 e
  refine ⟨_, rfl, _, rfl, _, rfl, _, rfl, _, _, rfl, rfl, tl _ _, _, rfl, _, rfl, _, _, rfl, rfl, tl _ _, _, rfl, (by show 1 ≤ sizeLine; decide), fun b1 h_b1 => ?_⟩
  have s := same_new h_b1 (o := .lst [V.str (ch c)])
  have k_b1 := upd_same (H := H2) (a := b1) (o := .lst [V.str (ch c)])
  have n_b1 := P2.ne h_b1
  replace k_l := s _ _ k_l
  replace C := C.same s
  replace P2 := P2.keep s
  replace f2 := f2.trans (Fr.same s)
  generalize upd H2 b1 (.lst [V.str (ch c)]) = H3 at *
  have i1 : Dt (fun b => b ≠ p ∧ b ≠ z) H3 (.ref b1) (.list [.str (ch c)]) := .lst k_b1 n_b1 (by simp) (.cons (.str _) .nil)
  refine ⟨_, rfl, (by show 1 ≤ sizeLine; decide), fun b2 h_b2 => ?_⟩
  have s := same_new h_b2 (o := .tup [V.str (ch c)])
  have k_b2 := upd_same (H := H3) (a := b2) (o := .tup [V.str (ch c)])
  have n_b2 := P2.ne h_b2
  replace k_l := s _ _ k_l
  replace C := C.same s
  replace i1 := i1.same s
  replace P2 := P2.keep s
  replace f2 := f2.trans (Fr.same s)
  generalize upd H3 b2 (.tup [V.str (ch c)]) = H4 at *
  have i2 : Dt (fun b => b ≠ p ∧ b ≠ z) H4 (.ref b2) (.tuple [.str (ch c)]) := .tup k_b2 n_b2 (by simp) (.cons (.str _) .nil)
  refine fun b3 h_b3 => ?_
  have s := same_new h_b3 (o := .dK [])
  have k_b3 := upd_same (H := H4) (a := b3) (o := .dK [])
  have n_b3 := P2.ne h_b3
  replace k_l := s _ _ k_l
  replace C := C.same s
  replace i1 := i1.same s
  replace i2 := i2.same s
  replace P2 := P2.keep s
  replace f2 := f2.trans (Fr.same s)
  generalize upd H4 b3 (.dK []) = H5 at *
  have i3 : Dt (fun b => b ≠ p ∧ b ≠ z) H5 (.ref b3) (.dict []) := .dic k_b3 n_b3
  refine ⟨_, rfl, _, rfl, _, _, rfl, rfl, tl _ _, (by show 12 ≤ sizeLine; decide), fun LL h_LL => ?_⟩
  have s := same_new h_LL (o := .lst [V.str ⟨#[cc]⟩, V.str ⟨#[cc]⟩, V.str (ch c ++ ⟨#[cc]⟩), V.str (⟨#[cc]⟩ ++ ch c), V.str (Str.ofString ""), V.non, V.int 1, V.bl true, V.ref b1, V.ref b2, V.ref b3, V.str (ch c ++ ch c)])
  have k_LL := upd_same (H := H5) (a := LL) (o := .lst [V.str ⟨#[cc]⟩, V.str ⟨#[cc]⟩, V.str (ch c ++ ⟨#[cc]⟩), V.str (⟨#[cc]⟩ ++ ch c), V.str (Str.ofString ""), V.non, V.int 1, V.bl true, V.ref b1, V.ref b2, V.ref b3, V.str (ch c ++ ch c)])
  have n_LL := P2.ne h_LL
  replace k_l := s _ _ k_l
  replace C := C.same s
  replace i1 := i1.same s
  replace i2 := i2.same s
  replace i3 := i3.same s
  replace P2 := P2.keep s
  replace f2 := f2.trans (Fr.same s)
  generalize upd H5 LL (.lst [V.str ⟨#[cc]⟩, V.str ⟨#[cc]⟩, V.str (ch c ++ ⟨#[cc]⟩), V.str (⟨#[cc]⟩ ++ ch c), V.str (Str.ofString ""), V.non, V.int 1, V.bl true, V.ref b1, V.ref b2, V.ref b3, V.str (ch c ++ ch c)]) = H6 at *
  have AL : DtAll (fun b => b ≠ p ∧ b ≠ z) H6 [V.str ⟨#[cc]⟩, V.str ⟨#[cc]⟩, V.str (ch c ++ ⟨#[cc]⟩), V.str (⟨#[cc]⟩ ++ ch c), V.str (Str.ofString ""), V.non, V.int 1, V.bl true, V.ref b1, V.ref b2, V.ref b3, V.str (ch c ++ ch c)] [.str ⟨#[cc]⟩, .str ⟨#[cc]⟩, .str (ch c ++ ⟨#[cc]⟩), .str (⟨#[cc]⟩ ++ ch c), .str (Str.ofString ""), .none, .int 1, .bool true, .list [.str (ch c)], .tuple [.str (ch c)], .dict [], .str (ch c ++ ch c)] := .cons (.str _) (.cons (.str _) (.cons (.str _) (.cons (.str _) (.cons (.str _) (.cons .non (.cons (.int _) (.cons (.bl _) (.cons i1 (.cons i2 (.cons i3 (.cons (.str _) .nil)))))))))))
  refine ⟨_, rfl, l, _, rfl, .inl ⟨SqL.of k_l, fun b4 h_b4 => ?_⟩⟩
  have s := same_new h_b4 (o := .tup ys)
  have k_b4 := upd_same (H := H6) (a := b4) (o := .tup ys)
  have n_b4 := P2.ne h_b4
  replace k_l := s _ _ k_l
  replace k_LL := s _ _ k_LL
  replace C := C.same s
  replace AL := AL.same s
  replace P2 := P2.keep s
  replace f2 := f2.trans (Fr.same s)
  generalize upd H6 b4 (.tup ys) = H7 at *
  have i4 : Dt (fun b => b ≠ p ∧ b ≠ z) H7 (.ref b4) (.tuple ks) := .tup k_b4 n_b4 hyl C
  refine fun b5 h_b5 => ?_
  have s := same_new h_b5 (o := .dK [])
  have k_b5 := upd_same (H := H7) (a := b5) (o := .dK [])
  have n_b5 := P2.ne h_b5
  replace k_l := s _ _ k_l
  replace k_LL := s _ _ k_LL
  replace C := C.same s
  replace AL := AL.same s
  replace i4 := i4.same s
  replace P2 := P2.keep s
  replace f2 := f2.trans (Fr.same s)
  generalize upd H7 b5 (.dK []) = H8 at *
  have i5 : Dt (fun b => b ≠ p ∧ b ≠ z) H8 (.ref b5) (.dict []) := .dic k_b5 n_b5
  refine ⟨_, rfl, _, rfl, at1, rfl, l, _, rfl, SqL.of k_l, fun q11 h_q11 => ?_⟩
  rw [cutA]
  have s := same_new h_q11 (o := .lst (ys.take k))
  have k_q11 := upd_same (H := H8) (a := q11) (o := .lst (ys.take k))
  have n_q11 := P2.ne h_q11
  replace k_l := s _ _ k_l
  replace k_LL := s _ _ k_LL
  replace C := C.same s
  replace AL := AL.same s
  replace i4 := i4.same s
  replace i5 := i5.same s
  replace P2 := P2.keep s
  replace f2 := f2.trans (Fr.same s)
  generalize upd H8 q11 (.lst (ys.take k)) = H9 at *
  refine ⟨(by show 1 ≤ sizeLine; decide), fun q12 h_q12 => ?_⟩
  have s := same_new h_q12 (o := .lst [V.non])
  have k_q12 := upd_same (H := H9) (a := q12) (o := .lst [V.non])
  have n_q12 := P2.ne h_q12
  replace k_l := s _ _ k_l
  replace k_LL := s _ _ k_LL
  replace k_q11 := s _ _ k_q11
  replace C := C.same s
  replace AL := AL.same s
  replace i4 := i4.same s
  replace i5 := i5.same s
  replace P2 := P2.keep s
  replace f2 := f2.trans (Fr.same s)
  generalize upd H9 q12 (.lst [V.non]) = H10 at *
  refine ⟨q11, q12, _, _, rfl, rfl, k_q11, k_q12, lenA, fun q13 h_q13 => ?_⟩
  have s := same_new h_q13 (o := .lst (ys.take k ++ [V.non]))
  have k_q13 := upd_same (H := H10) (a := q13) (o := .lst (ys.take k ++ [V.non]))
  have n_q13 := P2.ne h_q13
  replace k_l := s _ _ k_l
  replace k_LL := s _ _ k_LL
  replace k_q11 := s _ _ k_q11
  replace k_q12 := s _ _ k_q12
  replace C := C.same s
  replace AL := AL.same s
  replace i4 := i4.same s
  replace i5 := i5.same s
  replace P2 := P2.keep s
  replace f2 := f2.trans (Fr.same s)
  generalize upd H10 q13 (.lst (ys.take k ++ [V.non])) = H11 at *
  refine ⟨_, rfl, _, rfl, at1, rfl, l, _, rfl, SqL.of k_l, fun q14 h_q14 => ?_⟩
  rw [cutB]
  have s := same_new h_q14 (o := .lst (ys.drop k))
  have k_q14 := upd_same (H := H11) (a := q14) (o := .lst (ys.drop k))
  have n_q14 := P2.ne h_q14
  replace k_l := s _ _ k_l
  replace k_LL := s _ _ k_LL
  replace k_q11 := s _ _ k_q11
  replace k_q12 := s _ _ k_q12
  replace k_q13 := s _ _ k_q13
  replace C := C.same s
  replace AL := AL.same s
  replace i4 := i4.same s
  replace i5 := i5.same s
  replace P2 := P2.keep s
  replace f2 := f2.trans (Fr.same s)
  generalize upd H11 q14 (.lst (ys.drop k)) = H12 at *
  refine ⟨q13, q14, _, _, rfl, rfl, k_q13, k_q14, lenB _, fun q15 h_q15 => ?_⟩
  have s := same_new h_q15 (o := .lst (ys.take k ++ [V.non] ++ ys.drop k))
  have k_q15 := upd_same (H := H12) (a := q15) (o := .lst (ys.take k ++ [V.non] ++ ys.drop k))
  have n_q15 := P2.ne h_q15
  replace k_l := s _ _ k_l
  replace k_LL := s _ _ k_LL
  replace k_q11 := s _ _ k_q11
  replace k_q12 := s _ _ k_q12
  replace k_q13 := s _ _ k_q13
  replace k_q14 := s _ _ k_q14
  replace C := C.same s
  replace AL := AL.same s
  replace i4 := i4.same s
  replace i5 := i5.same s
  replace P2 := P2.keep s
  replace f2 := f2.trans (Fr.same s)
  generalize upd H12 q15 (.lst (ys.take k ++ [V.non] ++ ys.drop k)) = H13 at *
  have j1 : Dt (fun b => b ≠ p ∧ b ≠ z) H13 (.ref q15) (.list (ks.take k ++ [.none] ++ ks.drop k)) := .lst k_q15 n_q15 (lenC _) (((C.take k).app (.cons .non .nil)).app (C.drop k))
  refine ⟨(by show 5 ≤ sizeLine; decide), fun L1 h_L1 => ?_⟩
  have s := same_new h_L1 (o := .lst [V.ref b4, V.non, V.str (Str.ofString ""), V.ref b5, V.ref q15])
  have k_L1 := upd_same (H := H13) (a := L1) (o := .lst [V.ref b4, V.non, V.str (Str.ofString ""), V.ref b5, V.ref q15])
  have n_L1 := P2.ne h_L1
  replace k_l := s _ _ k_l
  replace k_LL := s _ _ k_LL
  replace C := C.same s
  replace AL := AL.same s
  replace i4 := i4.same s
  replace i5 := i5.same s
  replace j1 := j1.same s
  replace P2 := P2.keep s
  replace f2 := f2.trans (Fr.same s)
  generalize upd H13 L1 (.lst [V.ref b4, V.non, V.str (Str.ofString ""), V.ref b5, V.ref q15]) = H14 at *
  have A1 : DtAll (fun b => b ≠ p ∧ b ≠ z) H14 [V.ref b4, V.non, V.str (Str.ofString ""), V.ref b5, V.ref q15] [.tuple ks, .none, .str (Str.ofString ""), .dict [], .list (ks.take k ++ [.none] ++ ks.drop k)] := .cons i4 (.cons .non (.cons (.str _) (.cons i5 (.cons j1 .nil))))
  refine ⟨_, rfl, ?_⟩
  refine ⟨_, rfl, _, rfl, at1, rfl, l, _, rfl, SqL.of k_l, fun q21 h_q21 => ?_⟩
  rw [cutA]
  have s := same_new h_q21 (o := .lst (ys.take k))
  have k_q21 := upd_same (H := H14) (a := q21) (o := .lst (ys.take k))
  have n_q21 := P2.ne h_q21
  replace k_l := s _ _ k_l
  replace k_LL := s _ _ k_LL
  replace k_L1 := s _ _ k_L1
  replace C := C.same s
  replace AL := AL.same s
  replace A1 := A1.same s
  replace P2 := P2.keep s
  replace f2 := f2.trans (Fr.same s)
  generalize upd H14 q21 (.lst (ys.take k)) = H15 at *
  refine ⟨(by show 0 ≤ sizeLine; decide), fun m1 h_m1 => ?_⟩
  have s := same_new h_m1 (o := .lst [])
  have k_m1 := upd_same (H := H15) (a := m1) (o := .lst [])
  have n_m1 := P2.ne h_m1
  replace k_l := s _ _ k_l
  replace k_LL := s _ _ k_LL
  replace k_L1 := s _ _ k_L1
  replace k_q21 := s _ _ k_q21
  replace C := C.same s
  replace AL := AL.same s
  replace A1 := A1.same s
  replace P2 := P2.keep s
  replace f2 := f2.trans (Fr.same s)
  generalize upd H15 m1 (.lst []) = H16 at *
  have im1 : Dt (fun b => b ≠ p ∧ b ≠ z) H16 (.ref m1) (.list []) := .lst k_m1 n_m1 (by simp) .nil
  refine ⟨(by show 1 ≤ sizeLine; decide), fun q22 h_q22 => ?_⟩
  have s := same_new h_q22 (o := .lst [V.ref m1])
  have k_q22 := upd_same (H := H16) (a := q22) (o := .lst [V.ref m1])
  have n_q22 := P2.ne h_q22
  replace k_l := s _ _ k_l
  replace k_LL := s _ _ k_LL
  replace k_L1 := s _ _ k_L1
  replace k_q21 := s _ _ k_q21
  replace C := C.same s
  replace AL := AL.same s
  replace A1 := A1.same s
  replace im1 := im1.same s
  replace P2 := P2.keep s
  replace f2 := f2.trans (Fr.same s)
  generalize upd H16 q22 (.lst [V.ref m1]) = H17 at *
  refine ⟨q21, q22, _, _, rfl, rfl, k_q21, k_q22, lenA, fun q23 h_q23 => ?_⟩
  have s := same_new h_q23 (o := .lst (ys.take k ++ [V.ref m1]))
  have k_q23 := upd_same (H := H17) (a := q23) (o := .lst (ys.take k ++ [V.ref m1]))
  have n_q23 := P2.ne h_q23
  replace k_l := s _ _ k_l
  replace k_LL := s _ _ k_LL
  replace k_L1 := s _ _ k_L1
  replace k_q21 := s _ _ k_q21
  replace k_q22 := s _ _ k_q22
  replace C := C.same s
  replace AL := AL.same s
  replace A1 := A1.same s
  replace im1 := im1.same s
  replace P2 := P2.keep s
  replace f2 := f2.trans (Fr.same s)
  generalize upd H17 q23 (.lst (ys.take k ++ [V.ref m1])) = H18 at *
  refine ⟨_, rfl, _, rfl, at1, rfl, l, _, rfl, SqL.of k_l, fun q24 h_q24 => ?_⟩
  rw [cutB]
  have s := same_new h_q24 (o := .lst (ys.drop k))
  have k_q24 := upd_same (H := H18) (a := q24) (o := .lst (ys.drop k))
  have n_q24 := P2.ne h_q24
  replace k_l := s _ _ k_l
  replace k_LL := s _ _ k_LL
  replace k_L1 := s _ _ k_L1
  replace k_q21 := s _ _ k_q21
  replace k_q22 := s _ _ k_q22
  replace k_q23 := s _ _ k_q23
  replace C := C.same s
  replace AL := AL.same s
  replace A1 := A1.same s
  replace im1 := im1.same s
  replace P2 := P2.keep s
  replace f2 := f2.trans (Fr.same s)
  generalize upd H18 q24 (.lst (ys.drop k)) = H19 at *
  refine ⟨q23, q24, _, _, rfl, rfl, k_q23, k_q24, lenB _, fun q25 h_q25 => ?_⟩
  have s := same_new h_q25 (o := .lst (ys.take k ++ [V.ref m1] ++ ys.drop k))
  have k_q25 := upd_same (H := H19) (a := q25) (o := .lst (ys.take k ++ [V.ref m1] ++ ys.drop k))
  have n_q25 := P2.ne h_q25
  replace k_l := s _ _ k_l
  replace k_LL := s _ _ k_LL
  replace k_L1 := s _ _ k_L1
  replace k_q21 := s _ _ k_q21
  replace k_q22 := s _ _ k_q22
  replace k_q23 := s _ _ k_q23
  replace k_q24 := s _ _ k_q24
  replace C := C.same s
  replace AL := AL.same s
  replace A1 := A1.same s
  replace im1 := im1.same s
  replace P2 := P2.keep s
  replace f2 := f2.trans (Fr.same s)
  generalize upd H19 q25 (.lst (ys.take k ++ [V.ref m1] ++ ys.drop k)) = H20 at *
  have j2 : Dt (fun b => b ≠ p ∧ b ≠ z) H20 (.ref q25) (.list (ks.take k ++ [.list []] ++ ks.drop k)) := .lst k_q25 n_q25 (lenC _) (((C.take k).app (.cons im1 .nil)).app (C.drop k))
  refine ⟨_, rfl, _, rfl, at1, rfl, l, _, rfl, SqL.of k_l, fun q31 h_q31 => ?_⟩
  rw [cutA]
  have s := same_new h_q31 (o := .lst (ys.take k))
  have k_q31 := upd_same (H := H20) (a := q31) (o := .lst (ys.take k))
  have n_q31 := P2.ne h_q31
  replace k_l := s _ _ k_l
  replace k_LL := s _ _ k_LL
  replace k_L1 := s _ _ k_L1
  replace C := C.same s
  replace AL := AL.same s
  replace A1 := A1.same s
  replace j2 := j2.same s
  replace P2 := P2.keep s
  replace f2 := f2.trans (Fr.same s)
  generalize upd H20 q31 (.lst (ys.take k)) = H21 at *
  refine ⟨_, rfl, (by show 1 ≤ sizeLine; decide), fun q32 h_q32 => ?_⟩
  have s := same_new h_q32 (o := .lst [V.str (ch c)])
  have k_q32 := upd_same (H := H21) (a := q32) (o := .lst [V.str (ch c)])
  have n_q32 := P2.ne h_q32
  replace k_l := s _ _ k_l
  replace k_LL := s _ _ k_LL
  replace k_L1 := s _ _ k_L1
  replace k_q31 := s _ _ k_q31
  replace C := C.same s
  replace AL := AL.same s
  replace A1 := A1.same s
  replace j2 := j2.same s
  replace P2 := P2.keep s
  replace f2 := f2.trans (Fr.same s)
  generalize upd H21 q32 (.lst [V.str (ch c)]) = H22 at *
  refine ⟨q31, q32, _, _, rfl, rfl, k_q31, k_q32, lenA, fun q33 h_q33 => ?_⟩
  have s := same_new h_q33 (o := .lst (ys.take k ++ [V.str (ch c)]))
  have k_q33 := upd_same (H := H22) (a := q33) (o := .lst (ys.take k ++ [V.str (ch c)]))
  have n_q33 := P2.ne h_q33
  replace k_l := s _ _ k_l
  replace k_LL := s _ _ k_LL
  replace k_L1 := s _ _ k_L1
  replace k_q31 := s _ _ k_q31
  replace k_q32 := s _ _ k_q32
  replace C := C.same s
  replace AL := AL.same s
  replace A1 := A1.same s
  replace j2 := j2.same s
  replace P2 := P2.keep s
  replace f2 := f2.trans (Fr.same s)
  generalize upd H22 q33 (.lst (ys.take k ++ [V.str (ch c)])) = H23 at *
  refine ⟨_, rfl, _, rfl, at1, rfl, l, _, rfl, SqL.of k_l, fun q34 h_q34 => ?_⟩
  rw [cutB]
  have s := same_new h_q34 (o := .lst (ys.drop k))
  have k_q34 := upd_same (H := H23) (a := q34) (o := .lst (ys.drop k))
  have n_q34 := P2.ne h_q34
  replace k_l := s _ _ k_l
  replace k_LL := s _ _ k_LL
  replace k_L1 := s _ _ k_L1
  replace k_q31 := s _ _ k_q31
  replace k_q32 := s _ _ k_q32
  replace k_q33 := s _ _ k_q33
  replace C := C.same s
  replace AL := AL.same s
  replace A1 := A1.same s
  replace j2 := j2.same s
  replace P2 := P2.keep s
  replace f2 := f2.trans (Fr.same s)
  generalize upd H23 q34 (.lst (ys.drop k)) = H24 at *
  refine ⟨q33, q34, _, _, rfl, rfl, k_q33, k_q34, lenB _, fun q35 h_q35 => ?_⟩
  have s := same_new h_q35 (o := .lst (ys.take k ++ [V.str (ch c)] ++ ys.drop k))
  have k_q35 := upd_same (H := H24) (a := q35) (o := .lst (ys.take k ++ [V.str (ch c)] ++ ys.drop k))
  have n_q35 := P2.ne h_q35
  replace k_l := s _ _ k_l
  replace k_LL := s _ _ k_LL
  replace k_L1 := s _ _ k_L1
  replace k_q31 := s _ _ k_q31
  replace k_q32 := s _ _ k_q32
  replace k_q33 := s _ _ k_q33
  replace k_q34 := s _ _ k_q34
  replace C := C.same s
  replace AL := AL.same s
  replace A1 := A1.same s
  replace j2 := j2.same s
  replace P2 := P2.keep s
  replace f2 := f2.trans (Fr.same s)
  generalize upd H24 q35 (.lst (ys.take k ++ [V.str (ch c)] ++ ys.drop k)) = H25 at *
  have j3 : Dt (fun b => b ≠ p ∧ b ≠ z) H25 (.ref q35) (.list (ks.take k ++ [.str (ch c)] ++ ks.drop k)) := .lst k_q35 n_q35 (lenC _) (((C.take k).app (.cons (.str _) .nil)).app (C.drop k))
  refine ⟨(by show 2 ≤ sizeLine; decide), fun L2 h_L2 => ?_⟩
  have s := same_new h_L2 (o := .lst [V.ref q25, V.ref q35])
  have k_L2 := upd_same (H := H25) (a := L2) (o := .lst [V.ref q25, V.ref q35])
  have n_L2 := P2.ne h_L2
  replace k_l := s _ _ k_l
  replace k_LL := s _ _ k_LL
  replace k_L1 := s _ _ k_L1
  replace C := C.same s
  replace AL := AL.same s
  replace A1 := A1.same s
  replace j2 := j2.same s
  replace j3 := j3.same s
  replace P2 := P2.keep s
  replace f2 := f2.trans (Fr.same s)
  generalize upd H25 L2 (.lst [V.ref q25, V.ref q35]) = H26 at *
  refine ⟨L1, L2, _, _, rfl, rfl, k_L1, k_L2, (by show 7 ≤ sizeLine; decide), fun L3 h_L3 => ?_⟩
  have s := same_new h_L3 (o := .lst ([V.ref b4, V.non, V.str (Str.ofString ""), V.ref b5, V.ref q15] ++ [V.ref q25, V.ref q35]))
  have k_L3 := upd_same (H := H26) (a := L3) (o := .lst ([V.ref b4, V.non, V.str (Str.ofString ""), V.ref b5, V.ref q15] ++ [V.ref q25, V.ref q35]))
  have n_L3 := P2.ne h_L3
  replace k_l := s _ _ k_l
  replace k_LL := s _ _ k_LL
  replace k_L1 := s _ _ k_L1
  replace k_L2 := s _ _ k_L2
  replace C := C.same s
  replace AL := AL.same s
  replace A1 := A1.same s
  replace j2 := j2.same s
  replace j3 := j3.same s
  replace P2 := P2.keep s
  replace f2 := f2.trans (Fr.same s)
  generalize upd H26 L3 (.lst ([V.ref b4, V.non, V.str (Str.ofString ""), V.ref b5, V.ref q15] ++ [V.ref q25, V.ref q35])) = H27 at *
  have A2 : DtAll (fun b => b ≠ p ∧ b ≠ z) H27 ([V.ref b4, V.non, V.str (Str.ofString ""), V.ref b5, V.ref q15] ++ [V.ref q25, V.ref q35]) ([.tuple ks, .none, .str (Str.ofString ""), .dict [], .list (ks.take k ++ [.none] ++ ks.drop k)] ++ [.list (ks.take k ++ [.list []] ++ ks.drop k), .list (ks.take k ++ [.str (ch c)] ++ ks.drop k)]) := A1.app (.cons j2 (.cons j3 .nil))
  refine ⟨_, rfl, ?_⟩
  refine ⟨_, rfl, _, rfl, at1, rfl, l, _, rfl, SqL.of k_l, fun q41 h_q41 => ?_⟩
  rw [cutA]
  have s := same_new h_q41 (o := .lst (ys.take k))
  have k_q41 := upd_same (H := H27) (a := q41) (o := .lst (ys.take k))
  have n_q41 := P2.ne h_q41
  replace k_l := s _ _ k_l
  replace k_LL := s _ _ k_LL
  replace k_L3 := s _ _ k_L3
  replace C := C.same s
  replace AL := AL.same s
  replace A2 := A2.same s
  replace P2 := P2.keep s
  replace f2 := f2.trans (Fr.same s)
  generalize upd H27 q41 (.lst (ys.take k)) = H28 at *
  refine ⟨(by show 0 ≤ sizeLine; decide), fun m2 h_m2 => ?_⟩
  have s := same_new h_m2 (o := .tup [])
  have k_m2 := upd_same (H := H28) (a := m2) (o := .tup [])
  have n_m2 := P2.ne h_m2
  replace k_l := s _ _ k_l
  replace k_LL := s _ _ k_LL
  replace k_L3 := s _ _ k_L3
  replace k_q41 := s _ _ k_q41
  replace C := C.same s
  replace AL := AL.same s
  replace A2 := A2.same s
  replace P2 := P2.keep s
  replace f2 := f2.trans (Fr.same s)
  generalize upd H28 m2 (.tup []) = H29 at *
  have im2 : Dt (fun b => b ≠ p ∧ b ≠ z) H29 (.ref m2) (.tuple []) := .tup k_m2 n_m2 (by simp) .nil
  refine ⟨(by show 1 ≤ sizeLine; decide), fun q42 h_q42 => ?_⟩
  have s := same_new h_q42 (o := .lst [V.ref m2])
  have k_q42 := upd_same (H := H29) (a := q42) (o := .lst [V.ref m2])
  have n_q42 := P2.ne h_q42
  replace k_l := s _ _ k_l
  replace k_LL := s _ _ k_LL
  replace k_L3 := s _ _ k_L3
  replace k_q41 := s _ _ k_q41
  replace C := C.same s
  replace AL := AL.same s
  replace A2 := A2.same s
  replace im2 := im2.same s
  replace P2 := P2.keep s
  replace f2 := f2.trans (Fr.same s)
  generalize upd H29 q42 (.lst [V.ref m2]) = H30 at *
  refine ⟨q41, q42, _, _, rfl, rfl, k_q41, k_q42, lenA, fun q43 h_q43 => ?_⟩
  have s := same_new h_q43 (o := .lst (ys.take k ++ [V.ref m2]))
  have k_q43 := upd_same (H := H30) (a := q43) (o := .lst (ys.take k ++ [V.ref m2]))
  have n_q43 := P2.ne h_q43
  replace k_l := s _ _ k_l
  replace k_LL := s _ _ k_LL
  replace k_L3 := s _ _ k_L3
  replace k_q41 := s _ _ k_q41
  replace k_q42 := s _ _ k_q42
  replace C := C.same s
  replace AL := AL.same s
  replace A2 := A2.same s
  replace im2 := im2.same s
  replace P2 := P2.keep s
  replace f2 := f2.trans (Fr.same s)
  generalize upd H30 q43 (.lst (ys.take k ++ [V.ref m2])) = H31 at *
  refine ⟨_, rfl, _, rfl, at1, rfl, l, _, rfl, SqL.of k_l, fun q44 h_q44 => ?_⟩
  rw [cutB]
  have s := same_new h_q44 (o := .lst (ys.drop k))
  have k_q44 := upd_same (H := H31) (a := q44) (o := .lst (ys.drop k))
  have n_q44 := P2.ne h_q44
  replace k_l := s _ _ k_l
  replace k_LL := s _ _ k_LL
  replace k_L3 := s _ _ k_L3
  replace k_q41 := s _ _ k_q41
  replace k_q42 := s _ _ k_q42
  replace k_q43 := s _ _ k_q43
  replace C := C.same s
  replace AL := AL.same s
  replace A2 := A2.same s
  replace im2 := im2.same s
  replace P2 := P2.keep s
  replace f2 := f2.trans (Fr.same s)
  generalize upd H31 q44 (.lst (ys.drop k)) = H32 at *
  refine ⟨q43, q44, _, _, rfl, rfl, k_q43, k_q44, lenB _, fun q45 h_q45 => ?_⟩
  have s := same_new h_q45 (o := .lst (ys.take k ++ [V.ref m2] ++ ys.drop k))
  have k_q45 := upd_same (H := H32) (a := q45) (o := .lst (ys.take k ++ [V.ref m2] ++ ys.drop k))
  have n_q45 := P2.ne h_q45
  replace k_l := s _ _ k_l
  replace k_LL := s _ _ k_LL
  replace k_L3 := s _ _ k_L3
  replace k_q41 := s _ _ k_q41
  replace k_q42 := s _ _ k_q42
  replace k_q43 := s _ _ k_q43
  replace k_q44 := s _ _ k_q44
  replace C := C.same s
  replace AL := AL.same s
  replace A2 := A2.same s
  replace im2 := im2.same s
  replace P2 := P2.keep s
  replace f2 := f2.trans (Fr.same s)
  generalize upd H32 q45 (.lst (ys.take k ++ [V.ref m2] ++ ys.drop k)) = H33 at *
  have j4 : Dt (fun b => b ≠ p ∧ b ≠ z) H33 (.ref q45) (.list (ks.take k ++ [.tuple []] ++ ks.drop k)) := .lst k_q45 n_q45 (lenC _) (((C.take k).app (.cons im2 .nil)).app (C.drop k))
  refine ⟨_, rfl, (by show 3 ≤ sizeLine; decide), fun L4 h_L4 => ?_⟩
  have s := same_new h_L4 (o := .lst [V.ref q45, V.int 0, V.str (ch c)])
  have k_L4 := upd_same (H := H33) (a := L4) (o := .lst [V.ref q45, V.int 0, V.str (ch c)])
  have n_L4 := P2.ne h_L4
  replace k_l := s _ _ k_l
  replace k_LL := s _ _ k_LL
  replace k_L3 := s _ _ k_L3
  replace C := C.same s
  replace AL := AL.same s
  replace A2 := A2.same s
  replace j4 := j4.same s
  replace P2 := P2.keep s
  replace f2 := f2.trans (Fr.same s)
  generalize upd H33 L4 (.lst [V.ref q45, V.int 0, V.str (ch c)]) = H34 at *
  refine ⟨L3, L4, _, _, rfl, rfl, k_L3, k_L4, (by show 10 ≤ sizeLine; decide), fun L5 h_L5 => ?_⟩
  have s := same_new h_L5 (o := .lst (([V.ref b4, V.non, V.str (Str.ofString ""), V.ref b5, V.ref q15] ++ [V.ref q25, V.ref q35]) ++ [V.ref q45, V.int 0, V.str (ch c)]))
  have k_L5 := upd_same (H := H34) (a := L5) (o := .lst (([V.ref b4, V.non, V.str (Str.ofString ""), V.ref b5, V.ref q15] ++ [V.ref q25, V.ref q35]) ++ [V.ref q45, V.int 0, V.str (ch c)]))
  have n_L5 := P2.ne h_L5
  replace k_l := s _ _ k_l
  replace k_LL := s _ _ k_LL
  replace k_L3 := s _ _ k_L3
  replace k_L4 := s _ _ k_L4
  replace C := C.same s
  replace AL := AL.same s
  replace A2 := A2.same s
  replace j4 := j4.same s
  replace P2 := P2.keep s
  replace f2 := f2.trans (Fr.same s)
  generalize upd H34 L5 (.lst (([V.ref b4, V.non, V.str (Str.ofString ""), V.ref b5, V.ref q15] ++ [V.ref q25, V.ref q35]) ++ [V.ref q45, V.int 0, V.str (ch c)])) = H35 at *
  have A3 : DtAll (fun b => b ≠ p ∧ b ≠ z) H35 (([V.ref b4, V.non, V.str (Str.ofString ""), V.ref b5, V.ref q15] ++ [V.ref q25, V.ref q35]) ++ [V.ref q45, V.int 0, V.str (ch c)]) (([.tuple ks, .none, .str (Str.ofString ""), .dict [], .list (ks.take k ++ [.none] ++ ks.drop k)] ++ [.list (ks.take k ++ [.list []] ++ ks.drop k), .list (ks.take k ++ [.str (ch c)] ++ ks.drop k)]) ++ [.list (ks.take k ++ [.tuple []] ++ ks.drop k), .int 0, .str (ch c)]) := A2.app (.cons j4 (.cons (.int _) (.cons (.str _) .nil)))
  have CH : Dt (fun b => b ≠ p ∧ b ≠ z) H35 (.ref l) (.list ks) := .lst k_l nl hyl C
  refine ⟨_, rfl, _, rfl, p, 12, n + 2, rfl, P2.pl, (show n + 2 < 1000000 by omega), by decide, by decide, fun r1 H36 r10 r11 cx px => ?_⟩
  have fx := Fr.chg cx
  replace k_l := fx _ _ nl.1 k_l
  replace k_LL := fx _ _ n_LL.1 k_LL
  replace k_L5 := fx _ _ n_L5.1 k_L5
  replace C := C.keep fun b o h e => fx b o h.1 e
  replace AL := AL.keep fun b o h e => fx b o h.1 e
  replace A3 := A3.keep fun b o h e => fx b o h.1 e
  replace CH := CH.keep fun b o h e => fx b o h.1 e
  replace P2 := P2.go fx px
  replace f2 := f2.trans fx
  obtain ⟨x1, e1, hx1, he1, hd1⟩ := AL.at r10 (by show r1 < 12; omega)
  refine ⟨LL, _, r1, x1, rfl, rfl, SqL.of k_LL, hx1, _, rfl, (by show 2 ≤ sizeLine; decide), fun t1 h_t1 => ?_⟩
  have s := same_new h_t1 (o := .tup [x1, V.ref l])
  have k_t1 := upd_same (H := H36) (a := t1) (o := .tup [x1, V.ref l])
  have n_t1 := P2.ne h_t1
  replace k_l := s _ _ k_l
  replace k_L5 := s _ _ k_L5
  replace C := C.same s
  replace A3 := A3.same s
  replace CH := CH.same s
  replace hd1 := hd1.same s
  replace P2 := P2.keep s
  replace f2 := f2.trans (Fr.same s)
  generalize upd H36 t1 (.tup [x1, V.ref l]) = H37 at *
  have it1 : Dt (fun b => b ≠ p ∧ b ≠ z) H37 (.ref t1) (.tuple [e1, .list ks]) := .tup k_t1 n_t1 (by simp) (.cons hd1 (.cons CH .nil))
  refine ⟨(by show 1 ≤ sizeLine; decide), fun R1 h_R1 => ?_⟩
  have s := same_new h_R1 (o := .lst [V.ref t1])
  have k_R1 := upd_same (H := H37) (a := R1) (o := .lst [V.ref t1])
  have n_R1 := P2.ne h_R1
  replace k_l := s _ _ k_l
  replace k_L5 := s _ _ k_L5
  replace C := C.same s
  replace A3 := A3.same s
  replace CH := CH.same s
  replace it1 := it1.same s
  replace P2 := P2.keep s
  replace f2 := f2.trans (Fr.same s)
  generalize upd H37 R1 (.lst [V.ref t1]) = H38 at *
  refine ⟨R1, 5, _, rfl, rfl, k_R1, by decide, by decide, (by show 5 ≤ sizeLine; decide), fun R2 h_R2 => ?_⟩
  have s := same_new h_R2 (o := .lst (List.replicate (5 : Int).toNat [V.ref t1]).flatten)
  have k_R2 := upd_same (H := H38) (a := R2) (o := .lst (List.replicate (5 : Int).toNat [V.ref t1]).flatten)
  have n_R2 := P2.ne h_R2
  replace k_l := s _ _ k_l
  replace k_L5 := s _ _ k_L5
  replace k_R1 := s _ _ k_R1
  replace C := C.same s
  replace A3 := A3.same s
  replace CH := CH.same s
  replace it1 := it1.same s
  replace P2 := P2.keep s
  replace f2 := f2.trans (Fr.same s)
  generalize upd H38 R2 (.lst (List.replicate (5 : Int).toNat [V.ref t1]).flatten) = H39 at *
  refine ⟨_, rfl, _, rfl, _, rfl, p, 10, n + 3, rfl, P2.pl, (show n + 3 < 1000000 by omega), by decide, by decide, fun r2 H40 r20 r21 cx px => ?_⟩
  have fx := Fr.chg cx
  replace k_l := fx _ _ nl.1 k_l
  replace k_L5 := fx _ _ n_L5.1 k_L5
  replace k_R1 := fx _ _ n_R1.1 k_R1
  replace k_R2 := fx _ _ n_R2.1 k_R2
  replace C := C.keep fun b o h e => fx b o h.1 e
  replace A3 := A3.keep fun b o h e => fx b o h.1 e
  replace CH := CH.keep fun b o h e => fx b o h.1 e
  replace it1 := it1.keep fun b o h e => fx b o h.1 e
  replace P2 := P2.go fx px
  replace f2 := f2.trans fx
  obtain ⟨x2, e2, hx2, he2, hd2⟩ := A3.at r20 (by show r2 < 10; omega)
  refine ⟨L5, _, r2, x2, rfl, rfl, SqL.of k_L5, hx2, (by show 2 ≤ sizeLine; decide), fun t2 h_t2 => ?_⟩
  have s := same_new h_t2 (o := .tup [V.str (ch c), x2])
  have k_t2 := upd_same (H := H40) (a := t2) (o := .tup [V.str (ch c), x2])
  have n_t2 := P2.ne h_t2
  replace k_l := s _ _ k_l
  replace k_R1 := s _ _ k_R1
  replace k_R2 := s _ _ k_R2
  replace C := C.same s
  replace CH := CH.same s
  replace it1 := it1.same s
  replace hd2 := hd2.same s
  replace P2 := P2.keep s
  replace f2 := f2.trans (Fr.same s)
  generalize upd H40 t2 (.tup [V.str (ch c), x2]) = H41 at *
  have it2 : Dt (fun b => b ≠ p ∧ b ≠ z) H41 (.ref t2) (.tuple [.str (ch c), e2]) := .tup k_t2 n_t2 (by simp) (.cons (.str _) (.cons hd2 .nil))
  refine ⟨(by show 1 ≤ sizeLine; decide), fun R3 h_R3 => ?_⟩
  have s := same_new h_R3 (o := .lst [V.ref t2])
  have k_R3 := upd_same (H := H41) (a := R3) (o := .lst [V.ref t2])
  have n_R3 := P2.ne h_R3
  replace k_l := s _ _ k_l
  replace k_R1 := s _ _ k_R1
  replace k_R2 := s _ _ k_R2
  replace C := C.same s
  replace CH := CH.same s
  replace it1 := it1.same s
  replace it2 := it2.same s
  replace P2 := P2.keep s
  replace f2 := f2.trans (Fr.same s)
  generalize upd H41 R3 (.lst [V.ref t2]) = H42 at *
  refine ⟨R3, 5, _, rfl, rfl, k_R3, by decide, by decide, (by show 5 ≤ sizeLine; decide), fun R4 h_R4 => ?_⟩
  have s := same_new h_R4 (o := .lst (List.replicate (5 : Int).toNat [V.ref t2]).flatten)
  have k_R4 := upd_same (H := H42) (a := R4) (o := .lst (List.replicate (5 : Int).toNat [V.ref t2]).flatten)
  have n_R4 := P2.ne h_R4
  replace k_l := s _ _ k_l
  replace k_R1 := s _ _ k_R1
  replace k_R2 := s _ _ k_R2
  replace k_R3 := s _ _ k_R3
  replace C := C.same s
  replace CH := CH.same s
  replace it1 := it1.same s
  replace it2 := it2.same s
  replace P2 := P2.keep s
  replace f2 := f2.trans (Fr.same s)
  generalize upd H42 R4 (.lst (List.replicate (5 : Int).toNat [V.ref t2]).flatten) = H43 at *
  refine ⟨R2, R4, _, _, rfl, rfl, k_R2, k_R4, (by show 10 ≤ sizeLine; decide), fun R5 h_R5 => ?_⟩
  have s := same_new h_R5 (o := .lst ((List.replicate (5 : Int).toNat [V.ref t1]).flatten ++ (List.replicate (5 : Int).toNat [V.ref t2]).flatten))
  have k_R5 := upd_same (H := H43) (a := R5) (o := .lst ((List.replicate (5 : Int).toNat [V.ref t1]).flatten ++ (List.replicate (5 : Int).toNat [V.ref t2]).flatten))
  have n_R5 := P2.ne h_R5
  replace k_l := s _ _ k_l
  replace k_R1 := s _ _ k_R1
  replace k_R2 := s _ _ k_R2
  replace k_R3 := s _ _ k_R3
  replace k_R4 := s _ _ k_R4
  replace C := C.same s
  replace CH := CH.same s
  replace it1 := it1.same s
  replace it2 := it2.same s
  replace P2 := P2.keep s
  replace f2 := f2.trans (Fr.same s)
  generalize upd H43 R5 (.lst ((List.replicate (5 : Int).toNat [V.ref t1]).flatten ++ (List.replicate (5 : Int).toNat [V.ref t2]).flatten)) = H44 at *
  refine ⟨_, rfl, _, rfl, _, rfl, (by show 2 ≤ sizeLine; decide), fun u1 h_u1 => ?_⟩
  have s := same_new h_u1 (o := .lst [V.str (ch c), V.ref l])
  have k_u1 := upd_same (H := H44) (a := u1) (o := .lst [V.str (ch c), V.ref l])
  have n_u1 := P2.ne h_u1
  replace k_l := s _ _ k_l
  replace k_R5 := s _ _ k_R5
  replace C := C.same s
  replace CH := CH.same s
  replace it1 := it1.same s
  replace it2 := it2.same s
  replace P2 := P2.keep s
  replace f2 := f2.trans (Fr.same s)
  generalize upd H44 u1 (.lst [V.str (ch c), V.ref l]) = H45 at *
  have iu1 : Dt (fun b => b ≠ p ∧ b ≠ z) H45 (.ref u1) (.list [.str (ch c), .list ks]) := .lst k_u1 n_u1 (by simp) (.cons (.str _) (.cons CH .nil))
  refine ⟨_, rfl, (by show 1 ≤ sizeLine; decide), fun u2 h_u2 => ?_⟩
  have s := same_new h_u2 (o := .tup [V.str (ch c)])
  have k_u2 := upd_same (H := H45) (a := u2) (o := .tup [V.str (ch c)])
  have n_u2 := P2.ne h_u2
  replace k_l := s _ _ k_l
  replace k_R5 := s _ _ k_R5
  replace C := C.same s
  replace CH := CH.same s
  replace it1 := it1.same s
  replace it2 := it2.same s
  replace iu1 := iu1.same s
  replace P2 := P2.keep s
  replace f2 := f2.trans (Fr.same s)
  generalize upd H45 u2 (.tup [V.str (ch c)]) = H46 at *
  have iu2 : Dt (fun b => b ≠ p ∧ b ≠ z) H46 (.ref u2) (.tuple [.str (ch c)]) := .tup k_u2 n_u2 (by simp) (.cons (.str _) .nil)
  refine ⟨_, rfl, _, rfl, (by show 3 ≤ sizeLine; decide), fun u3 h_u3 => ?_⟩
  have s := same_new h_u3 (o := .tup [V.str (ch c), V.ref l, V.int 0])
  have k_u3 := upd_same (H := H46) (a := u3) (o := .tup [V.str (ch c), V.ref l, V.int 0])
  have n_u3 := P2.ne h_u3
  replace k_l := s _ _ k_l
  replace k_R5 := s _ _ k_R5
  replace C := C.same s
  replace CH := CH.same s
  replace it1 := it1.same s
  replace it2 := it2.same s
  replace iu1 := iu1.same s
  replace iu2 := iu2.same s
  replace P2 := P2.keep s
  replace f2 := f2.trans (Fr.same s)
  generalize upd H46 u3 (.tup [V.str (ch c), V.ref l, V.int 0]) = H47 at *
  have iu3 : Dt (fun b => b ≠ p ∧ b ≠ z) H47 (.ref u3) (.tuple [.str (ch c), .list ks, .int 0]) := .tup k_u3 n_u3 (by simp) (.cons (.str _) (.cons CH (.cons (.int _) .nil)))
  refine ⟨_, rfl, _, rfl, (by show 2 ≤ sizeLine; decide), fun u4 h_u4 => ?_⟩
  have s := same_new h_u4 (o := .tup [V.ref l, V.str (ch c)])
  have k_u4 := upd_same (H := H47) (a := u4) (o := .tup [V.ref l, V.str (ch c)])
  have n_u4 := P2.ne h_u4
  replace k_l := s _ _ k_l
  replace k_R5 := s _ _ k_R5
  replace C := C.same s
  replace CH := CH.same s
  replace it1 := it1.same s
  replace it2 := it2.same s
  replace iu1 := iu1.same s
  replace iu2 := iu2.same s
  replace iu3 := iu3.same s
  replace P2 := P2.keep s
  replace f2 := f2.trans (Fr.same s)
  generalize upd H47 u4 (.tup [V.ref l, V.str (ch c)]) = H48 at *
  have iu4 : Dt (fun b => b ≠ p ∧ b ≠ z) H48 (.ref u4) (.tuple [.list ks, .str (ch c)]) := .tup k_u4 n_u4 (by simp) (.cons CH (.cons (.str _) .nil))
  refine ⟨_, rfl, _, rfl, (by show 7 ≤ sizeLine; decide), fun R6 h_R6 => ?_⟩
  have s := same_new h_R6 (o := .lst [V.ref u1, V.ref u2, V.ref u3, V.ref u4, V.non, V.str (ch c), V.ref l])
  have k_R6 := upd_same (H := H48) (a := R6) (o := .lst [V.ref u1, V.ref u2, V.ref u3, V.ref u4, V.non, V.str (ch c), V.ref l])
  have n_R6 := P2.ne h_R6
  replace k_l := s _ _ k_l
  replace k_R5 := s _ _ k_R5
  replace C := C.same s
  replace CH := CH.same s
  replace it1 := it1.same s
  replace it2 := it2.same s
  replace iu1 := iu1.same s
  replace iu2 := iu2.same s
  replace iu3 := iu3.same s
  replace iu4 := iu4.same s
  replace P2 := P2.keep s
  replace f2 := f2.trans (Fr.same s)
  generalize upd H48 R6 (.lst [V.ref u1, V.ref u2, V.ref u3, V.ref u4, V.non, V.str (ch c), V.ref l]) = H49 at *
  refine ⟨R5, R6, _, _, rfl, rfl, k_R5, k_R6, (by show 17 ≤ sizeLine; decide), fun R7 h_R7 => ?_⟩
  have s := same_new h_R7 (o := .lst ((List.replicate (5 : Int).toNat [V.ref t1]).flatten ++ (List.replicate (5 : Int).toNat [V.ref t2]).flatten ++ [V.ref u1, V.ref u2, V.ref u3, V.ref u4, V.non, V.str (ch c), V.ref l]))
  have k_R7 := upd_same (H := H49) (a := R7) (o := .lst ((List.replicate (5 : Int).toNat [V.ref t1]).flatten ++ (List.replicate (5 : Int).toNat [V.ref t2]).flatten ++ [V.ref u1, V.ref u2, V.ref u3, V.ref u4, V.non, V.str (ch c), V.ref l]))
  have n_R7 := P2.ne h_R7
  replace k_l := s _ _ k_l
  replace k_R5 := s _ _ k_R5
  replace k_R6 := s _ _ k_R6
  replace C := C.same s
  replace CH := CH.same s
  replace it1 := it1.same s
  replace it2 := it2.same s
  replace iu1 := iu1.same s
  replace iu2 := iu2.same s
  replace iu3 := iu3.same s
  replace iu4 := iu4.same s
  replace P2 := P2.keep s
  replace f2 := f2.trans (Fr.same s)
  generalize upd H49 R7 (.lst ((List.replicate (5 : Int).toNat [V.ref t1]).flatten ++ (List.replicate (5 : Int).toNat [V.ref t2]).flatten ++ [V.ref u1, V.ref u2, V.ref u3, V.ref u4, V.non, V.str (ch c), V.ref l])) = H50 at *
  refine ⟨_, rfl, (by show 0 ≤ sizeLine; decide), fun u5 h_u5 => ?_⟩
  have s := same_new h_u5 (o := .tup [])
  have k_u5 := upd_same (H := H50) (a := u5) (o := .tup [])
  have n_u5 := P2.ne h_u5
  replace k_l := s _ _ k_l
  replace k_R7 := s _ _ k_R7
  replace C := C.same s
  replace CH := CH.same s
  replace it1 := it1.same s
  replace it2 := it2.same s
  replace iu1 := iu1.same s
  replace iu2 := iu2.same s
  replace iu3 := iu3.same s
  replace iu4 := iu4.same s
  replace P2 := P2.keep s
  replace f2 := f2.trans (Fr.same s)
  generalize upd H50 u5 (.tup []) = H51 at *
  have iu5 : Dt (fun b => b ≠ p ∧ b ≠ z) H51 (.ref u5) (.tuple []) := .tup k_u5 n_u5 (by simp) .nil
  refine ⟨_, rfl, _, rfl, _, rfl, (by show 3 ≤ sizeLine; decide), fun u6 h_u6 => ?_⟩
  have s := same_new h_u6 (o := .tup [V.str (ch c), V.ref l, V.ref l])
  have k_u6 := upd_same (H := H51) (a := u6) (o := .tup [V.str (ch c), V.ref l, V.ref l])
  have n_u6 := P2.ne h_u6
  replace k_l := s _ _ k_l
  replace k_R7 := s _ _ k_R7
  replace C := C.same s
  replace CH := CH.same s
  replace it1 := it1.same s
  replace it2 := it2.same s
  replace iu1 := iu1.same s
  replace iu2 := iu2.same s
  replace iu3 := iu3.same s
  replace iu4 := iu4.same s
  replace iu5 := iu5.same s
  replace P2 := P2.keep s
  replace f2 := f2.trans (Fr.same s)
  generalize upd H51 u6 (.tup [V.str (ch c), V.ref l, V.ref l]) = H52 at *
  have iu6 : Dt (fun b => b ≠ p ∧ b ≠ z) H52 (.ref u6) (.tuple [.str (ch c), .list ks, .list ks]) := .tup k_u6 n_u6 (by simp) (.cons (.str _) (.cons CH (.cons CH .nil)))
  refine ⟨(by show 3 ≤ sizeLine; decide), fun R8 h_R8 => ?_⟩
  have s := same_new h_R8 (o := .lst [V.ref u5, V.bl true, V.ref u6])
  have k_R8 := upd_same (H := H52) (a := R8) (o := .lst [V.ref u5, V.bl true, V.ref u6])
  have n_R8 := P2.ne h_R8
  replace k_l := s _ _ k_l
  replace k_R7 := s _ _ k_R7
  replace C := C.same s
  replace CH := CH.same s
  replace it1 := it1.same s
  replace it2 := it2.same s
  replace iu1 := iu1.same s
  replace iu2 := iu2.same s
  replace iu3 := iu3.same s
  replace iu4 := iu4.same s
  replace iu5 := iu5.same s
  replace iu6 := iu6.same s
  replace P2 := P2.keep s
  replace f2 := f2.trans (Fr.same s)
  generalize upd H52 R8 (.lst [V.ref u5, V.bl true, V.ref u6]) = H53 at *
  refine ⟨R7, R8, _, _, rfl, rfl, k_R7, k_R8, (by show 20 ≤ sizeLine; decide), fun R9 h_R9 => ?_⟩
  have s := same_new h_R9 (o := .lst ((List.replicate (5 : Int).toNat [V.ref t1]).flatten ++ (List.replicate (5 : Int).toNat [V.ref t2]).flatten ++ [V.ref u1, V.ref u2, V.ref u3, V.ref u4, V.non, V.str (ch c), V.ref l] ++ [V.ref u5, V.bl true, V.ref u6]))
  have k_R9 := upd_same (H := H53) (a := R9) (o := .lst ((List.replicate (5 : Int).toNat [V.ref t1]).flatten ++ (List.replicate (5 : Int).toNat [V.ref t2]).flatten ++ [V.ref u1, V.ref u2, V.ref u3, V.ref u4, V.non, V.str (ch c), V.ref l] ++ [V.ref u5, V.bl true, V.ref u6]))
  have n_R9 := P2.ne h_R9
  replace k_l := s _ _ k_l
  replace k_R7 := s _ _ k_R7
  replace k_R8 := s _ _ k_R8
  replace C := C.same s
  replace CH := CH.same s
  replace it1 := it1.same s
  replace it2 := it2.same s
  replace iu1 := iu1.same s
  replace iu2 := iu2.same s
  replace iu3 := iu3.same s
  replace iu4 := iu4.same s
  replace iu5 := iu5.same s
  replace iu6 := iu6.same s
  replace P2 := P2.keep s
  replace f2 := f2.trans (Fr.same s)
  generalize upd H53 R9 (.lst ((List.replicate (5 : Int).toNat [V.ref t1]).flatten ++ (List.replicate (5 : Int).toNat [V.ref t2]).flatten ++ [V.ref u1, V.ref u2, V.ref u3, V.ref u4, V.non, V.str (ch c), V.ref l] ++ [V.ref u5, V.bl true, V.ref u6])) = H54 at *
  have AF : DtAll (fun b => b ≠ p ∧ b ≠ z) H54 ((List.replicate (5 : Int).toNat [V.ref t1]).flatten ++ (List.replicate (5 : Int).toNat [V.ref t2]).flatten ++ [V.ref u1, V.ref u2, V.ref u3, V.ref u4, V.non, V.str (ch c), V.ref l] ++ [V.ref u5, V.bl true, V.ref u6]) [.tuple [e1, .list ks], .tuple [e1, .list ks], .tuple [e1, .list ks], .tuple [e1, .list ks], .tuple [e1, .list ks], .tuple [.str (ch c), e2], .tuple [.str (ch c), e2], .tuple [.str (ch c), e2], .tuple [.str (ch c), e2], .tuple [.str (ch c), e2], .list [.str (ch c), .list ks], .tuple [.str (ch c)], .tuple [.str (ch c), .list ks, .int 0], .tuple [.list ks, .str (ch c)], .none, .str (ch c), .list ks, .tuple [], .bool true, .tuple [.str (ch c), .list ks, .list ks]] := (.cons it1 (.cons it1 (.cons it1 (.cons it1 (.cons it1 (.cons it2 (.cons it2 (.cons it2 (.cons it2 (.cons it2 (.cons iu1 (.cons iu2 (.cons iu3 (.cons iu4 (.cons .non (.cons (.str _) (.cons CH (.cons iu5 (.cons (.bl _) (.cons iu6 .nil))))))))))))))))))))
  refine ⟨_, rfl, p, 20, n + 4, rfl, P2.pl, (show n + 4 < 1000000 by omega), by decide, by decide, fun r3 H55 r30 r31 cx px => ?_⟩
  have fx := Fr.chg cx
  replace k_R9 := fx _ _ n_R9.1 k_R9
  replace AF := AF.keep fun b o h e => fx b o h.1 e
  replace P2 := P2.go fx px
  replace f2 := f2.trans fx
  obtain ⟨x3, e3, hx3, he3, hd3⟩ := AF.at r30 (by show r3 < 20; omega)
  have hm1 := odd_letters hc hsc _ (List.mem_of_getElem? he1)
  have hm2 := odd_lists hc hf _ (List.mem_of_getElem? he2)
  have hm3 := odd_rows hc hf hm1 hm2 _ (List.mem_of_getElem? he3)
  refine ⟨R9, _, r3, x3, rfl, rfl, SqL.of k_R9, hx3, q x3 e3 H55 f2 (px.mono (by omega)) hd3 hm3⟩
/-@-/
end

section
variable {ok : Addr → Prop} {H : Hp}
mutual
theorem TrAt.dt : ∀ (t : Tr) (v : V), TrAt ok H v t → t.size ≤ 1000 → Dt ok H v t.dat
  | .node c ks, v, x, hz => by
    cases x with
    | node h1 h2 k1 k2 c1 c2 r =>
      simp only [Tr.size] at hz
      have ll := r.len
      have l2 := len_sizes ks
      simp only [Tr.dat]
      exact .tup h1 k1 (by simp) (.cons (.str _) (.cons (.lst h2 k2 (by omega) (TrsAt.dt ks _ r (by omega))) .nil))
theorem TrsAt.dt : ∀ (ts : List Tr) (vs : List V), TrsAt ok H vs ts → sizes ts ≤ 1000 → DtAll ok H vs (dats ts)
  | [], _, x, _ => by cases x; exact .nil
  | t :: r, _, x, hz => by
    simp only [sizes] at hz
    cases x with
    | cons a b => exact .cons (TrAt.dt t _ a (by omega)) (TrsAt.dt r _ b (by omega))
end
end
abbrev Lz (c : Nat) : Prop := 97 ≤ c ∧ c ≤ 122
theorem dats_map : ∀ ks : List Tr, dats ks = ks.map Tr.dat
  | [] => rfl
  | t :: r => by simp only [dats, List.map_cons, dats_map r]
mutual
theorem tr_fine : ∀ t : Tr, t.lets Lz → fine0 t.dat = true
  | .node c ks, h => by
    simp only [Tr.lets] at h
    rw [Tr.dat, fine0]
    simp only [fine0s, ch_fine (show c ≤ 126 by have := h.1.2; omega), Bool.true_and, Bool.and_true]
    simp only [fine0]
    exact trs_fine ks h.2
theorem trs_fine : ∀ ts : List Tr, letss Lz ts → fine0s (dats ts) = true
  | [], _ => by simp only [dats, fine0s]
  | t :: r, h => by
    simp only [letss] at h
    simp only [dats, fine0s, tr_fine t h.1, trs_fine r h.2, Bool.and_self]
end
mutual
theorem tr_lay : ∀ t : Tr, t.lets Lz → t.dat.canLay0 = true
  | .node c ks, h => by
    simp only [Tr.lets] at h
    simp only [Tr.dat, PyData.canLay0, PyData.canLayAll0, strOk_ch h.1.2, trs_lay ks h.2, Bool.and_self]
theorem trs_lay : ∀ ts : List Tr, letss Lz ts → PyData.canLayAll0 (dats ts) = true
  | [], _ => by simp only [dats, PyData.canLayAll0]
  | t :: r, h => by
    simp only [letss] at h
    simp only [dats, PyData.canLayAll0, tr_lay t h.1, trs_lay r h.2, Bool.and_self]
end
mutual
theorem tr_cnt : ∀ t : Tr, cnt t.dat = 3 * t.size
  | .node c ks => by simp only [Tr.dat, cnt, cntAll, Tr.size, trs_cnt ks]; omega
theorem trs_cnt : ∀ ts : List Tr, cntAll (dats ts) = 3 * sizes ts
  | [] => rfl
  | t :: r => by simp only [dats, cntAll, sizes, tr_cnt t, trs_cnt r]; omega
end
mutual
theorem tr_is : ∀ t : Tr, t.lets Lz → isTD t.dat = true
  | .node c ks, h => by
    simp only [Tr.lets] at h
    have h1 : decide (((ch c).length : Int) = 1) = true := rfl
    simp only [Tr.dat, isTD, isLetD, h1, leA_ch, leZ_ch, decide_eq_true h.1.1, decide_eq_true h.1.2, trs_is ks h.2, Bool.and_self]
theorem trs_is : ∀ ts : List Tr, letss Lz ts → isTDs (dats ts) = true
  | [], _ => by simp only [dats, isTDs]
  | t :: r, h => by
    simp only [letss] at h
    simp only [dats, isTDs, tr_is t h.1, trs_is r h.2, Bool.and_self]
end
def putD (ds : List PyData) (i : Nat) (d : PyData) : List PyData := ds.take i ++ [d] ++ ds.drop (i + 1)
theorem cnt_put {d x : PyData} : ∀ {ds : List PyData} {i : Nat}, ds[i]? = some x → cntAll (putD ds i d) + cnt x = cntAll ds + cnt d
  | y :: r, 0, h => by
    cases h
    simp only [putD, List.take_zero, List.nil_append, List.drop_succ_cons, List.drop_zero, cntAll, List.singleton_append]
    omega
  | y :: r, i + 1, h => by
    rw [List.getElem?_cons_succ] at h
    have ih := cnt_put (d := d) h
    simp only [putD, List.take_succ_cons, List.cons_append, List.drop_succ_cons, cntAll] at ih ⊢
    omega
theorem put_mem {ds : List PyData} {i : Nat} {d y : PyData} (h : y ∈ putD ds i d) : y ∈ ds ∨ y = d := by
  unfold putD at h
  rcases List.mem_append.mp h with h | h
  · rcases List.mem_append.mp h with h | h
    · exact .inl (List.mem_of_mem_take h)
    · exact .inr (List.mem_singleton.mp h)
  · exact .inl (List.mem_of_mem_drop h)
def sp__law_spoilt (n : Nat) : Sp := fun vs H Q _ => ∃ (p z : Addr) (k : Nat) (v : V) (t : Tr), vs = [.ref p, v] ∧ Pz z H p k ∧ k + 20 * n + 200 < 1000000 ∧ Dt (fun b => b ≠ p ∧ b ≠ z) H v t.dat ∧ t.depth ≤ n ∧ t.depth ≤ 31 ∧ t.size ≤ 200 ∧ t.lets Lz ∧
  ∀ r d H', Fr p H H' → Pool H' p (k + 20 * n) → Dt (fun b => b ≠ p ∧ b ≠ z) H' r d → S0 (2 * cnt t.dat + 40) (t.dat.depth + 5) d → Q r H'
section
variable {P : Program} {w : World} {K : PySem.W.Frag} {mg : Str → Option Value} {base : Heap}
theorem ok__law_spoilt (T : Txt K mg) : ∀ n : Nat, FnOk P w K mg base CX0 (n + 2) T.f__law_spoilt T.d__law_spoilt ["pool", "tree"] (sp__law_spoilt n)
  | 0 => noneOf fun vs H Q E ⟨p, z, k, v, t, _, _, _, _, h, _⟩ => by have := depth_pos t; omega
  | n + 1 => by
    have G__law_spoilt : FnOk P w K mg base CX0 (n + 2) T.f__law_spoilt T.d__law_spoilt ["pool", "tree"] (sp__law_spoilt n) := ok__law_spoilt T n
    have G__law_take : FnOk P w K mg base CX0 1 T.f__law_take T.d__law_take ["pool", "many"] sp__law_take := ok__law_take T
    have G__law_odd : FnOk P w K mg base CX0 2 T.f__law_odd T.d__law_odd ["pool", "tree"] sp__law_odd := ok__law_odd T
    refine T.F__law_spoilt.ok sc__law_spoilt (fun vs H Q E h => ?_) (fun cdv A outer s H vs Q E hr h => ?_)
    · obtain ⟨p, z, k, v, t, rfl, _⟩ := h
      rfl
    obtain ⟨p, z, k, v, t, rfl, hp, hk, ht, hn, h31, hz, hL, q⟩ := h
    refine ⟨_, (pss_cons (ps_if (PW.pt (pw_or (pt_cmpR (op_eqD hr.units) (pe_ix ix_tup (pv 1) pe_int (fun _ _ => rfl)) (pe_lst pa_nil) (nomark _)) (pw_or1 (pt_cmpR op_eq (pe_call G__law_take (hr.mono (by omega)) (by rfl) T.m__law_take T.F__law_take.kp T.b__law_take .nil pass0 (pa_cons (pv 0) (pa_cons pe_int pa_nil))) pe_int (nomark _))))) (pss_one (ps_ret (pe_call G__law_odd (hr.mono (by omega)) (by rfl) T.m__law_odd T.F__law_odd.kp T.b__law_odd .nil pass0 (pa_cons (pv 0) (pa_cons (pv 1) pa_nil))))) pss_nil) (pss_cons (ps_set (i := 2) sc__law_spoilt.nd rfl (Or.inl rfl) (pe_call G__law_take (hr.mono (by omega)) (by rfl) T.m__law_take T.F__law_take.kp T.b__law_take .nil pass0 (pa_cons (pv 0) (pa_cons (pe_callB call_len_seq (by rfl) T.z_len PySem.boot_len (pa_cons (pe_ix ix_tup (pv 1) pe_int (fun _ _ => rfl)) pa_nil)) pa_nil)))) (pss_one (ps_ret (pe_tup (pa_cons (pe_ix ix_tup (pv 1) pe_int (fun _ _ => rfl)) (pa_cons (pe_op op_cat (pe_op op_cat (pe_slice sl_list (pe_ix ix_tup (pv 1) pe_int (fun _ _ => rfl)) po_none (po_some (pv 2))) (pe_lst (pa_cons (pe_call G__law_spoilt (hr.mono (by omega)) (by rfl) T.m__law_spoilt T.F__law_spoilt.kp T.b__law_spoilt .nil pass0 (pa_cons (pv 0) (pa_cons (pe_ix ix_list (pe_ix ix_tup (pv 1) pe_int (fun _ _ => rfl)) (pv 2) (fun _ _ => rfl)) pa_nil))) pa_nil))) (pe_slice sl_list (pe_ix ix_tup (pv 1) pe_int (fun _ _ => rfl)) (po_some (pe_op op_add (pv 2) pe_int)) po_none)) pa_nil))))))), ?_⟩
    obtain ⟨c, ks⟩ := t
    have hts := ht
    simp only [Tr.size] at hz
    simp only [Tr.depth] at hn h31
    have hLc := hL
    simp only [Tr.lets] at hLc
    obtain ⟨⟨c1, c2⟩, hLk⟩ := hLc
    have hlk := len_sizes ks
    have hdl : (dats ks).length = ks.length := by rw [dats_map, List.length_map]
    simp only [Tr.dat] at ht
    cases ht with
    | @tup a xs _ e na _ r =>
    cases r with
    | cons r0 r1 =>
    cases r1 with
    | cons r2 r3 =>
    cases r3
    cases r0
    cases r2 with
    | @lst l ys _ el nl hyl rk =>
    have ly := rk.len
    refine ⟨_, rfl, _, _, 1, _, rfl, rfl, SqT.of e, atI_nat (j := 1) rfl, (by show 0 ≤ sizeLine; decide), fun m hm => ?_⟩
    have sm := same_new hm (o := .lst [])
    have shp : SeqAt.shaped (.list (dats ks)) = true := by
      unfold SeqAt.shaped
      rw [Bool.and_eq_true]
      refine ⟨by simp only [PyData.canLay0]; exact trs_lay ks hLk, decide_eq_true ?_⟩
      have := dats_depth ks
      simp only [PyData.depth]
      omega
    refine ⟨_, _, .lst (SqL.of (sm _ _ el)) ((rk.same sm).dp (trs_lay ks hLk)), dp_nil upd_same, shp, shaped_nil, _, rfl, ?_⟩
    rw [eqv_nil, hdl]
    have P1 := hp.keep sm
    have F1 : Fr p H (upd H m (.lst [])) := Fr.same sm
    replace hts := hts.same sm
    have e1 := sm _ _ e
    have el1 := sm _ _ el
    replace rk := rk.same sm
    generalize upd H m (.lst []) = H1 at *
    have hf := trs_fine ks hLk
    have odd : ∀ {k2 : Nat} {H2 : Hp}, k2 ≤ k + 1 → Fr p H1 H2 → Pool H2 p k2 → sp__law_odd [.ref p, .ref a] H2 Q E := fun {k2 H2} hk2 f2 p2 =>
      ⟨p, z, k2, .ref a, c, dats ks, rfl, P1.go f2 p2, by omega, hts.keep fun b o h e => f2 b o h.1 e, c2, by omega, hf, fun r d H' F PP hd hs => q r d H' ((F1.trans f2).trans F) (PP.mono (by omega)) hd (hs.mono (by simp only [Tr.dat, cnt, cntAll]; omega) (by simp only [Tr.dat, PyData.depth, PyData.depthAll]; omega))⟩
    by_cases h0 : ks.length = 0
    · rw [decide_eq_true h0]
      exact iteT (iteT ⟨_, rfl, _, rfl, odd (Nat.le_succ k) (Fr.refl _ _) P1.pl⟩)
    · rw [decide_eq_false h0]
      refine iteF ⟨_, rfl, p, 3, k, rfl, P1.pl, by omega, by decide, by decide, fun r0 H2 a0 a1 cx p2 => ⟨rfl, _, rfl, ?_⟩⟩
      have f2 := Fr.chg cx
      refine ite2 (fun _ => ⟨_, rfl, _, rfl, odd (Nat.le_refl _) f2 p2⟩) (fun _ => ?_)
      have P2 := P1.go f2 p2
      have e2 := f2 _ _ na.1 e1
      have el2 := f2 _ _ nl.1 el1
      replace rk : DtAll (fun b => b ≠ p ∧ b ≠ z) H2 ys (dats ks) := rk.keep fun b o h e => f2 b o h.1 e
      refine ⟨_, rfl, _, rfl, _, _, 1, _, rfl, rfl, SqT.of e2, atI_nat (j := 1) rfl, l, ys, rfl, .inl (SqL.of el2), p, (ys.length : Int), k + 1, rfl, p2, (show k + 1 < 1000000 by omega), (show (0 : Int) < (ys.length : Int) by omega), (show (ys.length : Int) < 2 ^ 60 by omega), fun at1 H3 b0 b1 cy p3 => ?_⟩
      have f3 := Fr.chg cy
      have P3 := P2.go f3 p3
      have e3 := f3 _ _ na.1 e2
      have el3 := f3 _ _ nl.1 el2
      replace rk : DtAll (fun b => b ≠ p ∧ b ≠ z) H3 ys (dats ks) := rk.keep fun b o h e => f3 b o h.1 e
      obtain ⟨j, hj⟩ : ∃ j : Nat, at1 = (j : Int) := ⟨at1.toNat, by omega⟩
      have hjy : j < ys.length := by omega
      have hjk : j < ks.length := by omega
      have cutA : cutV ys none (some at1) = ys.take j := by rw [hj]; exact cut_hi (by omega)
      have cutB : cutV ys (some (at1 + 1)) none = ys.drop (j + 1) := by
        rw [show at1 + 1 = ((j + 1 : Nat) : Int) by omega]
        exact cut_lo (by omega)
      have hcj : ks[j]? = some ks[j] := List.getElem?_eq_getElem hjk
      have hdm : (dats ks)[j]? = some ks[j].dat := by rw [dats_map, List.getElem?_map, hcj]; rfl
      obtain ⟨d1, hd1, hx1⟩ := rk.getV (List.getElem?_eq_getElem hjy)
      have hd1e : d1 = ks[j].dat := Option.some.inj (hd1.symm.trans hdm)
      rw [hd1e] at hx1
      have hm := List.mem_of_getElem? hcj
      have m1 := depths_mem hm
      have m2 := sizes_mem hm
      have m3 := letss_mem hLk hm
      refine ⟨_, rfl, _, _, 0, _, rfl, rfl, SqT.of e3, atI_nat (j := 0) rfl, ?_⟩
      refine ⟨_, rfl, _, _, 1, _, rfl, rfl, SqT.of e3, atI_nat (j := 1) rfl, _, rfl, at1, rfl, l, ys, rfl, SqL.of el3, fun u1 h1 => ?_⟩
      rw [cutA]
      have n1 := P3.ne h1
      have s1 := same_new h1 (o := .lst (ys.take j))
      have k1 := upd_same (H := H3) (a := u1) (o := .lst (ys.take j))
      have P4 := P3.keep s1
      replace rk := rk.same s1
      replace hx1 := hx1.same s1
      have e4 := s1 _ _ e3
      have el4 := s1 _ _ el3
      have F4 : Fr p H (upd H3 u1 (.lst (ys.take j))) := ((F1.trans f2).trans f3).trans (Fr.same s1)
      generalize upd H3 u1 (.lst (ys.take j)) = H4 at *
      refine ⟨_, rfl, _, rfl, _, _, 1, _, rfl, rfl, SqT.of e4, atI_nat (j := 1) rfl, _, rfl, l, _, _, _, rfl, rfl, SqL.of el4, by rw [hj]; exact atI_nat (List.getElem?_eq_getElem hjy), p, z, k + 2, ys[j], ks[j], rfl, P4, (show k + 2 + 20 * n + 200 < 1000000 by omega), hx1, by omega, by omega, by omega, m3, fun rv d H5 f5 p5 hrv sd => ?_⟩
      have P5 := P4.go f5 p5
      have k15 := f5 _ _ n1.1 k1
      have el5 := f5 _ _ nl.1 el4
      have e5 := f5 _ _ na.1 e4
      replace rk : DtAll (fun b => b ≠ p ∧ b ≠ z) H5 ys (dats ks) := rk.keep fun b o h e => f5 b o h.1 e
      have F5 := F4.trans f5
      refine ⟨(by show 1 ≤ sizeLine; decide), fun u2 h2 => ⟨u1, u2, _, _, rfl, rfl, same_new h2 _ _ k15, upd_same, Nat.le_trans (show _ ≤ 1000 by rw [List.length_take]; simp only [List.length_cons, List.length_nil]; omega) (by decide), fun u3 h3 => ?_⟩⟩
      have s2 := same_new h2 (o := .lst [rv])
      have s3 := same_new h3 (o := .lst (ys.take j ++ [rv]))
      have k3 := upd_same (H := upd H5 u2 (.lst [rv])) (a := u3) (o := .lst (ys.take j ++ [rv]))
      have S3 := s2.trans s3
      generalize upd (upd H5 u2 (.lst [rv])) u3 (.lst (ys.take j ++ [rv])) = H6 at *
      refine ⟨_, rfl, _, _, 1, _, rfl, rfl, SqT.of (S3 _ _ e5), atI_nat (j := 1) rfl, _, rfl, _, _, rfl, rfl, at1 + 1, rfl, l, ys, rfl, SqL.of (S3 _ _ el5), fun u4 h4 => ?_⟩
      rw [cutB]
      have s4 := same_new h4 (o := .lst (ys.drop (j + 1)))
      refine ⟨u3, u4, _, _, rfl, rfl, s4 _ _ k3, upd_same, Nat.le_trans (show _ ≤ 1000 by rw [List.length_append, List.length_take, List.length_drop]; simp only [List.length_cons, List.length_nil]; omega) (by decide), fun u5 h5 => ⟨(by show 2 ≤ sizeLine; decide), fun u6 h6 => ?_⟩⟩
      have s5 := same_new h5 (o := .lst (ys.take j ++ [rv] ++ ys.drop (j + 1)))
      have s6 := same_new h6 (o := .tup [V.str (ch c), V.ref u5])
      have k5 := s6 _ _ (upd_same (H := upd H6 u4 (.lst (ys.drop (j + 1)))) (a := u5) (o := .lst (ys.take j ++ [rv] ++ ys.drop (j + 1))))
      have S6 := ((S3.trans s4).trans s5).trans s6
      have n5 := (P5.keep (S3.trans s4)).ne h5
      have n6 := (P5.keep ((S3.trans s4).trans s5)).ne h6
      have rk6 := rk.same S6
      have hrv6 := hrv.same S6
      have hD : Dt (fun b => b ≠ p ∧ b ≠ z) _ (.ref u6) (.tuple [.str (ch c), .list (putD (dats ks) j d)]) :=
        .tup (upd_same (H := upd (upd H6 u4 (.lst (ys.drop (j + 1)))) u5 (.lst (ys.take j ++ [rv] ++ ys.drop (j + 1)))) (a := u6) (o := .tup [V.str (ch c), V.ref u5])) n6 (by simp)
          (.cons (.str _) (.cons (.lst k5 n5 (by rw [List.length_append, List.length_append, List.length_take, List.length_drop, List.length_singleton]; omega) (((rk6.take j).app (.cons hrv6 .nil)).app (rk6.drop (j + 1)))) .nil))
      have cp := cnt_put (d := d) hdm
      have sd1 := sd.cn
      have sd2 := sd.dp
      have cm := tr_cnt ks[j]
      have ct := trs_cnt ks
      have dm := depthAll_mem (List.mem_of_getElem? hdm)
      refine q (.ref u6) _ _ (F5.trans (Fr.same S6)) ((P5.keep S6).pl.mono (by omega)) hD ⟨?_, ?_, ?_⟩
      · rw [fine0]
        simp only [fine0s, ch_fine (show c ≤ 126 by omega), Bool.true_and, Bool.and_true]
        simp only [fine0]
        exact fine0s_of fun y hy => (put_mem hy).elim (fine0s_mem hf) fun e => by rw [e]; exact sd.fine
      · simp only [Tr.dat, cnt, cntAll] at cp ⊢
        omega
      · have : PyData.depthAll (putD (dats ks) j d) ≤ PyData.depthAll (dats ks) + 5 := depthAll_of fun y hy => (put_mem hy).elim (fun h => by have := depthAll_mem h; omega) fun e => by rw [e]; omega
        simp only [Tr.dat, PyData.depth, PyData.depthAll]
        omega
end

theorem sa : Str.ofString "a" = ch 97 := by decide +kernel
theorem repLen {v : V} {n : Nat} (h : n ≤ 1000) : [v].length * n ≤ sizeLine := Nat.le_trans (show [v].length * n ≤ 1000 by rw [List.length_singleton]; omega) (by decide)
theorem repLen1 {v u : V} {n : Nat} (h : n ≤ 900) : (List.replicate n v).length + [u].length ≤ sizeLine := Nat.le_trans (show _ ≤ 1000 by rw [List.length_replicate, List.length_singleton]; omega) (by decide)
theorem dt_rep {ok : Addr → Prop} {H : Hp} {v : V} {d : PyData} (h : Dt ok H v d) : ∀ {n : Nat}, DtAll ok H (List.replicate n v) (List.replicate n d)
  | 0 => .nil
  | n + 1 => by rw [List.replicate_succ, List.replicate_succ]; exact .cons h (dt_rep h)
theorem cnt_rep (d : PyData) : ∀ n : Nat, cntAll (List.replicate n d) = n * cnt d
  | 0 => by simp only [List.replicate_zero, cntAll, Nat.zero_mul]
  | n + 1 => by rw [List.replicate_succ, cntAll, cnt_rep d n, Nat.succ_mul]; omega
theorem depth_rep {d : PyData} {n : Nat} : PyData.depthAll (List.replicate n d) ≤ d.depth := depthAll_of fun y hy => by rw [List.eq_of_mem_replicate hy]; exact Nat.le_refl _
theorem fine_rep {d : PyData} {n : Nat} (h : fine0 d = true) : fine0s (List.replicate n d) = true := fine0s_of fun y hy => by rw [List.eq_of_mem_replicate hy]; exact h
theorem is_rep {d : PyData} {n : Nat} (h : isTD d = true) : isTDs (List.replicate n d) = true := by
  rw [isTDs_all, List.all_eq_true]
  intro y hy
  rw [List.eq_of_mem_replicate hy]
  exact h
structure Wt (N D : Nat) (d : PyData) : Prop where
  fine : fine0 d = true
  tr : isTD d = true
  cn : cnt d ≤ N
  dp : d.depth ≤ D
theorem Wt.mono {N D N' D' : Nat} {d : PyData} (h : Wt N D d) (a : N ≤ N') (b : D ≤ D') : Wt N' D' d := ⟨h.fine, h.tr, Nat.le_trans h.cn a, Nat.le_trans h.dp b⟩
theorem Wt.s0 {N D : Nat} {d : PyData} (h : Wt N D d) : S0 N D d := ⟨h.fine, h.cn, h.dp⟩
structure Ws (N D : Nat) (ds : List PyData) : Prop where
  fine : fine0s ds = true
  tr : isTDs ds = true
  cn : cntAll ds ≤ N
  dp : PyData.depthAll ds ≤ D
theorem wt_leaf {x : Str} (h : isLetD (.str x) = true) (hf : fine0 (.str x) = true) : Wt 3 2 (.tuple [.str x, .list []]) :=
  ⟨by rw [fine0]; simp only [fine0s, hf, Bool.true_and, Bool.and_true]; simp only [fine0, fine0s], by simp only [isTD, h, isTDs, Bool.and_self], by simp only [cnt, cntAll]; omega, by simp only [PyData.depth, PyData.depthAll]; omega⟩
theorem wt_rep {N D : Nat} {d : PyData} (h : Wt N D d) {n : Nat} : Ws (n * N) D (List.replicate n d) :=
  ⟨fine_rep h.fine, is_rep h.tr, by rw [cnt_rep]; exact Nat.mul_le_mul (Nat.le_refl _) h.cn, Nat.le_trans depth_rep h.dp⟩
theorem wt_node {N D : Nat} {x : Str} {ds : List PyData} (h : isLetD (.str x) = true) (hf : fine0 (.str x) = true) (w : Ws N D ds) : Wt (N + 3) (D + 2) (.tuple [.str x, .list ds]) := by
  have a := w.cn
  have b := w.dp
  exact ⟨by rw [fine0]; simp only [fine0s, hf, Bool.true_and, Bool.and_true]; simp only [fine0]; exact w.fine, by simp only [isTD, h, w.tr, Bool.and_self], by simp only [cnt, cntAll]; omega, by simp only [PyData.depth, PyData.depthAll]; omega⟩
theorem isLet_ch {c : Nat} (h : c = 97 ∨ c = 98 ∨ c = 122) : isLetD (.str (ch c)) = true ∧ fine0 (.str (ch c)) = true := by
  rcases h with rfl | rfl | rfl <;> exact ⟨by decide +kernel, by decide +kernel⟩
theorem s0_add {N D : Nat} {d e : PyData} {n c : Nat} (hd : S0 3 2 d) (he : S0 N D e) (hD : 2 ≤ D) (hn : n ≤ 1) (hc : c = 97 ∨ c = 98 ∨ c = 122) : S0 (N + 10) (D + 2) (.tuple [.str (ch c), .list (List.replicate n d ++ [e])]) := by
  have h1 := (isLet_ch hc).2
  have a := hd.cn
  have b := he.cn
  have e1 := hd.dp
  have e2 := he.dp
  refine ⟨?_, ?_, ?_⟩
  · rw [fine0]
    simp only [fine0s, h1, Bool.true_and, Bool.and_true]
    simp only [fine0]
    refine fine0s_of fun y hy => (List.mem_append.mp hy).elim (fun h => by rw [List.eq_of_mem_replicate h]; exact hd.fine) fun h => by rw [List.mem_singleton.mp h]; exact he.fine
  · have m := Nat.mul_le_mul hn a
    simp only [cnt, cntAll, cntAll_app, cnt_rep]
    omega
  · have : PyData.depthAll (List.replicate n d ++ [e]) ≤ D := depthAll_of fun y hy => (List.mem_append.mp hy).elim (fun h => by rw [List.eq_of_mem_replicate h]; omega) fun h => by rw [List.mem_singleton.mp h]; exact e2
    simp only [PyData.depth, PyData.depthAll]
    omega
theorem wt_add {N D : Nat} {d e : PyData} {n c : Nat} (hd : Wt 3 2 d) (he : Wt N D e) (hD : 2 ≤ D) (hn : n ≤ 1) (hc : c = 97 ∨ c = 98 ∨ c = 122) : Wt (N + 10) (D + 2) (.tuple [.str (ch c), .list (List.replicate n d ++ [e])]) := by
  have h := s0_add hd.s0 he.s0 hD hn hc
  refine ⟨h.fine, ?_, h.cn, h.dp⟩
  simp only [isTD, (isLet_ch hc).1, isTDs_app, is_rep hd.tr, isTDs, he.tr, Bool.and_self]
theorem s0_spoilt {M E : Nat} {x : Str} {d e : PyData} {n k : Nat} (hx : fine0 (.str x) = true) (hd : S0 20 5 d) (he : S0 M E e) : S0 (n * 20 + n * 20 + M + 10) (5 + E + 2) (.tuple [.str x, .list (List.replicate n d ++ [e] ++ (List.replicate n d).take k)]) := by
  have a := hd.cn
  have b := he.cn
  have e1 := hd.dp
  have e2 := he.dp
  have hm : ∀ y ∈ List.replicate n d ++ [e] ++ (List.replicate n d).take k, y = d ∨ y = e := fun y hy => by
    rcases List.mem_append.mp hy with hy | hy
    · rcases List.mem_append.mp hy with hy | hy
      · exact .inl (List.eq_of_mem_replicate hy)
      · exact .inr (List.mem_singleton.mp hy)
    · exact .inl (List.eq_of_mem_replicate (List.mem_of_mem_take hy))
  refine ⟨?_, ?_, ?_⟩
  · rw [fine0]
    simp only [fine0s, hx, Bool.true_and, Bool.and_true]
    simp only [fine0]
    exact fine0s_of fun y hy => (hm y hy).elim (fun h => by rw [h]; exact hd.fine) fun h => by rw [h]; exact he.fine
  · have m := Nat.mul_le_mul (Nat.le_refl n) a
    have t := cntAll_take k (List.replicate n d)
    rw [cnt_rep] at t
    simp only [cnt, cntAll, cntAll_app, cnt_rep]
    omega
  · have : PyData.depthAll (List.replicate n d ++ [e] ++ (List.replicate n d).take k) ≤ 5 + E := depthAll_of fun y hy => (hm y hy).elim (fun h => by rw [h]; omega) fun h => by rw [h]; omega
    simp only [PyData.depth, PyData.depthAll]
    omega
def noneDs : List PyData := [.none, .int 0, .bool true, .str (Str.ofString ""), .str (Str.ofString "a"), .str (Str.ofString "a(b)"), .tuple [], .list [], .dict [], .tuple [.str (Str.ofString "a")], .tuple [.str (Str.ofString "a"), .tuple []], .list [.str (Str.ofString "a"), .list []], .tuple [.list [.str (Str.ofString "a")], .list []], .tuple [.list [], .str (Str.ofString "a")]]
theorem none_all : noneDs.all (fun d => fine0 d && decide (cnt d ≤ 10) && !isTD d) = true := by decide +kernel
theorem none_ok {d : PyData} (h : d ∈ noneDs) : fine0 d = true ∧ cnt d ≤ 10 ∧ isTD d = false := by
  have h1 := List.all_eq_true.mp none_all d h
  simp only [Bool.and_eq_true, decide_eq_true_eq, Bool.not_eq_true'] at h1
  exact ⟨h1.1.1, h1.1.2, h1.2⟩
def abzS : Str := Str.ofString "abz"
theorem abz_list : abzS.cps.toList = [97, 98, 122] := by decide +kernel
theorem abz_at {r : Int} (h0 : 0 ≤ r) (h1 : r < 3) : ∃ c : Nat, (c = 97 ∨ c = 98 ∨ c = 122) ∧ atI abzS.cps.toList r = some c := by
  rw [abz_list]
  rcases (by omega : r = 0 ∨ r = 1 ∨ r = 2) with rfl | rfl | rfl
  · exact ⟨97, .inl rfl, rfl⟩
  · exact ⟨98, .inr (.inl rfl), rfl⟩
  · exact ⟨122, .inr (.inr rfl), rfl⟩

def RunG (P : Program) (w : World) (K : PySem.W.Frag) (mg : Str → Option Value) (bh : Heap) (k : Nat) (fa : Addr) (fd : FuncData) (x : Str) (sp : Sp) : Prop :=
  ∀ (A : Around) (ou : List Env) (s : Shared) (H : Hp) (ar : Args) (us : List Value) (vs : List V) (Q : VK) (E : XK), A.guards = some [] → Room k A → Env0 P w K mg bh A ou s H → BindsTo s fd ar ([x].zip us) → Vals vs us → sp vs H Q E →
    codeAny (model P w) A (.call (.ref fa) ar) (CR CX0 ou P w H s Q E) s
theorem runG_of {P : Program} {w : World} {K : PySem.W.Frag} {mg : Str → Option Value} {bh : Heap} {x nm : Str} {st : Stmt} {fa : Addr} {fd : FuncData} {N : List Str} {k : Nat} {sp : Sp} (F : Fun K nm nm st fa fd) (S : FnScope N [x] (defScope st)) (hlen : ∀ vs H Q E, sp vs H Q E → vs.length = 1)
    (hbd : ∀ (cdv : Value) (A : Around) (ou : List Env) (s : Shared) (H : Hp) (vs : List V) (Q : VK) (E : XK), A.guards = some [] → Room k (A.deeper (envOfC nm (defScope st) s.heap.objs.size fa cdv)) → sp vs H Q E →
      ∃ t, PSs (cxOf CX0 P w K mg bh N nm (defScope st) fa cdv A ou s H E).nox (defBody st) t ∧ t { nx := fun _ H' => Q .non H', rt := Q } (L2.start N vs) H) : RunG P w K mg bh (k + 1) fa fd x sp := by
  obtain ⟨oc, od, kV, dc, pm, an, cdv, ct, osl, rfl, lk0, hc0⟩ := F.ex
  intro A ou s H ar us vs Q E hG hR env0 hB hV hsp
  have ln : vs.length = [x].length := hlen _ _ _ _ hsp
  have kx : K.In s.heap := env0.mod.kin.keeps fun b ob eb => (env0.bs b ob eb).1
  have lm : s.heap.NoLimit := env0.mod.nolimit.keeps fun b ob eb => (env0.bs b ob eb).1
  have kinds : ∀ z ∈ [x].zip us, (defScope st).names.lookup z.1 = some .local ∨ ((defScope st).names.lookup z.1 = some .cell ∧ ((cellsFrom (s.heap.objs.size + 1) (defScope st).names []).lookup z.1).isSome = true) := by
    rintro ⟨zn, zv⟩ hz
    rcases S.par zn (List.of_mem_zip hz).1 with hq | hq
    · exact .inl hq
    · exact .inr ⟨hq, PySem.W.cellsFrom_some _ _ _ (.inl hq)⟩
  refine codeAny_call_function hR.depth (kx _ _ lk0) rfl S.co S.gen rfl (PySem.W.codeRec_of kx hc0) (hB _ _ _ _ (wpAny_newFunctionEnv_cells S.kind kinds fun ev hev s1 xx => ?_))
  subst hev
  refine ⟨lm.keeps xx.toInCall.keep, codeAny_func ?_⟩
  obtain ⟨t, hT, hQ⟩ := hbd cdv A ou s H vs Q E hG (hR.deeper _) hsp
  have iv : Inv (cxOf CX0 P w K mg bh N nm (defScope st) fa cdv A ou s H E) [] (L2.start N vs) H s1 := inv_start S hR.hd env0 ln hV xx
  refine wpAny_mono (hT.nox.run [] s1 (L2.start N vs) H _ iv hQ) (fun flw s2 hs2 => ?_) fun e s2 hs2 => hs2
  have done : ∀ {σ2 : L2.St} {H2 : Hp} {v : V} {u : Value}, Inv (cxOf CX0 P w K mg bh N nm (defScope st) fa cdv A ou s H E) [] σ2 H2 s2 → RelV v u → Q v H2 → CE ou P w H s Q u s2 :=
    fun {σ2 H2 v u} J2 rv2 q2 => ⟨v, H2, J2.os, J2.bare, J2.base, J2.hok, rv2, q2⟩
  cases flw with
  | ret u =>
    obtain ⟨v, σ2, H2, J2, rv2, q2⟩ := hs2
    exact done J2 rv2 q2
  | next =>
    obtain ⟨σ2, H2, J2, q2⟩ := hs2
    exact done (v := V.non) (u := Value.none) J2 rfl q2
  | brk => exact (let ⟨_, _, _, q2⟩ := hs2; False.elim q2)
  | cont => exact (let ⟨_, _, _, q2⟩ := hs2; False.elim q2)
theorem callG {P : Program} {w : World} {K : PySem.W.Frag} {mg mb : Str → Option Value} {k : Nat} {fa sa : Addr} {fd : FuncData} {x : Str} {sp : Sp} {s0 : Shared} {vs : List Value} {zs : List Int}
    (kx : K.In s0.heap) (hn : s0.heap.Ns mainGlobals mg) (hbn : s0.heap.Ns builtinsNs mb) (hbt : ∀ y : Str, y ≠ "__name__" → mb y = bootBuiltins y) (hlm : s0.heap.NoLimit) (hgn : s0.gens = #[])
    (hsa : s0.heap.get? sa = some { cls := .type "list", data := .seq vs.toArray }) (hia : IntsAre vs zs) (hln : zs.length ≤ sizeLine) (hrm : Room k callerA)
    (hsm : ∃ es ep ob, s0.heap.get? sysModules = some ob ∧ ob.data = .dict es ep) (F : ∀ bh : Heap, K.In bh → bh.Ns mainGlobals mg → (∃ ob, bh.get? sysModules = some ob) → RunG P w K mg bh k fa fd x sp) (hbd : ∀ (s : Shared) (u : Value), BindsTo s fd ⟨[u], []⟩ [(x, u)])
    (hspr : ∀ H : Hp, SqL K H sa (zs.map V.int) → sp [.ref sa] H (fun v _ => v = .bl true) fun _ _ _ => False) :
    codeAny (model P w) callerA (.call (.ref fa) ⟨[.ref sa], []⟩) (fun rr s' => rr = .ok (.ret (.bool true)) ∧ OldK s0.heap s'.heap ∧ s'.os = s0.os ∧ AllBare s'.gens) s0 := by
  have rvs := vals_ints hia
  have lnV := hia.length
  have inner : ∀ H : Hp, Only H → SqL K H sa (zs.map V.int) → HOk P w H s0.heap → (∀ b, H b ≠ none → b = sa) → (H sa ≠ none → K.lookup sa = none) →
      codeAny (model P w) callerA (.call (.ref fa) ⟨[.ref sa], []⟩) (fun rr s' => rr = .ok (.ret (.bool true)) ∧ OldK s0.heap s'.heap ∧ s'.os = s0.os ∧ AllBare s'.gens) s0 := by
    intro H only hSq hHok honly hKn
    have toBase : ∀ {b : Addr} {ob : Obj}, s0.heap.get? b = some ob → H b = none → (hidT s0.heap H).get? b = some ob := fun he hn => hidT_get he hn
    have notDict : ∀ {b : Addr} {ob : Obj} {es : Array DictEntry} {ep : Nat}, s0.heap.get? b = some ob → ob.data = .dict es ep → H b = none := by
      intro b ob es ep he hd
      cases hb : H b with
      | none => rfl
      | some uu =>
        obtain rfl : b = sa := honly b (by rw [hb]; simp)
        rw [hsa] at he
        cases he
        have bad : Data.seq vs.toArray _ = Data.dict es ep := hd
        cases bad
    have nss : ∀ {b : Addr} {mm : Str → Option Value}, s0.heap.Ns b mm → (hidT s0.heap H).Ns b mm := by
      rintro b mm ⟨ob, es, ep, he, hd, hr⟩
      exact ⟨ob, es, ep, toBase he (notDict he hd), hd, hr⟩
    have kb : K.In (hidT s0.heap H) := by
      intro b ob he
      refine toBase (kx b ob he) ?_
      cases hb : H b with
      | none => rfl
      | some uu =>
        obtain rfl : b = sa := honly b (by rw [hb]; simp)
        rw [hKn (by rw [hb]; simp)] at he
        cases he
    obtain ⟨mc, l1, l2⟩ := hlm
    have env0 : Env0 P w K mg (hidT s0.heap H) callerA [] s0 H := ⟨rfl, ⟨kb, nss hn, ⟨mb, nss hbn, hbt⟩, ⟨mc, nss l1, l2⟩⟩, fun b ob he => of_hidT he, Nat.le_of_eq (hidT_size _ _), trivial, fun b hb => (List.not_mem_nil hb).elim, hHok, .of_eq hgn⟩
    refine codeAny_mono (F _ kb (nss hn) (let ⟨es, ep, ob, he, hd⟩ := hsm; ⟨ob, toBase he (notDict he hd)⟩) callerA [] s0 H ⟨[.ref sa], []⟩ [.ref sa] [.ref sa] _ _ rfl hrm env0 (hbd s0 (.ref sa)) (.cons rfl .nil) (hspr H hSq)) fun rr s' hh => ?_
    match rr, hh with
    | .error e, hh => exact (show False from hh).elim
    | .ok .next, hh => exact (show False from hh).elim
    | .ok .brk, hh => exact (show False from hh).elim
    | .ok .cont, hh => exact (show False from hh).elim
    | .ok (.ret u), hh =>
      obtain ⟨v, H2, hos, hbare, hun, hok2, hrv, hvq⟩ := hh
      obtain rfl : v = .bl true := hvq
      obtain rfl : u = Value.bool true := hrv
      refine ⟨rfl, OldK.of_keep fun b ob he => ?_, hos, hbare⟩
      cases hb : H b with
      | none => exact hun.keep b ob he hb (fun hz => (List.not_mem_nil hz).elim) (List.not_mem_nil)
      | some uu =>
        rcases only b with hz | ⟨o2, xs2, hz⟩
        · rw [hb] at hz
          cases hz
        · obtain ⟨e1, _⟩ := hHok b _ hz
          obtain ⟨e2, _⟩ := hok2 b _ (hun.frzs b o2 _ hz)
          rw [he] at e1
          cases e1
          exact e2
  cases hlk : K.lookup sa with
  | some oo =>
    have hx := kx sa oo hlk
    rw [hsa] at hx
    cases hx
    refine inner (fun _ => none) (fun _ => .inl rfl) (.inr ⟨_, vs.toArray, _, hlk, rfl, rfl, rfl, by rw [List.size_toArray, lnV]; exact hln, by simpa using rvs⟩) (fun b u hz => ?_) (fun b hz => absurd rfl hz) fun hz => absurd rfl hz
    have : (none : Option HO) = some u := hz
    cases this
  | none =>
    refine inner (fun b => if b = sa then some (.frz { cls := .type "list", data := .seq vs.toArray } (.lst (zs.map V.int))) else none) (fun b => ?_) (.inl (.inr ⟨{ cls := .type "list", data := .seq vs.toArray }, if_pos rfl⟩)) (fun b u hz => ?_) (fun b hz => ?_) fun _ => hlk
    · by_cases heq : b = sa
      · exact .inr ⟨_, _, if_pos heq⟩
      · exact .inl (if_neg heq)
    · by_cases heq : b = sa
      · have hz2 := (if_pos heq).symm.trans hz
        cases hz2
        subst heq
        exact ⟨hsa, by rw [List.length_map]; exact hln, vs, _, rvs, hsa⟩
      · have hz2 := (if_neg heq).symm.trans hz
        cases hz2
    · by_cases heq : b = sa
      · exact heq
      · exact absurd (if_neg heq) hz
theorem sysMod_of {h : Heap} (x : h.NoSeer) : ∃ es ep ob, h.get? sysModules = some ob ∧ ob.data = .dict es ep := by
  obtain ⟨m, hns, _⟩ := x.mods
  obtain ⟨ob, es, ep, he, hd, _⟩ := hns
  exact ⟨es, ep, ob, he, hd⟩
theorem walkG {l : PySem.W.OpenLaw} {n k : Nat} {q : Program} {loose : List Str} {XP : (Str → Option Value) → Heap → Prop} {YP : World → Heap → Prop} {d : DefRec} {K : Params → PySem.W.Frag} {x : Str}
    (hm : l.most = some n) (hz : n ≤ sizeLine) (h63 : n ≤ 63) (hin : importsNone q = true) (hdd : d.params.defaults = []) (hrm : Room k callerA) (hY : ∀ w h, YP w h → (K w.params).In h)
    (F : ∀ (w : World) (mg : Str → Option Value) (fa : Addr) (hh : Heap), (K w.params).In hh → hh.Ns mainGlobals mg → mg d.name = some (.ref fa) →
      ∃ fd : FuncData, (∀ (s : Shared) (u : Value), BindsTo s fd ⟨[u], []⟩ [(x, u)]) ∧ ∀ bh : Heap, (K w.params).In bh → bh.Ns mainGlobals mg → (∃ ob, bh.get? sysModules = some ob) → RunG l.prog w (K w.params) mg bh k fa fd x (spLaw (K w.params))) :
    PySem.W.WalkO q loose XP YP l.row.toRowW d [] fun f vs => PySem.call f vs := by
  refine Att.attach_call hm hdd fun w s0 s1 mg mb fa o pm cd dc a vs ns G Y ho hod hcd hmg hob hiz hlen hgn => ?_
  obtain ⟨fd, hB, hF⟩ := F w mg fa _ (hY w _ Y) G.T.g hmg
  exact callG (hY w _ Y) G.T.g G.T.b G.T.builtins G.T.nolimit hgn hob hiz (Nat.le_trans hlen hz) hrm (sysMod_of (G.T.seer hin)) hF hB fun H hS => ⟨a, ns, rfl, hS, Nat.le_trans hlen h63, fun _ => rfl⟩

theorem inv_sysMod {X : Cx} {pins : List (Addr × Obj)} {σ : L2.St} {H : Hp} {s : Shared} (hM : ∃ ob, X.base.get? sysModules = some ob) (I : Inv X pins σ H s) : H sysModules = none := let ⟨_, hg⟩ := hM; (I.bs _ _ hg).2
mutual
theorem Dt.reads {X : Cx} {pins : List (Addr × Obj)} {σ : L2.St} {H : Hp} {s : Shared} {ok : Addr → Prop} (hM : ∃ ob, X.base.get? sysModules = some ob) (I : Inv X pins σ H s) : ∀ {d : PyData} {v : V} {u : Value}, Dt ok H v d → RelV v u → ∃ as, Reads s.heap u d as ∧ sysModules ∉ as
  | _, _, _, .non, r => by cases r; exact ⟨_, Reads.none, List.not_mem_nil⟩
  | _, _, _, .bl b, r => by cases r; exact ⟨_, Reads.bool b, List.not_mem_nil⟩
  | _, _, _, .int i, r => by obtain ⟨t, rfl⟩ := r; exact ⟨_, Reads.int i t, List.not_mem_nil⟩
  | _, _, _, .str x, r => by obtain ⟨t, rfl⟩ := r; exact ⟨_, Reads.str x t, List.not_mem_nil⟩
  | _, _, _, .dic e _, r => by
    cases r
    obtain ⟨_, hd, vs, rel, o, es, ep, h1, h2, h3, h4⟩ := dk_of I.hok e
    cases rel
    obtain ⟨_, hp, _⟩ := h4
    have he : es.toList = [] := by
      generalize es.toList = l at hp
      cases hp
      rfl
    exact ⟨_, Reads.dict (kvs := []) (as := []) (bs := []) h1 h2.1 h3 (by rw [he]; exact .nil) (by rw [he]; exact .nil), fun hm => by
      rcases List.mem_cons.mp hm with hq | hq
      · rw [← hq] at hd
        simp at hd
      · cases hq⟩
  | _, _, _, .lst e _ _ rr, r => by
    cases r
    obtain ⟨its, rv, ⟨o, n, ho, hc, _, hd⟩, _⟩ := I.list (SqL.of e)
    obtain ⟨as, h1, h2⟩ := DtAll.reads hM I rr rv
    refine ⟨_, Reads.list ho hc hd h1, fun hm => ?_⟩
    rcases List.mem_cons.mp hm with hq | hq
    · rw [← hq, inv_sysMod hM I] at e
      cases e
    · exact h2 hq
  | _, _, _, .tup e _ _ rr, r => by
    cases r
    obtain ⟨its, rv, ⟨o, ho, hc, n, hd⟩, _⟩ := I.tuple (SqT.of e)
    obtain ⟨as, h1, h2⟩ := DtAll.reads hM I rr rv
    exact ⟨_, Reads.tuple ho hc hd h1, h2⟩
theorem DtAll.reads {X : Cx} {pins : List (Addr × Obj)} {σ : L2.St} {H : Hp} {s : Shared} {ok : Addr → Prop} (hM : ∃ ob, X.base.get? sysModules = some ob) (I : Inv X pins σ H s) : ∀ {ds : List PyData} {vs : List V} {us : List Value}, DtAll ok H vs ds → Vals vs us → ∃ as, ReadsAll s.heap us ds as ∧ sysModules ∉ as
  | _, _, _, .nil, r => by cases r; exact ⟨_, ReadsAll.nil, List.not_mem_nil⟩
  | _, _, _, .cons a b, r => by
    cases r with
    | cons r1 r2 =>
      obtain ⟨as, q1, q2⟩ := Dt.reads hM I a r1
      obtain ⟨bs, q3, q4⟩ := DtAll.reads hM I b r2
      exact ⟨_, ReadsAll.cons q1 q3, fun hm => (List.mem_append.mp hm).elim q2 q4⟩
end
def rReprD : List V → Hp → VK → Prop := fun xs H Q => ∃ (v : V) (d : PyData), xs = [v] ∧ Dt (fun _ => True) H v d ∧ d.showable = true ∧ d.shown.length ≤ sizeLine ∧ d.depth ≤ 60 ∧ Q (.str d.shown) H
theorem call_reprD {X : Cx} (hg : X.A.guards = some []) (hu : X.A.units + 64 < cLine) (hM : ∃ ob, X.base.get? sysModules = some ob) : CallR X (.builtin "repr") rReprD := by
  intro pins s σ H xs us Q I r h
  obtain ⟨v, d, rfl, ht, hs, hz, hd, q⟩ := h
  obtain ⟨u, rfl, rv⟩ := vals1 r
  obtain ⟨as, h1, h2⟩ := Dt.reads hM I ht rv
  have refs : ∀ a, u = Value.ref a → wpAny (model X.prog X.w) X.A (call (.builtin "repr") [u]) (fun x s' => ∃ v H', Inv X pins σ H' s' ∧ RelV v x ∧ Q v H') X.xe s := by
    rintro a rfl
    exact repr_of_reads' h1 hs (fun _ => h2) hg (by omega) (fun _ _ e => e) (fun h' t tk hk => ⟨.str d.shown, H, I.kept hk, ⟨t, rfl⟩, q⟩) hz
  cases ht with
  | non => cases rv; exact PySem.P.repr_of_none ⟨.str _, H, I.tok _, ⟨_, rfl⟩, q⟩
  | bl b => cases rv; exact PySem.P.repr_of_bool ⟨.str _, H, I.tok _, ⟨_, rfl⟩, q⟩
  | int i =>
    obtain ⟨t, rfl⟩ := rv
    exact PySem.P.repr_of_int (by simpa only [PyData.showable, decide_eq_true_eq] using hs) ⟨.str _, H, I.tok _, ⟨_, rfl⟩, q⟩
  | str x =>
    obtain ⟨t, rfl⟩ := rv
    exact PySem.P.repr_of_str ⟨.str _, H, I.tok _, ⟨_, rfl⟩, q⟩ hz
  | dic _ _ => exact refs _ rv
  | lst _ _ _ _ => exact refs _ rv
  | tup _ _ _ _ => exact refs _ rv

def rReprN : List V → Hp → VK → Prop := fun xs H Q => ∃ (v : V) (d : PyData), xs = [v] ∧ Dt (fun _ => True) H v d ∧ d.showable = true ∧ d.shown.length ≤ sizeLine ∧ d.depth ≤ 80 ∧ Q (.str d.shown) H
theorem call_reprN {X : Cx} (hg : X.A.guards = some []) (hu : X.A.units + 90 < cLine) (hM : ∃ ob, X.base.get? sysModules = some ob) : CallR X (.builtin "repr") rReprN := by
  intro pins s σ H xs us Q I r h
  obtain ⟨v, d, rfl, ht, hs, hz, hd, q⟩ := h
  obtain ⟨u, rfl, rv⟩ := vals1 r
  obtain ⟨as, h1, h2⟩ := Dt.reads hM I ht rv
  have refs : ∀ a, u = Value.ref a → wpAny (model X.prog X.w) X.A (call (.builtin "repr") [u]) (fun x s' => ∃ v H', Inv X pins σ H' s' ∧ RelV v x ∧ Q v H') X.xe s := by
    rintro a rfl
    exact repr_of_reads' h1 hs (fun _ => h2) hg (by omega) (fun _ _ e => e) (fun h' t tk hk => ⟨.str d.shown, H, I.kept hk, ⟨t, rfl⟩, q⟩) hz
  cases ht with
  | non => cases rv; exact PySem.P.repr_of_none ⟨.str _, H, I.tok _, ⟨_, rfl⟩, q⟩
  | bl b => cases rv; exact PySem.P.repr_of_bool ⟨.str _, H, I.tok _, ⟨_, rfl⟩, q⟩
  | int i =>
    obtain ⟨t, rfl⟩ := rv
    exact PySem.P.repr_of_int (by simpa only [PyData.showable, decide_eq_true_eq] using hs) ⟨.str _, H, I.tok _, ⟨_, rfl⟩, q⟩
  | str x =>
    obtain ⟨t, rfl⟩ := rv
    exact PySem.P.repr_of_str ⟨.str _, H, I.tok _, ⟨_, rfl⟩, q⟩ hz
  | dic _ _ => exact refs _ rv
  | lst _ _ _ _ => exact refs _ rv
  | tup _ _ _ _ => exact refs _ rv
theorem room90 {k : Nat} {A : Around} (r : Room k A) : A.units + 90 < cLine := by have := r.un; omega


section
variable {P : Program} {w : World} {K : PySem.W.Frag} {mg : Str → Option Value} {base : Heap}
theorem ok_law (T : Txt K mg) (hM : ∃ ob, base.get? sysModules = some ob) : RunG P w K mg base 61 T.f_law T.d_law "script" (spLaw K) := by
  have G__law_pool : FnOk P w K mg base CX0 1 T.f__law_pool T.d__law_pool ["script", "k"] (sp__law_pool K) := ok__law_pool T
  have G__law_take : FnOk P w K mg base CX0 1 T.f__law_take T.d__law_take ["pool", "many"] sp__law_take := ok__law_take T
  have G__law_tree : FnOk P w K mg base CX0 40 T.f__law_tree T.d__law_tree ["pool", "most", "letters"] sp__law_tree := ok__law_tree T
  have G__law_letters : FnOk P w K mg base CX0 2 T.f__law_letters T.d__law_letters ["pool"] sp__law_letters := ok__law_letters T
  have G__law_odd : FnOk P w K mg base CX0 2 T.f__law_odd T.d__law_odd ["pool", "tree"] sp__law_odd := ok__law_odd T
  have G__law_spoilt : FnOk P w K mg base CX0 33 T.f__law_spoilt T.d__law_spoilt ["pool", "tree"] (sp__law_spoilt 31) := ok__law_spoilt T 31
  have G_is_tree : FnOk P w K mg base CX0 3 T.f_is_tree T.d_is_tree ["thing"] sp_is_tree := ok_is_tree T
  have G__law_is_tree : FnOk P w K mg base CX0 60 T.f__law_is_tree T.d__law_is_tree ["thing"] (sp__law_is_tree 60) := ok__law_is_tree T 60
  refine runG_of T.F_law sc_law (fun vs H Q E h => ?_) (fun cdv A outer s H vs Q E hG hr h => ?_)
  · obtain ⟨a, ns, rfl, _⟩ := h
    rfl
  obtain ⟨a, ns, rfl, hS, h63, q⟩ := h
  refine ⟨_, (pss_cons (ps_for PassesOwn.never rfl (pi_range1 (by rfl) T.z_range (pa_cons (pe_callB (call_max2 rfl) (by rfl) T.z_max (by decide +kernel) (pa_cons pe_int (pa_cons (pe_callB (call_min2 rfl) (by rfl) T.z_min (by decide +kernel) (pa_cons pe_int (pa_cons (pe_callB call_len_seq (by rfl) T.z_len PySem.boot_len (pa_cons (pv 0) pa_nil)) pa_nil))) pa_nil))) pa_nil)) (pg_name (i := 1) sc_law.nd rfl (Or.inl rfl)) (pss_cons (ps_set (i := 2) sc_law.nd rfl (Or.inr rfl) (pe_call G__law_pool (hr.mono (by omega)) (by rfl) T.m__law_pool T.F__law_pool.kp T.b__law_pool .nil pass0 (pa_cons (pv 0) (pa_cons (pv 1) pa_nil)))) (pss_cons (ps_set (i := 3) sc_law.nd rfl (Or.inr rfl) (pe_call G__law_tree (hr.mono (by omega)) (by rfl) T.m__law_tree T.F__law_tree.kp T.b__law_tree .nil pass0 (pa_cons (pv 2) (pa_cons pe_int (pa_cons (pe_call G__law_letters (hr.mono (by omega)) (by rfl) T.m__law_letters T.F__law_letters.kp T.b__law_letters .nil pass0 (pa_cons (pv 2) pa_nil)) pa_nil))))) (pss_cons (ps_for PassesOwn.never rfl (pi_list (pe_op op_cat (pe_lst (pa_cons (pv 3) pa_nil)) (pe_lc (own := [("turn", 12)]) (g := gName 12) (tt := tYes) rfl sc_law.nd (pi_range1 (by rfl) T.z_range (pa_cons pe_int pa_nil)) (blkOk_by (own := [("turn", 12)]) (N := ["script", "k", "pool", "tree", "thing", "kept", "found", "deep", "bad", "side", "wide", "spoilt", "turn"]) (sc := (defScope s_law)) (by decide +kernel)) (fun _ _ _ _ _ => (pg_name (i := 12) sc_law.nd rfl (Or.inl rfl))) (fun _ _ _ _ _ => pts_nil) (fun _ _ _ _ _ => (pe_call G__law_spoilt (hr.mono (by omega)) (by rfl) T.m__law_spoilt T.F__law_spoilt.kp T.b__law_spoilt .nil pass0 (pa_cons (pv 2) (pa_cons (pv 3) pa_nil))))))) (pg_name (i := 4) sc_law.nd rfl (Or.inl rfl)) (pss_cons (ps_set (i := 5) sc_law.nd rfl (Or.inl rfl) (pe_callB (call_reprN hG (room90 hr) hM) (by rfl) T.z_repr (by decide +kernel) (pa_cons (pv 4) pa_nil))) (pss_cons (ps_set (i := 6) sc_law.nd rfl (Or.inl rfl) (pe_call G_is_tree (hr.mono (by omega)) (by rfl) T.m_is_tree T.F_is_tree.kp T.b_is_tree .nil pass0 (pa_cons (pv 4) pa_nil))) (pss_one (ps_if (PW.pt (pw_or (pt_not (pt_val (pe_callB call_isi (by rfl) T.z_isinstance (by decide +kernel) (pa_cons (pv 6) (pa_cons (pe_bltn (v := .ty "bool") (by rfl) T.z_bool (by decide +kernel) rfl) pa_nil))))) (pw_or (pt_cmpR op_ne (pv 6) (pe_call G__law_is_tree (hr.mono (by omega)) (by rfl) T.m__law_is_tree T.F__law_is_tree.kp T.b__law_is_tree .nil pass0 (pa_cons (pv 4) pa_nil)) (nomark _)) (pw_or1 (pt_cmpR op_ne (pe_callB (call_reprN hG (room90 hr) hM) (by rfl) T.z_repr (by decide +kernel) (pa_cons (pv 4) pa_nil)) (pv 5) (nomark _)))))) (pss_one (ps_ret pe_bl)) pss_nil))))) (pss_one (ps_if (pt_cmpR op_notBl (pe_call G_is_tree (hr.mono (by omega)) (by rfl) T.m_is_tree T.F_is_tree.kp T.b_is_tree .nil pass0 (pa_cons (pv 3) pa_nil)) pe_bl (nomark _)) (pss_one (ps_ret pe_bl)) pss_nil)))))) (pss_cons (ps_set (i := 2) sc_law.nd rfl (Or.inr rfl) (pe_call G__law_pool (hr.mono (by omega)) (by rfl) T.m__law_pool T.F__law_pool.kp T.b__law_pool .nil pass0 (pa_cons (pv 0) (pa_cons pe_int pa_nil)))) (pss_cons (ps_set (i := 7) sc_law.nd rfl (Or.inl rfl) (pe_tup (pa_cons pe_str (pa_cons (pe_op op_rep (pe_lst (pa_cons (pe_tup (pa_cons pe_str (pa_cons (pe_lst pa_nil) pa_nil))) pa_nil)) (pe_call G__law_take (hr.mono (by omega)) (by rfl) T.m__law_take T.F__law_take.kp T.b__law_take .nil pass0 (pa_cons (pv 2) (pa_cons pe_int pa_nil)))) pa_nil)))) (pss_cons (ps_set (i := 8) sc_law.nd rfl (Or.inl rfl) (pe_call G__law_odd (hr.mono (by omega)) (by rfl) T.m__law_odd T.F__law_odd.kp T.b__law_odd .nil pass0 (pa_cons (pv 2) (pa_cons (pv 7) pa_nil)))) (pss_cons (ps_for PassesOwn.never rfl (pi_range1 (by rfl) T.z_range (pa_cons (pe_op op_add pe_int (pe_call G__law_take (hr.mono (by omega)) (by rfl) T.m__law_take T.F__law_take.kp T.b__law_take .nil pass0 (pa_cons (pv 2) (pa_cons pe_int pa_nil)))) pa_nil)) (pg_name (i := 1) sc_law.nd rfl (Or.inl rfl)) (pss_cons (ps_set (i := 9) sc_law.nd rfl (Or.inl rfl) (pe_op op_rep (pe_lst (pa_cons (pe_tup (pa_cons pe_str (pa_cons (pe_lst pa_nil) pa_nil))) pa_nil)) (pe_call G__law_take (hr.mono (by omega)) (by rfl) T.m__law_take T.F__law_take.kp T.b__law_take .nil pass0 (pa_cons (pv 2) (pa_cons pe_int pa_nil))))) (pss_cons (ps_set (i := 7) sc_law.nd rfl (Or.inl rfl) (pe_tup (pa_cons (pe_ix ix_str pe_str (pe_call G__law_take (hr.mono (by omega)) (by rfl) T.m__law_take T.F__law_take.kp T.b__law_take .nil pass0 (pa_cons (pv 2) (pa_cons pe_int pa_nil))) (fun _ _ => rfl)) (pa_cons (pe_op op_cat (pv 9) (pe_lst (pa_cons (pv 7) pa_nil))) pa_nil)))) (pss_one (ps_set (i := 8) sc_law.nd rfl (Or.inl rfl) (pe_tup (pa_cons (pe_ix ix_str pe_str (pe_call G__law_take (hr.mono (by omega)) (by rfl) T.m__law_take T.F__law_take.kp T.b__law_take .nil pass0 (pa_cons (pv 2) (pa_cons pe_int pa_nil))) (fun _ _ => rfl)) (pa_cons (pe_op op_cat (pv 9) (pe_lst (pa_cons (pv 8) pa_nil))) pa_nil)))))))) (pss_cons (ps_set (i := 10) sc_law.nd rfl (Or.inl rfl) (pe_tup (pa_cons pe_str (pa_cons (pe_op op_rep (pe_lst (pa_cons (pe_tup (pa_cons pe_str (pa_cons (pe_op op_rep (pe_lst (pa_cons (pe_tup (pa_cons pe_str (pa_cons (pe_lst pa_nil) pa_nil))) pa_nil)) (pe_call G__law_take (hr.mono (by omega)) (by rfl) T.m__law_take T.F__law_take.kp T.b__law_take .nil pass0 (pa_cons (pv 2) (pa_cons pe_int pa_nil)))) pa_nil))) pa_nil)) (pe_op op_add pe_int (pe_call G__law_take (hr.mono (by omega)) (by rfl) T.m__law_take T.F__law_take.kp T.b__law_take .nil pass0 (pa_cons (pv 2) (pa_cons pe_int pa_nil))))) pa_nil)))) (pss_cons (ps_set (i := 11) sc_law.nd rfl (Or.inl rfl) (pe_tup (pa_cons pe_str (pa_cons (pe_op op_cat (pe_op op_cat (pe_ix ix_tup (pv 10) pe_int (fun _ _ => rfl)) (pe_lst (pa_cons (pe_call G__law_odd (hr.mono (by omega)) (by rfl) T.m__law_odd T.F__law_odd.kp T.b__law_odd .nil pass0 (pa_cons (pv 2) (pa_cons (pe_tup (pa_cons pe_str (pa_cons (pe_lst pa_nil) pa_nil))) pa_nil))) pa_nil))) (pe_slice sl_list (pe_ix ix_tup (pv 10) pe_int (fun _ _ => rfl)) po_none (po_some (pe_call G__law_take (hr.mono (by omega)) (by rfl) T.m__law_take T.F__law_take.kp T.b__law_take .nil pass0 (pa_cons (pv 2) (pa_cons pe_int pa_nil)))))) pa_nil)))) (pss_cons (ps_if (PW.pt (pw_or (pt_cmpR op_notBl (pe_call G_is_tree (hr.mono (by omega)) (by rfl) T.m_is_tree T.F_is_tree.kp T.b_is_tree .nil pass0 (pa_cons (pv 7) pa_nil)) pe_bl (nomark _)) (pw_or1 (pt_cmpR op_notBl (pe_call G_is_tree (hr.mono (by omega)) (by rfl) T.m_is_tree T.F_is_tree.kp T.b_is_tree .nil pass0 (pa_cons (pv 10) pa_nil)) pe_bl (nomark _))))) (pss_one (ps_ret pe_bl)) pss_nil) (pss_cons (ps_if (PW.pt (pw_or (pt_cmpR op_ne (pe_call G_is_tree (hr.mono (by omega)) (by rfl) T.m_is_tree T.F_is_tree.kp T.b_is_tree .nil pass0 (pa_cons (pv 8) pa_nil)) (pe_call G__law_is_tree (hr.mono (by omega)) (by rfl) T.m__law_is_tree T.F__law_is_tree.kp T.b__law_is_tree .nil pass0 (pa_cons (pv 8) pa_nil)) (nomark _)) (pw_or1 (pt_cmpR op_ne (pe_call G_is_tree (hr.mono (by omega)) (by rfl) T.m_is_tree T.F_is_tree.kp T.b_is_tree .nil pass0 (pa_cons (pv 11) pa_nil)) (pe_call G__law_is_tree (hr.mono (by omega)) (by rfl) T.m__law_is_tree T.F__law_is_tree.kp T.b__law_is_tree .nil pass0 (pa_cons (pv 11) pa_nil)) (nomark _))))) (pss_one (ps_ret pe_bl)) pss_nil) (pss_cons (ps_for PassesOwn.never rfl (pi_list (pe_lst (pa_cons pe_non (pa_cons pe_int (pa_cons pe_bl (pa_cons pe_str (pa_cons pe_str (pa_cons pe_str (pa_cons (pe_tup pa_nil) (pa_cons (pe_lst pa_nil) (pa_cons pe_dnewK (pa_cons (pe_tup (pa_cons pe_str pa_nil)) (pa_cons (pe_tup (pa_cons pe_str (pa_cons (pe_tup pa_nil) pa_nil))) (pa_cons (pe_lst (pa_cons pe_str (pa_cons (pe_lst pa_nil) pa_nil))) (pa_cons (pe_tup (pa_cons (pe_lst (pa_cons pe_str pa_nil)) (pa_cons (pe_lst pa_nil) pa_nil))) (pa_cons (pe_tup (pa_cons (pe_lst pa_nil) (pa_cons pe_str pa_nil))) pa_nil)))))))))))))))) (pg_name (i := 4) sc_law.nd rfl (Or.inl rfl)) (pss_one (ps_if (pt_cmpR op_notBl (pe_call G_is_tree (hr.mono (by omega)) (by rfl) T.m_is_tree T.F_is_tree.kp T.b_is_tree .nil pass0 (pa_cons (pv 4) pa_nil)) pe_bl (nomark _)) (pss_one (ps_ret pe_bl)) pss_nil))) (pss_one (ps_ret (pe_and (pe_cmpR op_isBl (pe_call G_is_tree (hr.mono (by omega)) (by rfl) T.m_is_tree T.F_is_tree.kp T.b_is_tree .nil pass0 (pa_cons (pe_tup (pa_cons pe_str (pa_cons (pe_lst pa_nil) pa_nil))) pa_nil)) pe_bl (nomark _)) (pe_one (pe_cmpR op_isBl (pe_call G_is_tree (hr.mono (by omega)) (by rfl) T.m_is_tree T.F_is_tree.kp T.b_is_tree .nil pass0 (pa_cons (pe_tup (pa_cons pe_str (pa_cons (pe_lst (pa_cons (pe_tup (pa_cons pe_str (pa_cons (pe_lst pa_nil) pa_nil))) (pa_cons (pe_tup (pa_cons pe_str (pa_cons (pe_lst pa_nil) pa_nil))) pa_nil))) pa_nil))) pa_nil)) pe_bl (nomark _)))))))))))))))), ?_⟩
  have hl : (ns.map V.int).length = ns.length := List.length_map _
  obtain ⟨j, hj, hj0, hj1⟩ : ∃ j : Int, (if (if ((ns.map V.int).length : Int) < 12 then ((ns.map V.int).length : Int) else 12) > 1 then (if ((ns.map V.int).length : Int) < 12 then ((ns.map V.int).length : Int) else 12) else 1) = j ∧ 0 ≤ j ∧ j ≤ 30 := ⟨_, rfl, by split <;> split <;> omega, by split <;> split <;> omega⟩
  refine ⟨_, rfl, a, _, rfl, .inl hS, _, _, rfl, _, _, rfl, j, congrArg (fun z => [V.int z]) hj, by omega, by omega, for_range (lo := 0) (n := j.toNat) (fun i σ H' => (∃ y1 y2 y3 y4 y5 y6 y7 y8 y9 y10 y11 y12, σ = [some (.ref a), y1, y2, y3, y4, y5, y6, y7, y8, y9, y10, y11, y12]) ∧ SqL K H' a (ns.map V.int)) ⟨⟨_, _, _, _, _, _, _, _, _, _, _, _, rfl⟩, hS⟩ ?_ ?_⟩
  · rintro i σ H0 hi ⟨⟨y1, y2, y3, y4, y5, y6, y7, y8, y9, y10, y11, y12, rfl⟩, hS0⟩
    refine ⟨_, rfl, _, rfl, a, ns, _, rfl, hS0, h63, by omega, by omega, fun p H1 hp c1 P1 => ?_⟩
    refine ⟨_, rfl, _, rfl, p, 3000, rfl, P1, by decide, fun L H2 hL f2 P2 => ⟨p, _, 60, L, rfl, P2, by decide, by decide, by decide, hL, fun tv t H3 hz hd hlt f3 T3 P3 => ?_⟩⟩
    have F3 : Fr p H0 H3 := ((Fr.chg c1).trans f2).trans f3
    have hLz : t.lets Lz := lets_mono (fun c hc => hL.2.2 c hc) t hlt
    have tD : Dt (fun b => b ≠ p) H3 tv t.dat := (TrAt.dt t tv T3 (by omega)).weak fun b hb e => by
      rw [e] at hb
      exact P2.some hb
    refine ⟨_, rfl, (by show 1 ≤ sizeLine; decide), fun l1 h1 => ?_⟩
    have n1 : l1 ≠ p := P3.ne' h1
    have s1 := same_new h1 (o := .lst [tv])
    have k1 := upd_same (H := H3) (a := l1) (o := .lst [tv])
    have tD4 := tD.same s1
    have P4 := P3.keep s1
    have F4 : Fr p H0 (upd H3 l1 (.lst [tv])) := F3.trans (Fr.same s1)
    generalize upd H3 l1 (.lst [tv]) = H4 at *
    have tc := tr_cnt t
    have td := dat_depth t
    refine ⟨8, rfl, by decide, by decide, fun D hD => lc_range (lo := 0) (n := 8) (fun i2 H' => ∃ acc es, H' D = some (.lst acc) ∧ DtAll (fun b => b ≠ p ∧ b ≠ D) H' acc es ∧ es.length = i2 ∧ (∀ d ∈ es, S0 400 67 d) ∧ Fr p H4 H' ∧ Pool H' p (53001 + 620 * i2))
      ⟨[], [], upd_same, .nil, rfl, (fun _ h => by cases h), (Fr.refl p H4).new hD, P4.keep (same_new hD)⟩ ?_ ?_⟩
    · rintro i2 H6 hi2 ⟨acc, es, g1, g2, g3, g4, g5, g6⟩
      have nD : D ≠ p := P4.ne' hD
      have ht6 : Dt (fun b => b ≠ p ∧ b ≠ D) H6 tv t.dat := (tD4.off hD).keep fun b o h e => g5 b o h.1 e
      have la := g2.len
      refine ⟨rfl, _, rfl, _, rfl, p, D, 53001 + 620 * i2, tv, t, rfl, ⟨g6, by rw [g1]; simp⟩, by omega, ht6, by omega, by omega, by omega, hLz, fun rv d H7 f7 p7 hdt hds => ⟨acc, f7 _ _ nD g1, Nat.lt_of_le_of_lt (show acc.length ≤ 1000000 by omega) (by decide), acc ++ [rv], es ++ [d], upd_same, ?_, by simp [g3], ?_, (g5.trans f7).new hD, ?_⟩⟩
      · exact ((g2.keep fun b o h e => f7 b o h.1 e).snoc hdt).keep (upd_keep fun b h => h.2)
      · intro y hy
        rcases List.mem_append.mp hy with hy | hy
        · exact g4 y hy
        · simp only [List.mem_singleton] at hy
          rw [hy]
          exact hds.mono (by omega) (by omega)
      · obtain ⟨x0, x1, x2, e, b0, b1⟩ := p7.mono (show 53001 + 620 * i2 + 20 * 31 ≤ 53001 + 620 * (i2 + 1) by omega)
        exact ⟨x0, x1, x2, by rw [upd_ne (fun z => nD z.symm)]; exact e, b0, b1⟩
    · rintro H6 ⟨acc, es, g1, g2, g3, g4, g5, g6⟩
      have la := g2.len
      refine ⟨l1, D, _, _, rfl, rfl, g5 _ _ n1 k1, g1, Nat.le_trans (show _ ≤ 1000 by simp only [List.length_cons, List.length_nil]; omega) (by decide), fun TL hTL => ?_⟩
      have nTL : TL ≠ p := g6.ne' hTL
      have sT := same_new hTL (o := .lst ([tv] ++ acc))
      have kTL := upd_same (H := H6) (a := TL) (o := .lst ([tv] ++ acc))
      have tD7 : Dt (fun b => b ≠ p) _ tv t.dat := (tD4.keep fun b o h e => g5 b o h e).same sT
      have all9 := (DtAll.cons (tD4.keep fun b o h e => g5 b o h e) (g2.weak fun b h => h.1)).same sT
      have F7 : Fr p H0 (upd H6 TL (.lst ([tv] ++ acc))) := (F4.trans g5).trans (Fr.same sT)
      generalize upd H6 TL (.lst ([tv] ++ acc)) = H7 at *
      have s9 : ∀ d ∈ t.dat :: es, S0 400 67 d := fun d hd => (List.mem_cons.mp hd).elim (fun e => by rw [e]; exact ⟨tr_fine t hLz, by omega, by omega⟩) (g4 d)
      refine ⟨TL, rfl, ⟨_, SqL.of kTL⟩, for_list (xs := [tv] ++ acc) (fun i3 σ H' => (∃ y4 y5 y6 y7 y8 y9 y10 y11 y12, σ = [some (.ref a), some (.int (0 + i)), some (.ref p), some tv, y4, y5, y6, y7, y8, y9, y10, y11, y12]) ∧ Same H7 H')
        ⟨⟨_, _, _, _, _, _, _, _, _, rfl⟩, Same.refl _⟩ (fun i3 σ H' _ ⟨_, f⟩ => SqL.of (f _ _ kTL)) ?_ ?_⟩
      · rintro i3 x σ H8 hx ⟨⟨y4, y5, y6, y7, y8, y9, y10, y11, y12, rfl⟩, f8⟩
        obtain ⟨d, hd, hxd⟩ := all9.getV hx
        have smd := s9 d (List.mem_of_getElem? hd)
        replace hxd := (hxd.same f8).any
        obtain ⟨shw, shl⟩ := fine0_shown smd.fine
        have scn := smd.cn
        have shl2 : d.shown.length ≤ sizeLine := Nat.le_trans (show _ ≤ 1000000 by omega) (by decide)
        have sdp := smd.dp
        refine ⟨_, rfl, x, d, rfl, hxd, shw, shl2, by omega, ?_⟩
        refine ⟨_, rfl, x, d, rfl, hxd, smd.fine, by omega, fun HB sB => ?_⟩
        refine ⟨_, rfl, _, _, _, _, true, rfl, .ty "bool", .base (.bl _), kit_ty (by decide +kernel), _, rfl, iteF ?_⟩
        refine ⟨_, rfl, _, rfl, x, d, rfl, hxd.same sB, smd.fine, by omega, fun HC sC => ⟨rfl, _, rfl, iteNS rfl ?_⟩⟩
        refine ⟨_, rfl, x, d, rfl, (hxd.same sB).same sC, shw, shl2, by omega, _, rfl, rfl, _, rfl, iteNS rfl ?_⟩
        exact ⟨⟨_, _, _, _, _, _, _, _, _, rfl⟩, (f8.trans sB).trans sC⟩
      · rintro σ H8 ⟨⟨y4, y5, y6, y7, y8, y9, y10, y11, y12, rfl⟩, f8⟩
        refine ⟨_, rfl, tv, t.dat, rfl, (tD7.same f8).any, tr_fine t hLz, by omega, fun HE sE => ⟨_, _, rfl, rfl, _, rfl, ?_⟩⟩
        rw [tr_is t hLz]
        exact iteF ⟨⟨_, _, _, _, _, _, _, _, _, _, _, _, rfl⟩, ((F7.trans (Fr.same f8)).trans (Fr.same sE)).seq hp hS0⟩
  · rintro σ H0 ⟨⟨y1, y2, y3, y4, y5, y6, y7, y8, y9, y10, y11, y12, rfl⟩, hS0⟩
    refine ⟨_, rfl, a, ns, 1, rfl, hS0, h63, by omega, by omega, fun p G0 hp c1 PP => ?_⟩
    refine ⟨(by show 0 ≤ sizeLine; decide), fun e0 h_e0 => ?_⟩
    have s := same_new h_e0 (o := .lst [])
    have k_e0 := upd_same (H := G0) (a := e0) (o := .lst [])
    have n_e0 := PP.ne' h_e0
    replace PP := PP.keep s
    generalize upd G0 e0 (.lst []) = G1 at *
    have i0 : Dt (fun b => b ≠ p) G1 (.ref e0) (.list []) := .lst k_e0 n_e0 (by simp) .nil
    refine ⟨(by show 2 ≤ sizeLine; decide), fun b0 h_b0 => ?_⟩
    have s := same_new h_b0 (o := .tup [V.str (Str.ofString "b"), V.ref e0])
    have k_b0 := upd_same (H := G1) (a := b0) (o := .tup [V.str (Str.ofString "b"), V.ref e0])
    have n_b0 := PP.ne' h_b0
    replace i0 := i0.same s
    replace PP := PP.keep s
    generalize upd G1 b0 (.tup [V.str (Str.ofString "b"), V.ref e0]) = G2 at *
    have ib : Dt (fun b => b ≠ p) G2 (.ref b0) (.tuple [.str (Str.ofString "b"), .list []]) := .tup k_b0 n_b0 (by simp) (.cons (.str _) (.cons i0 .nil))
    refine ⟨(by show 1 ≤ sizeLine; decide), fun L0 h_L0 => ?_⟩
    have s := same_new h_L0 (o := .lst [V.ref b0])
    have k_L0 := upd_same (H := G2) (a := L0) (o := .lst [V.ref b0])
    have n_L0 := PP.ne' h_L0
    replace ib := ib.same s
    replace PP := PP.keep s
    generalize upd G2 L0 (.lst [V.ref b0]) = G3 at *
    refine ⟨_, rfl, p, 3, 3000, rfl, PP, by omega, by decide, by decide, fun r G4 r0 r1 cx px => ?_⟩
    have fx := Fr.chg cx
    replace k_L0 := fx _ _ n_L0 k_L0
    replace ib := ib.keep fun b o h e => fx b o h e
    replace PP := px
    refine ⟨L0, r, _, rfl, rfl, k_L0, by omega, by omega, repLen (n := r.toNat) (by omega), fun R0 h_R0 => ?_⟩
    rw [List.flatten_replicate_singleton]
    have s := same_new h_R0 (o := .lst (List.replicate r.toNat (V.ref b0)))
    have k_R0 := upd_same (H := G4) (a := R0) (o := .lst (List.replicate r.toNat (V.ref b0)))
    have n_R0 := PP.ne' h_R0
    replace k_L0 := s _ _ k_L0
    replace ib := ib.same s
    replace PP := PP.keep s
    generalize upd G4 R0 (.lst (List.replicate r.toNat (V.ref b0))) = G5 at *
    have iR : Dt (fun b => b ≠ p) G5 (.ref R0) (.list (List.replicate r.toNat (.tuple [.str (Str.ofString "b"), .list []]))) := .lst k_R0 n_R0 (by rw [List.length_replicate]; omega) (dt_rep ib)
    refine ⟨(by show 2 ≤ sizeLine; decide), fun v0 h_v0 => ?_⟩
    have s := same_new h_v0 (o := .tup [V.str (Str.ofString "a"), V.ref R0])
    have k_v0 := upd_same (H := G5) (a := v0) (o := .tup [V.str (Str.ofString "a"), V.ref R0])
    have n_v0 := PP.ne' h_v0
    replace ib := ib.same s
    replace iR := iR.same s
    replace PP := PP.keep s
    generalize upd G5 v0 (.tup [V.str (Str.ofString "a"), V.ref R0]) = G6 at *
    have dD : Dt (fun b => b ≠ p) G6 (.ref v0) (.tuple [.str (Str.ofString "a"), .list (List.replicate r.toNat (.tuple [.str (Str.ofString "b"), .list []]))]) := .tup k_v0 n_v0 (by simp) (.cons (.str _) (.cons iR .nil))
    have wb : Wt 3 2 (.tuple [.str (Str.ofString "b"), .list []]) := wt_leaf (by decide +kernel) (by decide +kernel)
    have wR := wt_rep wb (n := r.toNat)
    have wD := wt_node (show isLetD (.str (Str.ofString "a")) = true by decide +kernel) (by decide +kernel) wR
    have dD1 : Dt (fun b => b ≠ p ∧ b ≠ p) G6 (.ref v0) (.tuple [.str (ch 97), .list (List.replicate r.toNat (.tuple [.str (Str.ofString "b"), .list []]))]) := by rw [← sa]; exact dD.weak fun b hb => ⟨hb, hb⟩
    refine ⟨_, rfl, _, rfl, p, p, 3001, .ref v0, 97, _, rfl, ⟨PP, PP.some⟩, by omega, dD1, by omega, by rw [List.length_replicate]; omega, wR.fine, fun bv bd G7 fx px hbd sbd => ?_⟩
    replace dD := dD.keep fun b o h e => fx b o h e
    replace PP := px
    have dB : Dt (fun b => b ≠ p) G7 bv bd := hbd.weak fun b hb => hb.1
    have wRc := wR.cn
    have wRd := wR.dp
    have wDc := wD.cn
    have wDd := wD.dp
    have sB : S0 100 20 bd := sbd.mono (by omega) (by omega)
    have wD2 : Wt 30 10 _ := wD.mono (by omega) (by omega)
    refine ⟨_, rfl, p, 16, _, rfl, PP, by omega, by decide, by decide, fun r2 G8 r20 r21 cx px => ⟨30, r2, rfl, rfl, 30 + r2, rfl, by omega, by omega, ?_⟩⟩
    have fx := Fr.chg cx
    replace dD := dD.keep fun b o h e => fx b o h e
    replace dB := dB.keep fun b o h e => fx b o h e
    replace PP := px
    refine for_range (lo := 0) (n := (30 + r2).toNat) (fun i σ H' => ∃ (y1 y3 y4 y5 y6 y9 y10 y11 y12 : Option V) (dv bv : V) (dd bd : PyData), σ = [some (.ref a), y1, some (.ref p), y3, y4, y5, y6, some dv, some bv, y9, y10, y11, y12] ∧ Dt (fun b => b ≠ p) H' dv dd ∧ Dt (fun b => b ≠ p) H' bv bd ∧ Wt (30 + 20 * i) (10 + 2 * i) dd ∧ S0 (100 + 20 * i) (20 + 2 * i) bd ∧ Pool H' p (3020 + 3 * i)) ⟨_, _, _, _, _, _, _, _, _, _, _, _, _, rfl, dD, dB, wD2, sB, PP.mono (by omega)⟩ ?_ ?_
    · rintro i σ J0 hi ⟨y1, y3, y4, y5, y6, y9, y10, y11, y12, dv, bv, dd, bd, rfl, dD, dB, wD, sB, PP⟩
      refine ⟨(by show 0 ≤ sizeLine; decide), fun e0 h_e0 => ?_⟩
      have s := same_new h_e0 (o := .lst [])
      have k_e0 := upd_same (H := J0) (a := e0) (o := .lst [])
      have n_e0 := PP.ne' h_e0
      replace dD := dD.same s
      replace dB := dB.same s
      replace PP := PP.keep s
      generalize upd J0 e0 (.lst []) = G9 at *
      have i0 : Dt (fun b => b ≠ p) G9 (.ref e0) (.list []) := .lst k_e0 n_e0 (by simp) .nil
      refine ⟨(by show 2 ≤ sizeLine; decide), fun b0 h_b0 => ?_⟩
      have s := same_new h_b0 (o := .tup [V.str (Str.ofString "c"), V.ref e0])
      have k_b0 := upd_same (H := G9) (a := b0) (o := .tup [V.str (Str.ofString "c"), V.ref e0])
      have n_b0 := PP.ne' h_b0
      replace dD := dD.same s
      replace dB := dB.same s
      replace i0 := i0.same s
      replace PP := PP.keep s
      generalize upd G9 b0 (.tup [V.str (Str.ofString "c"), V.ref e0]) = G10 at *
      have ib : Dt (fun b => b ≠ p) G10 (.ref b0) (.tuple [.str (Str.ofString "c"), .list []]) := .tup k_b0 n_b0 (by simp) (.cons (.str _) (.cons i0 .nil))
      refine ⟨(by show 1 ≤ sizeLine; decide), fun L0 h_L0 => ?_⟩
      have s := same_new h_L0 (o := .lst [V.ref b0])
      have k_L0 := upd_same (H := G10) (a := L0) (o := .lst [V.ref b0])
      have n_L0 := PP.ne' h_L0
      replace dD := dD.same s
      replace dB := dB.same s
      replace ib := ib.same s
      replace PP := PP.keep s
      generalize upd G10 L0 (.lst [V.ref b0]) = G11 at *
      refine ⟨_, rfl, p, 2, _, rfl, PP, by omega, by decide, by decide, fun r G12 r0 r1 cx px => ?_⟩
      have fx := Fr.chg cx
      replace k_L0 := fx _ _ n_L0 k_L0
      replace dD := dD.keep fun b o h e => fx b o h e
      replace dB := dB.keep fun b o h e => fx b o h e
      replace ib := ib.keep fun b o h e => fx b o h e
      replace PP := px
      refine ⟨L0, r, _, rfl, rfl, k_L0, by omega, by omega, repLen (n := r.toNat) (by omega), fun R0 h_R0 => ?_⟩
      rw [List.flatten_replicate_singleton]
      have s := same_new h_R0 (o := .lst (List.replicate r.toNat (V.ref b0)))
      have k_R0 := upd_same (H := G12) (a := R0) (o := .lst (List.replicate r.toNat (V.ref b0)))
      have n_R0 := PP.ne' h_R0
      replace k_L0 := s _ _ k_L0
      replace dD := dD.same s
      replace dB := dB.same s
      replace ib := ib.same s
      replace PP := PP.keep s
      generalize upd G12 R0 (.lst (List.replicate r.toNat (V.ref b0))) = G13 at *
      have wb : Wt 3 2 (.tuple [.str (Str.ofString "c"), .list []]) := wt_leaf (by decide +kernel) (by decide +kernel)
      refine ⟨_, rfl, p, 3, _, rfl, PP, by omega, by decide, by decide, fun tx G14 tx0 tx1 cx px => ?_⟩
      have fx := Fr.chg cx
      replace k_R0 := fx _ _ n_R0 k_R0
      replace dD := dD.keep fun b o h e => fx b o h e
      replace dB := dB.keep fun b o h e => fx b o h e
      replace ib := ib.keep fun b o h e => fx b o h e
      replace PP := px
      obtain ⟨ccx, hcx, htx⟩ := abz_at tx0 tx1
      refine ⟨_, tx, ccx, rfl, rfl, by decide +kernel, htx, _, rfl, _, rfl, (by show 1 ≤ sizeLine; decide), fun ux h_ux => ?_⟩
      have s := same_new h_ux (o := .lst [dv])
      have k_ux := upd_same (H := G14) (a := ux) (o := .lst [dv])
      have n_ux := PP.ne' h_ux
      replace k_R0 := s _ _ k_R0
      replace dD := dD.same s
      replace dB := dB.same s
      replace ib := ib.same s
      replace PP := PP.keep s
      generalize upd G14 ux (.lst [dv]) = G15 at *
      refine ⟨R0, ux, _, _, rfl, rfl, k_R0, k_ux, repLen1 (n := r.toNat) (by omega), fun wx h_wx => ?_⟩
      have s := same_new h_wx (o := .lst (List.replicate r.toNat (V.ref b0) ++ [dv]))
      have k_wx := upd_same (H := G15) (a := wx) (o := .lst (List.replicate r.toNat (V.ref b0) ++ [dv]))
      have n_wx := PP.ne' h_wx
      replace k_R0 := s _ _ k_R0
      replace k_ux := s _ _ k_ux
      replace dD := dD.same s
      replace dB := dB.same s
      replace ib := ib.same s
      replace PP := PP.keep s
      generalize upd G15 wx (.lst (List.replicate r.toNat (V.ref b0) ++ [dv])) = G16 at *
      have iwx : Dt (fun b => b ≠ p) G16 (.ref wx) (.list (List.replicate r.toNat (.tuple [.str (Str.ofString "c"), .list []]) ++ [dd])) := .lst k_wx n_wx (by rw [List.length_append, List.length_replicate, List.length_singleton]; omega) ((dt_rep ib).app (.cons dD .nil))
      refine ⟨(by show 2 ≤ sizeLine; decide), fun qx h_qx => ?_⟩
      have s := same_new h_qx (o := .tup [V.str ⟨#[ccx]⟩, V.ref wx])
      have k_qx := upd_same (H := G16) (a := qx) (o := .tup [V.str ⟨#[ccx]⟩, V.ref wx])
      have n_qx := PP.ne' h_qx
      replace k_R0 := s _ _ k_R0
      replace dD := dD.same s
      replace dB := dB.same s
      replace ib := ib.same s
      replace iwx := iwx.same s
      replace PP := PP.keep s
      generalize upd G16 qx (.tup [V.str ⟨#[ccx]⟩, V.ref wx]) = G17 at *
      have iqx : Dt (fun b => b ≠ p) G17 (.ref qx) (.tuple [.str (ch ccx), .list (List.replicate r.toNat (.tuple [.str (Str.ofString "c"), .list []]) ++ [dd])]) := .tup k_qx n_qx (by simp) (.cons (.str _) (.cons iwx .nil))
      refine ⟨_, rfl, p, 3, _, rfl, PP, by omega, by decide, by decide, fun ty G18 ty0 ty1 cx px => ?_⟩
      have fx := Fr.chg cx
      replace k_R0 := fx _ _ n_R0 k_R0
      replace dD := dD.keep fun b o h e => fx b o h e
      replace dB := dB.keep fun b o h e => fx b o h e
      replace ib := ib.keep fun b o h e => fx b o h e
      replace iqx := iqx.keep fun b o h e => fx b o h e
      replace PP := px
      obtain ⟨ccy, hcy, hty⟩ := abz_at ty0 ty1
      refine ⟨_, ty, ccy, rfl, rfl, by decide +kernel, hty, _, rfl, _, rfl, (by show 1 ≤ sizeLine; decide), fun uy h_uy => ?_⟩
      have s := same_new h_uy (o := .lst [bv])
      have k_uy := upd_same (H := G18) (a := uy) (o := .lst [bv])
      have n_uy := PP.ne' h_uy
      replace k_R0 := s _ _ k_R0
      replace dD := dD.same s
      replace dB := dB.same s
      replace ib := ib.same s
      replace iqx := iqx.same s
      replace PP := PP.keep s
      generalize upd G18 uy (.lst [bv]) = G19 at *
      refine ⟨R0, uy, _, _, rfl, rfl, k_R0, k_uy, repLen1 (n := r.toNat) (by omega), fun wy h_wy => ?_⟩
      have s := same_new h_wy (o := .lst (List.replicate r.toNat (V.ref b0) ++ [bv]))
      have k_wy := upd_same (H := G19) (a := wy) (o := .lst (List.replicate r.toNat (V.ref b0) ++ [bv]))
      have n_wy := PP.ne' h_wy
      replace k_R0 := s _ _ k_R0
      replace k_uy := s _ _ k_uy
      replace dD := dD.same s
      replace dB := dB.same s
      replace ib := ib.same s
      replace iqx := iqx.same s
      replace PP := PP.keep s
      generalize upd G19 wy (.lst (List.replicate r.toNat (V.ref b0) ++ [bv])) = G20 at *
      have iwy : Dt (fun b => b ≠ p) G20 (.ref wy) (.list (List.replicate r.toNat (.tuple [.str (Str.ofString "c"), .list []]) ++ [bd])) := .lst k_wy n_wy (by rw [List.length_append, List.length_replicate, List.length_singleton]; omega) ((dt_rep ib).app (.cons dB .nil))
      refine ⟨(by show 2 ≤ sizeLine; decide), fun qy h_qy => ?_⟩
      have s := same_new h_qy (o := .tup [V.str ⟨#[ccy]⟩, V.ref wy])
      have k_qy := upd_same (H := G20) (a := qy) (o := .tup [V.str ⟨#[ccy]⟩, V.ref wy])
      have n_qy := PP.ne' h_qy
      replace k_R0 := s _ _ k_R0
      replace dD := dD.same s
      replace dB := dB.same s
      replace ib := ib.same s
      replace iqx := iqx.same s
      replace iwy := iwy.same s
      replace PP := PP.keep s
      generalize upd G20 qy (.tup [V.str ⟨#[ccy]⟩, V.ref wy]) = G21 at *
      have iqy : Dt (fun b => b ≠ p) G21 (.ref qy) (.tuple [.str (ch ccy), .list (List.replicate r.toNat (.tuple [.str (Str.ofString "c"), .list []]) ++ [bd])]) := .tup k_qy n_qy (by simp) (.cons (.str _) (.cons iwy .nil))
      have wD3 := wt_add wb wD (n := r.toNat) (by omega) (by omega) hcx
      have sB3 := s0_add wb.s0 sB (n := r.toNat) (by omega) (by omega) hcy
      exact ⟨_, _, _, _, _, _, _, _, _, _, _, _, _, rfl, iqx, iqy, wD3.mono (by omega) (by omega), sB3.mono (by omega) (by omega), PP.mono (by omega)⟩
    · rintro σ J0 ⟨y1, y3, y4, y5, y6, y9, y10, y11, y12, dv, bv, dd, bd, rfl, dD, dB, wD, sB, PP⟩
      replace wD := wD.mono (show 30 + 20 * (30 + r2).toNat ≤ 1000 by omega) (show 10 + 2 * (30 + r2).toNat ≤ 110 by omega)
      replace sB := sB.mono (show 100 + 20 * (30 + r2).toNat ≤ 1100 by omega) (show 20 + 2 * (30 + r2).toNat ≤ 115 by omega)
      replace PP := PP.mono (show 3020 + 3 * (30 + r2).toNat ≤ 4000 by omega)
      refine ⟨(by show 0 ≤ sizeLine; decide), fun e0 h_e0 => ?_⟩
      have s := same_new h_e0 (o := .lst [])
      have k_e0 := upd_same (H := J0) (a := e0) (o := .lst [])
      have n_e0 := PP.ne' h_e0
      replace dD := dD.same s
      replace dB := dB.same s
      replace PP := PP.keep s
      generalize upd J0 e0 (.lst []) = G22 at *
      have i0 : Dt (fun b => b ≠ p) G22 (.ref e0) (.list []) := .lst k_e0 n_e0 (by simp) .nil
      refine ⟨(by show 2 ≤ sizeLine; decide), fun b0 h_b0 => ?_⟩
      have s := same_new h_b0 (o := .tup [V.str (Str.ofString "c"), V.ref e0])
      have k_b0 := upd_same (H := G22) (a := b0) (o := .tup [V.str (Str.ofString "c"), V.ref e0])
      have n_b0 := PP.ne' h_b0
      replace dD := dD.same s
      replace dB := dB.same s
      replace i0 := i0.same s
      replace PP := PP.keep s
      generalize upd G22 b0 (.tup [V.str (Str.ofString "c"), V.ref e0]) = G23 at *
      have ib : Dt (fun b => b ≠ p) G23 (.ref b0) (.tuple [.str (Str.ofString "c"), .list []]) := .tup k_b0 n_b0 (by simp) (.cons (.str _) (.cons i0 .nil))
      refine ⟨(by show 1 ≤ sizeLine; decide), fun L0 h_L0 => ?_⟩
      have s := same_new h_L0 (o := .lst [V.ref b0])
      have k_L0 := upd_same (H := G23) (a := L0) (o := .lst [V.ref b0])
      have n_L0 := PP.ne' h_L0
      replace dD := dD.same s
      replace dB := dB.same s
      replace ib := ib.same s
      replace PP := PP.keep s
      generalize upd G23 L0 (.lst [V.ref b0]) = G24 at *
      refine ⟨_, rfl, p, 4, 4000, rfl, PP, by omega, by decide, by decide, fun r G25 r0 r1 cx px => ?_⟩
      have fx := Fr.chg cx
      replace k_L0 := fx _ _ n_L0 k_L0
      replace dD := dD.keep fun b o h e => fx b o h e
      replace dB := dB.keep fun b o h e => fx b o h e
      replace ib := ib.keep fun b o h e => fx b o h e
      replace PP := px
      refine ⟨L0, r, _, rfl, rfl, k_L0, by omega, by omega, repLen (n := r.toNat) (by omega), fun R0 h_R0 => ?_⟩
      rw [List.flatten_replicate_singleton]
      have s := same_new h_R0 (o := .lst (List.replicate r.toNat (V.ref b0)))
      have k_R0 := upd_same (H := G25) (a := R0) (o := .lst (List.replicate r.toNat (V.ref b0)))
      have n_R0 := PP.ne' h_R0
      replace k_L0 := s _ _ k_L0
      replace dD := dD.same s
      replace dB := dB.same s
      replace ib := ib.same s
      replace PP := PP.keep s
      generalize upd G25 R0 (.lst (List.replicate r.toNat (V.ref b0))) = G26 at *
      have iR : Dt (fun b => b ≠ p) G26 (.ref R0) (.list (List.replicate r.toNat (.tuple [.str (Str.ofString "c"), .list []]))) := .lst k_R0 n_R0 (by rw [List.length_replicate]; omega) (dt_rep ib)
      refine ⟨(by show 2 ≤ sizeLine; decide), fun v0 h_v0 => ?_⟩
      have s := same_new h_v0 (o := .tup [V.str (Str.ofString "b"), V.ref R0])
      have k_v0 := upd_same (H := G26) (a := v0) (o := .tup [V.str (Str.ofString "b"), V.ref R0])
      have n_v0 := PP.ne' h_v0
      replace dD := dD.same s
      replace dB := dB.same s
      replace iR := iR.same s
      replace PP := PP.keep s
      generalize upd G26 v0 (.tup [V.str (Str.ofString "b"), V.ref R0]) = G27 at *
      have iv : Dt (fun b => b ≠ p) G27 (.ref v0) (.tuple [.str (Str.ofString "b"), .list (List.replicate r.toNat (.tuple [.str (Str.ofString "c"), .list []]))]) := .tup k_v0 n_v0 (by simp) (.cons (.str _) (.cons iR .nil))
      refine ⟨(by show 1 ≤ sizeLine; decide), fun L1 h_L1 => ?_⟩
      have s := same_new h_L1 (o := .lst [V.ref v0])
      have k_L1 := upd_same (H := G27) (a := L1) (o := .lst [V.ref v0])
      have n_L1 := PP.ne' h_L1
      replace dD := dD.same s
      replace dB := dB.same s
      replace iv := iv.same s
      replace PP := PP.keep s
      generalize upd G27 L1 (.lst [V.ref v0]) = G28 at *
      refine ⟨_, rfl, p, 300, 4001, rfl, PP, by omega, by decide, by decide, fun r3 G29 r30 r31 cx px => ⟨61, r3, rfl, rfl, ?_⟩⟩
      have fx := Fr.chg cx
      replace k_L1 := fx _ _ n_L1 k_L1
      replace dD := dD.keep fun b o h e => fx b o h e
      replace dB := dB.keep fun b o h e => fx b o h e
      replace iv := iv.keep fun b o h e => fx b o h e
      replace PP := px
      refine ⟨L1, 61 + r3, _, rfl, rfl, k_L1, by omega, by omega, repLen (n := (61 + r3).toNat) (by omega), fun W h_W => ?_⟩
      rw [List.flatten_replicate_singleton]
      have s := same_new h_W (o := .lst (List.replicate (61 + r3).toNat (V.ref v0)))
      have k_W := upd_same (H := G29) (a := W) (o := .lst (List.replicate (61 + r3).toNat (V.ref v0)))
      have n_W := PP.ne' h_W
      replace k_L1 := s _ _ k_L1
      replace dD := dD.same s
      replace dB := dB.same s
      replace iv := iv.same s
      replace PP := PP.keep s
      generalize upd G29 W (.lst (List.replicate (61 + r3).toNat (V.ref v0))) = G30 at *
      have AW : DtAll (fun b => b ≠ p) G30 (List.replicate (61 + r3).toNat (V.ref v0)) (List.replicate (61 + r3).toNat (.tuple [.str (Str.ofString "b"), .list (List.replicate r.toNat (.tuple [.str (Str.ofString "c"), .list []]))])) := dt_rep iv
      refine ⟨(by show 2 ≤ sizeLine; decide), fun X h_X => ?_⟩
      have s := same_new h_X (o := .tup [V.str (Str.ofString "a"), V.ref W])
      have k_X := upd_same (H := G30) (a := X) (o := .tup [V.str (Str.ofString "a"), V.ref W])
      have n_X := PP.ne' h_X
      replace k_W := s _ _ k_W
      replace dD := dD.same s
      replace dB := dB.same s
      replace AW := AW.same s
      replace PP := PP.keep s
      generalize upd G30 X (.tup [V.str (Str.ofString "a"), V.ref W]) = G31 at *
      have wb : Wt 3 2 (.tuple [.str (Str.ofString "c"), .list []]) := wt_leaf (by decide +kernel) (by decide +kernel)
      have wv := (wt_node (show isLetD (.str (Str.ofString "b")) = true by decide +kernel) (by decide +kernel) (wt_rep wb (n := r.toNat))).mono (show _ ≤ 20 by have := Nat.mul_le_mul (show r.toNat ≤ 3 by omega) (Nat.le_refl 3); omega) (show _ ≤ 5 by omega)
      have wW := wt_rep wv (n := (61 + r3).toNat)
      have wX := (wt_node (show isLetD (.str (Str.ofString "a")) = true by decide +kernel) (by decide +kernel) wW).mono (show _ ≤ 10000 by have := Nat.mul_le_mul (show (61 + r3).toNat ≤ 360 by omega) (Nat.le_refl 20); omega) (show _ ≤ 20 by omega)
      refine ⟨_, rfl, _, _, 1, _, rfl, rfl, SqT.of k_X, atI_nat (j := 1) rfl, _, rfl, (by show 0 ≤ sizeLine; decide), fun e1 h_e1 => ?_⟩
      have s := same_new h_e1 (o := .lst [])
      have k_e1 := upd_same (H := G31) (a := e1) (o := .lst [])
      have n_e1 := PP.ne' h_e1
      replace k_W := s _ _ k_W
      replace k_X := s _ _ k_X
      replace dD := dD.same s
      replace dB := dB.same s
      replace AW := AW.same s
      replace PP := PP.keep s
      generalize upd G31 e1 (.lst []) = G32 at *
      have i0 : Dt (fun b => b ≠ p) G32 (.ref e1) (.list []) := .lst k_e1 n_e1 (by simp) .nil
      refine ⟨(by show 2 ≤ sizeLine; decide), fun o0 h_o0 => ?_⟩
      have s := same_new h_o0 (o := .tup [V.str (Str.ofString "a"), V.ref e1])
      have k_o0 := upd_same (H := G32) (a := o0) (o := .tup [V.str (Str.ofString "a"), V.ref e1])
      have n_o0 := PP.ne' h_o0
      replace k_W := s _ _ k_W
      replace k_X := s _ _ k_X
      replace dD := dD.same s
      replace dB := dB.same s
      replace AW := AW.same s
      replace i0 := i0.same s
      replace PP := PP.keep s
      generalize upd G32 o0 (.tup [V.str (Str.ofString "a"), V.ref e1]) = G33 at *
      have io : Dt (fun b => b ≠ p) G33 (.ref o0) (.tuple [.str (Str.ofString "a"), .list []]) := .tup k_o0 n_o0 (by simp) (.cons (.str _) (.cons i0 .nil))
      have io1 : Dt (fun b => b ≠ p ∧ b ≠ p) G33 (.ref o0) (.tuple [.str (ch 97), .list []]) := by rw [← sa]; exact io.weak fun b hb => ⟨hb, hb⟩
      refine ⟨p, p, 4002, .ref o0, 97, [], rfl, ⟨PP, PP.some⟩, by omega, io1, by omega, by simp, by simp only [fine0s], fun ov od G34 fx px hod sod => ?_⟩
      replace k_W := fx _ _ n_W k_W
      replace k_X := fx _ _ n_X k_X
      replace dD := dD.keep fun b o h e => fx b o h e
      replace dB := dB.keep fun b o h e => fx b o h e
      replace AW := AW.keep fun b o h e => fx b o h e
      replace PP := px
      have dO : Dt (fun b => b ≠ p) G34 ov od := hod.weak fun b hb => hb.1
      refine ⟨(by show 1 ≤ sizeLine; decide), fun q1 h_q1 => ?_⟩
      have s := same_new h_q1 (o := .lst [ov])
      have k_q1 := upd_same (H := G34) (a := q1) (o := .lst [ov])
      have n_q1 := PP.ne' h_q1
      replace k_W := s _ _ k_W
      replace k_X := s _ _ k_X
      replace dD := dD.same s
      replace dB := dB.same s
      replace AW := AW.same s
      replace dO := dO.same s
      replace PP := PP.keep s
      generalize upd G34 q1 (.lst [ov]) = G35 at *
      refine ⟨W, q1, _, _, rfl, rfl, k_W, k_q1, repLen1 (n := (61 + r3).toNat) (by omega), fun q2 h_q2 => ?_⟩
      have s := same_new h_q2 (o := .lst (List.replicate (61 + r3).toNat (V.ref v0) ++ [ov]))
      have k_q2 := upd_same (H := G35) (a := q2) (o := .lst (List.replicate (61 + r3).toNat (V.ref v0) ++ [ov]))
      have n_q2 := PP.ne' h_q2
      replace k_W := s _ _ k_W
      replace k_X := s _ _ k_X
      replace k_q1 := s _ _ k_q1
      replace dD := dD.same s
      replace dB := dB.same s
      replace AW := AW.same s
      replace dO := dO.same s
      replace PP := PP.keep s
      generalize upd G35 q2 (.lst (List.replicate (61 + r3).toNat (V.ref v0) ++ [ov])) = G36 at *
      refine ⟨_, rfl, _, _, 1, _, rfl, rfl, SqT.of k_X, atI_nat (j := 1) rfl, _, rfl, p, 60, _, rfl, PP, by omega, by decide, by decide, fun r4 G37 r40 r41 cx px => ?_⟩
      have fx := Fr.chg cx
      replace k_W := fx _ _ n_W k_W
      replace k_X := fx _ _ n_X k_X
      replace k_q2 := fx _ _ n_q2 k_q2
      replace dD := dD.keep fun b o h e => fx b o h e
      replace dB := dB.keep fun b o h e => fx b o h e
      replace AW := AW.keep fun b o h e => fx b o h e
      replace dO := dO.keep fun b o h e => fx b o h e
      replace PP := px
      refine ⟨r4, rfl, W, _, rfl, SqL.of k_W, fun q3 h_q3 => ?_⟩
      have cut4 : cutV (List.replicate (61 + r3).toNat (V.ref v0)) none (some r4) = (List.replicate (61 + r3).toNat (V.ref v0)).take r4.toNat := by
        have h := cut_hi (xs := List.replicate (61 + r3).toNat (V.ref v0)) (k := r4.toNat) (by rw [List.length_replicate]; omega)
        rw [show ((r4.toNat : Nat) : Int) = r4 by omega] at h
        exact h
      rw [cut4]
      have s := same_new h_q3 (o := .lst ((List.replicate (61 + r3).toNat (V.ref v0)).take r4.toNat))
      have k_q3 := upd_same (H := G37) (a := q3) (o := .lst ((List.replicate (61 + r3).toNat (V.ref v0)).take r4.toNat))
      have n_q3 := PP.ne' h_q3
      replace k_W := s _ _ k_W
      replace k_X := s _ _ k_X
      replace k_q2 := s _ _ k_q2
      replace dD := dD.same s
      replace dB := dB.same s
      replace AW := AW.same s
      replace dO := dO.same s
      replace PP := PP.keep s
      generalize upd G37 q3 (.lst ((List.replicate (61 + r3).toNat (V.ref v0)).take r4.toNat)) = G38 at *
      refine ⟨q2, q3, _, _, rfl, rfl, k_q2, k_q3, Nat.le_trans (show _ ≤ 1000 by rw [List.length_append, List.length_take, List.length_replicate, List.length_singleton]; omega) (by decide), fun q4 h_q4 => ?_⟩
      have s := same_new h_q4 (o := .lst (List.replicate (61 + r3).toNat (V.ref v0) ++ [ov] ++ (List.replicate (61 + r3).toNat (V.ref v0)).take r4.toNat))
      have k_q4 := upd_same (H := G38) (a := q4) (o := .lst (List.replicate (61 + r3).toNat (V.ref v0) ++ [ov] ++ (List.replicate (61 + r3).toNat (V.ref v0)).take r4.toNat))
      have n_q4 := PP.ne' h_q4
      replace k_W := s _ _ k_W
      replace k_X := s _ _ k_X
      replace k_q2 := s _ _ k_q2
      replace k_q3 := s _ _ k_q3
      replace dD := dD.same s
      replace dB := dB.same s
      replace AW := AW.same s
      replace dO := dO.same s
      replace PP := PP.keep s
      generalize upd G38 q4 (.lst (List.replicate (61 + r3).toNat (V.ref v0) ++ [ov] ++ (List.replicate (61 + r3).toNat (V.ref v0)).take r4.toNat)) = G39 at *
      have iS : Dt (fun b => b ≠ p) G39 (.ref q4) (.list ((List.replicate (61 + r3).toNat (.tuple [.str (Str.ofString "b"), .list (List.replicate r.toNat (.tuple [.str (Str.ofString "c"), .list []]))])) ++ [od] ++ (List.replicate (61 + r3).toNat (.tuple [.str (Str.ofString "b"), .list (List.replicate r.toNat (.tuple [.str (Str.ofString "c"), .list []]))])).take r4.toNat)) := .lst k_q4 n_q4 (by rw [List.length_append, List.length_append, List.length_take, List.length_replicate, List.length_singleton]; omega) ((AW.app (.cons dO .nil)).app (AW.take r4.toNat))
      have iX : Dt (fun b => b ≠ p) G39 (.ref X) (.tuple [.str (Str.ofString "a"), .list (List.replicate (61 + r3).toNat (.tuple [.str (Str.ofString "b"), .list (List.replicate r.toNat (.tuple [.str (Str.ofString "c"), .list []]))]))]) := .tup k_X n_X (by simp) (.cons (.str _) (.cons (.lst k_W n_W (by rw [List.length_replicate]; omega) AW) .nil))
      refine ⟨(by show 2 ≤ sizeLine; decide), fun Y h_Y => ?_⟩
      have s := same_new h_Y (o := .tup [V.str (Str.ofString "a"), V.ref q4])
      have k_Y := upd_same (H := G39) (a := Y) (o := .tup [V.str (Str.ofString "a"), V.ref q4])
      have n_Y := PP.ne' h_Y
      replace dD := dD.same s
      replace dB := dB.same s
      replace iS := iS.same s
      replace iX := iX.same s
      replace PP := PP.keep s
      generalize upd G39 Y (.tup [V.str (Str.ofString "a"), V.ref q4]) = G40 at *
      have iY : Dt (fun b => b ≠ p) G40 (.ref Y) (.tuple [.str (Str.ofString "a"), .list ((List.replicate (61 + r3).toNat (.tuple [.str (Str.ofString "b"), .list (List.replicate r.toNat (.tuple [.str (Str.ofString "c"), .list []]))])) ++ [od] ++ (List.replicate (61 + r3).toNat (.tuple [.str (Str.ofString "b"), .list (List.replicate r.toNat (.tuple [.str (Str.ofString "c"), .list []]))])).take r4.toNat)]) := .tup k_Y n_Y (by simp) (.cons (.str _) (.cons iS .nil))
      have sY := s0_spoilt (n := (61 + r3).toNat) (k := r4.toNat) (show fine0 (.str (Str.ofString "a")) = true by decide +kernel) wv.s0 sod
      have sYc := sY.cn
      have sYd := sY.dp
      have mm := Nat.mul_le_mul (show (61 + r3).toNat ≤ 360 by omega) (Nat.le_refl 20)
      simp only [cntAll, PyData.depthAll] at sYc sYd
      refine ⟨_, rfl, dv, dd, rfl, dD.any, wD.fine, by have := wD.cn; omega, fun Q1 t1 => ⟨_, _, rfl, rfl, _, rfl, ?_⟩⟩
      rw [wD.tr]
      refine iteF ⟨_, rfl, .ref X, _, rfl, (iX.same t1).any, wX.fine, by have := wX.cn; omega, fun Q2 t2 => ⟨_, _, rfl, rfl, _, rfl, ?_⟩⟩
      rw [wX.tr]
      refine iteF ?_
      refine ⟨_, rfl, bv, bd, rfl, ((dB.same t1).same t2).any, sB.fine, by have := sB.cn; omega, fun Q3 t3 => ⟨_, rfl, bv, bd, rfl, (((dB.same t1).same t2).same t3).any, sB.fine, by have := sB.dp; omega, fun Q4 t4 => ⟨rfl, _, rfl, iteNS rfl ?_⟩⟩⟩
      refine ⟨_, rfl, .ref Y, _, rfl, ((((iY.same t1).same t2).same t3).same t4).any, sY.fine, by omega, fun Q5 t5 => ⟨_, rfl, .ref Y, _, rfl, (((((iY.same t1).same t2).same t3).same t4).same t5).any, sY.fine, by omega, fun Q6 t6 => ⟨rfl, _, rfl, iteNS rfl ?_⟩⟩⟩
      refine ⟨(by show 0 ≤ sizeLine; decide), fun g1 h_g1 => ?_⟩
      have s := same_new h_g1 (o := .tup [])
      have k_g1 := upd_same (H := Q6) (a := g1) (o := .tup [])
      generalize upd Q6 g1 (.tup []) = G41 at *
      have i_g1 : Dt (fun _ => True) G41 (.ref g1) (.tuple []) := .tup k_g1 trivial (by simp) .nil
      refine ⟨(by show 0 ≤ sizeLine; decide), fun g2 h_g2 => ?_⟩
      have s := same_new h_g2 (o := .lst [])
      have k_g2 := upd_same (H := G41) (a := g2) (o := .lst [])
      replace i_g1 := i_g1.same s
      generalize upd G41 g2 (.lst []) = G42 at *
      have i_g2 : Dt (fun _ => True) G42 (.ref g2) (.list []) := .lst k_g2 trivial (by simp) .nil
      refine fun g3 h_g3 => ?_
      have s := same_new h_g3 (o := .dK [])
      have k_g3 := upd_same (H := G42) (a := g3) (o := .dK [])
      replace i_g1 := i_g1.same s
      replace i_g2 := i_g2.same s
      generalize upd G42 g3 (.dK []) = G43 at *
      have i_g3 : Dt (fun _ => True) G43 (.ref g3) (.dict []) := .dic k_g3 trivial
      refine ⟨(by show 1 ≤ sizeLine; decide), fun g4 h_g4 => ?_⟩
      have s := same_new h_g4 (o := .tup [V.str (Str.ofString "a")])
      have k_g4 := upd_same (H := G43) (a := g4) (o := .tup [V.str (Str.ofString "a")])
      replace i_g1 := i_g1.same s
      replace i_g2 := i_g2.same s
      replace i_g3 := i_g3.same s
      generalize upd G43 g4 (.tup [V.str (Str.ofString "a")]) = G44 at *
      have i_g4 : Dt (fun _ => True) G44 (.ref g4) (.tuple [.str (Str.ofString "a")]) := .tup k_g4 trivial (by simp) (.cons (.str _) .nil)
      refine ⟨(by show 0 ≤ sizeLine; decide), fun g5 h_g5 => ?_⟩
      have s := same_new h_g5 (o := .tup [])
      have k_g5 := upd_same (H := G44) (a := g5) (o := .tup [])
      replace i_g1 := i_g1.same s
      replace i_g2 := i_g2.same s
      replace i_g3 := i_g3.same s
      replace i_g4 := i_g4.same s
      generalize upd G44 g5 (.tup []) = G45 at *
      have i_g5 : Dt (fun _ => True) G45 (.ref g5) (.tuple []) := .tup k_g5 trivial (by simp) .nil
      refine ⟨(by show 2 ≤ sizeLine; decide), fun g6 h_g6 => ?_⟩
      have s := same_new h_g6 (o := .tup [V.str (Str.ofString "a"), V.ref g5])
      have k_g6 := upd_same (H := G45) (a := g6) (o := .tup [V.str (Str.ofString "a"), V.ref g5])
      replace i_g1 := i_g1.same s
      replace i_g2 := i_g2.same s
      replace i_g3 := i_g3.same s
      replace i_g4 := i_g4.same s
      replace i_g5 := i_g5.same s
      generalize upd G45 g6 (.tup [V.str (Str.ofString "a"), V.ref g5]) = G46 at *
      have i_g6 : Dt (fun _ => True) G46 (.ref g6) (.tuple [.str (Str.ofString "a"), .tuple []]) := .tup k_g6 trivial (by simp) (.cons (.str _) (.cons i_g5 .nil))
      refine ⟨(by show 0 ≤ sizeLine; decide), fun g7 h_g7 => ?_⟩
      have s := same_new h_g7 (o := .lst [])
      have k_g7 := upd_same (H := G46) (a := g7) (o := .lst [])
      replace i_g1 := i_g1.same s
      replace i_g2 := i_g2.same s
      replace i_g3 := i_g3.same s
      replace i_g4 := i_g4.same s
      replace i_g6 := i_g6.same s
      generalize upd G46 g7 (.lst []) = G47 at *
      have i_g7 : Dt (fun _ => True) G47 (.ref g7) (.list []) := .lst k_g7 trivial (by simp) .nil
      refine ⟨(by show 2 ≤ sizeLine; decide), fun g8 h_g8 => ?_⟩
      have s := same_new h_g8 (o := .lst [V.str (Str.ofString "a"), V.ref g7])
      have k_g8 := upd_same (H := G47) (a := g8) (o := .lst [V.str (Str.ofString "a"), V.ref g7])
      replace i_g1 := i_g1.same s
      replace i_g2 := i_g2.same s
      replace i_g3 := i_g3.same s
      replace i_g4 := i_g4.same s
      replace i_g6 := i_g6.same s
      replace i_g7 := i_g7.same s
      generalize upd G47 g8 (.lst [V.str (Str.ofString "a"), V.ref g7]) = G48 at *
      have i_g8 : Dt (fun _ => True) G48 (.ref g8) (.list [.str (Str.ofString "a"), .list []]) := .lst k_g8 trivial (by simp) (.cons (.str _) (.cons i_g7 .nil))
      refine ⟨(by show 1 ≤ sizeLine; decide), fun g9 h_g9 => ?_⟩
      have s := same_new h_g9 (o := .lst [V.str (Str.ofString "a")])
      have k_g9 := upd_same (H := G48) (a := g9) (o := .lst [V.str (Str.ofString "a")])
      replace i_g1 := i_g1.same s
      replace i_g2 := i_g2.same s
      replace i_g3 := i_g3.same s
      replace i_g4 := i_g4.same s
      replace i_g6 := i_g6.same s
      replace i_g8 := i_g8.same s
      generalize upd G48 g9 (.lst [V.str (Str.ofString "a")]) = G49 at *
      have i_g9 : Dt (fun _ => True) G49 (.ref g9) (.list [.str (Str.ofString "a")]) := .lst k_g9 trivial (by simp) (.cons (.str _) .nil)
      refine ⟨(by show 0 ≤ sizeLine; decide), fun g10 h_g10 => ?_⟩
      have s := same_new h_g10 (o := .lst [])
      have k_g10 := upd_same (H := G49) (a := g10) (o := .lst [])
      replace i_g1 := i_g1.same s
      replace i_g2 := i_g2.same s
      replace i_g3 := i_g3.same s
      replace i_g4 := i_g4.same s
      replace i_g6 := i_g6.same s
      replace i_g8 := i_g8.same s
      replace i_g9 := i_g9.same s
      generalize upd G49 g10 (.lst []) = G50 at *
      have i_g10 : Dt (fun _ => True) G50 (.ref g10) (.list []) := .lst k_g10 trivial (by simp) .nil
      refine ⟨(by show 2 ≤ sizeLine; decide), fun g11 h_g11 => ?_⟩
      have s := same_new h_g11 (o := .tup [V.ref g9, V.ref g10])
      have k_g11 := upd_same (H := G50) (a := g11) (o := .tup [V.ref g9, V.ref g10])
      replace i_g1 := i_g1.same s
      replace i_g2 := i_g2.same s
      replace i_g3 := i_g3.same s
      replace i_g4 := i_g4.same s
      replace i_g6 := i_g6.same s
      replace i_g8 := i_g8.same s
      replace i_g9 := i_g9.same s
      replace i_g10 := i_g10.same s
      generalize upd G50 g11 (.tup [V.ref g9, V.ref g10]) = G51 at *
      have i_g11 : Dt (fun _ => True) G51 (.ref g11) (.tuple [.list [.str (Str.ofString "a")], .list []]) := .tup k_g11 trivial (by simp) (.cons i_g9 (.cons i_g10 .nil))
      refine ⟨(by show 0 ≤ sizeLine; decide), fun g12 h_g12 => ?_⟩
      have s := same_new h_g12 (o := .lst [])
      have k_g12 := upd_same (H := G51) (a := g12) (o := .lst [])
      replace i_g1 := i_g1.same s
      replace i_g2 := i_g2.same s
      replace i_g3 := i_g3.same s
      replace i_g4 := i_g4.same s
      replace i_g6 := i_g6.same s
      replace i_g8 := i_g8.same s
      replace i_g11 := i_g11.same s
      generalize upd G51 g12 (.lst []) = G52 at *
      have i_g12 : Dt (fun _ => True) G52 (.ref g12) (.list []) := .lst k_g12 trivial (by simp) .nil
      refine ⟨(by show 2 ≤ sizeLine; decide), fun g13 h_g13 => ?_⟩
      have s := same_new h_g13 (o := .tup [V.ref g12, V.str (Str.ofString "a")])
      have k_g13 := upd_same (H := G52) (a := g13) (o := .tup [V.ref g12, V.str (Str.ofString "a")])
      replace i_g1 := i_g1.same s
      replace i_g2 := i_g2.same s
      replace i_g3 := i_g3.same s
      replace i_g4 := i_g4.same s
      replace i_g6 := i_g6.same s
      replace i_g8 := i_g8.same s
      replace i_g11 := i_g11.same s
      replace i_g12 := i_g12.same s
      generalize upd G52 g13 (.tup [V.ref g12, V.str (Str.ofString "a")]) = G53 at *
      have i_g13 : Dt (fun _ => True) G53 (.ref g13) (.tuple [.list [], .str (Str.ofString "a")]) := .tup k_g13 trivial (by simp) (.cons i_g12 (.cons (.str _) .nil))
      refine ⟨(by show 14 ≤ sizeLine; decide), fun GL h_GL => ?_⟩
      have s := same_new h_GL (o := .lst [V.non, V.int 0, V.bl true, V.str (Str.ofString ""), V.str (Str.ofString "a"), V.str (Str.ofString "a(b)"), V.ref g1, V.ref g2, V.ref g3, V.ref g4, V.ref g6, V.ref g8, V.ref g11, V.ref g13])
      have k_GL := upd_same (H := G53) (a := GL) (o := .lst [V.non, V.int 0, V.bl true, V.str (Str.ofString ""), V.str (Str.ofString "a"), V.str (Str.ofString "a(b)"), V.ref g1, V.ref g2, V.ref g3, V.ref g4, V.ref g6, V.ref g8, V.ref g11, V.ref g13])
      replace i_g1 := i_g1.same s
      replace i_g2 := i_g2.same s
      replace i_g3 := i_g3.same s
      replace i_g4 := i_g4.same s
      replace i_g6 := i_g6.same s
      replace i_g8 := i_g8.same s
      replace i_g11 := i_g11.same s
      replace i_g13 := i_g13.same s
      generalize upd G53 GL (.lst [V.non, V.int 0, V.bl true, V.str (Str.ofString ""), V.str (Str.ofString "a"), V.str (Str.ofString "a(b)"), V.ref g1, V.ref g2, V.ref g3, V.ref g4, V.ref g6, V.ref g8, V.ref g11, V.ref g13]) = G54 at *
      have AG : DtAll (fun _ => True) G54 [V.non, V.int 0, V.bl true, V.str (Str.ofString ""), V.str (Str.ofString "a"), V.str (Str.ofString "a(b)"), V.ref g1, V.ref g2, V.ref g3, V.ref g4, V.ref g6, V.ref g8, V.ref g11, V.ref g13] noneDs := (.cons .non (.cons (.int _) (.cons (.bl _) (.cons (.str _) (.cons (.str _) (.cons (.str _) (.cons i_g1 (.cons i_g2 (.cons i_g3 (.cons i_g4 (.cons i_g6 (.cons i_g8 (.cons i_g11 (.cons i_g13 .nil))))))))))))))
      refine ⟨GL, rfl, ⟨_, SqL.of k_GL⟩, for_list (xs := [V.non, V.int 0, V.bl true, V.str (Str.ofString ""), V.str (Str.ofString "a"), V.str (Str.ofString "a(b)"), V.ref g1, V.ref g2, V.ref g3, V.ref g4, V.ref g6, V.ref g8, V.ref g11, V.ref g13]) (fun i σ H' => (∃ z1 z2 z3 z4 z5 z6 z7 z8 z9 z10 z11 z12 : Option V, σ = [some (.ref a), z1, z2, z3, z4, z5, z6, z7, z8, z9, z10, z11, z12]) ∧ Same G54 H') ⟨⟨_, _, _, _, _, _, _, _, _, _, _, _, rfl⟩, Same.refl _⟩ (fun i σ H' _ ⟨_, f⟩ => SqL.of (f _ _ k_GL)) ?_ ?_⟩
      · rintro i x σ H8 hx ⟨⟨z1, z2, z3, z4, z5, z6, z7, z8, z9, z10, z11, z12, rfl⟩, f8⟩
        obtain ⟨d, hd, hxd⟩ := AG.getV hx
        obtain ⟨o1, o2, o3⟩ := none_ok (List.mem_of_getElem? hd)
        refine ⟨_, rfl, x, d, rfl, hxd.same f8, o1, by omega, fun Q7 t7 => ⟨_, _, rfl, rfl, _, rfl, ?_⟩⟩
        rw [o3]
        exact iteF ⟨⟨_, _, _, _, _, _, _, _, _, _, _, _, rfl⟩, f8.trans t7⟩
      · rintro σ H8 ⟨⟨z1, z2, z3, z4, z5, z6, z7, z8, z9, z10, z11, z12, rfl⟩, f8⟩
        refine ⟨(by show 0 ≤ sizeLine; decide), fun g1 h_g1 => ?_⟩
        have s := same_new h_g1 (o := .lst [])
        have k_g1 := upd_same (H := H8) (a := g1) (o := .lst [])
        generalize upd H8 g1 (.lst []) = G55 at *
        have i_g1 : Dt (fun _ => True) G55 (.ref g1) (.list []) := .lst k_g1 trivial (by simp) .nil
        refine ⟨(by show 2 ≤ sizeLine; decide), fun g2 h_g2 => ?_⟩
        have s := same_new h_g2 (o := .tup [V.str (Str.ofString "a"), V.ref g1])
        have k_g2 := upd_same (H := G55) (a := g2) (o := .tup [V.str (Str.ofString "a"), V.ref g1])
        replace i_g1 := i_g1.same s
        generalize upd G55 g2 (.tup [V.str (Str.ofString "a"), V.ref g1]) = G56 at *
        have i_g2 : Dt (fun _ => True) G56 (.ref g2) (.tuple [.str (Str.ofString "a"), .list []]) := .tup k_g2 trivial (by simp) (.cons (.str _) (.cons i_g1 .nil))
        have wa : Wt 3 2 (.tuple [.str (Str.ofString "a"), .list []]) := wt_leaf (by decide +kernel) (by decide +kernel)
        refine ⟨.ref g2, _, rfl, i_g2, wa.fine, by have := wa.cn; omega, fun Q8 t8 => ⟨_, _, rfl, rfl, _, rfl, ?_⟩⟩
        rw [wa.tr]
        refine iteT ?_
        refine ⟨(by show 0 ≤ sizeLine; decide), fun g3 h_g3 => ?_⟩
        have s := same_new h_g3 (o := .lst [])
        have k_g3 := upd_same (H := Q8) (a := g3) (o := .lst [])
        generalize upd Q8 g3 (.lst []) = G57 at *
        have i_g3 : Dt (fun _ => True) G57 (.ref g3) (.list []) := .lst k_g3 trivial (by simp) .nil
        refine ⟨(by show 2 ≤ sizeLine; decide), fun g4 h_g4 => ?_⟩
        have s := same_new h_g4 (o := .tup [V.str (Str.ofString "a"), V.ref g3])
        have k_g4 := upd_same (H := G57) (a := g4) (o := .tup [V.str (Str.ofString "a"), V.ref g3])
        replace i_g3 := i_g3.same s
        generalize upd G57 g4 (.tup [V.str (Str.ofString "a"), V.ref g3]) = G58 at *
        have i_g4 : Dt (fun _ => True) G58 (.ref g4) (.tuple [.str (Str.ofString "a"), .list []]) := .tup k_g4 trivial (by simp) (.cons (.str _) (.cons i_g3 .nil))
        refine ⟨(by show 0 ≤ sizeLine; decide), fun g5 h_g5 => ?_⟩
        have s := same_new h_g5 (o := .lst [])
        have k_g5 := upd_same (H := G58) (a := g5) (o := .lst [])
        replace i_g4 := i_g4.same s
        generalize upd G58 g5 (.lst []) = G59 at *
        have i_g5 : Dt (fun _ => True) G59 (.ref g5) (.list []) := .lst k_g5 trivial (by simp) .nil
        refine ⟨(by show 2 ≤ sizeLine; decide), fun g6 h_g6 => ?_⟩
        have s := same_new h_g6 (o := .tup [V.str (Str.ofString "z"), V.ref g5])
        have k_g6 := upd_same (H := G59) (a := g6) (o := .tup [V.str (Str.ofString "z"), V.ref g5])
        replace i_g4 := i_g4.same s
        replace i_g5 := i_g5.same s
        generalize upd G59 g6 (.tup [V.str (Str.ofString "z"), V.ref g5]) = G60 at *
        have i_g6 : Dt (fun _ => True) G60 (.ref g6) (.tuple [.str (Str.ofString "z"), .list []]) := .tup k_g6 trivial (by simp) (.cons (.str _) (.cons i_g5 .nil))
        refine ⟨(by show 2 ≤ sizeLine; decide), fun g7 h_g7 => ?_⟩
        have s := same_new h_g7 (o := .lst [V.ref g4, V.ref g6])
        have k_g7 := upd_same (H := G60) (a := g7) (o := .lst [V.ref g4, V.ref g6])
        replace i_g4 := i_g4.same s
        replace i_g6 := i_g6.same s
        generalize upd G60 g7 (.lst [V.ref g4, V.ref g6]) = G61 at *
        have i_g7 : Dt (fun _ => True) G61 (.ref g7) (.list [.tuple [.str (Str.ofString "a"), .list []], .tuple [.str (Str.ofString "z"), .list []]]) := .lst k_g7 trivial (by simp) (.cons i_g4 (.cons i_g6 .nil))
        refine ⟨(by show 2 ≤ sizeLine; decide), fun g8 h_g8 => ?_⟩
        have s := same_new h_g8 (o := .tup [V.str (Str.ofString "z"), V.ref g7])
        have k_g8 := upd_same (H := G61) (a := g8) (o := .tup [V.str (Str.ofString "z"), V.ref g7])
        replace i_g4 := i_g4.same s
        replace i_g6 := i_g6.same s
        replace i_g7 := i_g7.same s
        generalize upd G61 g8 (.tup [V.str (Str.ofString "z"), V.ref g7]) = G62 at *
        have i_g8 : Dt (fun _ => True) G62 (.ref g8) (.tuple [.str (Str.ofString "z"), .list [.tuple [.str (Str.ofString "a"), .list []], .tuple [.str (Str.ofString "z"), .list []]]]) := .tup k_g8 trivial (by simp) (.cons (.str _) (.cons i_g7 .nil))
        have wz : Wt 3 2 (.tuple [.str (Str.ofString "z"), .list []]) := wt_leaf (by decide +kernel) (by decide +kernel)
        have ww : Wt 20 8 (.tuple [.str (Str.ofString "z"), .list [.tuple [.str (Str.ofString "a"), .list []], .tuple [.str (Str.ofString "z"), .list []]]]) := (wt_node (N := 6) (D := 2) (by decide +kernel) (by decide +kernel) ⟨by simp only [fine0s, wa.fine, wz.fine, Bool.and_self], by simp only [isTDs, wa.tr, wz.tr, Bool.and_self], by have := wa.cn; have := wz.cn; simp only [cntAll]; omega, by have := wa.dp; have := wz.dp; simp only [PyData.depthAll]; omega⟩).mono (by omega) (by omega)
        refine ⟨.ref g8, _, rfl, i_g8, ww.fine, by have := ww.cn; omega, fun Q9 t9 => ⟨_, _, rfl, rfl, ?_⟩⟩
        rw [ww.tr]
        exact q _
end
theorem all_mk {l : PySem.W.OpenLaw} {w : World} {K : PySem.W.Frag} {h : Heap} {mg : Str → Option Value} {fa f0 f1 f2 f3 f4 f5 f6 f7 f8 f9 f10 f11 f12 f13 : Addr} (X : K.In h) (G : h.Ns mainGlobals mg) (hfa : mg "law" = some (.ref fa))
    {od0 an0 od1 an1 od2 an2 od3 an3 od4 an4 od5 an5 od6 an6 od7 an7 od8 an8 od9 an9 od10 an10 od11 an11 od12 an12 od13 an13 : Option Addr} {sl0 sl1 sl2 sl3 sl4 sl5 sl6 sl7 sl8 sl9 sl10 sl11 sl12 sl13 : Array (Option Value)} {oc0 kV0 dc0 pm0 cd0 ct0 oc1 kV1 dc1 pm1 cd1 ct1 oc2 kV2 dc2 pm2 cd2 ct2 oc3 kV3 dc3 pm3 cd3 ct3 oc4 kV4 dc4 pm4 cd4 ct4 oc5 kV5 dc5 pm5 cd5 ct5 oc6 kV6 dc6 pm6 cd6 ct6 oc7 kV7 dc7 pm7 cd7 ct7 oc8 kV8 dc8 pm8 cd8 ct8 oc9 kV9 dc9 pm9 cd9 ct9 oc10 kV10 dc10 pm10 cd10 ct10 oc11 kV11 dc11 pm11 cd11 ct11 oc12 kV12 dc12 pm12 cd12 ct12 oc13 kV13 dc13 pm13 cd13 ct13 : Value}
    (a0 : PySem.W.nsIn K mainGlobals "is_letter" = some (some (.ref f0))) (l0 : K.lookup f0 = some ⟨oc0, od0, .func (PySem.W.fnOf "is_letter" "is_letter" (defArgs s_is_letter) (defBody s_is_letter) (defScope s_is_letter) .none kV0 dc0 pm0 an0 cd0 ct0), sl0⟩) (c0 : PySem.W.codeIn K cd0 "is_letter" = true) (k0 : PySem.W.keepIn K (.ref f0) = true)
    (a1 : PySem.W.nsIn K mainGlobals "is_tree" = some (some (.ref f1))) (l1 : K.lookup f1 = some ⟨oc1, od1, .func (PySem.W.fnOf "is_tree" "is_tree" (defArgs s_is_tree) (defBody s_is_tree) (defScope s_is_tree) .none kV1 dc1 pm1 an1 cd1 ct1), sl1⟩) (c1 : PySem.W.codeIn K cd1 "is_tree" = true) (k1 : PySem.W.keepIn K (.ref f1) = true)
    (a2 : PySem.W.nsIn K mainGlobals "_is_part" = some (some (.ref f2))) (l2 : K.lookup f2 = some ⟨oc2, od2, .func (PySem.W.fnOf "_is_part" "_is_part" (defArgs s__is_part) (defBody s__is_part) (defScope s__is_part) .none kV2 dc2 pm2 an2 cd2 ct2), sl2⟩) (c2 : PySem.W.codeIn K cd2 "_is_part" = true) (k2 : PySem.W.keepIn K (.ref f2) = true)
    (a3 : PySem.W.nsIn K mainGlobals "_law_pool" = some (some (.ref f3))) (l3 : K.lookup f3 = some ⟨oc3, od3, .func (PySem.W.fnOf "_law_pool" "_law_pool" (defArgs s__law_pool) (defBody s__law_pool) (defScope s__law_pool) .none kV3 dc3 pm3 an3 cd3 ct3), sl3⟩) (c3 : PySem.W.codeIn K cd3 "_law_pool" = true) (k3 : PySem.W.keepIn K (.ref f3) = true)
    (a4 : PySem.W.nsIn K mainGlobals "_law_take" = some (some (.ref f4))) (l4 : K.lookup f4 = some ⟨oc4, od4, .func (PySem.W.fnOf "_law_take" "_law_take" (defArgs s__law_take) (defBody s__law_take) (defScope s__law_take) .none kV4 dc4 pm4 an4 cd4 ct4), sl4⟩) (c4 : PySem.W.codeIn K cd4 "_law_take" = true) (k4 : PySem.W.keepIn K (.ref f4) = true)
    (a5 : PySem.W.nsIn K mainGlobals "_law_mixed_up" = some (some (.ref f5))) (l5 : K.lookup f5 = some ⟨oc5, od5, .func (PySem.W.fnOf "_law_mixed_up" "_law_mixed_up" (defArgs s__law_mixed_up) (defBody s__law_mixed_up) (defScope s__law_mixed_up) .none kV5 dc5 pm5 an5 cd5 ct5), sl5⟩) (c5 : PySem.W.codeIn K cd5 "_law_mixed_up" = true) (k5 : PySem.W.keepIn K (.ref f5) = true)
    (a6 : PySem.W.nsIn K mainGlobals "_law_grown" = some (some (.ref f6))) (l6 : K.lookup f6 = some ⟨oc6, od6, .func (PySem.W.fnOf "_law_grown" "_law_grown" (defArgs s__law_grown) (defBody s__law_grown) (defScope s__law_grown) .none kV6 dc6 pm6 an6 cd6 ct6), sl6⟩) (c6 : PySem.W.codeIn K cd6 "_law_grown" = true) (k6 : PySem.W.keepIn K (.ref f6) = true)
    (a7 : PySem.W.nsIn K mainGlobals "_law_shuffled" = some (some (.ref f7))) (l7 : K.lookup f7 = some ⟨oc7, od7, .func (PySem.W.fnOf "_law_shuffled" "_law_shuffled" (defArgs s__law_shuffled) (defBody s__law_shuffled) (defScope s__law_shuffled) .none kV7 dc7 pm7 an7 cd7 ct7), sl7⟩) (c7 : PySem.W.codeIn K cd7 "_law_shuffled" = true) (k7 : PySem.W.keepIn K (.ref f7) = true)
    (a8 : PySem.W.nsIn K mainGlobals "_law_tree" = some (some (.ref f8))) (l8 : K.lookup f8 = some ⟨oc8, od8, .func (PySem.W.fnOf "_law_tree" "_law_tree" (defArgs s__law_tree) (defBody s__law_tree) (defScope s__law_tree) .none kV8 dc8 pm8 an8 cd8 ct8), sl8⟩) (c8 : PySem.W.codeIn K cd8 "_law_tree" = true) (k8 : PySem.W.keepIn K (.ref f8) = true)
    (a9 : PySem.W.nsIn K mainGlobals "_law_letters" = some (some (.ref f9))) (l9 : K.lookup f9 = some ⟨oc9, od9, .func (PySem.W.fnOf "_law_letters" "_law_letters" (defArgs s__law_letters) (defBody s__law_letters) (defScope s__law_letters) .none kV9 dc9 pm9 an9 cd9 ct9), sl9⟩) (c9 : PySem.W.codeIn K cd9 "_law_letters" = true) (k9 : PySem.W.keepIn K (.ref f9) = true)
    (a10 : PySem.W.nsIn K mainGlobals "_law_is_tree" = some (some (.ref f10))) (l10 : K.lookup f10 = some ⟨oc10, od10, .func (PySem.W.fnOf "_law_is_tree" "_law_is_tree" (defArgs s__law_is_tree) (defBody s__law_is_tree) (defScope s__law_is_tree) .none kV10 dc10 pm10 an10 cd10 ct10), sl10⟩) (c10 : PySem.W.codeIn K cd10 "_law_is_tree" = true) (k10 : PySem.W.keepIn K (.ref f10) = true)
    (a11 : PySem.W.nsIn K mainGlobals "_law_odd" = some (some (.ref f11))) (l11 : K.lookup f11 = some ⟨oc11, od11, .func (PySem.W.fnOf "_law_odd" "_law_odd" (defArgs s__law_odd) (defBody s__law_odd) (defScope s__law_odd) .none kV11 dc11 pm11 an11 cd11 ct11), sl11⟩) (c11 : PySem.W.codeIn K cd11 "_law_odd" = true) (k11 : PySem.W.keepIn K (.ref f11) = true)
    (a12 : PySem.W.nsIn K mainGlobals "_law_spoilt" = some (some (.ref f12))) (l12 : K.lookup f12 = some ⟨oc12, od12, .func (PySem.W.fnOf "_law_spoilt" "_law_spoilt" (defArgs s__law_spoilt) (defBody s__law_spoilt) (defScope s__law_spoilt) .none kV12 dc12 pm12 an12 cd12 ct12), sl12⟩) (c12 : PySem.W.codeIn K cd12 "_law_spoilt" = true) (k12 : PySem.W.keepIn K (.ref f12) = true)
    (a13 : PySem.W.nsIn K mainGlobals "law" = some (some (.ref f13))) (l13 : K.lookup f13 = some ⟨oc13, od13, .func (PySem.W.fnOf "law" "law" (defArgs s_law) (defBody s_law) (defScope s_law) .none kV13 dc13 pm13 an13 cd13 ct13), sl13⟩) (c13 : PySem.W.codeIn K cd13 "law" = true) (k13 : PySem.W.keepIn K (.ref f13) = true)
    (z_bool : PySem.W.nsIn K mainGlobals "bool" = some none)
    (z_isinstance : PySem.W.nsIn K mainGlobals "isinstance" = some none)
    (z_len : PySem.W.nsIn K mainGlobals "len" = some none)
    (z_list : PySem.W.nsIn K mainGlobals "list" = some none)
    (z_max : PySem.W.nsIn K mainGlobals "max" = some none)
    (z_min : PySem.W.nsIn K mainGlobals "min" = some none)
    (z_range : PySem.W.nsIn K mainGlobals "range" = some none)
    (z_repr : PySem.W.nsIn K mainGlobals "repr" = some none)
    (z_str : PySem.W.nsIn K mainGlobals "str" = some none)
    (z_tuple : PySem.W.nsIn K mainGlobals "tuple" = some none)
    : ∃ fd : FuncData, (∀ (s : Shared) (v : Value), BindsTo s fd ⟨[v], []⟩ [("script", v)]) ∧ ∀ base : Heap, K.In base → base.Ns mainGlobals mg → (∃ ob, base.get? sysModules = some ob) → RunG l.prog w K mg base 61 fa fd "script" (spLaw K) := by
  have e := hfa.symm.trans (PySem.W.mg_of X G a13)
  cases e
  have F0 := fun_mk (st := s_is_letter) l0 c0 k0
  have b0 := F0.binds (ps := ["thing"]) fun _ _ _ _ _ _ us hl => match us, hl with | [_], _ => rfl
  have F1 := fun_mk (st := s_is_tree) l1 c1 k1
  have b1 := F1.binds (ps := ["thing"]) fun _ _ _ _ _ _ us hl => match us, hl with | [_], _ => rfl
  have F2 := fun_mk (st := s__is_part) l2 c2 k2
  have b2 := F2.binds (ps := ["thing"]) fun _ _ _ _ _ _ us hl => match us, hl with | [_], _ => rfl
  have F3 := fun_mk (st := s__law_pool) l3 c3 k3
  have b3 := F3.binds (ps := ["script", "k"]) fun _ _ _ _ _ _ us hl => match us, hl with | [_, _], _ => rfl
  have F4 := fun_mk (st := s__law_take) l4 c4 k4
  have b4 := F4.binds (ps := ["pool", "many"]) fun _ _ _ _ _ _ us hl => match us, hl with | [_, _], _ => rfl
  have F5 := fun_mk (st := s__law_mixed_up) l5 c5 k5
  have b5 := F5.binds (ps := ["pool", "things"]) fun _ _ _ _ _ _ us hl => match us, hl with | [_, _], _ => rfl
  have F6 := fun_mk (st := s__law_grown) l6 c6 k6
  have b6 := F6.binds (ps := ["pool", "most", "letters"]) fun _ _ _ _ _ _ us hl => match us, hl with | [_, _, _], _ => rfl
  have F7 := fun_mk (st := s__law_shuffled) l7 c7 k7
  have b7 := F7.binds (ps := ["pool", "tree"]) fun _ _ _ _ _ _ us hl => match us, hl with | [_, _], _ => rfl
  have F8 := fun_mk (st := s__law_tree) l8 c8 k8
  have b8 := F8.binds (ps := ["pool", "most", "letters"]) fun _ _ _ _ _ _ us hl => match us, hl with | [_, _, _], _ => rfl
  have F9 := fun_mk (st := s__law_letters) l9 c9 k9
  have b9 := F9.binds (ps := ["pool"]) fun _ _ _ _ _ _ us hl => match us, hl with | [_], _ => rfl
  have F10 := fun_mk (st := s__law_is_tree) l10 c10 k10
  have b10 := F10.binds (ps := ["thing"]) fun _ _ _ _ _ _ us hl => match us, hl with | [_], _ => rfl
  have F11 := fun_mk (st := s__law_odd) l11 c11 k11
  have b11 := F11.binds (ps := ["pool", "tree"]) fun _ _ _ _ _ _ us hl => match us, hl with | [_, _], _ => rfl
  have F12 := fun_mk (st := s__law_spoilt) l12 c12 k12
  have b12 := F12.binds (ps := ["pool", "tree"]) fun _ _ _ _ _ _ us hl => match us, hl with | [_, _], _ => rfl
  have F13 := fun_mk (st := s_law) l13 c13 k13
  have b13 := F13.binds (ps := ["script"]) fun _ _ _ _ _ _ us hl => match us, hl with | [_], _ => rfl
  let T : Txt K mg := ⟨f0, _, F0, b0, PySem.W.mg_of X G a0, f1, _, F1, b1, PySem.W.mg_of X G a1, f2, _, F2, b2, PySem.W.mg_of X G a2, f3, _, F3, b3, PySem.W.mg_of X G a3, f4, _, F4, b4, PySem.W.mg_of X G a4, f5, _, F5, b5, PySem.W.mg_of X G a5, f6, _, F6, b6, PySem.W.mg_of X G a6, f7, _, F7, b7, PySem.W.mg_of X G a7, f8, _, F8, b8, PySem.W.mg_of X G a8, f9, _, F9, b9, PySem.W.mg_of X G a9, f10, _, F10, b10, PySem.W.mg_of X G a10, f11, _, F11, b11, PySem.W.mg_of X G a11, f12, _, F12, b12, PySem.W.mg_of X G a12, fa, _, F13, b13, PySem.W.mg_of X G a13, PySem.W.mg_none_of X G z_bool, PySem.W.mg_none_of X G z_isinstance, PySem.W.mg_none_of X G z_len, PySem.W.mg_none_of X G z_list, PySem.W.mg_none_of X G z_max, PySem.W.mg_none_of X G z_min, PySem.W.mg_none_of X G z_range, PySem.W.mg_none_of X G z_repr, PySem.W.mg_none_of X G z_str, PySem.W.mg_none_of X G z_tuple⟩
  exact ⟨PySem.W.fnOf "law" "law" (defArgs s_law) (defBody s_law) (defScope s_law) .none kV13 dc13 pm13 an13 cd13 ct13, fun s v => .of_eq rfl, fun base _ _ hM => ok_law T hM⟩
end My
open PySem PySem.W PyProof.Rows
set_option maxRecDepth 100000 in
set_option maxHeartbeats 0 in
theorem PySem.Challenge.cw_heaptrees_k01_what_is_a_tree_holds : PySem.Challenge.rw_heaptrees_k01_what_is_a_tree.Holds := by
  w_on; o_law; k_head; (case hw => w_witness2)
  k_fill
  refine My.walkG (l := PySem.Challenge.rw_heaptrees_k01_what_is_a_tree) (n := 63) (k := 61) (x := "script") rfl (by decide) (by decide) (by decide +kernel) rfl ⟨rfl, by decide, by decide⟩ (fun w h Y => PySem.W.kIn_of Y) ?F
  case F =>
    intro w mg fa h KX G hmg
    refine' My.all_mk KX G hmg ?a0 ?l0 ?c0 ?k0 ?a1 ?l1 ?c1 ?k1 ?a2 ?l2 ?c2 ?k2 ?a3 ?l3 ?c3 ?k3 ?a4 ?l4 ?c4 ?k4 ?a5 ?l5 ?c5 ?k5 ?a6 ?l6 ?c6 ?k6 ?a7 ?l7 ?c7 ?k7 ?a8 ?l8 ?c8 ?k8 ?a9 ?l9 ?c9 ?k9 ?a10 ?l10 ?c10 ?k10 ?a11 ?l11 ?c11 ?k11 ?a12 ?l12 ?c12 ?k12 ?a13 ?l13 ?c13 ?k13 ?z_bool ?z_isinstance ?z_len ?z_list ?z_max ?z_min ?z_range ?z_repr ?z_str ?z_tuple
    (case a0 => k_is)
    (case l0 => k_is)
    (case c0 => k_is)
    (case k0 => k_is)
    (case a1 => k_is)
    (case l1 => k_is)
    (case c1 => k_is)
    (case k1 => k_is)
    (case a2 => k_is)
    (case l2 => k_is)
    (case c2 => k_is)
    (case k2 => k_is)
    (case a3 => k_is)
    (case l3 => k_is)
    (case c3 => k_is)
    (case k3 => k_is)
    (case a4 => k_is)
    (case l4 => k_is)
    (case c4 => k_is)
    (case k4 => k_is)
    (case a5 => k_is)
    (case l5 => k_is)
    (case c5 => k_is)
    (case k5 => k_is)
    (case a6 => k_is)
    (case l6 => k_is)
    (case c6 => k_is)
    (case k6 => k_is)
    (case a7 => k_is)
    (case l7 => k_is)
    (case c7 => k_is)
    (case k7 => k_is)
    (case a8 => k_is)
    (case l8 => k_is)
    (case c8 => k_is)
    (case k8 => k_is)
    (case a9 => k_is)
    (case l9 => k_is)
    (case c9 => k_is)
    (case k9 => k_is)
    (case a10 => k_is)
    (case l10 => k_is)
    (case c10 => k_is)
    (case k10 => k_is)
    (case a11 => k_is)
    (case l11 => k_is)
    (case c11 => k_is)
    (case k11 => k_is)
    (case a12 => k_is)
    (case l12 => k_is)
    (case c12 => k_is)
    (case k12 => k_is)
    (case a13 => k_is)
    (case l13 => k_is)
    (case c13 => k_is)
    (case k13 => k_is)
    (case z_bool => k_is)
    (case z_isinstance => k_is)
    (case z_len => k_is)
    (case z_list => k_is)
    (case z_max => k_is)
    (case z_min => k_is)
    (case z_range => k_is)
    (case z_repr => k_is)
    (case z_str => k_is)
    (case z_tuple => k_is)
#print axioms PySem.Challenge.cw_heaptrees_k01_what_is_a_tree_holds
