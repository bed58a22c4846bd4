
import PyProof.Rows.All
import Wide.All
import OpenK.AllK
import Wide.FinOn
import HandS.ForMost
import HandS.Wide
import HandS.IsInst
import HandS.Flow
import HandS.Style
import HandS.Codes
import HandS.Lambda
import HandS.EndTab
import HandS.SortKw
import HandS.FStr
import HandS.NoneIn
import HandS.More
import HandS.Zip
import HandS.Conv
import HandS.TupAny
import HandS.RaiseMore
import HandS.Walk
import HandS.Iter
import HandS.Dict
import PyProof.StrLawsRepr
import KE.SortKeyHeap
import PySem.Challenge.RW_heaptrees_k02_sizes_and_depths
set_option Elab.async false
set_option linter.all false
set_option maxRecDepth 100000
set_option maxHeartbeats 4000000
namespace My
open PySem PySem.Spec PyProof.Rows L2
def topS (i : Nat) : Stmt := PySem.Challenge.pw_heaptrees_k02_sizes_and_depths.main.body.getD i (.Pass ⟨0, 0, 0, 0⟩)
abbrev s_is_letter : Stmt := topS 4
theorem sc_is_letter : FnScope ["thing"] ["thing"] (defScope s_is_letter) := ⟨rfl, rfl, rfl, by decide +kernel, rfl, by decide +kernel, by decide +kernel⟩
abbrev s_is_tree : Stmt := topS 6
theorem sc_is_tree : FnScope ["thing", "waiting", "part"] ["thing"] (defScope s_is_tree) := ⟨rfl, rfl, rfl, by decide +kernel, rfl, by decide +kernel, by decide +kernel⟩
abbrev s__is_part : Stmt := topS 7
theorem sc__is_part : FnScope ["thing"] ["thing"] (defScope s__is_part) := ⟨rfl, rfl, rfl, by decide +kernel, rfl, by decide +kernel, by decide +kernel⟩
abbrev s_check_tree : Stmt := topS 8
theorem sc_check_tree : FnScope ["thing"] ["thing"] (defScope s_check_tree) := ⟨rfl, rfl, rfl, by decide +kernel, rfl, by decide +kernel, by decide +kernel⟩
abbrev s_parts_upward : Stmt := topS 9
theorem sc_parts_upward : FnScope ["tree", "parts", "waiting", "part"] ["tree"] (defScope s_parts_upward) := ⟨rfl, rfl, rfl, by decide +kernel, rfl, by decide +kernel, by decide +kernel⟩
abbrev s_size_of : Stmt := topS 10
theorem sc_size_of : FnScope ["tree"] ["tree"] (defScope s_size_of) := ⟨rfl, rfl, rfl, by decide +kernel, rfl, by decide +kernel, by decide +kernel⟩
abbrev s_depth_of : Stmt := topS 11
theorem sc_depth_of : FnScope ["tree", "depth", "level", "part", "child"] ["tree"] (defScope s_depth_of) := ⟨rfl, rfl, rfl, by decide +kernel, rfl, by decide +kernel, by decide +kernel⟩
abbrev s__law_pool : Stmt := topS 13
theorem sc__law_pool : FnScope ["script", "k", "cell"] ["script", "k"] (defScope s__law_pool) := ⟨rfl, rfl, rfl, by decide +kernel, rfl, by decide +kernel, by decide +kernel⟩
abbrev s__law_take : Stmt := topS 14
theorem sc__law_take : FnScope ["pool", "many", "found", "step", "mark"] ["pool", "many"] (defScope s__law_take) := ⟨rfl, rfl, rfl, by decide +kernel, rfl, by decide +kernel, by decide +kernel⟩
abbrev s__law_mixed_up : Stmt := topS 15
theorem sc__law_mixed_up : FnScope ["pool", "things", "left", "found"] ["pool", "things"] (defScope s__law_mixed_up) := ⟨rfl, rfl, rfl, by decide +kernel, rfl, by decide +kernel, by decide +kernel⟩
abbrev s__law_grown : Stmt := topS 16
theorem sc__law_grown : FnScope ["pool", "most", "letters", "many", "way", "depths", "rows", "k", "head", "trees", "children", "child"] ["pool", "most", "letters"] (defScope s__law_grown) := ⟨rfl, rfl, rfl, by decide +kernel, rfl, by decide +kernel, by decide +kernel⟩
abbrev s__law_shuffled : Stmt := topS 17
theorem sc__law_shuffled : FnScope ["pool", "tree", "child"] ["pool", "tree"] (defScope s__law_shuffled) := ⟨rfl, rfl, rfl, by decide +kernel, rfl, by decide +kernel, by decide +kernel⟩
abbrev s__law_tree : Stmt := topS 18
theorem sc__law_tree : FnScope ["pool", "most", "letters", "one", "other", "rows"] ["pool", "most", "letters"] (defScope s__law_tree) := ⟨rfl, rfl, rfl, by decide +kernel, rfl, by decide +kernel, by decide +kernel⟩
abbrev s__law_letters : Stmt := topS 19
theorem sc__law_letters : FnScope ["pool"] ["pool"] (defScope s__law_letters) := ⟨rfl, rfl, rfl, by decide +kernel, rfl, by decide +kernel, by decide +kernel⟩
abbrev s__law_copy : Stmt := topS 20
theorem sc__law_copy : FnScope ["tree", "child"] ["tree"] (defScope s__law_copy) := ⟨rfl, rfl, rfl, by decide +kernel, rfl, by decide +kernel, by decide +kernel⟩
abbrev s__law_counted : Stmt := topS 21
theorem sc__law_counted : FnScope ["tree", "row", "size", "depth", "behind", "part"] ["tree"] (defScope s__law_counted) := ⟨rfl, rfl, rfl, by decide +kernel, rfl, by decide +kernel, by decide +kernel⟩
abbrev s_law : Stmt := topS 22
theorem sc_law : FnScope ["script", "k", "pool", "tree", "due", "handed", "again", "found", "one"] ["script"] (defScope s_law) := ⟨rfl, rfl, rfl, by decide +kernel, rfl, by decide +kernel, by decide +kernel⟩
structure Txt (K : PySem.W.Frag) (mg : Str → Option Value) where
  f_is_letter : Addr
  d_is_letter : FuncData
  F_is_letter : Fun K "is_letter" "is_letter" s_is_letter f_is_letter d_is_letter
  b_is_letter : Binds K d_is_letter ["thing"] []
  m_is_letter : mg "is_letter" = some (.ref f_is_letter)
  f_is_tree : Addr
  d_is_tree : FuncData
  F_is_tree : Fun K "is_tree" "is_tree" s_is_tree f_is_tree d_is_tree
  b_is_tree : Binds K d_is_tree ["thing"] []
  m_is_tree : mg "is_tree" = some (.ref f_is_tree)
  f__is_part : Addr
  d__is_part : FuncData
  F__is_part : Fun K "_is_part" "_is_part" s__is_part f__is_part d__is_part
  b__is_part : Binds K d__is_part ["thing"] []
  m__is_part : mg "_is_part" = some (.ref f__is_part)
  f_check_tree : Addr
  d_check_tree : FuncData
  F_check_tree : Fun K "check_tree" "check_tree" s_check_tree f_check_tree d_check_tree
  b_check_tree : Binds K d_check_tree ["thing"] []
  m_check_tree : mg "check_tree" = some (.ref f_check_tree)
  f_parts_upward : Addr
  d_parts_upward : FuncData
  F_parts_upward : Fun K "parts_upward" "parts_upward" s_parts_upward f_parts_upward d_parts_upward
  b_parts_upward : Binds K d_parts_upward ["tree"] []
  m_parts_upward : mg "parts_upward" = some (.ref f_parts_upward)
  f_size_of : Addr
  d_size_of : FuncData
  F_size_of : Fun K "size_of" "size_of" s_size_of f_size_of d_size_of
  b_size_of : Binds K d_size_of ["tree"] []
  m_size_of : mg "size_of" = some (.ref f_size_of)
  f_depth_of : Addr
  d_depth_of : FuncData
  F_depth_of : Fun K "depth_of" "depth_of" s_depth_of f_depth_of d_depth_of
  b_depth_of : Binds K d_depth_of ["tree"] []
  m_depth_of : mg "depth_of" = some (.ref f_depth_of)
  f__law_pool : Addr
  d__law_pool : FuncData
  F__law_pool : Fun K "_law_pool" "_law_pool" s__law_pool f__law_pool d__law_pool
  b__law_pool : Binds K d__law_pool ["script", "k"] []
  m__law_pool : mg "_law_pool" = some (.ref f__law_pool)
  f__law_take : Addr
  d__law_take : FuncData
  F__law_take : Fun K "_law_take" "_law_take" s__law_take f__law_take d__law_take
  b__law_take : Binds K d__law_take ["pool", "many"] []
  m__law_take : mg "_law_take" = some (.ref f__law_take)
  f__law_mixed_up : Addr
  d__law_mixed_up : FuncData
  F__law_mixed_up : Fun K "_law_mixed_up" "_law_mixed_up" s__law_mixed_up f__law_mixed_up d__law_mixed_up
  b__law_mixed_up : Binds K d__law_mixed_up ["pool", "things"] []
  m__law_mixed_up : mg "_law_mixed_up" = some (.ref f__law_mixed_up)
  f__law_grown : Addr
  d__law_grown : FuncData
  F__law_grown : Fun K "_law_grown" "_law_grown" s__law_grown f__law_grown d__law_grown
  b__law_grown : Binds K d__law_grown ["pool", "most", "letters"] []
  m__law_grown : mg "_law_grown" = some (.ref f__law_grown)
  f__law_shuffled : Addr
  d__law_shuffled : FuncData
  F__law_shuffled : Fun K "_law_shuffled" "_law_shuffled" s__law_shuffled f__law_shuffled d__law_shuffled
  b__law_shuffled : Binds K d__law_shuffled ["pool", "tree"] []
  m__law_shuffled : mg "_law_shuffled" = some (.ref f__law_shuffled)
  f__law_tree : Addr
  d__law_tree : FuncData
  F__law_tree : Fun K "_law_tree" "_law_tree" s__law_tree f__law_tree d__law_tree
  b__law_tree : Binds K d__law_tree ["pool", "most", "letters"] []
  m__law_tree : mg "_law_tree" = some (.ref f__law_tree)
  f__law_letters : Addr
  d__law_letters : FuncData
  F__law_letters : Fun K "_law_letters" "_law_letters" s__law_letters f__law_letters d__law_letters
  b__law_letters : Binds K d__law_letters ["pool"] []
  m__law_letters : mg "_law_letters" = some (.ref f__law_letters)
  f__law_copy : Addr
  d__law_copy : FuncData
  F__law_copy : Fun K "_law_copy" "_law_copy" s__law_copy f__law_copy d__law_copy
  b__law_copy : Binds K d__law_copy ["tree"] []
  m__law_copy : mg "_law_copy" = some (.ref f__law_copy)
  f__law_counted : Addr
  d__law_counted : FuncData
  F__law_counted : Fun K "_law_counted" "_law_counted" s__law_counted f__law_counted d__law_counted
  b__law_counted : Binds K d__law_counted ["tree"] []
  m__law_counted : mg "_law_counted" = some (.ref f__law_counted)
  f_law : Addr
  d_law : FuncData
  F_law : Fun K "law" "law" s_law f_law d_law
  b_law : Binds K d_law ["script"] []
  m_law : mg "law" = some (.ref f_law)
  z_bool : mg "bool" = none
  z_isinstance : mg "isinstance" = none
  z_len : mg "len" = none
  z_list : mg "list" = none
  z_max : mg "max" = none
  z_min : mg "min" = none
  z_range : mg "range" = none
  z_str : mg "str" = none
  z_tuple : mg "tuple" = none
local macro_rules | `(tactic| walk_at "my rd") => `(tactic| repeat (first | refine ⟨_, rfl, ?_⟩ | refine ⟨_, _, rfl, rfl, ?_⟩ | refine ⟨rfl, ?_⟩))
local macro_rules | `(tactic| walk_at "my one") => `(tactic| first | refine ⟨_, rfl, ?_⟩ | refine ⟨_, _, rfl, rfl, ?_⟩ | refine ⟨rfl, ?_⟩)
def Chg (p : Addr) (H H' : Hp) : Prop := ∀ b, b ≠ p → H' b = H b
theorem Chg.refl (p : Addr) (H : Hp) : Chg p H H := fun _ _ => rfl
theorem Chg.trans {p : Addr} {H H1 H2 : Hp} (a : Chg p H H1) (b : Chg p H1 H2) : Chg p H H2 := fun c hc => (b c hc).trans (a c hc)
theorem Chg.upd {p : Addr} {H : Hp} {o : HO} : Chg p H (upd H p o) := fun _ h => upd_ne h
theorem Chg.at {p b : Addr} {H H' : Hp} {o : HO} (c : Chg p H H') (h : H b = some o) (n : b ≠ p) : H' b = some o := (c b n).trans h
theorem Chg.seq {K : PySem.W.Frag} {p a : Addr} {H H' : Hp} {xs : List V} (c : Chg p H H') (hp : H p = none) (h : SqL K H a xs) : SqL K H' a xs := by
  rcases h with (h | ⟨o, h⟩) | h
  · exact .inl (.inl (c.at h (ne_of_none h hp)))
  · exact .inl (.inr ⟨o, c.at h (ne_of_none h hp)⟩)
  · exact .inr h
theorem same_new {H : Hp} {p : Addr} {o : HO} (h : H p = none) : Same H (upd H p o) := fun b u q => by rw [upd_ne (ne_of_none q h)]; exact q
theorem nn_mul {a b A B : Int} (h0 : 0 ≤ a) (h1 : a ≤ A) (g0 : 0 ≤ b) (g1 : b ≤ B) : 0 ≤ a * b ∧ a * b ≤ A * B :=
  ⟨Int.mul_nonneg h0 g0, Int.mul_le_mul h1 g1 g0 (Int.le_trans h0 h1)⟩
theorem divW {i j : Int} (h : 0 < j) (h2 : j < 2 ^ 60) : CDivW i j := wide_div (b := 60) h (by omega) (by decide) (by decide)

theorem lay_ints : ∀ xs : List Int, PyData.canLayAll0 (xs.map PyData.int) = true
  | [] => by simp only [List.map_nil, PyData.canLayAll0]
  | x :: r => by simp only [List.map_cons, PyData.canLayAll0, PyData.canLay0, lay_ints r, Bool.and_self]
theorem dep_ints : ∀ xs : List Int, PyData.depthAll (xs.map PyData.int) ≤ 1
  | [] => by simp only [List.map_nil, PyData.depthAll]; omega
  | x :: r => by
    have := dep_ints r
    simp only [List.map_cons, PyData.depthAll, PyData.depth]
    omega
theorem shaped_ints (xs : List Int) : SeqAt.shaped (.list (xs.map PyData.int)) = true := by
  have a := lay_ints xs
  have b := dep_ints xs
  unfold SeqAt.shaped
  rw [Bool.and_eq_true]
  refine ⟨by simp only [PyData.canLay0]; exact a, decide_eq_true ?_⟩
  simp only [PyData.depth]
  omega
theorem dp_ints {K : PySem.W.Frag} {H : Hp} : ∀ xs : List Int, DpAll K H (xs.map V.int) (xs.map PyData.int)
  | [] => .nil
  | x :: r => .cons (.int x) (dp_ints r)
theorem dp_intsL {K : PySem.W.Frag} {H : Hp} {a : Addr} {xs : List Int} (h : SqL K H a (xs.map V.int)) : Dp K H (.ref a) (.list (xs.map PyData.int)) := .lst h (dp_ints xs)
theorem eqv_self {d : PyData} (h : SeqAt.shaped d = true) : PyData.eqv d d = true := SeqAt.eqv_refl d (SeqAt.canLay_of_shaped h)

inductive Tr where
  | node (c : Nat) (ks : List Tr)
def ch (c : Nat) : Str := ⟨#[c]⟩
mutual
def Tr.size : Tr → Nat
  | .node _ ks => 1 + sizes ks
def sizes : List Tr → Nat
  | [] => 0
  | t :: r => t.size + sizes r
end
mutual
def Tr.depth : Tr → Nat
  | .node _ ks => 1 + depths ks
def depths : List Tr → Nat
  | [] => 0
  | t :: r => max t.depth (depths r)
end
mutual
def Tr.post : Tr → List Tr
  | .node c ks => posts ks ++ [.node c ks]
def posts : List Tr → List Tr
  | [] => []
  | t :: r => t.post ++ posts r
end

mutual
def Tr.lets (p : Nat → Prop) : Tr → Prop
  | .node c ks => p c ∧ letss p ks
def letss (p : Nat → Prop) : List Tr → Prop
  | [] => True
  | t :: r => t.lets p ∧ letss p r
end
def Tr.kids : Tr → List Tr
  | .node _ ks => ks
def Tr.top : Tr → Nat
  | .node c _ => c
theorem sizes_append : ∀ a b : List Tr, sizes (a ++ b) = sizes a + sizes b
  | [], b => by simp only [List.nil_append, sizes]; omega
  | t :: r, b => by simp only [List.cons_append, sizes, sizes_append r b]; omega
theorem depths_append : ∀ a b : List Tr, depths (a ++ b) = max (depths a) (depths b)
  | [], b => by simp only [List.nil_append, depths]; omega
  | t :: r, b => by simp only [List.cons_append, depths, depths_append r b]; omega
theorem posts_append : ∀ a b : List Tr, posts (a ++ b) = posts a ++ posts b
  | [], b => by simp only [List.nil_append, posts]
  | t :: r, b => by simp only [List.cons_append, posts, posts_append r b, List.append_assoc]
theorem letss_append (p : Nat → Prop) : ∀ a b : List Tr, letss p (a ++ b) ↔ letss p a ∧ letss p b
  | [], b => by simp only [List.nil_append, letss, true_and]
  | t :: r, b => by simp only [List.cons_append, letss, letss_append p r b, and_assoc]
theorem size_pos : ∀ t : Tr, 1 ≤ t.size
  | .node c ks => by simp only [Tr.size]; omega
theorem len_sizes : ∀ ts : List Tr, ts.length ≤ sizes ts
  | [] => Nat.le_refl _
  | t :: r => by
    have a := size_pos t
    have b := len_sizes r
    simp only [List.length_cons, sizes]
    omega
mutual
theorem post_len : ∀ t : Tr, t.post.length = t.size
  | .node c ks => by simp only [Tr.post, List.length_append, posts_len ks, List.length_singleton, Tr.size]; omega
theorem posts_len : ∀ ts : List Tr, (posts ts).length = sizes ts
  | [] => rfl
  | t :: r => by simp only [posts, List.length_append, post_len t, posts_len r, sizes]
end
theorem sizes_mem : ∀ {ts : List Tr} {t : Tr}, t ∈ ts → t.size ≤ sizes ts
  | u :: r, t, h => by
    rcases List.mem_cons.mp h with e | h
    · subst e; simp only [sizes]; omega
    · have := sizes_mem h
      simp only [sizes]; omega
theorem depths_mem : ∀ {ts : List Tr} {t : Tr}, t ∈ ts → t.depth ≤ depths ts
  | u :: r, t, h => by
    rcases List.mem_cons.mp h with e | h
    · subst e; simp only [depths]; omega
    · have := depths_mem h
      simp only [depths]; omega
theorem letss_mem {p : Nat → Prop} : ∀ {ts : List Tr} {t : Tr}, letss p ts → t ∈ ts → t.lets p
  | u :: r, t, hl, h => by
    simp only [letss] at hl
    rcases List.mem_cons.mp h with e | h
    · subst e; exact hl.1
    · exact letss_mem hl.2 h
mutual
theorem lets_mono {p q : Nat → Prop} (h : ∀ c, p c → q c) : ∀ t : Tr, t.lets p → t.lets q
  | .node c ks, a => by
    simp only [Tr.lets] at a ⊢
    exact ⟨h _ a.1, letss_mono h ks a.2⟩
theorem letss_mono {p q : Nat → Prop} (h : ∀ c, p c → q c) : ∀ ts : List Tr, letss p ts → letss q ts
  | [], _ => trivial
  | t :: r, a => by
    simp only [letss] at a ⊢
    exact ⟨lets_mono h t a.1, letss_mono h r a.2⟩
end
mutual
inductive TrAt (ok : Addr → Prop) (H : Hp) : V → Tr → Prop
  | node {a l : Addr} {vs : List V} {c : Nat} {ks : List Tr} : H a = some (.tup [.str (ch c), .ref l]) → H l = some (.lst vs) → ok a → ok l → 97 ≤ c → c ≤ 122 → TrsAt ok H vs ks → TrAt ok H (.ref a) (.node c ks)
inductive TrsAt (ok : Addr → Prop) (H : Hp) : List V → List Tr → Prop
  | nil : TrsAt ok H [] []
  | cons {v : V} {vs : List V} {t : Tr} {ts : List Tr} : TrAt ok H v t → TrsAt ok H vs ts → TrsAt ok H (v :: vs) (t :: ts)
end
section
variable {ok ok' : Addr → Prop} {H H' : Hp}
mutual
theorem TrAt.imp (hk : ∀ b, ok b → ok' b) (h : ∀ b o, ok b → H b = some o → H' b = some o) : ∀ (t : Tr) (v : V), TrAt ok H v t → TrAt ok' H' v t
  | .node c ks, v, x => by
    cases x with
    | node h1 h2 k1 k2 c1 c2 r => exact .node (h _ _ k1 h1) (h _ _ k2 h2) (hk _ k1) (hk _ k2) c1 c2 (TrsAt.imp hk h ks _ r)
theorem TrsAt.imp (hk : ∀ b, ok b → ok' b) (h : ∀ b o, ok b → H b = some o → H' b = some o) : ∀ (ts : List Tr) (vs : List V), TrsAt ok H vs ts → TrsAt ok' H' vs ts
  | [], _, x => by cases x; exact .nil
  | t :: r, _, x => by
    cases x with
    | cons a b => exact .cons (TrAt.imp hk h t _ a) (TrsAt.imp hk h r _ b)
end
theorem TrAt.keep {v : V} {t : Tr} (x : TrAt ok H v t) (h : ∀ b o, ok b → H b = some o → H' b = some o) : TrAt ok H' v t := TrAt.imp (fun _ k => k) h t v x
theorem TrsAt.keep {vs : List V} {ts : List Tr} (x : TrsAt ok H vs ts) (h : ∀ b o, ok b → H b = some o → H' b = some o) : TrsAt ok H' vs ts := TrsAt.imp (fun _ k => k) h ts vs x
theorem TrAt.weak {v : V} {t : Tr} (x : TrAt ok H v t) (h : ∀ b, ok b → ok' b) : TrAt ok' H v t := TrAt.imp h (fun _ _ _ e => e) t v x
theorem TrsAt.weak {vs : List V} {ts : List Tr} (x : TrsAt ok H vs ts) (h : ∀ b, ok b → ok' b) : TrsAt ok' H vs ts := TrsAt.imp h (fun _ _ _ e => e) ts vs x
mutual
theorem TrAt.there : ∀ (t : Tr) (v : V), TrAt ok H v t → TrAt (fun b => ok b ∧ ∃ o, H b = some o) H v t
  | .node c ks, v, x => by
    cases x with
    | node h1 h2 k1 k2 c1 c2 r => exact .node h1 h2 ⟨k1, _, h1⟩ ⟨k2, _, h2⟩ c1 c2 (TrsAt.there ks _ r)
theorem TrsAt.there : ∀ (ts : List Tr) (vs : List V), TrsAt ok H vs ts → TrsAt (fun b => ok b ∧ ∃ o, H b = some o) H vs ts
  | [], _, x => by cases x; exact .nil
  | t :: r, _, x => by
    cases x with
    | cons a b => exact .cons (TrAt.there t _ a) (TrsAt.there r _ b)
end
theorem TrsAt.len : ∀ {vs : List V} {ts : List Tr}, TrsAt ok H vs ts → vs.length = ts.length
  | [], [], _ => rfl
  | v :: vs, t :: ts, h => by
    cases h with
    | cons a b => simp only [List.length_cons, TrsAt.len b]
  | [], _ :: _, h => by cases h
  | _ :: _, [], h => by cases h
theorem TrsAt.get : ∀ {vs : List V} {ts : List Tr} {i : Nat} {t : Tr}, TrsAt ok H vs ts → ts[i]? = some t → ∃ v, vs[i]? = some v ∧ TrAt ok H v t
  | _, _, i, t, .nil, e => by simp at e
  | _, _, 0, t, .cons a _, e => by simp at e; subst e; exact ⟨_, rfl, a⟩
  | _, _, i + 1, t, .cons _ b, e => by
    obtain ⟨v, h1, h2⟩ := TrsAt.get (i := i) (t := t) b (by simpa using e)
    exact ⟨v, by simpa using h1, h2⟩
theorem TrsAt.getV : ∀ {vs : List V} {ts : List Tr} {i : Nat} {v : V}, TrsAt ok H vs ts → vs[i]? = some v → ∃ t, ts[i]? = some t ∧ TrAt ok H v t
  | _, _, i, t, .nil, e => by simp at e
  | _, _, 0, t, .cons a _, e => by simp at e; subst e; exact ⟨_, rfl, a⟩
  | _, _, i + 1, t, .cons _ b, e => by
    obtain ⟨v, h1, h2⟩ := TrsAt.getV (i := i) (v := t) b (by simpa using e)
    exact ⟨v, by simpa using h1, h2⟩
theorem TrsAt.append : ∀ {vs ws : List V} {ts us : List Tr}, TrsAt ok H vs ts → TrsAt ok H ws us → TrsAt ok H (vs ++ ws) (ts ++ us)
  | [], _, [], _, _, h => h
  | v :: vs, _, t :: ts, _, h, g => by
    cases h with
    | cons a b => exact .cons a (TrsAt.append b g)
  | [], _, _ :: _, _, h, _ => by cases h
  | _ :: _, _, [], _, h, _ => by cases h
theorem TrsAt.split : ∀ {vs ws : List V} {ts : List Tr}, TrsAt ok H (vs ++ ws) ts → ∃ a b, ts = a ++ b ∧ TrsAt ok H vs a ∧ TrsAt ok H ws b
  | [], ws, ts, h => ⟨[], ts, rfl, .nil, h⟩
  | v :: vs, ws, _, h => by
    cases h with
    | cons x y =>
      obtain ⟨a, b, e, h1, h2⟩ := TrsAt.split y
      exact ⟨_ :: a, b, by rw [e]; rfl, .cons x h1, h2⟩
theorem TrsAt.perm {vs ws : List V} (p : vs.Perm ws) : ∀ {ts : List Tr}, TrsAt ok H vs ts → ∃ us, ts.Perm us ∧ TrsAt ok H ws us := by
  induction p with
  | nil => intro ts h; exact ⟨ts, .refl _, h⟩
  | cons x _ ih =>
    intro ts h
    cases h with
    | cons a b =>
      obtain ⟨us, p1, h1⟩ := ih b
      exact ⟨_ :: us, p1.cons _, .cons a h1⟩
  | swap x y l =>
    intro ts h
    cases h with
    | cons a b =>
      cases b with
      | cons c d => exact ⟨_, .swap _ _ _, .cons c (.cons a d)⟩
  | trans _ _ ih1 ih2 =>
    intro ts h
    obtain ⟨us, p1, h1⟩ := ih1 h
    obtain ⟨ws, p2, h2⟩ := ih2 h1
    exact ⟨ws, p1.trans p2, h2⟩
theorem TrsAt.rev {vs : List V} {ts : List Tr} (h : TrsAt ok H vs ts) : TrsAt ok H vs.reverse ts.reverse := by
  induction vs generalizing ts with
  | nil => cases h; exact .nil
  | cons v vs ih =>
    cases h with
    | cons a b =>
      rw [List.reverse_cons, List.reverse_cons]
      exact (ih b).append (.cons a .nil)
end
theorem sizes_perm {a b : List Tr} (p : a.Perm b) : sizes a = sizes b := by
  induction p with
  | nil => rfl
  | cons x _ ih => simp only [sizes, ih]
  | swap x y l => simp only [sizes]; omega
  | trans _ _ ih1 ih2 => exact ih1.trans ih2
theorem depths_perm {a b : List Tr} (p : a.Perm b) : depths a = depths b := by
  induction p with
  | nil => rfl
  | cons x _ ih => simp only [depths, ih]
  | swap x y l => simp only [depths]; omega
  | trans _ _ ih1 ih2 => exact ih1.trans ih2
theorem letss_perm {p : Nat → Prop} {a b : List Tr} (h : a.Perm b) : letss p a → letss p b := by
  induction h with
  | nil => exact id
  | cons x _ ih =>
    intro q
    simp only [letss] at q ⊢
    exact ⟨q.1, ih q.2⟩
  | swap x y l =>
    intro q
    simp only [letss] at q ⊢
    exact ⟨q.2.1, q.1, q.2.2⟩
  | trans _ _ ih1 ih2 => exact fun q => ih2 (ih1 q)
mutual
inductive Sh : Tr → Tr → Prop
  | node {c : Nat} {ks us ls : List Tr} : ks.Perm us → Shs us ls → Sh (.node c ks) (.node c ls)
inductive Shs : List Tr → List Tr → Prop
  | nil : Shs [] []
  | cons {t u : Tr} {ts us : List Tr} : Sh t u → Shs ts us → Shs (t :: ts) (u :: us)
end
mutual
theorem Sh.refl : ∀ t : Tr, Sh t t
  | .node c ks => .node (.refl _) (Shs.refl ks)
theorem Shs.refl : ∀ ts : List Tr, Shs ts ts
  | [] => .nil
  | t :: r => .cons (Sh.refl t) (Shs.refl r)
end
mutual
theorem Sh.size : ∀ {t u : Tr}, Sh t u → t.size = u.size
  | _, _, .node p h => by simp only [Tr.size, sizes_perm p, Shs.sizes h]
theorem Shs.sizes : ∀ {ts us : List Tr}, Shs ts us → My.sizes ts = My.sizes us
  | _, _, .nil => rfl
  | _, _, .cons a b => by simp only [My.sizes, Sh.size a, Shs.sizes b]
end
mutual
theorem Sh.depth : ∀ {t u : Tr}, Sh t u → t.depth = u.depth
  | _, _, .node p h => by simp only [Tr.depth, depths_perm p, Shs.depths h]
theorem Shs.depths : ∀ {ts us : List Tr}, Shs ts us → My.depths ts = My.depths us
  | _, _, .nil => rfl
  | _, _, .cons a b => by simp only [My.depths, Sh.depth a, Shs.depths b]
end
mutual
theorem Sh.lets {p : Nat → Prop} : ∀ {t u : Tr}, Sh t u → t.lets p → u.lets p
  | _, _, .node q h, a => by
    simp only [Tr.lets] at a ⊢
    exact ⟨a.1, Shs.letss h (letss_perm q a.2)⟩
theorem Shs.letss {p : Nat → Prop} : ∀ {ts us : List Tr}, Shs ts us → My.letss p ts → My.letss p us
  | _, _, .nil, a => a
  | _, _, .cons x y, a => by
    simp only [My.letss] at a ⊢
    exact ⟨Sh.lets x a.1, Shs.letss y a.2⟩
end
theorem Shs.len : ∀ {ts us : List Tr}, Shs ts us → ts.length = us.length
  | _, _, .nil => rfl
  | _, _, .cons a b => by simp only [List.length_cons, Shs.len b]
theorem Shs.append : ∀ {ts us ts' us' : List Tr}, Shs ts us → Shs ts' us' → Shs (ts ++ ts') (us ++ us')
  | _, _, _, _, .nil, h => h
  | _, _, _, _, .cons a b, h => .cons a (Shs.append b h)

def Fr (p : Addr) (H H' : Hp) : Prop := ∀ b o, b ≠ p → H b = some o → H' b = some o
theorem Fr.refl (p : Addr) (H : Hp) : Fr p H H := fun _ _ _ h => h
theorem Fr.trans {p : Addr} {H H1 H2 : Hp} (a : Fr p H H1) (b : Fr p H1 H2) : Fr p H H2 := fun c o n h => b c o n (a c o n h)
theorem Fr.same {p : Addr} {H H' : Hp} (s : Same H H') : Fr p H H' := fun b o _ h => s b o h
theorem Fr.chg {p : Addr} {H H' : Hp} (c : Chg p H H') : Fr p H H' := fun _ _ n h => c.at h n
theorem Fr.new {p q : Addr} {H H' : Hp} {o : HO} (f : Fr p H H') (h : H q = none) : Fr p H (upd H' q o) := fun b u n e => by
  rw [upd_ne (ne_of_none e h)]
  exact f b u n e
theorem same_add {q : Addr} {H H' : Hp} {o : HO} (f : Same H H') (h : H q = none) : Same H (upd H' q o) := fun b u e => by
  rw [upd_ne (ne_of_none e h)]
  exact f b u e
theorem Fr.free {p q : Addr} {H H' : Hp} (f : Fr p H H') (hp : H' p ≠ none) (h : H' q = none) : H q = none := by
  cases e : H q with
  | none => rfl
  | some o =>
    by_cases hq : q = p
    · subst hq; exact absurd h hp
    · rw [f q o hq e] at h; cases h
theorem Fr.seq {K : PySem.W.Frag} {p a : Addr} {H H' : Hp} {xs : List V} (c : Fr p H H') (hp : H p = none) (h : SqL K H a xs) : SqL K H' a xs := by
  rcases h with (h | ⟨o, h⟩) | h
  · exact .inl (.inl (c _ _ (ne_of_none h hp) h))
  · exact .inl (.inr ⟨o, c _ _ (ne_of_none h hp) h⟩)
  · exact .inr h
theorem TrAt.same {ok : Addr → Prop} {H H' : Hp} {v : V} {t : Tr} (x : TrAt ok H v t) (s : Same H H') : TrAt ok H' v t := x.keep fun b o _ h => s b o h
theorem TrsAt.same {ok : Addr → Prop} {H H' : Hp} {vs : List V} {ts : List Tr} (x : TrsAt ok H vs ts) (s : Same H H') : TrsAt ok H' vs ts := x.keep fun b o _ h => s b o h
theorem TrAt.off {ok : Addr → Prop} {H : Hp} {v : V} {t : Tr} {w : Addr} (x : TrAt ok H v t) (h : H w = none) : TrAt (fun b => ok b ∧ b ≠ w) H v t :=
  (TrAt.there t v x).weak fun b ⟨k, o, e⟩ => ⟨k, ne_of_none e h⟩
theorem TrsAt.off {ok : Addr → Prop} {H : Hp} {vs : List V} {ts : List Tr} {w : Addr} (x : TrsAt ok H vs ts) (h : H w = none) : TrsAt (fun b => ok b ∧ b ≠ w) H vs ts :=
  (TrsAt.there ts vs x).weak fun b ⟨k, o, e⟩ => ⟨k, ne_of_none e h⟩
theorem upd_keep {H : Hp} {w : Addr} {o : HO} {ok : Addr → Prop} (h : ∀ b, ok b → b ≠ w) : ∀ b u, ok b → H b = some u → (upd H w o) b = some u := fun b u k e => by
  rw [upd_ne (h b k)]
  exact e
theorem lc_outer {K : PySem.W.Frag} {a : Addr} {xs : List V} {Bd : V → Hp → (Hp → Prop) → Prop} {Qd : Hp → Prop} {H0 : Hp} (Pv : Nat → Hp → Prop) (h0 : Pv 0 H0) (hl : ∀ i H, i ≤ xs.length → Pv i H → SqL K H a xs)
    (hs : ∀ i x H, xs[i]? = some x → Pv i H → Bd x H (Pv (i + 1))) (hd : ∀ H, Pv xs.length H → Qd H) :
    ∃ W : Nat → Nat → Hp → Prop, (∃ m, W 0 m H0) ∧ ∀ i m H, W i m H → ((Itl K a).stop i H ∧ Qd H) ∨ ((Itl K a).go i H ∧ ∃ Nx : Hp → Prop, (∀ H', Nx H' → ∃ m', m' < m ∧ W (i + 1) m' H') ∧ ∀ x H', (Itl K a).yld i H x H' → Bd x H' Nx) := by
  refine ⟨fun i m H => m = xs.length - i ∧ i ≤ xs.length ∧ Pv i H, ⟨xs.length, by simp, Nat.zero_le _, h0⟩, ?_⟩
  rintro i m H ⟨rfl, hi, p⟩
  have q := hl i H hi p
  by_cases hlt : i < xs.length
  · refine .inr ⟨⟨xs, xs[i], q, by simp [hlt]⟩, Pv (i + 1), fun H' p' => ⟨xs.length - (i + 1), by omega, rfl, hlt, p'⟩, fun x H' y => ?_⟩
    obtain ⟨e, y⟩ := y
    subst e
    exact hs i x _ (y xs q) p
  · have e : i = xs.length := by omega
    subst e
    exact .inl ⟨⟨xs, q, Nat.le_refl _⟩, hd H p⟩
theorem take_succ_of {α : Type} {l : List α} {i : Nat} {x : α} (h : l[i]? = some x) : l.take (i + 1) = l.take i ++ [x] := by
  rw [List.take_add_one, h]
  rfl

mutual
def Tr.dat : Tr → PyData
  | .node c ks => .tuple [.str (ch c), .list (dats ks)]
def dats : List Tr → List PyData
  | [] => []
  | t :: r => t.dat :: dats r
end
mutual
theorem dat_depth : ∀ t : Tr, t.dat.depth ≤ 2 * t.depth
  | .node c ks => by
    have := dats_depth ks
    simp only [Tr.dat, PyData.depth, PyData.depthAll, Tr.depth]
    omega
theorem dats_depth : ∀ ts : List Tr, PyData.depthAll (dats ts) ≤ 2 * depths ts
  | [] => by simp only [dats, PyData.depthAll, depths]; omega
  | t :: r => by
    have a := dat_depth t
    have b := dats_depth r
    simp only [dats, PyData.depthAll, depths]
    omega
end
section
variable {ok : Addr → Prop} {H : Hp} {K : PySem.W.Frag}
theorem strOk_ch {c : Nat} (h : c ≤ 122) : PyData.strOk (ch c) = true := by
  unfold PyData.strOk ch
  simp
  omega
mutual
theorem TrAt.lay : ∀ (t : Tr) (v : V), TrAt ok H v t → t.dat.canLay0 = true
  | .node c ks, v, x => by
    cases x with
    | node h1 h2 k1 k2 c1 c2 r => simp only [Tr.dat, PyData.canLay0, PyData.canLayAll0, strOk_ch c2, TrsAt.lay ks _ r, Bool.and_self]
theorem TrsAt.lay : ∀ (ts : List Tr) (vs : List V), TrsAt ok H vs ts → PyData.canLayAll0 (dats ts) = true
  | [], _, _ => by simp only [dats, PyData.canLayAll0]
  | t :: r, _, x => by
    cases x with
    | cons a b => simp only [dats, PyData.canLayAll0, TrAt.lay t _ a, TrsAt.lay r _ b, Bool.and_self]
end
mutual
theorem TrAt.dp : ∀ (t : Tr) (v : V), TrAt ok H v t → Dp K H v t.dat
  | .node c ks, v, x => by
    cases x with
    | node h1 h2 k1 k2 c1 c2 r =>
      simp only [Tr.dat]
      exact .tup (SqT.of h1) (.cons (.str _) (.cons (.lst (SqL.of h2) (TrsAt.dp ks _ r)) .nil))
theorem TrsAt.dp : ∀ (ts : List Tr) (vs : List V), TrsAt ok H vs ts → DpAll K H vs (dats ts)
  | [], _, x => by cases x; exact .nil
  | t :: r, _, x => by
    cases x with
    | cons a b => exact .cons (TrAt.dp t _ a) (TrsAt.dp r _ b)
end
theorem shaped_tr {v : V} {t : Tr} (x : TrAt ok H v t) (h : t.depth ≤ 32) : SeqAt.shaped t.dat = true := by
  unfold SeqAt.shaped
  rw [Bool.and_eq_true]
  exact ⟨TrAt.lay t v x, decide_eq_true (by have := dat_depth t; omega)⟩
theorem shaped_trs {vs : List V} {ts : List Tr} (x : TrsAt ok H vs ts) (h : depths ts ≤ 31) : SeqAt.shaped (.list (dats ts)) = true := by
  unfold SeqAt.shaped
  rw [Bool.and_eq_true]
  refine ⟨by simp only [PyData.canLay0]; exact TrsAt.lay ts vs x, decide_eq_true ?_⟩
  have := dats_depth ts
  simp only [PyData.depth]
  omega
end
def DatOk (K : PySem.W.Frag) (H : Hp) (v : V) : Prop := ∃ d, Dp K H v d ∧ d.canLay0 = true ∧ d.depth ≤ 63
theorem DatOk.all {K : PySem.W.Frag} {H : Hp} : ∀ {vs : List V}, (∀ v ∈ vs, DatOk K H v) → ∃ ds, DpAll K H vs ds ∧ SeqAt.shaped (.list ds) = true ∧ ds.length = vs.length
  | [], _ => ⟨[], .nil, by decide +kernel, rfl⟩
  | v :: r, h => by
    obtain ⟨d, h1, h2, h3⟩ := h v List.mem_cons_self
    obtain ⟨ds, g1, g2, g3⟩ := DatOk.all (vs := r) fun u hu => h u (List.mem_cons_of_mem _ hu)
    unfold SeqAt.shaped at g2
    rw [Bool.and_eq_true] at g2
    have g4 := of_decide_eq_true g2.2
    have g5 := g2.1
    simp only [PyData.canLay0] at g5
    simp only [PyData.depth] at g4
    refine ⟨d :: ds, .cons h1 g1, ?_, by simp only [List.length_cons, g3]⟩
    unfold SeqAt.shaped
    rw [Bool.and_eq_true]
    refine ⟨by simp only [PyData.canLay0, PyData.canLayAll0, h2, g5, Bool.and_self], decide_eq_true ?_⟩
    simp only [PyData.depth, PyData.depthAll]
    omega
theorem datOk_int {K : PySem.W.Frag} {H : Hp} (i : Int) : DatOk K H (.int i) := ⟨.int i, .int i, by simp only [PyData.canLay0], by simp only [PyData.depth]; omega⟩
theorem datOk_tr {K : PySem.W.Frag} {H : Hp} {ok : Addr → Prop} {v : V} {t : Tr} (x : TrAt ok H v t) (h : t.depth ≤ 31) : DatOk K H v := ⟨t.dat, TrAt.dp t v x, TrAt.lay t v x, by have := dat_depth t; omega⟩
theorem eqv_nil (ds : List PyData) : PyData.eqv (.list ds) (.list []) = decide (ds.length = 0) := by
  cases ds with
  | nil => simp [PyData.eqv, PyData.eqvAll]
  | cons d r => simp [PyData.eqv, PyData.eqvAll]
theorem shaped_nil : SeqAt.shaped (.list []) = true := by decide +kernel
theorem dp_nil {K : PySem.W.Frag} {H : Hp} {a : Addr} (h : H a = some (.lst [])) : Dp K H (.ref a) (.list []) := .lst (SqL.of h) .nil


def sp_is_letter : Sp := fun vs H Q _ => ∃ c : Nat, vs = [.str (ch c)] ∧ 97 ≤ c ∧ c ≤ 122 ∧ Q (.bl true) H
def sp__is_part : Sp := fun vs H Q _ => ∃ (v : V) (t : Tr), vs = [v] ∧ TrAt (fun _ => True) H v t ∧ Q (.bl true) H
def sp_is_tree : Sp := fun vs H Q _ => ∃ (v : V) (t : Tr), vs = [v] ∧ TrAt (fun _ => True) H v t ∧ t.size ≤ 1000000 ∧ ∀ H', Same H H' → Q (.bl true) H'
def sp_check_tree : Sp := fun vs H Q _ => ∃ (v : V) (t : Tr), vs = [v] ∧ TrAt (fun _ => True) H v t ∧ t.size ≤ 1000000 ∧ ∀ H', Same H H' → Q .non H'
def sp_parts_upward : Sp := fun vs H Q _ => ∃ (v : V) (t : Tr) (ok : Addr → Prop), vs = [v] ∧ TrAt ok H v t ∧ t.size ≤ 1000000 ∧
  ∀ r ws H', Same H H' → H r = none → H' r = some (.lst ws) → TrsAt (fun b => ok b ∧ H b ≠ none) H' ws t.post → Q (.ref r) H'
theorem le_a {c : Nat} (h : 97 ≤ c) : (!decide ((ch c).cps.toList < (Str.ofString "a").cps.toList)) = true := by
  have e : (Str.ofString "a").cps.toList = [97] := by decide +kernel
  rw [e]
  show (!decide (([c] : List Nat) < [97])) = true
  have : ¬ (([c] : List Nat) < [97]) := by
    intro q
    have := List.cons_lt_cons_iff.mp q
    rcases this with z | ⟨z, y⟩
    · omega
    · exact absurd y (by decide)
  simp [this]
theorem le_z {c : Nat} (h : c ≤ 122) : (!decide ((Str.ofString "z").cps.toList < (ch c).cps.toList)) = true := by
  have e : (Str.ofString "z").cps.toList = [122] := by decide +kernel
  rw [e]
  show (!decide (([122] : List Nat) < [c])) = true
  have : ¬ (([122] : List Nat) < [c]) := by
    intro q
    have := List.cons_lt_cons_iff.mp q
    rcases this with z | ⟨z, y⟩
    · omega
    · exact absurd y (by decide)
  simp [this]
theorem concat_of {α : Type} {l : List α} (h : l ≠ []) : ∃ a b, l = a ++ [b] := ⟨l.dropLast, l.getLast h, (List.dropLast_concat_getLast h).symm⟩
section
variable {P : Program} {w : World} {K : PySem.W.Frag} {mg : Str → Option Value} {base : Heap}
theorem ok_is_letter (T : Txt K mg) : FnOk P w K mg base CX0 1 T.f_is_letter T.d_is_letter ["thing"] sp_is_letter := by
  refine T.F_is_letter.ok sc_is_letter (fun vs H Q E h => ?_) (fun cdv A outer s H vs Q E hr h => ?_)
  · obtain ⟨c, rfl, _⟩ := h
    rfl
  obtain ⟨c, rfl, h0, h1, q⟩ := h
  refine ⟨_, (pss_one (ps_ret (pe_and (pe_callB call_isi (by rfl) T.z_isinstance (by decide +kernel) (pa_cons (pv 0) (pa_cons (pe_bltn (v := .ty "str") (by rfl) T.z_str (by decide +kernel) rfl) pa_nil))) (pe_and (pe_cmpR op_eq (pe_callB call_len_str (by rfl) T.z_len PySem.boot_len (pa_cons (pv 0) pa_nil)) pe_int (nomark _)) (pe_one (pe_chain op_le_str op_le_str pe_str (pv 0) pe_str)))))), ?_⟩
  refine ⟨_, rfl, _, _, _, _, true, rfl, .ty "str", .base (.str _), kit_ty (by decide +kernel), _, rfl, iteT ?_⟩
  refine ⟨_, rfl, _, rfl, (by show 1 ≤ sizeLine; decide), rfl, _, rfl, iteT ?_⟩
  refine ⟨_, rfl, _, _, rfl, rfl, _, rfl, ?_⟩
  rw [if_pos (le_a h0)]
  refine ⟨_, _, rfl, rfl, ?_⟩
  rw [le_z h1]
  exact q
theorem ok__is_part (T : Txt K mg) : FnOk P w K mg base CX0 2 T.f__is_part T.d__is_part ["thing"] sp__is_part := by
  have G_is_letter : FnOk P w K mg base CX0 1 T.f_is_letter T.d_is_letter ["thing"] sp_is_letter := ok_is_letter T
  refine T.F__is_part.ok sc__is_part (fun vs H Q E h => ?_) (fun cdv A outer s H vs Q E hr h => ?_)
  · obtain ⟨v, t, rfl, _⟩ := h
    rfl
  obtain ⟨v, t, rfl, ht, q⟩ := h
  refine ⟨_, (pss_cons (ps_if (PW.pt (pw_or (pt_not (pt_val (pe_callB call_isi (by rfl) T.z_isinstance (by decide +kernel) (pa_cons (pv 0) (pa_cons (pe_bltn (v := .ty "tuple") (by rfl) T.z_tuple (by decide +kernel) rfl) pa_nil))))) (pw_or1 (pt_cmpR op_ne (pe_callB call_len_seq (by rfl) T.z_len PySem.boot_len (pa_cons (pv 0) pa_nil)) pe_int (nomark _))))) (pss_one (ps_ret pe_bl)) pss_nil) (pss_one (ps_ret (pe_and (pe_call G_is_letter (hr.mono (by omega)) (by rfl) T.m_is_letter T.F_is_letter.kp T.b_is_letter .nil pass0 (pa_cons (pe_ix ix_tup (pv 0) pe_int (fun _ _ => rfl)) pa_nil)) (pe_one (pe_callB call_isi (by rfl) T.z_isinstance (by decide +kernel) (pa_cons (pe_ix ix_tup (pv 0) pe_int (fun _ _ => rfl)) (pa_cons (pe_bltn (v := .ty "list") (by rfl) T.z_list (by decide +kernel) rfl) pa_nil)))))))), ?_⟩
  obtain ⟨c, ks⟩ := t
  cases ht with
  | node h1 h2 _ _ c1 c2 _ =>
    refine ⟨_, rfl, _, _, _, _, true, rfl, .ty "tuple", .base (.tup h1), kit_ty (by decide +kernel), _, rfl, iteF ?_⟩
    refine ⟨_, rfl, _, _, rfl, .inr (SqT.of h1), rfl, _, rfl, iteF ?_⟩
    refine ⟨_, rfl, _, _, 0, _, rfl, rfl, SqT.of h1, atI_nat (j := 0) rfl, _, rfl, c1, c2, _, rfl, iteT ?_⟩
    exact ⟨_, rfl, _, _, 1, _, rfl, rfl, SqT.of h1, atI_nat (j := 1) rfl, _, _, _, _, true, rfl, .ty "list", .base (.lst h2), kit_ty (by decide +kernel), q⟩
theorem ok_is_tree (T : Txt K mg) : FnOk P w K mg base CX0 3 T.f_is_tree T.d_is_tree ["thing"] sp_is_tree := by
  have G__is_part : FnOk P w K mg base CX0 2 T.f__is_part T.d__is_part ["thing"] sp__is_part := ok__is_part T
  refine T.F_is_tree.ok sc_is_tree (fun vs H Q E h => ?_) (fun cdv A outer s H vs Q E hr h => ?_)
  · obtain ⟨v, t, rfl, _⟩ := h
    rfl
  obtain ⟨v, t, rfl, ht, hz, q⟩ := h
  refine ⟨_, (pss_cons (ps_set (i := 1) sc_is_tree.nd rfl (Or.inl rfl) (pe_lst (pa_cons (pv 0) pa_nil))) (pss_cons (ps_while PassesOwn.never (pt_truth (pv 1) (by intro _; rfl)) (pss_cons (ps_set (i := 2) sc_is_tree.nd rfl (Or.inl rfl) (pe_bm0 PySem.F.plainAttrs_list PySem.F.slot_list_pop PySem.F.type_list_pop mt_pop (pv 1))) (pss_cons (ps_if (pt_not (pt_val (pe_call G__is_part (hr.mono (by omega)) (by rfl) T.m__is_part T.F__is_part.kp T.b__is_part .nil pass0 (pa_cons (pv 2) pa_nil)))) (pss_one (ps_ret pe_bl)) pss_nil) (pss_one (ps_expr (pe_bm PySem.F.plainAttrs_list PySem.F.slot_list_extend PySem.F.type_list_extend mt_extend (pv 1) (pa_cons (pe_ix ix_tup (pv 2) pe_int (fun _ _ => rfl)) pa_nil))))))) (pss_one (ps_ret pe_bl)))), ?_⟩
  refine ⟨_, rfl, (by show 1 ≤ sizeLine; decide), fun p hp => ?_⟩
  refine ⟨fun m σ H' => ∃ y ws ts, σ = [some v, some (.ref p), y] ∧ H' p = some (.lst ws) ∧ TrsAt (fun b => True ∧ b ≠ p) H' ws ts ∧ sizes ts = m ∧ m ≤ 1000000 ∧ Same H H',
    ⟨t.size, none, [v], [t], rfl, upd_same, .cons ((ht.off hp).same (same_new hp)) .nil, by simp only [sizes]; omega, hz, same_new hp⟩, ?_⟩
  rintro m σ H' ⟨y, ws, ts, rfl, hw, hts, hm, hm2, hs⟩
  by_cases he : ws = []
  · subst he
    refine ⟨_, rfl, false, .inl ⟨_, SqL.of hw, rfl⟩, iteF ?_⟩
    exact q _ hs
  · refine ⟨_, rfl, true, .inl ⟨_, SqL.of hw, by cases ws with | nil => exact absurd rfl he | cons a b => rfl⟩, iteT ?_⟩
    obtain ⟨ws', x, rfl⟩ := concat_of he
    obtain ⟨ts', tl, rfl, h1, h2⟩ := TrsAt.split hts
    cases h2 with
    | cons hx hn =>
      cases hn
      rename_i tx
      obtain ⟨c, ks⟩ := tx
      refine ⟨fun σ2 H2 => ∃ y ws ts, σ2 = [some v, some (.ref p), y] ∧ H2 p = some (.lst ws) ∧ TrsAt (fun b => True ∧ b ≠ p) H2 ws ts ∧ sizes ts < m ∧ Same H H2, fun σ2 H2 ⟨y, ws, ts, e1, e2, e3, e4, e5⟩ => ⟨sizes ts, e4, y, ws, ts, e1, e2, e3, rfl, by omega, e5⟩, ?_⟩
      refine ⟨_, rfl, .inl ⟨rfl, _, SqL.of hw⟩, _, _, x, rfl, rfl, hw, by simp, ?_⟩
      have kp : ∀ b u, (True ∧ b ≠ p) → H' b = some u → (upd H' p (.lst (ws' ++ [x]).dropLast)) b = some u := upd_keep fun b h => h.2
      have hx2 := hx.keep kp
      have hp3 : (upd H' p (.lst (ws' ++ [x]).dropLast)) p = some (.lst ws') := by rw [upd_same, List.dropLast_concat]
      refine ⟨_, rfl, x, _, rfl, hx2.weak fun _ _ => trivial, _, rfl, iteF ?_⟩
      cases hx2 with
      | node g1 g2 k1 k2 c1 c2 r =>
        have ll := r.len
        have l2 := h1.len
        have l3 := len_sizes ts'
        have l4 := len_sizes ks
        rw [sizes_append] at hm
        simp only [sizes, Tr.size] at hm
        refine ⟨_, rfl, .inl ⟨rfl, _, SqL.of hp3⟩, _, rfl, _, _, 1, _, rfl, rfl, SqT.of g1, atI_nat (j := 1) rfl, p, _, ws', _, rfl, rfl, hp3, g2, ?_, ?_⟩
        · exact Nat.le_trans (show ws'.length + _ ≤ 1000000 by omega) (by decide)
        · refine ⟨some _, _, ts' ++ ks, rfl, upd_same, ?_, ?_, ?_⟩
          · exact ((h1.keep kp).append r).keep (upd_keep fun b h => h.2)
          · rw [sizes_append]
            omega
          · exact same_add (same_add hs hp) hp
theorem ok_check_tree (T : Txt K mg) : FnOk P w K mg base CX0 4 T.f_check_tree T.d_check_tree ["thing"] sp_check_tree := by
  have G_is_tree : FnOk P w K mg base CX0 3 T.f_is_tree T.d_is_tree ["thing"] sp_is_tree := ok_is_tree T
  refine T.F_check_tree.ok sc_check_tree (fun vs H Q E h => ?_) (fun cdv A outer s H vs Q E hr h => ?_)
  · obtain ⟨v, t, rfl, _⟩ := h
    rfl
  obtain ⟨v, t, rfl, ht, hz, q⟩ := h
  refine ⟨_, (pss_one (ps_if (pt_not (pt_val (pe_call G_is_tree (hr.mono (by omega)) (by rfl) T.m_is_tree T.F_is_tree.kp T.b_is_tree .nil pass0 (pa_cons (pv 0) pa_nil)))) (pss_one ps_never) pss_nil)), ?_⟩
  refine ⟨_, rfl, v, t, rfl, ht, hz, fun H' hs => ⟨_, rfl, iteF ?_⟩⟩
  exact q _ hs
theorem ok_parts_upward (T : Txt K mg) : FnOk P w K mg base CX0 5 T.f_parts_upward T.d_parts_upward ["tree"] sp_parts_upward := by
  have G_check_tree : FnOk P w K mg base CX0 4 T.f_check_tree T.d_check_tree ["thing"] sp_check_tree := ok_check_tree T
  refine T.F_parts_upward.ok sc_parts_upward (fun vs H Q E h => ?_) (fun cdv A outer s H vs Q E hr h => ?_)
  · obtain ⟨v, t, ok, rfl, _⟩ := h
    rfl
  obtain ⟨v, t, ok, rfl, ht, hz, q⟩ := h
  refine ⟨_, (pss_cons (ps_expr (pe_call G_check_tree (hr.mono (by omega)) (by rfl) T.m_check_tree T.F_check_tree.kp T.b_check_tree .nil pass0 (pa_cons (pv 0) pa_nil))) (pss_cons (ps_set (i := 1) sc_parts_upward.nd rfl (Or.inl rfl) (pe_lst pa_nil)) (pss_cons (ps_set (i := 2) sc_parts_upward.nd rfl (Or.inl rfl) (pe_lst (pa_cons (pv 0) pa_nil))) (pss_cons (ps_while PassesOwn.never (pt_truth (pv 2) (by intro _; rfl)) (pss_cons (ps_set (i := 3) sc_parts_upward.nd rfl (Or.inl rfl) (pe_bm0 PySem.F.plainAttrs_list PySem.F.slot_list_pop PySem.F.type_list_pop mt_pop (pv 2))) (pss_cons (ps_expr (pe_bm PySem.F.plainAttrs_list PySem.F.slot_list_append PySem.F.type_list_append mt_append (pv 1) (pa_cons (pv 3) pa_nil))) (pss_one (ps_expr (pe_bm PySem.F.plainAttrs_list PySem.F.slot_list_extend PySem.F.type_list_extend mt_extend (pv 2) (pa_cons (pe_ix ix_tup (pv 3) pe_int (fun _ _ => rfl)) pa_nil))))))) (pss_one (ps_ret (pe_revL (pv 1)))))))), ?_⟩
  refine ⟨_, rfl, v, t, rfl, ht.weak fun _ _ => trivial, hz, fun H1 s1 => ?_⟩
  have ht1 := ((TrAt.there t v ht).same s1).weak (ok' := fun b => ok b ∧ H b ≠ none) fun b ⟨k, o, e⟩ => ⟨k, by rw [e]; simp⟩
  refine ⟨(by show 0 ≤ sizeLine; decide), fun a ha => ?_⟩
  refine ⟨_, rfl, (by show 1 ≤ sizeLine; decide), fun p hp => ?_⟩
  have nap : a ≠ p := fun e => by rw [e, upd_same] at hp; cases hp
  have hp1 : H1 p = none := by rw [upd_ne (fun e => nap e.symm)] at hp; exact hp
  have ha0 : H a = none := s1.free ha
  have hp0 : H p = none := s1.free hp1
  have oka : ∀ b, (ok b ∧ H b ≠ none) → b ≠ a := fun b h e => h.2 (by rw [e]; exact ha0)
  have okp : ∀ b, (ok b ∧ H b ≠ none) → b ≠ p := fun b h e => h.2 (by rw [e]; exact hp0)
  refine ⟨fun m σ H' => ∃ y as tas ws ts, σ = [some v, some (.ref a), some (.ref p), y] ∧ H' a = some (.lst as) ∧ H' p = some (.lst ws) ∧ TrsAt (fun b => ok b ∧ H b ≠ none) H' as tas ∧ TrsAt (fun b => ok b ∧ H b ≠ none) H' ws ts ∧
      tas ++ (posts ts).reverse = t.post.reverse ∧ sizes ts = m ∧ Same H H',
    ⟨t.size, none, [], [], [v], [t], rfl, by rw [upd_ne nap]; exact upd_same, upd_same, .nil, .cons ((ht1.keep (upd_keep oka)).keep (upd_keep okp)) .nil, by simp only [posts, List.append_nil, List.nil_append], by simp only [sizes]; omega, same_add (same_add s1 ha0) hp0⟩, ?_⟩
  rintro m σ H' ⟨y, as, tas, ws, ts, rfl, hA, hw, hta, hts, hpo, hm, hs⟩
  have hlen : tas.length + sizes ts = t.size := by
    have := congrArg List.length hpo
    rw [List.length_append, List.length_reverse, List.length_reverse, posts_len, post_len] at this
    exact this
  by_cases he : ws = []
  · subst he
    cases hts
    refine ⟨_, rfl, false, .inl ⟨_, SqL.of hw, rfl⟩, iteF ?_⟩
    refine ⟨_, rfl, a, as, rfl, SqL.of hA, fun r hr' => ?_⟩
    have hr0 : H r = none := hs.free hr'
    refine q r as.reverse _ (same_add hs hr0) hr0 upd_same ?_
    have e : tas.reverse = t.post := by
      simp only [posts, List.reverse_nil, List.append_nil] at hpo
      rw [hpo, List.reverse_reverse]
    rw [← e]
    exact hta.rev.keep (upd_keep fun b h e => h.2 (by rw [e]; exact hr0))
  · refine ⟨_, rfl, true, .inl ⟨_, SqL.of hw, by cases ws with | nil => exact absurd rfl he | cons a b => rfl⟩, iteT ?_⟩
    obtain ⟨ws', x, rfl⟩ := concat_of he
    obtain ⟨ts', tl, rfl, h1, h2⟩ := TrsAt.split hts
    cases h2 with
    | cons hx hn =>
      cases hn
      rename_i tx
      obtain ⟨c, ks⟩ := tx
      rw [sizes_append] at hm hlen
      simp only [sizes, Tr.size] at hm hlen
      refine ⟨fun σ2 H2 => ∃ y as tas ws ts, σ2 = [some v, some (.ref a), some (.ref p), y] ∧ H2 a = some (.lst as) ∧ H2 p = some (.lst ws) ∧ TrsAt (fun b => ok b ∧ H b ≠ none) H2 as tas ∧ TrsAt (fun b => ok b ∧ H b ≠ none) H2 ws ts ∧
        tas ++ (posts ts).reverse = t.post.reverse ∧ sizes ts < m ∧ Same H H2, fun σ2 H2 ⟨y, as, tas, ws, ts, e1, e2, e3, e4, e5, e6, e7, e8⟩ => ⟨sizes ts, e7, y, as, tas, ws, ts, e1, e2, e3, e4, e5, e6, rfl, e8⟩, ?_⟩
      refine ⟨_, rfl, .inl ⟨rfl, _, SqL.of hw⟩, _, _, x, rfl, rfl, hw, by simp, ?_⟩
      have kp : ∀ b u, (ok b ∧ H b ≠ none) → H' b = some u → (upd H' p (.lst (ws' ++ [x]).dropLast)) b = some u := upd_keep okp
      have hA2 : (upd H' p (.lst (ws' ++ [x]).dropLast)) a = some (.lst as) := by rw [upd_ne nap]; exact hA
      have la := hta.len
      refine ⟨_, rfl, .inl ⟨rfl, _, SqL.of hA2⟩, _, rfl, a, as, x, rfl, rfl, hA2, Nat.lt_of_le_of_lt (show as.length ≤ 1000000 by omega) (by decide), ?_⟩
      have hx3 := (hx.keep kp).keep (upd_keep (o := .lst (as ++ [x])) oka)
      have hp3 : (upd (upd H' p (.lst (ws' ++ [x]).dropLast)) a (.lst (as ++ [x]))) p = some (.lst ws') := by
        rw [upd_ne (fun e => nap e.symm), upd_same, List.dropLast_concat]
      have hx3' := hx3
      cases hx3 with
      | node g1 g2 k1 k2 c1 c2 r =>
        have ll := r.len
        have l2 := h1.len
        have l3 := len_sizes ts'
        have l4 := len_sizes ks
        refine ⟨_, rfl, .inl ⟨rfl, _, SqL.of hp3⟩, _, rfl, _, _, 1, _, rfl, rfl, SqT.of g1, atI_nat (j := 1) rfl, p, _, ws', _, rfl, rfl, hp3, g2, ?_, ?_⟩
        · exact Nat.le_trans (show ws'.length + _ ≤ 1000000 by omega) (by decide)
        · refine ⟨some _, as ++ [_], tas ++ [Tr.node c ks], _, ts' ++ ks, rfl, by rw [upd_ne nap]; exact upd_same, upd_same, ?_, ?_, ?_, ?_, ?_⟩
          · exact (((hta.keep kp).keep (upd_keep oka)).append (.cons hx3' .nil)).keep (upd_keep okp)
          · exact (((h1.keep kp).keep (upd_keep oka)).append r).keep (upd_keep okp)
          · rw [← hpo, posts_append, posts_append]
            simp only [posts, Tr.post, List.reverse_append, List.append_assoc, List.append_nil, List.reverse_cons, List.reverse_nil, List.nil_append, List.singleton_append, List.cons_append]
          · rw [sizes_append]
            omega
          · exact same_add (same_add (same_add hs hp0) ha0) hp0
end


def kidss : List Tr → List Tr
  | [] => []
  | t :: r => t.kids ++ kidss r
theorem kidss_append : ∀ a b : List Tr, kidss (a ++ b) = kidss a ++ kidss b
  | [], b => rfl
  | t :: r, b => by simp only [List.cons_append, kidss, kidss_append r b, List.append_assoc]
theorem kidss_sizes : ∀ ts : List Tr, sizes (kidss ts) + ts.length = sizes ts
  | [] => rfl
  | .node c ks :: r => by
    have := kidss_sizes r
    simp only [kidss, Tr.kids, sizes_append, sizes, Tr.size, List.length_cons]
    omega
theorem depths_zero : ∀ {ts : List Tr}, ts = [] → depths ts = 0
  | _, rfl => rfl
theorem kidss_depths : ∀ ts : List Tr, ts ≠ [] → depths (kidss ts) + 1 = depths ts
  | [], h => absurd rfl h
  | .node c ks :: r, _ => by
    by_cases e : r = []
    · subst e
      simp only [kidss, Tr.kids, List.append_nil, depths, Tr.depth]
      omega
    · have := kidss_depths r e
      simp only [kidss, Tr.kids, depths_append, depths, Tr.depth]
      omega
def sp_size_of : Sp := fun vs H Q _ => ∃ (v : V) (t : Tr), vs = [v] ∧ TrAt (fun _ => True) H v t ∧ t.size ≤ 1000000 ∧ ∀ H', Same H H' → Q (.int t.size) H'
def sp_depth_of : Sp := fun vs H Q _ => ∃ (v : V) (t : Tr), vs = [v] ∧ TrAt (fun _ => True) H v t ∧ t.size ≤ 1000000 ∧ ∀ H', Same H H' → Q (.int t.depth) H'
section
variable {P : Program} {w : World} {K : PySem.W.Frag} {mg : Str → Option Value} {base : Heap}
theorem ok_size_of (T : Txt K mg) : FnOk P w K mg base CX0 6 T.f_size_of T.d_size_of ["tree"] sp_size_of := by
  have G_parts_upward : FnOk P w K mg base CX0 5 T.f_parts_upward T.d_parts_upward ["tree"] sp_parts_upward := ok_parts_upward T
  refine T.F_size_of.ok sc_size_of (fun vs H Q E h => ?_) (fun cdv A outer s H vs Q E hr h => ?_)
  · obtain ⟨v, t, rfl, _⟩ := h
    rfl
  obtain ⟨v, t, rfl, ht, hz, q⟩ := h
  refine ⟨_, (pss_one (ps_ret (pe_callB call_len_seq (by rfl) T.z_len PySem.boot_len (pa_cons (pe_call G_parts_upward (hr.mono (by omega)) (by rfl) T.m_parts_upward T.F_parts_upward.kp T.b_parts_upward .nil pass0 (pa_cons (pv 0) pa_nil)) pa_nil)))), ?_⟩
  refine ⟨_, rfl, v, t, _, rfl, ht, hz, fun r ws H' hs hr0 hr1 hts => ?_⟩
  refine ⟨_, _, rfl, .inl (SqL.of hr1), ?_⟩
  rw [hts.len, post_len]
  exact q _ hs
theorem ok_depth_of (T : Txt K mg) : FnOk P w K mg base CX0 5 T.f_depth_of T.d_depth_of ["tree"] sp_depth_of := by
  have G_check_tree : FnOk P w K mg base CX0 4 T.f_check_tree T.d_check_tree ["thing"] sp_check_tree := ok_check_tree T
  refine T.F_depth_of.ok sc_depth_of (fun vs H Q E h => ?_) (fun cdv A outer s H vs Q E hr h => ?_)
  · obtain ⟨v, t, rfl, _⟩ := h
    rfl
  obtain ⟨v, t, rfl, ht, hz, q⟩ := h
  refine ⟨_, (pss_cons (ps_expr (pe_call G_check_tree (hr.mono (by omega)) (by rfl) T.m_check_tree T.F_check_tree.kp T.b_check_tree .nil pass0 (pa_cons (pv 0) pa_nil))) (pss_cons (ps_set (i := 1) sc_depth_of.nd rfl (Or.inl rfl) pe_int) (pss_cons (ps_set (i := 2) sc_depth_of.nd rfl (Or.inl rfl) (pe_lst (pa_cons (pv 0) pa_nil))) (pss_cons (ps_while PassesOwn.never (pt_truth (pv 2) (by intro _; rfl)) (pss_cons (ps_aug (i := 1) sc_depth_of.nd rfl (Or.inl rfl) pe_int ip_add) (pss_one (ps_setLc2 (i := 2) (own := [("part", 3), ("child", 4)]) (vs1 := [4]) (g := gName 3) (g1 := gName 4) (tt := tYes) (tt1 := tYes) (wi1 := iList K (tOp (rIxT K) (tVar 3) (tC (.int 1)))) rfl sc_depth_of.nd rfl rfl (sw_true rfl rfl rfl (by decide +kernel)) (pi_list (pv 2)) (blkOk_by (own := [("part", 3), ("child", 4)]) (N := ["tree", "depth", "level", "part", "child"]) (sc := (defScope s_depth_of)) (by decide +kernel)) (by decide) (fun _ _ _ _ _ => (pg_name (i := 3) sc_depth_of.nd rfl (Or.inl rfl))) (fun _ _ _ _ _ => pts_nil) (fun _ _ _ _ _ => (pi_list (pe_ix ix_tup (pv 3) pe_int (fun _ _ => rfl)))) (fun _ _ _ _ _ => (pg_name (i := 4) sc_depth_of.nd rfl (Or.inl rfl))) (fun _ _ _ _ _ => pts_nil) (fun _ _ _ _ _ => (pv 4)))))) (pss_one (ps_ret (pv 1))))))), ?_⟩
  refine ⟨_, rfl, v, t, rfl, ht, hz, fun H1 s1 => ?_⟩
  have ht1 := ((TrAt.there t v ht).same s1).weak (ok' := fun b => H b ≠ none) fun b ⟨_, o, e⟩ => by rw [e]; simp
  refine ⟨_, rfl, (by show 1 ≤ sizeLine; decide), fun l0 hl0 => ?_⟩
  refine ⟨fun m σ H' => ∃ (d : Nat) (lv : Addr) (ws : List V) (ts : List Tr) (y3 y4 : Option V), σ = [some v, some (.int d), some (.ref lv), y3, y4] ∧ H' lv = some (.lst ws) ∧ TrsAt (fun b => H b ≠ none) H' ws ts ∧ d + depths ts = t.depth ∧ sizes ts ≤ 1000000 ∧ m = depths ts ∧ Same H H',
    ⟨t.depth, 0, l0, [v], [t], none, none, rfl, upd_same, .cons (ht1.same (same_new hl0)) .nil, by simp only [depths]; omega, by simp only [sizes]; omega, by simp only [depths]; omega, same_add s1 (s1.free hl0)⟩, ?_⟩
  rintro m σ H' ⟨d, lv, ws, ts, y3, y4, rfl, hL, hts, hd, hz2, rfl, hs⟩
  by_cases he : ws = []
  · subst he
    refine ⟨_, rfl, false, .inl ⟨_, SqL.of hL, rfl⟩, iteF ?_⟩
    cases hts
    simp only [depths, Nat.add_zero] at hd
    rw [← hd] at q
    exact ⟨_, rfl, q _ hs⟩
  · refine ⟨_, rfl, true, .inl ⟨_, SqL.of hL, by cases ws with | nil => exact absurd rfl he | cons a b => rfl⟩, iteT ?_⟩
    have hne : ts ≠ [] := fun e => by
      subst e
      cases hts
      exact he rfl
    refine ⟨fun σ2 H2 => ∃ (d : Nat) (lv : Addr) (ws : List V) (ts2 : List Tr) (y3 y4 : Option V), σ2 = [some v, some (.int d), some (.ref lv), y3, y4] ∧ H2 lv = some (.lst ws) ∧ TrsAt (fun b => H b ≠ none) H2 ws ts2 ∧ d + depths ts2 = t.depth ∧ sizes ts2 ≤ 1000000 ∧ depths ts2 < depths ts ∧ Same H H2,
      fun σ2 H2 ⟨d, lv, ws, ts2, y3, y4, e1, e2, e3, e4, e5, e6, e7⟩ => ⟨depths ts2, e6, d, lv, ws, ts2, y3, y4, e1, e2, e3, e4, e5, rfl, e7⟩, ?_⟩
    refine ⟨_, rfl, _, 1, rfl, rfl, _, rfl, lv, rfl, ⟨_, SqL.of hL⟩, fun D hD => ?_⟩
    have hD0 : H D = none := hs.free hD
    have nDl : lv ≠ D := ne_of_none hL hD
    have okD : ∀ b, H b ≠ none → b ≠ D := fun b h e => h (by rw [e]; exact hD0)
    have ks := kidss_sizes ts
    have kd := kidss_depths ts hne
    refine lc_outer (xs := ws) (fun i H2 => ∃ acc, H2 D = some (.lst acc) ∧ TrsAt (fun b => H b ≠ none) H2 acc (kidss (ts.take i)) ∧ H2 lv = some (.lst ws) ∧ TrsAt (fun b => H b ≠ none) H2 ws ts ∧ Same H H2)
      ⟨[], upd_same, .nil, by rw [upd_ne nDl]; exact hL, hts.keep (upd_keep okD), same_add hs hD0⟩ (fun i H2 _ ⟨acc, _, _, h3, _⟩ => SqL.of h3) ?_ ?_
    · rintro i x H2 hx ⟨acc, h1, h2, h3, h4, h5⟩
      obtain ⟨t1, ht1, hx2⟩ := h4.getV hx
      obtain ⟨c, k1⟩ := t1
      refine ⟨rfl, ?_⟩
      cases hx2 with
      | node g1 g2 o1 o2 c1 c2 r =>
        refine ⟨_, rfl, _, _, 1, _, rfl, rfl, SqT.of g1, atI_nat (j := 1) rfl, _, rfl, ⟨_, SqL.of g2⟩, ?_⟩
        rename_i ad l kv
        refine lc_outer (xs := kv) (fun j H3 => ∃ acc, H3 D = some (.lst acc) ∧ TrsAt (fun b => H b ≠ none) H3 acc (kidss (ts.take i) ++ k1.take j) ∧ H3 l = some (.lst kv) ∧ TrsAt (fun b => H b ≠ none) H3 kv k1 ∧ H3 lv = some (.lst ws) ∧ TrsAt (fun b => H b ≠ none) H3 ws ts ∧ Same H H3)
          ⟨acc, h1, by simpa using h2, g2, r, h3, h4, h5⟩ (fun j H3 _ ⟨_, _, _, q3, _⟩ => SqL.of q3) ?_ ?_
        · rintro j y H3 hy ⟨acc, q1, q2, q3, q4, q5, q6, q7⟩
          obtain ⟨u, hu, hy2⟩ := q4.getV hy
          have ez : kidss (ts.take (i + 1)) = kidss (ts.take i) ++ k1 := by
            rw [take_succ_of ht1, kidss_append]
            simp only [kidss, Tr.kids, List.append_nil]
          have zs : sizes (kidss (ts.take i) ++ k1) ≤ sizes (kidss ts) := by
            rw [← ez]
            have := congrArg sizes (congrArg kidss (List.take_append_drop (i + 1) ts))
            rw [kidss_append, sizes_append] at this
            omega
          have zl : acc.length ≤ 1000000 := by
            have a1 := q2.len
            have a2 := len_sizes (kidss (ts.take i) ++ k1.take j)
            have a3 := congrArg sizes (List.take_append_drop j k1)
            rw [sizes_append] at a3
            rw [sizes_append] at a2 zs
            omega
          have nl : l ≠ D := fun e => o2 (by rw [e]; exact hD0)
          refine ⟨rfl, _, rfl, acc, q1, Nat.lt_of_le_of_lt zl (by decide), acc ++ [y], upd_same, ?_, by rw [upd_ne nl]; exact q3, q4.keep (upd_keep okD), by rw [upd_ne nDl]; exact q5, q6.keep (upd_keep okD), same_add q7 hD0⟩
          rw [take_succ_of hu, ← List.append_assoc]
          exact (q2.append (.cons hy2 .nil)).keep (upd_keep okD)
        · rintro H3 ⟨acc, q1, q2, q3, q4, q5, q6, q7⟩
          refine ⟨acc, q1, ?_, q5, q6, q7⟩
          rw [r.len, List.take_length] at q2
          rw [take_succ_of ht1, kidss_append]
          simp only [kidss, Tr.kids, List.append_nil]
          exact q2
    · rintro H2 ⟨acc, h1, h2, h3, h4, h5⟩
      rw [hts.len, List.take_length] at h2
      exact ⟨d + 1, D, acc, kidss ts, _, _, rfl, h1, h2, by omega, by omega, by omega, h5⟩
end


def Pool (H : Hp) (p : Addr) (n : Nat) : Prop := ∃ x f s : Int, H p = some (.lst [.int x, .int f, .int s]) ∧ 0 ≤ s ∧ s ≤ (n : Int)
theorem Pool.mono {H : Hp} {p : Addr} {n m : Nat} (h : Pool H p n) (l : n ≤ m) : Pool H p m := let ⟨x, f, s, a, b, c⟩ := h; ⟨x, f, s, a, b, by omega⟩
theorem Pool.keep {H H' : Hp} {p : Addr} {n : Nat} (h : Pool H p n) (e : Same H H') : Pool H' p n := let ⟨x, f, s, a, b, c⟩ := h; ⟨x, f, s, e _ _ a, b, c⟩
theorem Pool.ne {H : Hp} {p q : Addr} {n : Nat} (h : Pool H p n) (e : H q = none) : p ≠ q := let ⟨_, _, _, a, _⟩ := h; ne_of_none a e
theorem Pool.some {H : Hp} {p : Addr} {n : Nat} (h : Pool H p n) : H p ≠ none := let ⟨_, _, _, a, _⟩ := h; by rw [a]; simp
def sp__law_pool (K : PySem.W.Frag) : Sp := fun vs H Q _ => ∃ (a : Addr) (ns : List Int) (k : Int), vs = [.ref a, .int k] ∧ SqL K H a (ns.map V.int) ∧ ns.length ≤ 63 ∧ 0 ≤ k ∧ k ≤ 63 ∧
  ∀ p H', H p = none → Chg p H H' → Pool H' p 3000 → Q (.ref p) H'
def sp__law_take : Sp := fun vs H Q _ => ∃ (p : Addr) (m : Int) (n : Nat), vs = [.ref p, .int m] ∧ Pool H p n ∧ n < 1000000 ∧ 0 < m ∧ m < 2 ^ 60 ∧
  ∀ r H', 0 ≤ r → r < m → Chg p H H' → Pool H' p (n + 1) → Q (.int r) H'
section
variable {P : Program} {w : World} {K : PySem.W.Frag} {mg : Str → Option Value} {base : Heap}
theorem ok__law_pool (T : Txt K mg) : FnOk P w K mg base CX0 1 T.f__law_pool T.d__law_pool ["script", "k"] (sp__law_pool K) := by
  refine T.F__law_pool.ok sc__law_pool (fun vs H Q E h => ?_) (fun cdv A outer s H vs Q E hr h => ?_)
  · obtain ⟨a, ns, k, rfl, _⟩ := h
    rfl
  obtain ⟨a, ns, k, rfl, hS, h63, h0, h1, q⟩ := h
  refine ⟨_, (pss_cons (ps_set (i := 2) sc__law_pool.nd rfl (Or.inl rfl) pe_int) (pss_cons (ps_if (pt_cmpR op_lt (pv 1) (pe_callB call_len_seq (by rfl) T.z_len PySem.boot_len (pa_cons (pv 0) pa_nil)) (nomark _)) (pss_one (ps_set (i := 2) sc__law_pool.nd rfl (Or.inl rfl) (pe_ix ix_list (pv 0) (pv 1) (fun _ _ => rfl)))) pss_nil) (pss_cons (ps_if (pt_cmpR op_ge (pv 2) (pe_op op_pow pe_int pe_int) (nomark _)) (pss_one (ps_ret (pe_lst (pa_cons (pe_op op_sub (pv 2) (pe_op op_pow pe_int pe_int)) (pa_cons pe_int (pa_cons pe_int pa_nil)))))) pss_nil) (pss_one (ps_ret (pe_lst (pa_cons (pv 2) (pa_cons pe_int (pa_cons (pe_op op_mul pe_int (pv 1)) pa_nil))))))))), ?_⟩
  have fin : ∀ p, H p = none → ∀ x f s : Int, 0 ≤ s → s ≤ 3000 → Q (.ref p) (upd H p (.lst [.int x, .int f, .int s])) := fun p hp x f s hs0 hs1 =>
    q p _ hp Chg.upd ⟨x, f, s, upd_same, hs0, by omega⟩
  refine ⟨_, rfl, _, rfl, a, _, rfl, .inl hS, _, _, rfl, rfl, _, rfl, ?_⟩
  refine ite2 (fun c => ?_) (fun c => ?_)
  · have hk : k.toNat < ns.length := by
      have c' : k < (((ns.map V.int).length : Nat) : Int) := of_decide_eq_true c
      rw [List.length_map] at c'
      omega
    refine ⟨_, rfl, _, rfl, a, _, _, _, rfl, rfl, hS, at_of (j := k.toNat) (v := V.int ns[k.toNat]) (by omega) (by rw [List.getElem?_map, List.getElem?_eq_getElem hk]; rfl), ?_⟩
    refine ⟨_, rfl, 10, 18, rfl, rfl, ⟨by decide, by decide, by decide⟩, _, _, rfl, rfl, _, rfl, ?_⟩
    refine ite2 (fun c2 => ?_) (fun c2 => ?_)
    · refine ⟨_, rfl, 10, 18, rfl, rfl, ⟨by decide, by decide, by decide⟩, _, _, rfl, rfl, (by show 3 ≤ sizeLine; decide), fun p hp => ?_⟩
      exact fin p hp _ _ _ (by decide) (by decide)
    · refine ⟨_, rfl, _, rfl, _, _, rfl, rfl, .inl ⟨by decide, by decide⟩, (by show 3 ≤ sizeLine; decide), fun p hp => ?_⟩
      exact fin p hp _ _ _ (by omega) (by omega)
  · refine ⟨_, rfl, 10, 18, rfl, rfl, ⟨by decide, by decide, by decide⟩, _, _, rfl, rfl, _, rfl, ?_⟩
    refine ite2 (fun c2 => ?_) (fun c2 => ?_)
    · exact absurd (of_decide_eq_true c2) (by decide)
    · refine ⟨_, rfl, _, rfl, _, _, rfl, rfl, .inl ⟨by decide, by decide⟩, (by show 3 ≤ sizeLine; decide), fun p hp => ?_⟩
      exact fin p hp _ _ _ (by omega) (by omega)
theorem ok__law_take (T : Txt K mg) : FnOk P w K mg base CX0 1 T.f__law_take T.d__law_take ["pool", "many"] sp__law_take := by
  refine T.F__law_take.ok sc__law_take (fun vs H Q E h => ?_) (fun cdv A outer s H vs Q E hr h => ?_)
  · obtain ⟨p, m, n, rfl, _⟩ := h
    rfl
  obtain ⟨p, m, n, rfl, ⟨x, f, t, hp, ht0, ht1⟩, hn, hm0, hm1, q⟩ := h
  refine ⟨_, (pss_cons (ps_if (pt_cmpR op_eq (pe_ix ix_list (pv 0) pe_int (fun _ _ => rfl)) pe_int (nomark _)) (pss_cons (ps_set (i := 2) sc__law_take.nd rfl (Or.inl rfl) (pe_op op_mod (pe_ix ix_list (pv 0) pe_int (fun _ _ => rfl)) (pv 1))) (pss_cons (ps_asg (pe_op op_fdivW (pe_ix ix_list (pv 0) pe_int (fun _ _ => rfl)) (pv 1)) (pg_sub (pv 0) pe_int set_list)) (pss_one (ps_ret (pv 2))))) pss_nil) (pss_cons (ps_asg (pe_op op_add (pe_ix ix_list (pv 0) pe_int (fun _ _ => rfl)) pe_int) (pg_sub (pv 0) pe_int set_list)) (pss_cons (ps_set (i := 3) sc__law_take.nd rfl (Or.inl rfl) (pe_ix ix_list (pv 0) pe_int (fun _ _ => rfl))) (pss_cons (ps_set (i := 4) sc__law_take.nd rfl (Or.inl rfl) (pe_op op_mul (pe_op op_add (pe_op op_mod (pe_ix ix_list (pv 0) pe_int (fun _ _ => rfl)) pe_int) pe_int) (pe_op op_add (pe_op op_mul pe_int (pv 3)) pe_int))) (pss_cons (ps_set (i := 4) sc__law_take.nd rfl (Or.inl rfl) (pe_op op_add (pv 4) (pe_op op_mul (pe_op op_mul pe_int (pv 3)) (pv 3)))) (pss_cons (ps_set (i := 4) sc__law_take.nd rfl (Or.inl rfl) (pe_op op_mod (pe_op op_mul (pv 4) (pv 4)) pe_int)) (pss_one (ps_ret (pe_op op_mod (pe_op op_fdivW (pe_op op_mod (pe_op op_mul (pv 4) (pe_op op_add (pv 4) pe_int)) pe_int) pe_int) (pv 1)))))))))), ?_⟩
  have i0 : atI [V.int x, V.int f, V.int t] 0 = some (.int x) := atI_nat (j := 0) rfl
  have i1 : atI [V.int x, V.int f, V.int t] 1 = some (.int f) := atI_nat (j := 1) rfl
  have i2 : atI [V.int x, V.int f, V.int t] 2 = some (.int t) := atI_nat (j := 2) rfl
  refine ⟨_, rfl, p, _, 1, _, rfl, rfl, SqL.of hp, i1, rfl, _, rfl, ?_⟩
  refine ite2 (fun c => ?_) (fun c => ?_)
  · -- the digits
    refine ⟨_, rfl, p, _, 0, _, rfl, rfl, SqL.of hp, i0, _, rfl, x, m, rfl, rfl, hm0, ?_⟩
    refine ⟨_, rfl, p, _, 0, _, rfl, rfl, SqL.of hp, i0, _, rfl, x, m, rfl, rfl, divW hm0 hm1, ?_⟩
    refine ⟨_, rfl, p, _, 0, 0, rfl, rfl, hp, rfl, ?_⟩
    refine ⟨_, rfl, q _ _ (Int.emod_nonneg _ (by omega)) (Int.emod_lt_of_pos _ hm0) Chg.upd ⟨_, _, _, upd_same, ht0, by omega⟩⟩
  · -- mixed
    refine ⟨_, rfl, p, _, 2, _, rfl, rfl, SqL.of hp, i2, t, 1, rfl, rfl, ?_⟩
    refine ⟨_, rfl, p, _, 2, 2, rfl, rfl, hp, rfl, ?_⟩
    have hp' : (upd H p (.lst [V.int x, V.int f, V.int (t + 1)])) p = some (.lst [V.int x, V.int f, V.int (t + 1)]) := upd_same
    have j0 : atI [V.int x, V.int f, V.int (t + 1)] 0 = some (.int x) := atI_nat (j := 0) rfl
    have j2 : atI [V.int x, V.int f, V.int (t + 1)] 2 = some (.int (t + 1)) := atI_nat (j := 2) rfl
    refine ⟨_, rfl, p, _, 2, _, rfl, rfl, SqL.of hp', j2, ?_⟩
    have a0 : 0 ≤ x % 9999999557 := Int.emod_nonneg _ (by decide)
    have a1 : x % 9999999557 < 9999999557 := Int.emod_lt_of_pos _ (by decide)
    refine ⟨_, rfl, p, _, 0, _, rfl, rfl, SqL.of hp', j0, x, 9999999557, rfl, rfl, (by show (0 : Int) < 9999999557; decide), _, 1013, rfl, rfl, _, rfl, 41, t + 1, rfl, rfl, .inl ⟨by decide, by decide⟩, _, 71, rfl, rfl, _, _, rfl, rfl, .inl ⟨by omega, by omega⟩, ?_⟩
    have b1 := nn_mul (a := x % 9999999557 + 1013) (A := 10000000570) (b := 41 * (t + 1) + 71) (B := 41000112) (by omega) (by omega) (by omega) (by omega)
    obtain ⟨M, hM⟩ : ∃ M, (x % 9999999557 + 1013) * (41 * (t + 1) + 71) = M := ⟨_, rfl⟩
    rw [hM] at b1
    have b2 := nn_mul (a := 3571 * (t + 1)) (A := 3571000000) (b := t + 1) (B := 1000000) (by omega) (by omega) (by omega) (by omega)
    refine ⟨_, rfl, _, rfl, 3571, t + 1, rfl, rfl, .inl ⟨by decide, by decide⟩, _, rfl, _, t + 1, rfl, rfl, .inl ⟨by omega, by omega⟩, M, _, congrArg V.int hM, rfl, ?_⟩
    obtain ⟨M2, hM2⟩ : ∃ M2, M + 3571 * (t + 1) * (t + 1) = M2 := ⟨_, rfl⟩
    refine ⟨_, rfl, _, rfl, M2, M2, congrArg V.int hM2, congrArg V.int hM2, .inl ⟨by omega, by omega⟩, _, 99999999587, rfl, rfl, (by show (0 : Int) < 99999999587; decide), ?_⟩
    have d0 : 0 ≤ M2 * M2 % 99999999587 := Int.emod_nonneg _ (by decide)
    have d1 : M2 * M2 % 99999999587 < 99999999587 := Int.emod_lt_of_pos _ (by decide)
    obtain ⟨M3, hM3⟩ : ∃ M3, M2 * M2 % 99999999587 = M3 := ⟨_, rfl⟩
    rw [hM3] at d0 d1
    refine ⟨_, rfl, _, rfl, M3, 53, congrArg V.int hM3, rfl, M3, M3 + 53, congrArg V.int hM3, rfl, .inl ⟨by omega, by omega⟩, _, 99999999881, rfl, rfl, (by show (0 : Int) < 99999999881; decide), _, 103, rfl, rfl, divW (by decide) (by decide), _, rfl, _, m, rfl, rfl, hm0, ?_⟩
    exact q _ _ (Int.emod_nonneg _ (by omega)) (Int.emod_lt_of_pos _ hm0) Chg.upd ⟨_, _, _, upd_same, by omega, by omega⟩
end


section
variable {ok : Addr → Prop} {H : Hp} {p : Addr} {x : Int} {zs : List V}
mutual
theorem TrAt.offL (hp : H p = some (.lst (.int x :: zs))) : ∀ (t : Tr) (v : V), TrAt ok H v t → TrAt (fun b => ok b ∧ b ≠ p) H v t
  | .node c ks, v, h => by
    cases h with
    | node h1 h2 k1 k2 c1 c2 r =>
      refine .node h1 h2 ⟨k1, ne_of h1 hp (by intro z; cases z)⟩ ⟨k2, fun e => ?_⟩ c1 c2 (TrsAt.offL hp ks _ r)
      subst e
      rw [h2] at hp
      cases hp
      cases r with
      | cons a _ => cases a
theorem TrsAt.offL (hp : H p = some (.lst (.int x :: zs))) : ∀ (ts : List Tr) (vs : List V), TrsAt ok H vs ts → TrsAt (fun b => ok b ∧ b ≠ p) H vs ts
  | [], _, h => by cases h; exact .nil
  | t :: r, _, h => by
    cases h with
    | cons a b => exact .cons (TrAt.offL hp t _ a) (TrsAt.offL hp r _ b)
end
end
theorem Pool.off {ok : Addr → Prop} {H : Hp} {p : Addr} {n : Nat} {v : V} {t : Tr} (hp : Pool H p n) (h : TrAt ok H v t) : TrAt (fun b => ok b ∧ b ≠ p) H v t := let ⟨_, _, _, hx, _⟩ := hp; TrAt.offL hx t v h
theorem Pool.offs {ok : Addr → Prop} {H : Hp} {p : Addr} {n : Nat} {vs : List V} {ts : List Tr} (hp : Pool H p n) (h : TrsAt ok H vs ts) : TrsAt (fun b => ok b ∧ b ≠ p) H vs ts := let ⟨_, _, _, hx, _⟩ := hp; TrsAt.offL hx ts vs h
theorem TrAt.fr {ok : Addr → Prop} {H H' : Hp} {p : Addr} {v : V} {t : Tr} (h : TrAt (fun b => ok b ∧ b ≠ p) H v t) (f : Fr p H H') : TrAt (fun b => ok b ∧ b ≠ p) H' v t := h.keep fun b o k e => f b o k.2 e
theorem TrsAt.fr {ok : Addr → Prop} {H H' : Hp} {p : Addr} {vs : List V} {ts : List Tr} (h : TrsAt (fun b => ok b ∧ b ≠ p) H vs ts) (f : Fr p H H') : TrsAt (fun b => ok b ∧ b ≠ p) H' vs ts := h.keep fun b o k e => f b o k.2 e
theorem Pool.new {H : Hp} {p q : Addr} {n : Nat} {o : HO} (hp : Pool H p n) (h : H q = none) : Pool (upd H q o) p n := hp.keep (same_new h)
theorem Pool.ne' {H : Hp} {p q : Addr} {n : Nat} (hp : Pool H p n) (h : H q = none) : q ≠ p := fun e => (hp.ne h) e.symm
theorem Pool.upd {H : Hp} {p q : Addr} {n : Nat} {o : HO} (hp : Pool H p n) (h : q ≠ p) : Pool (upd H q o) p n := by
  obtain ⟨x, f, s, a, b, c⟩ := hp
  exact ⟨x, f, s, by rw [upd_ne (fun e => h e.symm)]; exact a, b, c⟩
theorem erase_perm {α : Type} : ∀ (l : List α) (i : Nat) (h : i < l.length), l.Perm (l[i] :: l.eraseIdx i)
  | a :: r, 0, _ => .refl _
  | a :: r, i + 1, h => by
    have ih := erase_perm r i (by simpa using h)
    exact (ih.cons a).trans (.swap _ _ _)
def sp__law_mixed_up (K : PySem.W.Frag) : Sp := fun vs H Q _ => ∃ (p l : Addr) (n : Nat) (xs : List V), vs = [.ref p, .ref l] ∧ Pool H p n ∧ n + xs.length < 1000000 ∧ SqL K H l xs ∧
  (∀ H', Fr p H H' → ∀ v ∈ xs, DatOk K H' v) ∧ ∀ r ws H', xs.Perm ws → H r = none → Fr p H H' → H' r = some (.lst ws) → Pool H' p (n + xs.length) → Q (.ref r) H'
section
variable {P : Program} {w : World} {K : PySem.W.Frag} {mg : Str → Option Value} {base : Heap}
theorem ok__law_mixed_up (T : Txt K mg) : FnOk P w K mg base CX0 2 T.f__law_mixed_up T.d__law_mixed_up ["pool", "things"] (sp__law_mixed_up K) := by
  have G__law_take : FnOk P w K mg base CX0 1 T.f__law_take T.d__law_take ["pool", "many"] sp__law_take := ok__law_take T
  refine T.F__law_mixed_up.ok sc__law_mixed_up (fun vs H Q E h => ?_) (fun cdv A outer s H vs Q E hr h => ?_)
  · obtain ⟨p, l, n, xs, rfl, _⟩ := h
    rfl
  obtain ⟨p, l, n, xs, rfl, hp, hn, hl, hd, q⟩ := h
  refine ⟨_, (pss_cons (ps_set (i := 2) sc__law_mixed_up.nd rfl (Or.inl rfl) (pe_callTy call_list_of (by rfl) T.z_list (by decide +kernel) (pa_cons (pv 1) pa_nil))) (pss_cons (ps_set (i := 3) sc__law_mixed_up.nd rfl (Or.inl rfl) (pe_lst pa_nil)) (pss_cons (ps_while PassesOwn.never (pt_cmpR (op_neD hr.units) (pv 2) (pe_lst pa_nil) (nomark _)) (pss_one (ps_expr (pe_bm PySem.F.plainAttrs_list PySem.F.slot_list_append PySem.F.type_list_append mt_append (pv 3) (pa_cons (pe_bm PySem.F.plainAttrs_list PySem.F.slot_list_pop PySem.F.type_list_pop mt_popAt (pv 2) (pa_cons (pe_call G__law_take (hr.mono (by omega)) (by rfl) T.m__law_take T.F__law_take.kp T.b__law_take .nil pass0 (pa_cons (pv 0) (pa_cons (pe_callB call_len_seq (by rfl) T.z_len PySem.boot_len (pa_cons (pv 2) pa_nil)) pa_nil))) pa_nil)) pa_nil))))) (pss_one (ps_ret (pv 3)))))), ?_⟩
  refine ⟨_, rfl, l, xs, rfl, .inl hl, fun a ha => ?_⟩
  refine ⟨(by show 0 ≤ sizeLine; decide), fun f hf => ?_⟩
  have naf : a ≠ f := fun e => by rw [e, upd_same] at hf; cases hf
  have hf0 : H f = none := by rw [upd_ne (fun e => naf e.symm)] at hf; exact hf
  have nap : a ≠ p := hp.ne' ha
  have nfp : f ≠ p := hp.ne' hf0
  refine ⟨fun m σ H' => ∃ us ys, σ = [some (.ref p), some (.ref l), some (.ref a), some (.ref f)] ∧ H' a = some (.lst us) ∧ H' f = some (.lst ys) ∧ xs.Perm (us ++ ys) ∧ m = us.length ∧ Pool H' p (n + ys.length) ∧ Fr p H H',
    ⟨xs.length, xs, [], rfl, by rw [upd_ne naf]; exact upd_same, upd_same, by rw [List.append_nil], rfl, (hp.new ha).new hf, ((Fr.refl p H).new ha).new hf0⟩, ?_⟩
  rintro m σ H' ⟨us, ys, rfl, hA, hF, hP, rfl, pp, fr⟩
  have hlen : us.length + ys.length = xs.length := by
    have := hP.length_eq
    rw [List.length_append] at this
    omega
  refine ⟨_, rfl, (by show 0 ≤ sizeLine; decide), fun e he => ?_⟩
  have he0 : H e = none := fr.free pp.some he
  have fr2 : Fr p H (upd H' e (.lst [])) := fr.new he0
  obtain ⟨ds, hds, hsh, hdl⟩ := DatOk.all (K := K) (H := upd H' e (.lst [])) (vs := us) fun v hv => hd _ fr2 v (hP.mem_iff.mpr (List.mem_append_left _ hv))
  have hA2 : (upd H' e (.lst [])) a = some (.lst us) := by rw [upd_ne (ne_of_none hA he)]; exact hA
  have hF2 : (upd H' e (.lst [])) f = some (.lst ys) := by rw [upd_ne (ne_of_none hF he)]; exact hF
  refine ⟨_, _, .lst (SqL.of hA2) hds, dp_nil upd_same, hsh, shaped_nil, _, rfl, ?_⟩
  rw [eqv_nil, hdl]
  by_cases hu : us.length = 0
  · rw [decide_eq_true hu]
    refine iteF ?_
    have : us = [] := List.length_eq_zero_iff.mp hu
    subst this
    refine ⟨_, rfl, q f ys _ (by simpa using hP) hf0 fr2 hF2 ?_⟩
    have e1 : ys.length = xs.length := by simpa using hlen
    rw [← e1]
    exact pp.new he
  · rw [decide_eq_false hu]
    refine iteT ?_
    refine ⟨fun σ2 H2 => ∃ us2 ys, σ2 = [some (.ref p), some (.ref l), some (.ref a), some (.ref f)] ∧ H2 a = some (.lst us2) ∧ H2 f = some (.lst ys) ∧ xs.Perm (us2 ++ ys) ∧ us2.length < us.length ∧ Pool H2 p (n + ys.length) ∧ Fr p H H2,
      fun σ2 H2 ⟨us2, ys, e1, e2, e3, e4, e5, e6, e7⟩ => ⟨us2.length, e5, us2, ys, e1, e2, e3, e4, rfl, e6, e7⟩, ?_⟩
    refine ⟨_, rfl, .inl ⟨rfl, _, SqL.of hF2⟩, _, rfl, .inl ⟨rfl, _, SqL.of hA2⟩, _, rfl, _, rfl, a, us, rfl, .inl (SqL.of hA2), ?_⟩
    refine ⟨p, _, n + ys.length, rfl, pp.new he, by omega, by omega, by omega, fun r H2 r0 r1 c2 p2 => ?_⟩
    obtain ⟨k, rfl⟩ : ∃ k : Nat, r = (k : Int) := ⟨r.toNat, by omega⟩
    have hk : k < us.length := by omega
    have hA3 := c2.at hA2 nap
    have hF3 := c2.at hF2 nfp
    refine ⟨a, us, k, k, us[k], rfl, rfl, hA3, by omega, by omega, PySem.seqIndex_of (by omega) (by omega) |>.trans (by simp), List.getElem?_eq_getElem hk, ?_⟩
    have hF4 : (upd H2 a (.lst (us.eraseIdx k))) f = some (.lst ys) := by rw [upd_ne (fun e => naf e.symm)]; exact hF3
    refine ⟨f, ys, us[k], rfl, rfl, hF4, Nat.lt_of_le_of_lt (show ys.length ≤ 1000000 by omega) (by decide), ?_⟩
    refine ⟨us.eraseIdx k, ys ++ [us[k]], rfl, by rw [upd_ne naf]; exact upd_same, upd_same, ?_, ?_, ?_, ?_⟩
    · refine hP.trans ?_
      have pe : us.Perm (us[k] :: us.eraseIdx k) := erase_perm us k hk
      refine (pe.append_right ys).trans ?_
      rw [← List.append_assoc, List.cons_append]
      exact (List.perm_append_singleton _ _).symm
    · rw [List.length_eraseIdx_of_lt hk]
      omega
    · rw [List.length_append, List.length_singleton, ← Nat.add_assoc]
      exact (p2.upd nap).upd nfp
    · intro b o hb e
      have nb1 : b ≠ f := ne_of_none e hf0
      have nb2 : b ≠ a := ne_of_none e ha
      rw [upd_ne nb1, upd_ne nb2]
      exact c2.at (fr2 b o hb e) hb
end

def Lets (L : Str) : Prop := 1 ≤ L.length ∧ L.length ≤ 26 ∧ ∀ c ∈ L.cps.toList, 97 ≤ c ∧ c ≤ 122
def sp__law_shuffled (d : Nat) : Sp := fun vs H Q _ => ∃ (p : Addr) (n : Nat) (v : V) (t : Tr), vs = [.ref p, v] ∧ Pool H p n ∧ n + t.size < 1000000 ∧ TrAt (fun _ => True) H v t ∧ t.depth ≤ d ∧ t.depth ≤ 32 ∧
  ∀ r u H', Sh t u → Fr p H H' → TrAt (fun b => H b = none) H' r u → Pool H' p (n + (t.size - 1)) → Q r H'
def sp__law_copy (d : Nat) : Sp := fun vs H Q _ => ∃ (v : V) (t : Tr), vs = [v] ∧ TrAt (fun _ => True) H v t ∧ t.depth ≤ d ∧ t.size ≤ 1000000 ∧
  ∀ r H', Same H H' → TrAt (fun b => H b = none) H' r t → Q r H'
def sp__law_letters : Sp := fun vs H Q _ => ∃ (p : Addr) (n : Nat), vs = [.ref p] ∧ Pool H p n ∧ n < 1000000 ∧ ∀ L H', Lets L → Fr p H H' → Pool H' p (n + 1) → Q (.str L) H'
theorem none_of {sp : Sp} {P : Program} {w : World} {K : PySem.W.Frag} {mg : Str → Option Value} {base : Heap} {f : Addr} {fd : FuncData} {ps : List Str} {k : Nat} (no : ∀ vs H Q E, ¬ sp vs H Q E) : FnOk P w K mg base CX0 k f fd ps sp :=
  ⟨fun vs H Q E h => absurd h (no vs H Q E), fun A outer s H args us vs Q E _ _ _ _ h => absurd h (no vs H Q E)⟩
theorem depth_pos : ∀ t : Tr, 1 ≤ t.depth
  | .node c ks => by simp only [Tr.depth]; omega
section
variable {P : Program} {w : World} {K : PySem.W.Frag} {mg : Str → Option Value} {base : Heap}
theorem ok__law_copy (T : Txt K mg) : ∀ d : Nat, FnOk P w K mg base CX0 d T.f__law_copy T.d__law_copy ["tree"] (sp__law_copy d)
  | 0 => none_of fun vs H Q E ⟨v, t, _, _, h, _⟩ => by have := depth_pos t; omega
  | d + 1 => by
    have G__law_copy : FnOk P w K mg base CX0 d T.f__law_copy T.d__law_copy ["tree"] (sp__law_copy d) := ok__law_copy T d
    refine T.F__law_copy.ok sc__law_copy (fun vs H Q E h => ?_) (fun cdv A outer s H vs Q E hr h => ?_)
    · obtain ⟨v, t, rfl, _⟩ := h
      rfl
    obtain ⟨v, t, rfl, ht, hd, hz, q⟩ := h
    refine ⟨_, (pss_one (ps_ret (pe_tup (pa_cons (pe_ix ix_tup (pv 0) pe_int (fun _ _ => rfl)) (pa_cons (pe_lc (own := [("child", 1)]) (g := gName 1) (tt := tYes) rfl sc__law_copy.nd (pi_list (pe_ix ix_tup (pv 0) pe_int (fun _ _ => rfl))) (blkOk_by (own := [("child", 1)]) (N := ["tree", "child"]) (sc := (defScope s__law_copy)) (by decide +kernel)) (fun _ _ _ _ _ => (pg_name (i := 1) sc__law_copy.nd rfl (Or.inl rfl))) (fun _ _ _ _ _ => pts_nil) (fun _ _ _ _ _ => (pe_call G__law_copy (hr.mono (by omega)) (by rfl) T.m__law_copy T.F__law_copy.kp T.b__law_copy .nil pass0 (pa_cons (pv 1) pa_nil)))) pa_nil))))), ?_⟩
    obtain ⟨c, ks⟩ := t
    simp only [Tr.depth] at hd
    simp only [Tr.size] at hz
    have lz := len_sizes ks
    cases ht with
    | node h1 h2 k1 k2 c1 c2 r =>
      rename_i a l xs
      have lr := r.len
      refine ⟨_, rfl, _, _, 0, _, rfl, rfl, SqT.of h1, atI_nat (j := 0) rfl, ?_⟩
      refine ⟨_, rfl, _, _, 1, _, rfl, rfl, SqT.of h1, atI_nat (j := 1) rfl, _, rfl, ⟨_, SqL.of h2⟩, fun D hD => ?_⟩
      refine lc_list (xs := xs) (fun i H2 => ∃ acc, H2 D = some (.lst acc) ∧ TrsAt (fun b => H b = none ∧ b ≠ D) H2 acc (ks.take i) ∧ Same H H2) ⟨[], upd_same, .nil, same_new hD⟩ (fun i H2 _ ⟨_, _, _, s⟩ => SqL.of (s _ _ h2)) ?_ ?_
      · rintro i x H2 hx ⟨acc, g1, g2, g3⟩
        obtain ⟨t1, ht1, hx2⟩ := r.getV hx
        have dt := depths_mem (List.mem_of_getElem? ht1)
        have st := sizes_mem (List.mem_of_getElem? ht1)
        have la := g2.len
        rw [List.length_take] at la
        refine ⟨rfl, _, rfl, x, t1, rfl, hx2.same g3, by omega, by omega, fun y H3 s3 hy => ?_⟩
        refine ⟨acc, s3 _ _ g1, Nat.lt_of_le_of_lt (show acc.length ≤ 1000000 by omega) (by decide), acc ++ [y], upd_same, ?_, same_add (g3.trans s3) hD⟩
        rw [take_succ_of ht1]
        have hy2 : TrAt (fun b => H b = none ∧ b ≠ D) H3 y t1 := hy.weak fun b hb => ⟨g3.free hb, fun e => by rw [e, g1] at hb; cases hb⟩
        exact ((g2.same s3).append (.cons hy2 .nil)).keep (upd_keep fun b h => h.2)
      · rintro H2 ⟨acc, g1, g2, g3⟩
        rw [lr, List.take_length] at g2
        refine ⟨(by show 2 ≤ sizeLine; decide), fun e he => ?_⟩
        have he0 := g3.free he
        have nDe : D ≠ e := ne_of_none g1 he
        refine q _ _ (same_add g3 he0) (.node upd_same (by rw [upd_ne nDe]; exact g1) he0 hD c1 c2 ?_)
        exact (g2.same (same_new he)).weak fun b h => h.1
theorem ok__law_shuffled (T : Txt K mg) : ∀ d : Nat, FnOk P w K mg base CX0 (d + 2) T.f__law_shuffled T.d__law_shuffled ["pool", "tree"] (sp__law_shuffled d)
  | 0 => none_of fun vs H Q E ⟨p, n, v, t, _, _, _, _, h, _⟩ => by have := depth_pos t; omega
  | d + 1 => by
    have G__law_shuffled : FnOk P w K mg base CX0 (d + 2) T.f__law_shuffled T.d__law_shuffled ["pool", "tree"] (sp__law_shuffled d) := ok__law_shuffled T d
    have G__law_mixed_up : FnOk P w K mg base CX0 2 T.f__law_mixed_up T.d__law_mixed_up ["pool", "things"] (sp__law_mixed_up K) := ok__law_mixed_up T
    refine T.F__law_shuffled.ok sc__law_shuffled (fun vs H Q E h => ?_) (fun cdv A outer s H vs Q E hr h => ?_)
    · obtain ⟨p, n, v, t, rfl, _⟩ := h
      rfl
    obtain ⟨p, n, v, t, rfl, hp, hn, ht, hd, hd2, q⟩ := h
    refine ⟨_, (pss_one (ps_ret (pe_tup (pa_cons (pe_ix ix_tup (pv 1) pe_int (fun _ _ => rfl)) (pa_cons (pe_lc (own := [("child", 2)]) (g := gName 2) (tt := tYes) rfl sc__law_shuffled.nd (pi_list (pe_call G__law_mixed_up (hr.mono (by omega)) (by rfl) T.m__law_mixed_up T.F__law_mixed_up.kp T.b__law_mixed_up .nil pass0 (pa_cons (pv 0) (pa_cons (pe_ix ix_tup (pv 1) pe_int (fun _ _ => rfl)) pa_nil)))) (blkOk_by (own := [("child", 2)]) (N := ["pool", "tree", "child"]) (sc := (defScope s__law_shuffled)) (by decide +kernel)) (fun _ _ _ _ _ => (pg_name (i := 2) sc__law_shuffled.nd rfl (Or.inl rfl))) (fun _ _ _ _ _ => pts_nil) (fun _ _ _ _ _ => (pe_call G__law_shuffled (hr.mono (by omega)) (by rfl) T.m__law_shuffled T.F__law_shuffled.kp T.b__law_shuffled .nil pass0 (pa_cons (pv 0) (pa_cons (pv 2) pa_nil))))) pa_nil))))), ?_⟩
    obtain ⟨c, ks⟩ := t
    simp only [Tr.depth] at hd hd2
    simp only [Tr.size] at hn q
    have lz := len_sizes ks
    cases hp.off ht with
    | node h1 h2 k1 k2 c1 c2 r =>
      rename_i a l xs
      have lr := r.len
      refine ⟨_, rfl, _, _, 0, _, rfl, rfl, SqT.of h1, atI_nat (j := 0) rfl, ?_⟩
      refine ⟨_, rfl, _, rfl, _, _, 1, _, rfl, rfl, SqT.of h1, atI_nat (j := 1) rfl, p, l, n, xs, rfl, hp, by omega, SqL.of h2, ?_, fun m ws H1 pw m0 f1 hm p1 => ?_⟩
      · intro H' f v hv
        obtain ⟨i, hi⟩ := List.getElem?_of_mem hv
        obtain ⟨t1, ht1, hx⟩ := (r.fr f).getV hi
        have dt := depths_mem (List.mem_of_getElem? ht1)
        exact datOk_tr hx (by omega)
      obtain ⟨us, pu, hus⟩ := (r.fr f1).perm pw
      have lu := hus.len
      have zu := sizes_perm pu
      have du := depths_perm pu
      have nu := pu.length_eq
      refine ⟨m, rfl, ⟨_, SqL.of hm⟩, fun D hD => ?_⟩
      have hD0 : H D = none := f1.free p1.some hD
      have hmD : m ≠ D := ne_of_none hm hD
      have nmp : m ≠ p := hp.ne' m0
      have nDp : D ≠ p := p1.ne' hD
      have husD := hus.off hD
      refine lc_list (xs := ws) (fun i H2 => ∃ acc vs2, H2 D = some (.lst acc) ∧ TrsAt (fun b => H b = none ∧ b ≠ D) H2 acc vs2 ∧ Shs (us.take i) vs2 ∧ H2 m = some (.lst ws) ∧ Pool H2 p (n + xs.length + (sizes (us.take i) - i)) ∧ Fr p H1 H2 ∧ i ≤ us.length)
        ⟨[], [], upd_same, .nil, .nil, by rw [upd_ne hmD]; exact hm, p1.new hD, (Fr.refl p H1).new hD, Nat.zero_le _⟩ (fun i H2 _ ⟨_, _, _, _, _, s, _⟩ => SqL.of s) ?_ ?_
      · rintro i x H2 hx ⟨acc, vs2, g1, g2, g3, g4, g5, g6, g7⟩
        obtain ⟨t1, ht1, hx2⟩ := hus.getV hx
        have dt := depths_mem (List.mem_of_getElem? ht1)
        have st := sizes_mem (List.mem_of_getElem? ht1)
        have tk := congrArg sizes (List.take_append_drop (i + 1) us)
        rw [sizes_append] at tk
        have e1 := take_succ_of ht1
        have li : i < us.length := (List.getElem?_eq_some_iff.mp ht1).1
        have lt := len_sizes (us.take i)
        rw [List.length_take] at lt
        have ld := len_sizes (us.drop (i + 1))
        rw [List.length_drop] at ld
        have pz := size_pos t1
        have la := g2.len
        have lb := Shs.len g3
        rw [List.length_take] at lb
        have e2 : sizes (us.take (i + 1)) = sizes (us.take i) + t1.size := by
          rw [e1, sizes_append]
          simp only [sizes]
          omega
        refine ⟨rfl, _, rfl, _, rfl, p, _, x, t1, rfl, g5, by omega, (hx2.fr g6).weak fun _ _ => trivial, by omega, by omega, fun y u H3 hsh f3 hy p3 => ?_⟩
        have g1' := f3 _ _ nDp g1
        refine ⟨acc, g1', Nat.lt_of_le_of_lt (show acc.length ≤ 1000000 by omega) (by decide), acc ++ [y], vs2 ++ [u], upd_same, ?_, ?_, ?_, ?_, ?_, by omega⟩
        · have hy2 : TrAt (fun b => H b = none ∧ b ≠ D) H3 y u := hy.weak fun b hb => ⟨f1.free p1.some (g6.free g5.some hb), fun e => by rw [e, g1] at hb; cases hb⟩
          refine ((?_ : TrsAt (fun b => H b = none ∧ b ≠ D) H3 acc vs2).append (.cons hy2 .nil)).keep (upd_keep fun b h => h.2)
          exact g2.keep fun b o k e => f3 b o (hp.ne' k.1) e
        · rw [e1]
          exact g3.append (.cons hsh .nil)
        · rw [upd_ne hmD]
          exact f3 _ _ nmp g4
        · refine (p3.upd nDp).mono ?_
          omega
        · exact (g6.trans f3).new hD
      · rintro H2 ⟨acc, vs2, g1, g2, g3, g4, g5, g6, g7⟩
        rw [lu, List.take_length] at g3 g5
        refine ⟨(by show 2 ≤ sizeLine; decide), fun e he => ?_⟩
        have he0 := f1.free p1.some (g6.free g5.some he)
        have nDe : D ≠ e := ne_of_none g1 he
        refine q _ (.node c vs2) _ (.node pu g3) ((f1.trans g6).new he0) (.node upd_same (by rw [upd_ne nDe]; exact g1) he0 hD0 c1 c2 ?_) ((g5.new he).mono ?_)
        · exact (g2.same (same_new he)).weak fun b h => h.1
        · omega
end


def rowOf (par : Nat → Nat) (k i : Nat) : List Nat := (List.range k).filter fun j => decide (1 ≤ j ∧ par j = i)
def setF {α : Type} (f : Nat → α) (k : Nat) (v : α) : Nat → α := fun j => if j = k then v else f j
theorem setF_same {α : Type} {f : Nat → α} {k : Nat} {v : α} : setF f k v k = v := if_pos rfl
theorem setF_ne {α : Type} {f : Nat → α} {k j : Nat} {v : α} (h : j ≠ k) : setF f k v j = f j := if_neg h
theorem rng_set {α β : Type} (G : α → β) (f : Nat → α) (k : Nat) (v : α) : ((List.range (k + 1)).map fun j => G (setF f k v j)) = ((List.range k).map fun j => G (f j)) ++ [G v] := by
  rw [List.range_succ, List.map_append]
  refine congr (congrArg _ (List.map_congr_left fun j hj => ?_)) ?_
  · rw [setF_ne (Nat.ne_of_lt (List.mem_range.mp hj))]
  · show [G (setF f k v k)] = [G v]
    rw [setF_same]
theorem rng_get {α : Type} (F : Nat → α) {k j : Nat} (h : j < k) : ((List.range k).map F)[j]? = some (F j) := by
  rw [List.getElem?_map, List.getElem?_range h]
  rfl
theorem row_succ (par : Nat → Nat) (k h i : Nat) (hk : 1 ≤ k) : rowOf (setF par k h) (k + 1) i = rowOf par k i ++ (if i = h then [k] else []) := by
  unfold rowOf
  rw [List.range_succ, List.filter_append]
  refine congr (congrArg _ (List.filter_congr fun j hj => ?_)) ?_
  · rw [setF_ne (Nat.ne_of_lt (List.mem_range.mp hj))]
  · rw [List.filter_cons, List.filter_nil, setF_same]
    by_cases e : i = h
    · subst e
      rw [if_pos rfl, if_pos (by simpa using hk)]
    · rw [if_neg e, if_neg (by simp; intro _ z; exact e z.symm)]
theorem row_out (par : Nat → Nat) (k i : Nat) (h : ∀ j, 1 ≤ j → j < k → par j < j) (hi : k ≤ i) : rowOf par k i = [] := by
  unfold rowOf
  rw [List.filter_eq_nil_iff]
  intro j hj e
  have e' := of_decide_eq_true e
  have hj' := List.mem_range.mp hj
  have := h j e'.1 hj'
  omega
theorem row_mem {par : Nat → Nat} {k i j : Nat} (h : j ∈ rowOf par k i) : 1 ≤ j ∧ par j = i ∧ j < k := by
  unfold rowOf at h
  have a := List.mem_filter.mp h
  have b := of_decide_eq_true a.2
  exact ⟨b.1, b.2, List.mem_range.mp a.1⟩
theorem row_len (par : Nat → Nat) (k i : Nat) : (rowOf par k i).length ≤ k := by
  have := List.length_filter_le (fun j => decide (1 ≤ j ∧ par j = i)) (List.range k)
  rw [List.length_range] at this
  exact this
def tot (par f : Nat → Nat) (s : Nat) : Nat → Nat
  | 0 => 0
  | m + 1 => tot par f s m + if s ≤ m ∧ (m = 0 ∨ par m < s) then f m else 0
def rowSum (par f : Nat → Nat) (i : Nat) : Nat → Nat
  | 0 => 0
  | m + 1 => rowSum par f i m + if 1 ≤ m ∧ par m = i then f m else 0
theorem rowSum_eq (par f : Nat → Nat) (i : Nat) : ∀ m, ((rowOf par m i).map f).sum = rowSum par f i m
  | 0 => rfl
  | m + 1 => by
    have ih := rowSum_eq par f i m
    unfold rowOf at ih ⊢
    rw [List.range_succ, List.filter_append, List.map_append, List.sum_append, ih, List.filter_cons, List.filter_nil]
    by_cases e : 1 ≤ m ∧ par m = i
    · rw [if_pos (decide_eq_true e)]
      simp only [rowSum, if_pos e, List.map_cons, List.map_nil, List.sum_cons, List.sum_nil, Nat.add_zero]
    · rw [if_neg (by simpa using e)]
      simp only [rowSum, if_neg e, List.map_nil, List.sum_nil]
theorem tot_step (par f : Nat → Nat) (s g : Nat) : ∀ m, (∀ j, 1 ≤ j → j < m → par j < j) → tot par (setF f s g) s m + rowSum par f s m = tot par f (s + 1) m + if s < m then g else 0
  | 0, _ => by simp [tot, rowSum]
  | m + 1, h => by
    have ih := tot_step par f s g m fun j a b => h j a (by omega)
    have hm := h m
    simp only [tot, rowSum]
    by_cases e : m = s
    · subst e
      rw [setF_same, if_pos (show m ≤ m ∧ (m = 0 ∨ par m < m) by omega), if_neg (show ¬ (1 ≤ m ∧ par m = m) by omega), if_neg (show ¬ (m + 1 ≤ m ∧ (m = 0 ∨ par m < m + 1)) by omega), if_pos (show m < m + 1 by omega)]
      rw [if_neg (show ¬ m < m by omega)] at ih
      omega
    · rw [setF_ne e]
      split <;> split <;> split <;> split <;> (split at ih) <;> omega
theorem tot_top (par f : Nat → Nat) : ∀ m, tot par f 0 (m + 1) = f 0
  | 0 => by simp [tot]
  | m + 1 => by
    have ih := tot_top par f m
    rw [tot, ih, if_neg (by omega)]
    rfl
theorem tot_none (par f : Nat → Nat) (s : Nat) : ∀ m, m ≤ s → tot par f s m = 0
  | 0, _ => rfl
  | m + 1, h => by
    rw [tot, tot_none par f s m (by omega), if_neg (by omega)]
theorem perm_map {α β : Type} (f : α → β) {l ws : List β} (p : l.Perm ws) : ∀ {xs : List α}, l = xs.map f → ∃ us, xs.Perm us ∧ ws = us.map f := by
  induction p with
  | nil =>
    intro xs e
    exact ⟨xs, .refl _, e⟩
  | cons x _ ih =>
    intro xs e
    cases xs with
    | nil => cases e
    | cons a r =>
      rw [List.map_cons] at e
      injection e with e1 e2
      obtain ⟨us, h1, h2⟩ := ih e2
      exact ⟨a :: us, h1.cons a, by rw [h2, e1, List.map_cons]⟩
  | swap x y l =>
    intro xs e
    match xs, e with
    | a :: b :: r, e =>
      simp only [List.map_cons, List.cons.injEq] at e
      exact ⟨b :: a :: r, .swap _ _ _, by simp only [List.map_cons, e.1, e.2.1, e.2.2]⟩
  | trans _ _ ih1 ih2 =>
    intro xs e
    obtain ⟨us, h1, h2⟩ := ih1 e
    obtain ⟨ws, h3, h4⟩ := ih2 h2
    exact ⟨ws, h1.trans h3, h4⟩
theorem trs_map {ok : Addr → Prop} {H : Hp} (tv : Nat → V) (tt : Nat → Tr) : ∀ {us : List Nat}, (∀ c ∈ us, TrAt ok H (tv c) (tt c)) → TrsAt ok H (us.map tv) (us.map tt)
  | [], _ => .nil
  | c :: r, h => .cons (h c List.mem_cons_self) (trs_map tv tt fun d hd => h d (List.mem_cons_of_mem _ hd))
theorem sizes_map (tt : Nat → Tr) : ∀ us : List Nat, sizes (us.map tt) = (us.map fun c => (tt c).size).sum
  | [] => rfl
  | c :: r => by simp only [List.map_cons, sizes, List.sum_cons, sizes_map tt r]
theorem depths_map (tt : Nat → Tr) (b : Nat) : ∀ us : List Nat, (∀ c ∈ us, (tt c).depth ≤ b) → depths (us.map tt) ≤ b
  | [], _ => Nat.zero_le _
  | c :: r, h => by
    have h1 := h c List.mem_cons_self
    have h2 := depths_map tt b r fun d hd => h d (List.mem_cons_of_mem _ hd)
    simp only [List.map_cons, depths]
    omega
theorem letss_map {p : Nat → Prop} (tt : Nat → Tr) : ∀ us : List Nat, (∀ c ∈ us, (tt c).lets p) → letss p (us.map tt)
  | [], _ => trivial
  | c :: r, h => by
    simp only [List.map_cons, letss]
    exact ⟨h c List.mem_cons_self, letss_map tt r fun d hd => h d (List.mem_cons_of_mem _ hd)⟩
theorem sum_perm {a b : List Nat} (p : a.Perm b) : a.sum = b.sum := by
  induction p with
  | nil => rfl
  | cons x _ ih => simp only [List.sum_cons, ih]
  | swap x y l => simp only [List.sum_cons]; omega
  | trans _ _ h1 h2 => exact h1.trans h2
theorem rep_rng {α : Type} (x : α) : ∀ k : Nat, (List.replicate k [x]).flatten = (List.range k).map fun _ => x
  | 0 => rfl
  | k + 1 => by
    rw [List.replicate_succ', List.flatten_append, rep_rng x k, List.range_succ, List.map_append]
    rfl
theorem ixN_nat {n k : Nat} (h : k < n) : ixN n (k : Int) = some k := by
  unfold ixN
  rw [if_pos (by omega), if_pos (by omega)]
  simp
theorem set_rng {α : Type} {F F' : Nat → α} {n k : Nat} {v : α} (h : ∀ j, j < n → j ≠ k → F j = F' j) (hk : F' k = v) : ((List.range n).map F).set k v = (List.range n).map F' := by
  refine List.ext_getElem? fun j => ?_
  rw [List.getElem?_set]
  by_cases hj : j < n
  · by_cases e : k = j
    · subst e
      rw [if_pos rfl, if_pos (by rw [List.length_map, List.length_range]; exact hj), rng_get _ hj, hk]
    · rw [if_neg e, rng_get _ hj, rng_get _ hj, h j hj (fun z => e z.symm)]
  · have o1 : ((List.range n).map F)[j]? = none := List.getElem?_eq_none_iff.mpr (by rw [List.length_map, List.length_range]; omega)
    have o2 : ((List.range n).map F')[j]? = none := List.getElem?_eq_none_iff.mpr (by rw [List.length_map, List.length_range]; omega)
    rw [o1, o2]
    split
    · rw [if_neg (by rw [List.length_map, List.length_range]; omega)]
    · rfl
theorem setF_size (tt : Nat → Tr) (k : Nat) (u : Tr) : (fun j => (setF tt k u j).size) = setF (fun j => (tt j).size) k u.size := by
  funext j
  unfold setF
  split <;> rfl
structure Rows (H0 H' : Hp) (p ro de : Addr) (n k : Nat) (par dep : Nat → Nat) (ad : Nat → Addr) : Prop where
  fr : Fr p H0 H'
  pool : Pool H' p n
  ro_ : H' ro = some (.lst ((List.range k).map fun j => V.ref (ad j)))
  de_ : H' de = some (.lst ((List.range k).map fun j => V.int (dep j : Nat)))
  row : ∀ j, j < k → H' (ad j) = some (.lst ((rowOf par k j).map fun i : Nat => V.int (i : Nat)))
  new : H0 ro = none ∧ H0 de = none ∧ ro ≠ de
  off : ∀ j, j < k → H0 (ad j) = none ∧ ad j ≠ ro ∧ ad j ≠ de
  inj : ∀ i j, i < k → j < k → ad i = ad j → i = j
  par_ : ∀ j, 1 ≤ j → j < k → par j < j ∧ dep j = dep (par j) + 1
  dep_ : ∀ j, j < k → 1 ≤ dep j ∧ dep j ≤ 30
  dep0 : dep 0 = 1
theorem Rows.go {H0 H' H2 : Hp} {p ro de : Addr} {n n2 k : Nat} {par dep : Nat → Nat} {ad : Nat → Addr} (R : Rows H0 H' p ro de n k par dep ad) (hp : H0 p ≠ none) (f : Fr p H' H2) (p2 : Pool H2 p n2) : Rows H0 H2 p ro de n2 k par dep ad := by
  have np : ∀ b, H0 b = none → b ≠ p := fun b h e => hp (by rw [← e]; exact h)
  exact ⟨R.fr.trans f, p2, f _ _ (np _ R.new.1) R.ro_, f _ _ (np _ R.new.2.1) R.de_, fun j hj => f _ _ (np _ (R.off j hj).1) (R.row j hj), R.new, R.off, R.inj, R.par_, R.dep_, R.dep0⟩
theorem Rows.step {H0 H' : Hp} {p ro de b : Addr} {n k h : Nat} {par dep : Nat → Nat} {ad : Nat → Addr} (R : Rows H0 H' p ro de n k par dep ad) (hp : H0 p ≠ none) (hk : 1 ≤ k) (hh : h < k) (hd : dep h ≤ 29)
    (hb : (upd H' (ad h) (.lst (((rowOf par k h).map fun i : Nat => V.int (i : Nat)) ++ [V.int (k : Nat)]))) b = none) :
    Rows H0 (upd (upd (upd (upd H' (ad h) (.lst (((rowOf par k h).map fun i : Nat => V.int (i : Nat)) ++ [V.int (k : Nat)]))) b (.lst [])) ro (.lst (((List.range k).map fun j => V.ref (ad j)) ++ [V.ref b]))) de (.lst (((List.range k).map fun j => V.int (dep j : Nat)) ++ [V.int ((dep h + 1 : Nat) : Int)])))
      p ro de n (k + 1) (setF par k h) (setF dep k (dep h + 1)) (setF ad k b) := by
  have np : ∀ b, H0 b = none → b ≠ p := fun b h e => hp (by rw [← e]; exact h)
  obtain ⟨n1, n2, n3⟩ := R.new
  have nah := R.off h hh
  have nb1 : b ≠ ad h := fun e => by rw [e, upd_same] at hb; cases hb
  have hb' : H' b = none := by rw [upd_ne nb1] at hb; exact hb
  have hb0 : H0 b = none := R.fr.free R.pool.some hb'
  have nbr : b ≠ ro := fun e => by rw [e, R.ro_] at hb'; cases hb'
  have nbd : b ≠ de := fun e => by rw [e, R.de_] at hb'; cases hb'
  have nba : ∀ j, j < k → b ≠ ad j := fun j hj e => by rw [e, R.row j hj] at hb'; cases hb'
  refine ⟨?_, ?_, ?_, ?_, fun j hj => ?_, R.new, fun j hj => ?_, fun i j hi hj e => ?_, fun j h1 hj => ?_, fun j hj => ?_, ?_⟩
  · intro c o hc e
    rw [upd_ne (ne_of_none e n2), upd_ne (ne_of_none e n1), upd_ne (ne_of_none e hb0), upd_ne (ne_of_none e nah.1)]
    exact R.fr c o hc e
  · exact (((R.pool.upd (np _ nah.1)).upd (np _ hb0)).upd (np _ n1)).upd (np _ n2)
  · rw [upd_ne n3, upd_same, rng_set V.ref]
  · rw [upd_same, rng_set (fun d : Nat => V.int (d : Nat))]
  · by_cases e : j = k
    · subst e
      rw [setF_same, upd_ne nbd, upd_ne nbr, upd_same, row_succ _ _ _ _ hk, if_neg (by omega), row_out par j j (fun i a c => (R.par_ i a c).1) (Nat.le_refl _)]
      rfl
    · have hj' : j < k := by omega
      have o := R.off j hj'
      rw [setF_ne e, upd_ne o.2.2, upd_ne o.2.1, upd_ne (fun z => nba j hj' z.symm), row_succ _ _ _ _ hk]
      by_cases ej : j = h
      · subst ej
        rw [upd_same, if_pos rfl, List.map_append]
        rfl
      · rw [upd_ne (fun z => ej (R.inj j h hj' hh z)), if_neg ej, List.append_nil]
        exact R.row j hj'
  · by_cases e : j = k
    · subst e
      rw [setF_same]
      exact ⟨hb0, nbr, nbd⟩
    · rw [setF_ne e]
      exact R.off j (by omega)
  · by_cases e1 : i = k
    · by_cases e2 : j = k
      · omega
      · rw [e1, setF_same, setF_ne e2] at e
        exact absurd e (nba j (by omega))
    · by_cases e2 : j = k
      · rw [e2, setF_same, setF_ne e1] at e
        exact absurd e.symm (nba i (by omega))
      · rw [setF_ne e1, setF_ne e2] at e
        exact R.inj i j (by omega) (by omega) e
  · by_cases e : j = k
    · subst e
      rw [setF_same, setF_same, setF_ne (by omega)]
      exact ⟨hh, rfl⟩
    · have q := R.par_ j h1 (by omega)
      rw [setF_ne e, setF_ne e, setF_ne (by omega)]
      exact q
  · by_cases e : j = k
    · subst e
      rw [setF_same]
      omega
    · rw [setF_ne e]
      exact R.dep_ j (by omega)
  · rw [setF_ne (by omega)]
    exact R.dep0
def sp__law_grown : Sp := fun vs H Q _ => ∃ (p : Addr) (n : Nat) (m : Nat) (L : Str), vs = [.ref p, .int m, .str L] ∧ Pool H p n ∧ n + 20000 < 1000000 ∧ 1 ≤ m ∧ m ≤ 100 ∧ Lets L ∧
  ∀ r t H', t.size ≤ m → t.depth ≤ 30 → t.lets (fun c => c ∈ L.cps.toList) → Fr p H H' → TrAt (fun b => H b = none) H' r t → Pool H' p (n + 20000) → Q r H'
section
variable {P : Program} {w : World} {K : PySem.W.Frag} {mg : Str → Option Value} {base : Heap}
theorem ok__law_grown (T : Txt K mg) : FnOk P w K mg base CX0 3 T.f__law_grown T.d__law_grown ["pool", "most", "letters"] sp__law_grown := by
  have G__law_take : FnOk P w K mg base CX0 1 T.f__law_take T.d__law_take ["pool", "many"] sp__law_take := ok__law_take T
  have G__law_mixed_up : FnOk P w K mg base CX0 2 T.f__law_mixed_up T.d__law_mixed_up ["pool", "things"] (sp__law_mixed_up K) := ok__law_mixed_up T
  refine T.F__law_grown.ok sc__law_grown (fun vs H Q E h => ?_) (fun cdv A outer s H vs Q E hr h => ?_)
  · obtain ⟨p, n, m, L, rfl, _⟩ := h
    rfl
  obtain ⟨p, n, m, L, rfl, hp, hn, hm0, hm1, hL, q⟩ := h
  refine ⟨_, (pss_cons (ps_set (i := 3) sc__law_grown.nd rfl (Or.inl rfl) (pe_op op_add pe_int (pe_ix ix_list (pe_lst (pa_cons (pe_call G__law_take (hr.mono (by omega)) (by rfl) T.m__law_take T.F__law_take.kp T.b__law_take .nil pass0 (pa_cons (pv 0) (pa_cons (pe_callB (call_min2 rfl) (by rfl) T.z_min (by decide +kernel) (pa_cons (pv 1) (pa_cons pe_int pa_nil))) pa_nil))) (pa_cons (pe_call G__law_take (hr.mono (by omega)) (by rfl) T.m__law_take T.F__law_take.kp T.b__law_take .nil pass0 (pa_cons (pv 0) (pa_cons (pv 1) pa_nil))) pa_nil))) (pe_call G__law_take (hr.mono (by omega)) (by rfl) T.m__law_take T.F__law_take.kp T.b__law_take .nil pass0 (pa_cons (pv 0) (pa_cons pe_int pa_nil))) (fun _ _ => rfl)))) (pss_cons (ps_set (i := 4) sc__law_grown.nd rfl (Or.inl rfl) (pe_call G__law_take (hr.mono (by omega)) (by rfl) T.m__law_take T.F__law_take.kp T.b__law_take .nil pass0 (pa_cons (pv 0) (pa_cons pe_int pa_nil)))) (pss_cons (ps_set (i := 5) sc__law_grown.nd rfl (Or.inl rfl) (pe_lst (pa_cons pe_int pa_nil))) (pss_cons (ps_set (i := 6) sc__law_grown.nd rfl (Or.inl rfl) (pe_lst (pa_cons (pe_lst pa_nil) pa_nil))) (pss_cons (ps_for PassesOwn.never rfl (pi_range2 (by rfl) T.z_range (pa_cons pe_int (pa_cons (pv 3) pa_nil))) (pg_name (i := 7) sc__law_grown.nd rfl (Or.inl rfl)) (pss_cons (ps_set (i := 8) sc__law_grown.nd rfl (Or.inl rfl) (pe_ix ix_list (pe_lst (pa_cons (pe_call G__law_take (hr.mono (by omega)) (by rfl) T.m__law_take T.F__law_take.kp T.b__law_take .nil pass0 (pa_cons (pv 0) (pa_cons (pv 7) pa_nil))) (pa_cons (pe_op op_sub (pv 7) pe_int) (pa_cons (pe_call G__law_take (hr.mono (by omega)) (by rfl) T.m__law_take T.F__law_take.kp T.b__law_take .nil pass0 (pa_cons (pv 0) (pa_cons (pe_callB (call_min2 rfl) (by rfl) T.z_min (by decide +kernel) (pa_cons (pv 7) (pa_cons pe_int pa_nil))) pa_nil))) pa_nil)))) (pv 4) (fun _ _ => rfl))) (C8.pss_cut (ps_if (pt_cmpR op_gt (pe_ix ix_list (pv 5) (pv 8) (fun _ _ => rfl)) pe_int (nomark _)) (pss_one (ps_set (i := 8) sc__law_grown.nd rfl (Or.inl rfl) pe_int)) pss_nil) (pss_cons (ps_expr (pe_bm PySem.F.plainAttrs_list PySem.F.slot_list_append PySem.F.type_list_append mt_append (pe_ix ix_list (pv 6) (pv 8) (fun _ _ => rfl)) (pa_cons (pv 7) pa_nil))) (pss_cons (ps_expr (pe_bm PySem.F.plainAttrs_list PySem.F.slot_list_append PySem.F.type_list_append mt_append (pv 6) (pa_cons (pe_lst pa_nil) pa_nil))) (pss_one (ps_expr (pe_bm PySem.F.plainAttrs_list PySem.F.slot_list_append PySem.F.type_list_append mt_append (pv 5) (pa_cons (pe_op op_add (pe_ix ix_list (pv 5) (pv 8) (fun _ _ => rfl)) pe_int) pa_nil))))))))) (pss_cons (ps_set (i := 9) sc__law_grown.nd rfl (Or.inr rfl) (pe_op op_rep (pe_lst (pa_cons pe_non pa_nil)) (pv 3))) (pss_cons (ps_for PassesOwn.never rfl (pi_range3 (by rfl) T.z_range (pa_cons (pe_op op_sub (pv 3) pe_int) (pa_cons (pe_un un_neg pe_int) (pa_cons (pe_un un_neg pe_int) pa_nil)))) (pg_name (i := 7) sc__law_grown.nd rfl (Or.inl rfl)) (pss_cons (ps_setLc (i := 10) (own := [("child", 11)]) (g := gName 11) (te := tOp (rIxL K) (tVar 9) (tVar 11)) (tt := tYes) rfl sc__law_grown.nd rfl rfl (sw_true rfl rfl rfl (by decide +kernel)) (pi_list (pe_call G__law_mixed_up (hr.mono (by omega)) (by rfl) T.m__law_mixed_up T.F__law_mixed_up.kp T.b__law_mixed_up .nil pass0 (pa_cons (pv 0) (pa_cons (pe_ix ix_list (pv 6) (pv 7) (fun _ _ => rfl)) pa_nil)))) (blkOk_by (own := [("child", 11)]) (N := ["pool", "most", "letters", "many", "way", "depths", "rows", "k", "head", "trees", "children", "child"]) (sc := (defScope s__law_grown)) (by decide +kernel)) (fun _ _ _ _ _ => (pg_name (i := 11) sc__law_grown.nd rfl (Or.inl rfl))) (fun _ _ _ _ _ => pts_nil) (fun _ _ _ _ _ => (pe_ix ix_list (pv 9) (pv 11) (fun _ _ => rfl)))) (pss_one (ps_asg (pe_tup (pa_cons (pe_ix ix_str (pv 2) (pe_call G__law_take (hr.mono (by omega)) (by rfl) T.m__law_take T.F__law_take.kp T.b__law_take .nil pass0 (pa_cons (pv 0) (pa_cons (pe_callB call_len_str (by rfl) T.z_len PySem.boot_len (pa_cons (pv 2) pa_nil)) pa_nil))) (fun _ _ => rfl)) (pa_cons (pv 10) pa_nil))) (pg_sub (pv 9) (pv 7) set_list))))) (pss_one (ps_ret (pe_ix ix_list (pv 9) pe_int (fun _ _ => rfl))))))))))), ?_⟩
  refine ⟨_, rfl, _, rfl, m, 7, rfl, p, _, n, rfl, hp, by omega, ?_, ?_, fun r1 H1 a0 a1 c1 p1 => ?_⟩
  · split <;> omega
  · split <;> omega
  refine ⟨_, rfl, _, rfl, p, m, n + 1, rfl, p1, by omega, by omega, by omega, fun r2 H2 b0 b1 c2 p2 => ?_⟩
  refine ⟨(by show 2 ≤ sizeLine; decide), fun l1 hl1 => ?_⟩
  refine ⟨_, rfl, p, 2, n + 2, rfl, p2.new hl1, by omega, by decide, by decide, fun r3 H3 d0 d1 c3 p3 => ?_⟩
  have nl1 : l1 ≠ p := p2.ne' hl1
  have hl3 := c3.at (upd_same (H := H2) (a := l1) (o := .lst [.int r1, .int r2])) nl1
  obtain ⟨many, hmany, hmv⟩ : ∃ many : Nat, (1 ≤ many ∧ many ≤ m) ∧ ∃ z : Int, atI [V.int r1, V.int r2] r3 = some (.int z) ∧ 1 + z = (many : Int) := by
    have a1' : r1 < m := by
      have := a1
      split at this <;> omega
    by_cases e : r3 = 0
    · subst e
      exact ⟨(1 + r1).toNat, by omega, r1, atI_nat (j := 0) rfl, by omega⟩
    · have e1 : r3 = 1 := by omega
      subst e1
      exact ⟨(1 + r2).toNat, by omega, r2, atI_nat (j := 1) rfl, by omega⟩
  obtain ⟨z, hz, hzm⟩ := hmv
  refine ⟨l1, _, r3, _, rfl, rfl, SqL.of hl3, hz, 1, z, rfl, rfl, ?_⟩
  have f3 : Fr p H H3 := (((Fr.chg c1).trans (Fr.chg c2)).new (by
    have := (c1.trans c2) l1 nl1
    rw [hl1] at this
    exact this.symm)).trans (Fr.chg c3)
  refine ⟨_, rfl, p, 3, n + 3, rfl, p3, by omega, by decide, by decide, fun way H4 w0 w1 c4 p4 => ?_⟩
  refine ⟨(by show 1 ≤ sizeLine; decide), fun de hde => ?_⟩
  refine ⟨(by show 0 ≤ sizeLine; decide), fun a0_ ha0 => ⟨(by show 1 ≤ sizeLine; decide), fun ro hro => ?_⟩⟩
  have n0 : H4 de = none := hde
  have na0 : a0_ ≠ de := fun e => by rw [e, upd_same] at ha0; cases ha0
  have ha0' : H4 a0_ = none := by rw [upd_ne na0] at ha0; exact ha0
  have nro1 : ro ≠ a0_ := fun e => by rw [e, upd_same] at hro; cases hro
  have hro1 := hro
  rw [upd_ne nro1] at hro1
  have nro2 : ro ≠ de := fun e => by rw [e, upd_same] at hro1; cases hro1
  rw [upd_ne nro2] at hro1
  have f4 : Fr p H H4 := f3.trans (Fr.chg c4)
  have e0 : ∀ {b}, H4 b = none → H b = none := fun h => f4.free p4.some h
  have hps : H p ≠ none := hp.some
  have np : ∀ b, H b = none → b ≠ p := fun b h e => hps (by rw [← e]; exact h)
  have R0 : Rows H (upd (upd (upd H4 de (.lst [V.int 1])) a0_ (.lst [])) ro (.lst [V.ref a0_])) p ro de (n + 4) 1 (fun _ => 0) (fun _ => 1) (fun _ => a0_) := by
    refine ⟨((f4.new (e0 hde)).new (e0 ha0')).new (e0 hro1), ?_, upd_same, by rw [upd_ne (fun e => nro2 e.symm), upd_ne (fun e => na0 e.symm)]; exact upd_same, fun j hj => ?_, ⟨e0 hro1, e0 hde, nro2⟩, fun j hj => ⟨e0 ha0', fun e => nro1 e.symm, na0⟩, fun i j hi hj _ => by omega, fun j h1 h2 => by omega, fun j hj => ⟨Nat.le_refl _, by decide⟩, rfl⟩
    · exact ((p4.upd (np _ (e0 hde))).upd (np _ (e0 ha0'))).upd (np _ (e0 hro1))
    · rw [upd_ne (fun e => nro1 e.symm)]
      exact upd_same
  refine ⟨_, rfl, 1, many, congrArg (fun x => [V.int 1, V.int x]) hzm, ⟨by decide, by decide, by omega, by omega⟩, for_range (lo := 1) (n := ((many : Int) - 1).toNat)
    (fun i σ H' => ∃ par dep ad y7 y8 y9 y10 y11, σ = [some (.ref p), some (.int m), some (.str L), some (.int many), some (.int way), some (.ref de), some (.ref ro), y7, y8, y9, y10, y11] ∧ Rows H H' p ro de (n + 4 + 2 * i) (1 + i) par dep ad)
    ⟨_, _, _, none, none, none, none, none, by rw [← hzm]; rfl, R0⟩ ?_ ?_⟩
  · rintro i σ H5 hi ⟨par, dep, ad, y7, y8, y9, y10, y11, rfl, R⟩
    have hk : 1 + i < many := by omega
    rw [show (1 : Int) + (i : Int) = ((1 + i : Nat) : Int) by omega]
    refine ⟨_, rfl, _, rfl, p, _, _, rfl, R.pool, by omega, by omega, by omega, fun s1 H6 a0 a1 c6 p6 => ?_⟩
    refine ⟨_, rfl, _, 1, rfl, rfl, _, rfl, _, rfl, _, 3, rfl, p, _, _, rfl, p6, by omega, ?_, ?_, fun s2 H7 b0 b1 c7 p7 => ?_⟩
    · split <;> omega
    · split <;> omega
    refine ⟨(by show 3 ≤ sizeLine; decide), fun e he => ?_⟩
    obtain ⟨hd, hdk, hdv⟩ : ∃ hd : Nat, hd < 1 + i ∧ atI [V.int s1, V.int (((1 + i : Nat) : Int) - 1), V.int s2] way = some (.int (hd : Nat)) := by
      have b1' : s2 < ((1 + i : Nat) : Int) := by
        have := b1
        split at this <;> omega
      obtain rfl | rfl | rfl : way = 0 ∨ way = 1 ∨ way = 2 := by omega
      · exact ⟨s1.toNat, by omega, at_of (j := 0) rfl (congrArg (fun z => some (V.int z)) (show s1 = ((s1.toNat : Nat) : Int) by omega))⟩
      · exact ⟨i, by omega, at_of (j := 1) rfl (congrArg (fun z => some (V.int z)) (show ((1 + i : Nat) : Int) - 1 = (i : Int) by omega))⟩
      · exact ⟨s2.toNat, by omega, at_of (j := 2) rfl (congrArg (fun z => some (V.int z)) (show s2 = ((s2.toNat : Nat) : Int) by omega))⟩
    have R7 : Rows H (upd H7 e (.lst [V.int s1, V.int (((1 + i : Nat) : Int) - 1), V.int s2])) p ro de (n + 4 + 2 * i + 2) (1 + i) par dep ad :=
      R.go hps ((Fr.chg (c6.trans c7)).new (by
        have := (c6.trans c7) e (p7.ne' he)
        rw [he] at this
        exact this.symm)) (p7.new he)
    refine ⟨_, rfl, e, _, way, _, rfl, rfl, SqL.of upd_same, hdv, ?_⟩
    generalize (upd H7 e (.lst [V.int s1, V.int (((1 + i : Nat) : Int) - 1), V.int s2])) = H8 at R7
    refine ⟨fun σ' H' => ∃ hd : Nat, hd < 1 + i ∧ dep hd ≤ 29 ∧ H' = H8 ∧ σ' = [some (.ref p), some (.int m), some (.str L), some (.int many), some (.int way), some (.ref de), some (.ref ro), some (.int ((1 + i : Nat) : Int)), some (.int (hd : Nat)), y9, y10, y11], ?_, ?_⟩
    · refine ⟨_, rfl, _, rfl, de, _, hd, _, rfl, rfl, SqL.of R7.de_, at_of (j := hd) rfl (rng_get _ hdk), _, 29, rfl, rfl, _, rfl, ?_⟩
      refine ite2 (fun c => ?_) (fun c => ?_)
      · exact ⟨0, by omega, by rw [R7.dep0]; decide, rfl, rfl⟩
      · have c' : ¬ (29 : Int) < (dep hd : Nat) := of_decide_eq_false (Bool.eq_false_iff.mpr c)
        exact ⟨hd, hdk, by omega, rfl, rfl⟩
    · rintro σ' H' ⟨hd, hdk, hd29, rfl, rfl⟩
      have rl := row_len par (1 + i) hd
      refine ⟨_, rfl, _, rfl, ro, _, hd, _, rfl, rfl, SqL.of R7.ro_, at_of (j := hd) rfl (rng_get _ hdk), .inl ⟨rfl, _, SqL.of (R7.row hd hdk)⟩, _, rfl, ad hd, _, _, rfl, rfl, R7.row hd hdk, ?_, ?_⟩
      · rw [List.length_map]
        exact small1000 (by omega)
      have o := R7.off hd hdk
      have hro9 : (upd H' (ad hd) (.lst (((rowOf par (1 + i) hd).map fun i : Nat => V.int (i : Nat)) ++ [V.int ((1 + i : Nat) : Int)]))) ro = some (.lst ((List.range (1 + i)).map fun j => V.ref (ad j))) := by
        rw [upd_ne (fun z => o.2.1 z.symm)]
        exact R7.ro_
      refine ⟨_, rfl, .inl ⟨rfl, _, SqL.of hro9⟩, (by show 0 ≤ sizeLine; decide), fun b hb => ?_⟩
      have nrb : ro ≠ b := ne_of_none hro9 hb
      refine ⟨ro, _, .ref b, rfl, rfl, by rw [upd_ne nrb]; exact hro9, by rw [List.length_map, List.length_range]; exact small1000 (by omega), ?_⟩
      have hde9 : (upd H' (ad hd) (.lst (((rowOf par (1 + i) hd).map fun i : Nat => V.int (i : Nat)) ++ [V.int ((1 + i : Nat) : Int)]))) de = some (.lst ((List.range (1 + i)).map fun j => V.int (dep j : Nat))) := by
        rw [upd_ne (fun z => o.2.2 z.symm)]
        exact R7.de_
      have hde10 : ∀ o1 o2, (upd (upd (upd H' (ad hd) (.lst (((rowOf par (1 + i) hd).map fun i : Nat => V.int (i : Nat)) ++ [V.int ((1 + i : Nat) : Int)]))) b o1) ro o2) de = some (.lst ((List.range (1 + i)).map fun j => V.int (dep j : Nat))) := fun o1 o2 => by
        rw [upd_ne (fun z => R7.new.2.2 z.symm), upd_ne (ne_of_none hde9 hb)]
        exact hde9
      refine ⟨_, rfl, .inl ⟨rfl, _, SqL.of (hde10 _ _)⟩, _, rfl, _, rfl, de, _, hd, _, rfl, rfl, SqL.of (hde10 _ _), at_of (j := hd) rfl (rng_get _ hdk), _, 1, rfl, rfl, de, _, _, rfl, rfl, hde10 _ _, by rw [List.length_map, List.length_range]; exact small1000 (by omega), ?_⟩
      have R8 := R7.step hps (by omega) hdk hd29 hb
      exact ⟨_, _, _, _, _, _, _, _, rfl, R8⟩
  · rintro σ H5 ⟨par, dep, ad, y7, y8, y9, y10, y11, rfl, R⟩
    have ek : 1 + ((many : Int) - 1).toNat = many := by omega
    rw [ek] at R
    refine ⟨(by show 1 ≤ sizeLine; decide), fun t0 ht0 => ⟨_, rfl, t0, many, [.non], rfl, rfl, upd_same, by omega, by omega, Nat.le_trans (show 1 * (many : Int).toNat ≤ 1000 by omega) (by decide), fun tr htr => ?_⟩⟩
    have nt : tr ≠ t0 := fun e => by rw [e, upd_same] at htr; cases htr
    have htr5 : H5 tr = none := by rw [upd_ne nt] at htr; exact htr
    have htr0 : H tr = none := R.fr.free R.pool.some htr5
    have ntp : tr ≠ p := np _ htr0
    refine ⟨_, rfl, _, 1, rfl, rfl, _, rfl, _, rfl, (many : Int) - 1, -1, -1, many, rfl, ?_, for_rangeC (lo := (many : Int) - 1) (c := -1) (n := many)
      (fun i σ H' => ∃ tv tt y7 y8 y10 y11, σ = [some (.ref p), some (.int m), some (.str L), some (.int many), some (.int way), some (.ref de), some (.ref ro), y7, y8, some (.ref tr), y10, y11] ∧
        H' tr = some (.lst ((List.range many).map fun j => if many - i ≤ j then tv j else .non)) ∧ (∀ j, many - i ≤ j → j < many → TrAt (fun b => H b = none ∧ b ≠ tr) H' (tv j) (tt j) ∧ (tt j).depth + dep j ≤ 31 ∧ (tt j).lets (fun c => c ∈ L.cps.toList)) ∧
        tot par (fun j => (tt j).size) (many - i) many = i ∧ Fr p H5 H' ∧ Pool H' p (n + 300 + 101 * i))
      ⟨fun _ => .non, fun _ => .node 97 [], _, _, _, _, rfl, ?_, fun j h1 h2 => by omega, tot_none _ _ _ _ (by omega), ((Fr.refl p H5).new (by exact ht0)).new htr5, ((R.pool.new ht0).new htr).mono (by omega)⟩ ?_ ?_⟩
    · have e := RgC.neg (i := (many : Int) - 1) (j := -1) (by omega) (by omega) (by omega) (by omega)
      rw [show ((many : Int) - 1 - -1).toNat = many by omega] at e
      exact e
    · rw [upd_same, show (many : Int).toNat = many by omega, rep_rng]
      refine congrArg (fun z => some (HO.lst z)) (List.map_congr_left fun j hj => ?_)
      rw [if_neg (by have := List.mem_range.mp hj; omega)]
    · rintro i σ H6 hi ⟨tv, tt, y7, y8, y10, y11, rfl, hT, hTr, hTot, f6, p6⟩
      obtain ⟨k, hk⟩ : ∃ k : Nat, k + 1 + i = many := ⟨many - 1 - i, by omega⟩
      rw [show (many : Int) - 1 + (i : Int) * -1 = (k : Int) by omega]
      have R6 := R.go hps f6 p6
      have hkm : k < many := by omega
      have rl := row_len par many k
      refine ⟨_, rfl, _, rfl, _, rfl, ro, _, k, _, rfl, rfl, SqL.of R6.ro_, at_of (j := k) rfl (rng_get _ hkm), p, ad k, _, _, rfl, p6, by rw [List.length_map]; omega, SqL.of (R6.row k hkm), ?_, fun mm ws H7 pw m0 f7 hm p7 => ?_⟩
      · intro H' f v hv
        obtain ⟨c, _, rfl⟩ := List.mem_map.mp hv
        exact datOk_int _
      obtain ⟨us, pu, rfl⟩ := perm_map _ pw rfl
      have lu : us.length = (rowOf par many k).length := pu.length_eq.symm
      have mem : ∀ c ∈ us, 1 ≤ c ∧ par c = k ∧ c < many ∧ k < c := fun c hc => by
        have a := row_mem (pu.mem_iff.mpr hc)
        have b := (R.par_ c a.1 a.2.2).1
        omega
      refine ⟨mm, rfl, ⟨_, SqL.of hm⟩, fun D hD => ?_⟩
      have hD6 : H6 D = none := f7.free p7.some hD
      have hD0 : H D = none := R6.fr.free p6.some hD6
      have nDt : D ≠ tr := fun e => by rw [e, hT] at hD6; cases hD6
      have hT7 := f7 _ _ ntp hT
      have nmD : mm ≠ D := ne_of_none hm hD
      refine lc_list (xs := us.map fun i : Nat => V.int (i : Nat)) (fun j H8 => H8 = upd H7 D (.lst ((us.take j).map tv))) rfl (fun j H8 _ e => by rw [e]; exact SqL.of (by rw [upd_ne nmD]; exact hm)) ?_ ?_
      · rintro j x H8 hx rfl
        rw [List.getElem?_map] at hx
        cases hc : us[j]? with
        | none => rw [hc] at hx; cases hx
        | some c =>
          rw [hc] at hx
          cases hx
          have hcm := mem c (List.mem_of_getElem? hc)
          have hg : ((List.range many).map fun j => if many - i ≤ j then tv j else .non)[c]? = some (tv c) := by
            rw [rng_get _ hcm.2.2.1, if_pos (by omega)]
          refine ⟨rfl, _, rfl, _, rfl, tr, _, c, tv c, rfl, rfl, SqL.of (by rw [upd_ne (fun z => nDt z.symm)]; exact hT7), at_of (j := c) rfl hg, _, upd_same, ?_, ?_⟩
          · rw [List.length_map, List.length_take]
            exact small1000 (by omega)
          · rw [upd_upd, take_succ_of hc, List.map_append]
            rfl
      · rintro H8 rfl
        rw [List.length_map, List.take_length]
        have hT8 : (upd H7 D (.lst (us.map tv))) tr = some (.lst ((List.range many).map fun j => if many - i ≤ j then tv j else .non)) := by
          rw [upd_ne (fun z => nDt z.symm)]
          exact hT7
        have hLs : L.cps.toList.length = L.length := by
          show L.cps.toList.length = L.cps.size
          exact Array.length_toList
        have p8 : Pool (upd H7 D (.lst (us.map tv))) p _ := p7.new hD
        refine ⟨_, rfl, _, rfl, _, rfl, L, rfl, Nat.le_trans hL.2.1 (by decide), p, _, _, rfl, p8, by rw [List.length_map]; omega, by have := hL.1; omega, by have := hL.2.1; omega, fun r H9 r0 r1 c9 p9 => ?_⟩
        obtain ⟨rn, rfl⟩ : ∃ rn : Nat, r = (rn : Int) := ⟨r.toNat, by omega⟩
        have hrn : rn < L.cps.toList.length := by rw [hLs]; omega
        obtain ⟨c, hc⟩ : ∃ c, L.cps.toList[rn]? = some c := ⟨_, List.getElem?_eq_getElem hrn⟩
        have cL := hL.2.2 c (List.mem_of_getElem? hc)
        refine ⟨L, rn, c, rfl, rfl, Nat.le_trans hL.2.1 (by decide), atI_nat hc, _, rfl, (by show 2 ≤ sizeLine; decide), fun g hg => ?_⟩
        have hT9 := c9.at hT8 ntp
        have ngt : g ≠ tr := fun e => by rw [e, hT9] at hg; cases hg
        have f9 : Fr p H6 H9 := (f7.new hD6).trans (Fr.chg c9)
        have hg6 : H6 g = none := f9.free p9.some hg
        have hg0 : H g = none := R6.fr.free p6.some hg6
        have hD9 : H9 D = some (.lst (us.map tv)) := c9.at upd_same (np _ hD0)
        have nDg : D ≠ g := ne_of_none hD9 hg
        refine ⟨_, rfl, _, rfl, tr, _, k, k, rfl, rfl, by rw [upd_ne (fun z => ngt z.symm)]; exact hT9, ixN_nat (by rw [List.length_map, List.length_range]; exact hkm), ?_⟩
        have keep : ∀ v t, TrAt (fun b => H b = none ∧ b ≠ tr) H6 v t → ∀ o, TrAt (fun b => H b = none ∧ b ≠ tr) (upd (upd H9 g (.tup [.str (ch c), .ref D])) tr o) v t := fun v t h o =>
          ((h.keep fun b o k e => f9 b o (np b k.1) e).same (same_new hg)).keep (upd_keep fun b k => k.2)
        refine ⟨setF tv k (.ref g), setF tt k (.node c (us.map tt)), _, _, _, _, rfl, ?_, ?_, ?_, ?_, ?_⟩
        · rw [upd_same]
          refine congrArg (fun z => some (HO.lst z)) (set_rng (fun j hj ne => ?_) ?_)
          · rw [setF_ne ne]
            by_cases e : many - i ≤ j
            · rw [if_pos e, if_pos (by omega)]
            · rw [if_neg e, if_neg (by omega)]
          · rw [if_pos (by omega), setF_same]
        · intro j h1 h2
          by_cases e : j = k
          · subst e
            rw [setF_same, setF_same]
            refine ⟨.node (by rw [upd_ne ngt]; exact upd_same) (by rw [upd_ne nDt, upd_ne nDg]; exact hD9) ⟨hg0, ngt⟩ ⟨hD0, nDt⟩ cL.1 cL.2 (trs_map tv tt fun d hd => keep _ _ (hTr d (by have := mem d hd; omega) (mem d hd).2.2.1).1 _), ?_, ?_⟩
            · have := depths_map tt (30 - dep j) us fun d hd => by
                have a := mem d hd
                have b := (hTr d (by omega) a.2.2.1).2.1
                have e := (R.par_ d a.1 a.2.2.1).2
                rw [a.2.1] at e
                omega
              have b := R.dep_ j hkm
              simp only [Tr.depth]
              omega
            · simp only [Tr.lets]
              exact ⟨List.mem_of_getElem? hc, letss_map tt us fun d hd => (hTr d (by have := mem d hd; omega) (mem d hd).2.2.1).2.2⟩
          · rw [setF_ne e, setF_ne e]
            have a := hTr j (by omega) h2
            exact ⟨keep _ _ a.1 _, a.2⟩
        · have st := tot_step par (fun j => (tt j).size) k (1 + sizes (us.map tt)) many fun j a b => (R.par_ j a b).1
          rw [← rowSum_eq, if_pos hkm, sum_perm (pu.map fun j => (tt j).size)] at st
          rw [setF_size, show many - (i + 1) = k by omega]
          rw [show many - i = k + 1 by omega] at hTot
          simp only [Tr.size]
          rw [sizes_map] at st ⊢
          omega
        · intro b o hb e
          rw [upd_ne (ne_of_none e htr5)]
          exact same_new hg _ _ (f9 b o hb (f6 b o hb e))
        · refine ((p9.new hg).upd ntp).mono ?_
          rw [List.length_map]
          omega
    · rintro σ H6 ⟨tv, tt, y7, y8, y10, y11, rfl, hT, hTr, hTot, f6, p6⟩
      have h0 := hTr 0 (by omega) (by omega)
      rw [show many - many = 0 by omega] at hTot
      obtain ⟨m', rfl⟩ : ∃ m', many = m' + 1 := ⟨many - 1, by omega⟩
      rw [tot_top] at hTot
      have hd0 := R.dep0
      refine ⟨_, rfl, tr, _, 0, tv 0, rfl, rfl, SqL.of hT, at_of (j := 0) rfl (by rw [rng_get _ (by omega), if_pos (by omega)]), ?_⟩
      refine q _ (tt 0) _ (by omega) (by omega) h0.2.2 (R.fr.trans f6) (h0.1.weak fun b k => k.1) (p6.mono (by omega))
end

section
variable {P : Program} {w : World} {K : PySem.W.Frag} {mg : Str → Option Value} {base : Heap}
theorem ok__law_letters (T : Txt K mg) : FnOk P w K mg base CX0 2 T.f__law_letters T.d__law_letters ["pool"] sp__law_letters := by
  have G__law_take : FnOk P w K mg base CX0 1 T.f__law_take T.d__law_take ["pool", "many"] sp__law_take := ok__law_take T
  refine T.F__law_letters.ok sc__law_letters (fun vs H Q E h => ?_) (fun cdv A outer s H vs Q E hr h => ?_)
  · obtain ⟨p, n, rfl, _⟩ := h
    rfl
  obtain ⟨p, n, rfl, hp, hn, q⟩ := h
  refine ⟨_, (pss_one (ps_ret (pe_ix ix_list (pe_lst (pa_cons pe_str (pa_cons pe_str (pa_cons pe_str (pa_cons pe_str (pa_cons pe_str pa_nil)))))) (pe_call G__law_take (hr.mono (by omega)) (by rfl) T.m__law_take T.F__law_take.kp T.b__law_take .nil pass0 (pa_cons (pv 0) (pa_cons pe_int pa_nil))) (fun _ _ => rfl)))), ?_⟩
  refine ⟨(by show 5 ≤ sizeLine; decide), fun l hl => ?_⟩
  refine ⟨_, rfl, p, 5, n, rfl, hp.new hl, hn, by decide, by decide, fun r H2 r0 r1 c2 p2 => ?_⟩
  have hl2 := c2.at upd_same (hp.ne' hl)
  have f2 : Fr p H H2 := ((Fr.refl p H).new hl).trans (Fr.chg c2)
  have fin : ∀ L, Lets L → Q (.str L) H2 := fun L h => q L H2 h f2 p2
  obtain rfl | rfl | rfl | rfl | rfl : r = 0 ∨ r = 1 ∨ r = 2 ∨ r = 3 ∨ r = 4 := by omega
  · exact ⟨l, _, 0, _, rfl, rfl, SqL.of hl2, at_of (j := 0) rfl rfl, fin _ ⟨by decide +kernel, by decide +kernel, by decide +kernel⟩⟩
  · exact ⟨l, _, 1, _, rfl, rfl, SqL.of hl2, at_of (j := 1) rfl rfl, fin _ ⟨by decide +kernel, by decide +kernel, by decide +kernel⟩⟩
  · exact ⟨l, _, 2, _, rfl, rfl, SqL.of hl2, at_of (j := 2) rfl rfl, fin _ ⟨by decide +kernel, by decide +kernel, by decide +kernel⟩⟩
  · exact ⟨l, _, 3, _, rfl, rfl, SqL.of hl2, at_of (j := 3) rfl rfl, fin _ ⟨by decide +kernel, by decide +kernel, by decide +kernel⟩⟩
  · exact ⟨l, _, 4, _, rfl, rfl, SqL.of hl2, at_of (j := 4) rfl rfl, fin _ ⟨by decide +kernel, by decide +kernel, by decide +kernel⟩⟩
end


theorem TrAt.go {H H1 H2 : Hp} {p : Addr} {v : V} {t : Tr} (x : TrAt (fun b => H b = none) H1 v t) (hp : H p ≠ none) (f : Fr p H1 H2) : TrAt (fun b => H b = none) H2 v t :=
  x.keep fun b o k e => f b o (fun z => hp (by rw [← z]; exact k)) e
theorem TrsAt.go {H H1 H2 : Hp} {p : Addr} {vs : List V} {ts : List Tr} (x : TrsAt (fun b => H b = none) H1 vs ts) (hp : H p ≠ none) (f : Fr p H1 H2) : TrsAt (fun b => H b = none) H2 vs ts :=
  x.keep fun b o k e => f b o (fun z => hp (by rw [← z]; exact k)) e
theorem TrAt.base {H H1 H2 : Hp} {p : Addr} {v : V} {t : Tr} (x : TrAt (fun b => H1 b = none) H2 v t) (f : Fr p H H1) (hp : H1 p ≠ none) : TrAt (fun b => H b = none) H2 v t := x.weak fun _ h => f.free hp h
theorem letss_of {p : Nat → Prop} : ∀ {ts : List Tr}, (∀ t ∈ ts, t.lets p) → letss p ts
  | [], _ => trivial
  | t :: r, h => by
    simp only [letss]
    exact ⟨h t List.mem_cons_self, letss_of fun u hu => h u (List.mem_cons_of_mem _ hu)⟩
def sp__law_tree : Sp := fun vs H Q _ => ∃ (p : Addr) (n : Nat) (m : Nat) (L : Str), vs = [.ref p, .int m, .str L] ∧ Pool H p n ∧ n + 50000 < 1000000 ∧ 6 ≤ m ∧ m ≤ 100 ∧ Lets L ∧
  ∀ r t H', t.size ≤ m → t.depth ≤ 31 → t.lets (fun c => c ∈ L.cps.toList) → Fr p H H' → TrAt (fun b => H b = none) H' r t → Pool H' p (n + 50000) → Q r H'
section
variable {P : Program} {w : World} {K : PySem.W.Frag} {mg : Str → Option Value} {base : Heap}
theorem ok__law_tree (T : Txt K mg) : FnOk P w K mg base CX0 40 T.f__law_tree T.d__law_tree ["pool", "most", "letters"] sp__law_tree := by
  have G__law_take : FnOk P w K mg base CX0 1 T.f__law_take T.d__law_take ["pool", "many"] sp__law_take := ok__law_take T
  have G__law_grown : FnOk P w K mg base CX0 3 T.f__law_grown T.d__law_grown ["pool", "most", "letters"] sp__law_grown := ok__law_grown T
  have G__law_mixed_up : FnOk P w K mg base CX0 2 T.f__law_mixed_up T.d__law_mixed_up ["pool", "things"] (sp__law_mixed_up K) := ok__law_mixed_up T
  have G__law_shuffled : FnOk P w K mg base CX0 (32 + 2) T.f__law_shuffled T.d__law_shuffled ["pool", "tree"] (sp__law_shuffled 32) := ok__law_shuffled T 32
  refine T.F__law_tree.ok sc__law_tree (fun vs H Q E h => ?_) (fun cdv A outer s H vs Q E hr h => ?_)
  · obtain ⟨p, n, m, L, rfl, _⟩ := h
    rfl
  obtain ⟨p, n, m, L, rfl, hp, hn, hm0, hm1, hL, q⟩ := h
  refine ⟨_, (pss_cons (ps_if (pt_cmpR op_eq (pe_call G__law_take (hr.mono (by omega)) (by rfl) T.m__law_take T.F__law_take.kp T.b__law_take .nil pass0 (pa_cons (pv 0) (pa_cons pe_int pa_nil))) pe_int (nomark _)) (pss_one (ps_ret (pe_call G__law_grown (hr.mono (by omega)) (by rfl) T.m__law_grown T.F__law_grown.kp T.b__law_grown .nil pass0 (pa_cons (pv 0) (pa_cons (pv 1) (pa_cons (pv 2) pa_nil)))))) pss_nil) (pss_cons (ps_set (i := 3) sc__law_tree.nd rfl (Or.inl rfl) (pe_call G__law_grown (hr.mono (by omega)) (by rfl) T.m__law_grown T.F__law_grown.kp T.b__law_grown .nil pass0 (pa_cons (pv 0) (pa_cons (pe_op op_fdivW (pv 1) pe_int) (pa_cons (pv 2) pa_nil))))) (pss_cons (ps_set (i := 4) sc__law_tree.nd rfl (Or.inl rfl) (pe_call G__law_grown (hr.mono (by omega)) (by rfl) T.m__law_grown T.F__law_grown.kp T.b__law_grown .nil pass0 (pa_cons (pv 0) (pa_cons (pe_op op_sub (pe_op op_fdivW (pv 1) pe_int) pe_int) (pa_cons (pv 2) pa_nil))))) (pss_cons (ps_set (i := 5) sc__law_tree.nd rfl (Or.inl rfl) (pe_lst (pa_cons (pe_lst (pa_cons (pv 3) (pa_cons (pe_call G__law_shuffled (hr.mono (by omega)) (by rfl) T.m__law_shuffled T.F__law_shuffled.kp T.b__law_shuffled .nil pass0 (pa_cons (pv 0) (pa_cons (pv 3) pa_nil))) pa_nil))) (pa_cons (pe_lst (pa_cons (pv 3) (pa_cons (pv 4) (pa_cons (pe_call G__law_shuffled (hr.mono (by omega)) (by rfl) T.m__law_shuffled T.F__law_shuffled.kp T.b__law_shuffled .nil pass0 (pa_cons (pv 0) (pa_cons (pv 3) pa_nil))) pa_nil)))) (pa_cons (pe_lst (pa_cons (pv 4) (pa_cons (pv 3) (pa_cons (pv 3) pa_nil)))) pa_nil))))) (pss_one (ps_ret (pe_tup (pa_cons (pe_ix ix_str (pv 2) (pe_call G__law_take (hr.mono (by omega)) (by rfl) T.m__law_take T.F__law_take.kp T.b__law_take .nil pass0 (pa_cons (pv 0) (pa_cons (pe_callB call_len_str (by rfl) T.z_len PySem.boot_len (pa_cons (pv 2) pa_nil)) pa_nil))) (fun _ _ => rfl)) (pa_cons (pe_call G__law_mixed_up (hr.mono (by omega)) (by rfl) T.m__law_mixed_up T.F__law_mixed_up.kp T.b__law_mixed_up .nil pass0 (pa_cons (pv 0) (pa_cons (pe_ix ix_list (pv 5) (pe_call G__law_take (hr.mono (by omega)) (by rfl) T.m__law_take T.F__law_take.kp T.b__law_take .nil pass0 (pa_cons (pv 0) (pa_cons pe_int pa_nil))) (fun _ _ => rfl)) pa_nil))) pa_nil))))))))), ?_⟩
  have hps : H p ≠ none := hp.some
  have np : ∀ b, H b = none → b ≠ p := fun b h e => hps (by rw [← e]; exact h)
  refine ⟨_, rfl, p, 2, n, rfl, hp, by omega, by decide, by decide, fun r0 H1 a0 a1 c1 p1 => ⟨rfl, _, rfl, ?_⟩⟩
  have f1 : Fr p H H1 := Fr.chg c1
  refine ite2 (fun _ => ?_) (fun _ => ?_)
  · refine ⟨_, rfl, _, rfl, _, rfl, p, n + 1, m, L, rfl, p1, by omega, by omega, hm1, hL, fun r t H' z1 z2 z3 f T1 p2 => ?_⟩
    exact q r t H' z1 (by omega) z3 (f1.trans f) (T1.base f1 p1.some) (p2.mono (by omega))
  · refine ⟨_, rfl, _, rfl, m, 3, rfl, rfl, divW (by decide) (by decide), _, rfl, p, n + 1, m / 3, L, congrArg (fun z => [V.ref p, V.int z, V.str L]) (show (m : Int) / 3 = ((m / 3 : Nat) : Int) by omega), p1, by omega, by omega, by omega, hL, fun one t1 H2 z1 d1 l1 f2 T1 p2 => ?_⟩
    refine ⟨_, rfl, _, rfl, m, 3, rfl, rfl, divW (by decide) (by decide), (m : Int) / 3, 1, rfl, rfl, _, rfl, p, _, m / 3 - 1, L, congrArg (fun z => [V.ref p, V.int z, V.str L]) (show (m : Int) / 3 - 1 = ((m / 3 - 1 : Nat) : Int) by omega), p2, by omega, by omega, by omega, hL, fun other t2 H3 z2 d2 l2 f3 T2 p3 => ?_⟩
    have T1a := T1.base f1 p1.some
    have T2a := T2.base (f1.trans f2) p2.some
    have T1b := T1a.go hps f3
    refine ⟨_, rfl, _, rfl, _, rfl, p, _, one, t1, rfl, p3, by omega, T1b.weak fun _ _ => trivial, by omega, by omega, fun s1 u1 H4 sh1 f4 S1 p4 => ⟨(by show 2 ≤ sizeLine; decide), fun ra hra => ?_⟩⟩
    have S1a := S1.base ((f1.trans f2).trans f3) p3.some
    have p5 := p4.new (o := .lst [one, s1]) hra
    have f5 : Fr p H4 (upd H4 ra (.lst [one, s1])) := (Fr.refl p H4).new hra
    have F5 := (((f1.trans f2).trans f3).trans f4).trans f5
    have T1c := T1b.go hps (f4.trans f5)
    have e1 := sh1.size
    have e2 := sh1.depth
    refine ⟨_, rfl, _, rfl, _, rfl, _, rfl, p, _, one, t1, rfl, p5, by omega, T1c.weak fun _ _ => trivial, by omega, by omega, fun s2 u2 H6 sh2 f6 S2 p6 => ⟨(by show 3 ≤ sizeLine; decide), fun rb hrb => ?_⟩⟩
    have S2a := S2.base F5 p5.some
    have e3 := sh2.size
    have e4 := sh2.depth
    have p7 := p6.new (o := .lst [one, other, s2]) hrb
    have f7 : Fr p H6 (upd H6 rb (.lst [one, other, s2])) := (Fr.refl p H6).new hrb
    refine ⟨_, rfl, _, rfl, _, rfl, (by show 3 ≤ sizeLine; decide), fun rc hrc => ⟨(by show 3 ≤ sizeLine; decide), fun rr hrr => ?_⟩⟩
    have nab : H (ra) = none := (((f1.trans f2).trans f3).trans f4).free p4.some hra
    have nbb : H rb = none := (F5.trans f6).free p6.some hrb
    have p8 := (p7.new (o := .lst [other, one, one]) hrc).new (o := .lst [.ref ra, .ref rb, .ref rc]) hrr
    have f8 : Fr p (upd H6 rb (.lst [one, other, s2])) _ := ((Fr.refl p _).new (o := .lst [other, one, one]) hrc).trans ((Fr.refl p _).new (o := .lst [.ref ra, .ref rb, .ref rc]) hrr)
    have ncb : H rc = none := ((F5.trans f6).trans f7).free p7.some hrc
    have nrb : H rr = none := ((F5.trans f6).trans f7).free p7.some (by
      by_cases e : rr = rc
      · rw [e, upd_same] at hrr; cases hrr
      · rw [upd_ne e] at hrr; exact hrr)
    have nrc : rr ≠ rc := fun e => by rw [e, upd_same] at hrr; cases hrr
    have hLs : L.cps.toList.length = L.length := by
      show L.cps.toList.length = L.cps.size
      exact Array.length_toList
    refine ⟨_, rfl, _, rfl, _, rfl, L, rfl, Nat.le_trans hL.2.1 (by decide), p, _, _, rfl, p8, by omega, by have := hL.1; omega, by have := hL.2.1; omega, fun r H9 r0 r1 c9 p9 => ?_⟩
    obtain ⟨rn, rfl⟩ : ∃ rn : Nat, r = (rn : Int) := ⟨r.toNat, by omega⟩
    have hrn : rn < L.cps.toList.length := by rw [hLs]; omega
    obtain ⟨c, hc⟩ : ∃ c, L.cps.toList[rn]? = some c := ⟨_, List.getElem?_eq_getElem hrn⟩
    have cL := hL.2.2 c (List.mem_of_getElem? hc)
    refine ⟨L, rn, c, rfl, rfl, Nat.le_trans hL.2.1 (by decide), atI_nat hc, _, rfl, _, rfl, _, rfl, p, 3, _, rfl, p9, by omega, by decide, by decide, fun r' H10 b0 b1 c10 p10 => ?_⟩
    have f10 : Fr p (upd H6 rb (.lst [one, other, s2])) H10 := (f8.trans (Fr.chg c9)).trans (Fr.chg c10)
    have F10 := ((F5.trans f6).trans f7).trans f10
    have T1e := T1c.go hps ((f6.trans f7).trans f10)
    have T2e := T2a.go hps ((((f4.trans f5).trans f6).trans f7).trans f10)
    have S1e := S1a.go hps (((f5.trans f6).trans f7).trans f10)
    have S2e := S2a.go hps (f7.trans f10)
    have hrr10 : H10 rr = some (.lst [.ref ra, .ref rb, .ref rc]) := c10.at (c9.at upd_same (np _ nrb)) (np _ nrb)
    have hra10 : H10 ra = some (.lst [one, s1]) := ((f6.trans f7).trans f10) _ _ (np _ nab) upd_same
    have hrb10 : H10 rb = some (.lst [one, other, s2]) := f10 _ _ (np _ nbb) upd_same
    have hrc10 : H10 rc = some (.lst [other, one, one]) := c10.at (c9.at (by rw [upd_ne (fun e => nrc e.symm)]; exact upd_same) (np _ ncb)) (np _ ncb)
    have done : ∀ (x : Addr) (xs : List V) (ts : List Tr), H10 x = some (.lst xs) → TrsAt (fun b => H b = none) H10 xs ts → 1 + sizes ts ≤ m → depths ts ≤ 30 → letss (fun c => c ∈ L.cps.toList) ts → ts.length ≤ 3 →
        sp__law_mixed_up K [.ref p, .ref x] H10 (fun y H' => 2 ≤ sizeLine ∧ ∀ e, H' e = none → Q (.ref e) (upd H' e (.tup [.str (ch c), y]))) E0 := by
      intro x xs ts hx hts hz hdp hlt hln
      have hlen := hts.len
      refine ⟨p, x, _, xs, rfl, p10, by omega, SqL.of hx, fun H' f v hv => ?_, fun r ws H' pw r0 f11 hr' p11 => ⟨by decide, fun e he => ?_⟩⟩
      · obtain ⟨i, hi⟩ := List.getElem?_of_mem hv
        obtain ⟨t1, ht1, hx⟩ := (hts.go hps f).getV hi
        have dt := depths_mem (List.mem_of_getElem? ht1)
        exact datOk_tr hx (by omega)
      · obtain ⟨us, pu, hus⟩ := (hts.go hps f11).perm pw
        have zu := sizes_perm pu
        have du := depths_perm pu
        have nr0 : H r = none := F10.free p10.some r0
        have ne0 : H e = none := (F10.trans f11).free p11.some he
        refine q _ (.node c us) _ (by simp only [Tr.size]; omega) (by simp only [Tr.depth]; omega) ?_ ((F10.trans f11).new ne0) (.node upd_same (by rw [upd_ne (ne_of_none hr' he)]; exact hr') ne0 nr0 cL.1 cL.2 (hus.same (same_new he))) ((p11.new he).mono (by omega))
        simp only [Tr.lets]
        exact ⟨List.mem_of_getElem? hc, letss_perm pu hlt⟩
    obtain rfl | rfl | rfl : r' = 0 ∨ r' = 1 ∨ r' = 2 := by omega
    · refine ⟨rr, _, 0, .ref ra, rfl, rfl, SqL.of hrr10, at_of (j := 0) rfl rfl, done ra _ [t1, u1] hra10 (.cons T1e (.cons S1e .nil)) ?_ ?_ ?_ (by simp)⟩
      · simp only [sizes]; omega
      · simp only [depths]; omega
      · simp only [letss]; exact ⟨l1, sh1.lets l1, trivial⟩
    · refine ⟨rr, _, 1, .ref rb, rfl, rfl, SqL.of hrr10, at_of (j := 1) rfl rfl, done rb _ [t1, t2, u2] hrb10 (.cons T1e (.cons T2e (.cons S2e .nil))) ?_ ?_ ?_ (by simp)⟩
      · simp only [sizes]; omega
      · simp only [depths]; omega
      · simp only [letss]; exact ⟨l1, l2, sh2.lets l1, trivial⟩
    · refine ⟨rr, _, 2, .ref rc, rfl, rfl, SqL.of hrr10, at_of (j := 2) rfl rfl, done rc _ [t2, t1, t1] hrc10 (.cons T2e (.cons T1e (.cons T1e .nil))) ?_ ?_ ?_ (by simp)⟩
      · simp only [sizes]; omega
      · simp only [depths]; omega
      · simp only [letss]; exact ⟨l2, l1, l1, trivial⟩
end

def spLaw (K : PySem.W.Frag) : Sp := fun vs H Q _ => ∃ (a : Addr) (ns : List Int), vs = [.ref a] ∧ SqL K H a (ns.map V.int) ∧ ns.length ≤ 63 ∧ ∀ H', Q (.bl true) H'

def sp__law_counted : Sp := fun vs H Q _ => ∃ (v : V) (t : Tr), vs = [v] ∧ TrAt (fun _ => True) H v t ∧ t.size ≤ 1000 ∧ t.depth ≤ 31 ∧ ∀ r H', Same H H' → H r = none → H' r = some (.lst [.int t.size, .int t.depth]) → Q (.ref r) H'
section
variable {P : Program} {w : World} {K : PySem.W.Frag} {mg : Str → Option Value} {base : Heap}
theorem ok__law_counted (T : Txt K mg) : FnOk P w K mg base CX0 1 T.f__law_counted T.d__law_counted ["tree"] sp__law_counted := by
  refine T.F__law_counted.ok sc__law_counted (fun vs H Q E h => ?_) (fun cdv A outer s H vs Q E hr h => ?_)
  · obtain ⟨v, t, rfl, _⟩ := h
    rfl
  obtain ⟨v, t, rfl, ht, hz, hd, q⟩ := h
  refine ⟨_, (pss_cons (ps_set (i := 1) sc__law_counted.nd rfl (Or.inl rfl) (pe_lst (pa_cons (pv 0) pa_nil))) (pss_cons (ps_set (i := 2) sc__law_counted.nd rfl (Or.inl rfl) pe_int) (pss_cons (ps_set (i := 3) sc__law_counted.nd rfl (Or.inl rfl) pe_int) (pss_cons (ps_while PassesOwn.never (pt_cmpR (op_neD hr.units) (pv 1) (pe_lst pa_nil) (nomark _)) (pss_cons (ps_set (i := 2) sc__law_counted.nd rfl (Or.inl rfl) (pe_op op_add (pv 2) (pe_callB call_len_seq (by rfl) T.z_len PySem.boot_len (pa_cons (pv 1) pa_nil)))) (pss_cons (ps_set (i := 3) sc__law_counted.nd rfl (Or.inl rfl) (pe_op op_add (pv 3) pe_int)) (pss_cons (ps_set (i := 4) sc__law_counted.nd rfl (Or.inl rfl) (pe_lst pa_nil)) (pss_cons (ps_for PassesOwn.never rfl (pi_list (pv 1)) (pg_name (i := 5) sc__law_counted.nd rfl (Or.inl rfl)) (pss_one (ps_set (i := 4) sc__law_counted.nd rfl (Or.inl rfl) (pe_op op_cat (pv 4) (pe_ix ix_tup (pv 5) pe_int (fun _ _ => rfl)))))) (pss_one (ps_set (i := 1) sc__law_counted.nd rfl (Or.inl rfl) (pv 4)))))))) (pss_one (ps_ret (pe_lst (pa_cons (pv 2) (pa_cons (pv 3) pa_nil))))))))), ?_⟩
  have ht1 := (TrAt.there t v ht).weak (ok' := fun b => H b ≠ none) fun b ⟨_, o, e⟩ => by rw [e]; simp
  refine ⟨_, rfl, (by show 1 ≤ sizeLine; decide), fun l0 hl0 => ?_⟩
  refine ⟨fun m σ H' => ∃ (a : Nat) (d : Nat) (lv : Addr) (ws : List V) (ts : List Tr) (y4 y5 : Option V), σ = [some v, some (.ref lv), some (.int a), some (.int d), y4, y5] ∧ H' lv = some (.lst ws) ∧ TrsAt (fun b => H b ≠ none) H' ws ts ∧ d + depths ts = t.depth ∧ a + sizes ts = t.size ∧ m = depths ts ∧ Same H H',
    ⟨t.depth, 0, 0, l0, [v], [t], none, none, rfl, upd_same, .cons (ht1.same (same_new hl0)) .nil, by simp only [depths]; omega, by simp only [sizes]; omega, by simp only [depths]; omega, same_new hl0⟩, ?_⟩
  rintro m σ H' ⟨a, d, lv, ws, ts, y4, y5, rfl, hL, hts, hd1, hz1, rfl, hs⟩
  have hln := hts.len
  refine ⟨_, rfl, (by show 0 ≤ sizeLine; decide), fun e he => ?_⟩
  have he0 := hs.free he
  have hL2 : (upd H' e (.lst [])) lv = some (.lst ws) := by rw [upd_ne (ne_of_none hL he)]; exact hL
  have hts2 := hts.same (same_new (o := .lst []) he)
  have lz := len_sizes ts
  refine ⟨_, _, .lst (SqL.of hL2) (TrsAt.dp ts ws hts2), dp_nil upd_same, shaped_trs hts2 (by omega), shaped_nil, _, rfl, ?_⟩
  have ld : (dats ts).length = ts.length := by
    clear hts hts2 hd1 hz1 hln lz
    induction ts with
    | nil => rfl
    | cons t r ih => simp only [dats, List.length_cons, ih]
  rw [eqv_nil, ld]
  by_cases hu : ts.length = 0
  · rw [decide_eq_true hu]
    refine iteF ?_
    have e1 : ts = [] := List.length_eq_zero_iff.mp hu
    subst e1
    simp only [sizes, depths, Nat.add_zero] at hd1 hz1
    refine ⟨_, rfl, _, rfl, (by show 2 ≤ sizeLine; decide), fun r hr' => q r _ ((same_add hs he0).trans (same_new hr')) ((same_add hs he0).free hr') ?_⟩
    rw [← hd1, ← hz1]
    exact upd_same
  · rw [decide_eq_false hu]
    refine iteT ?_
    have hne : ts ≠ [] := fun e => hu (by rw [e]; rfl)
    have ks := kidss_sizes ts
    have kd := kidss_depths ts hne
    refine ⟨fun σ2 H2 => ∃ (a : Nat) (d : Nat) (lv : Addr) (ws : List V) (ts2 : List Tr) (y4 y5 : Option V), σ2 = [some v, some (.ref lv), some (.int a), some (.int d), y4, y5] ∧ H2 lv = some (.lst ws) ∧ TrsAt (fun b => H b ≠ none) H2 ws ts2 ∧ d + depths ts2 = t.depth ∧ a + sizes ts2 = t.size ∧ depths ts2 < depths ts ∧ Same H H2,
      fun σ2 H2 ⟨a, d, lv, ws, ts2, y4, y5, e1, e2, e3, e4, e5, e6, e7⟩ => ⟨depths ts2, e6, a, d, lv, ws, ts2, y4, y5, e1, e2, e3, e4, e5, rfl, e7⟩, ?_⟩
    refine ⟨_, rfl, _, rfl, lv, ws, rfl, .inl (SqL.of hL2), _, _, rfl, rfl, _, rfl, _, 1, rfl, rfl, (by show 0 ≤ sizeLine; decide), fun b hb => ?_⟩
    have hb0 := (same_add hs he0).free hb
    refine ⟨_, rfl, lv, rfl, ⟨_, SqL.of (by rw [upd_ne (ne_of_none hL2 hb)]; exact hL2)⟩, for_list (xs := ws) (fun i σ H2 => ∃ (bl : Addr) (acc : List V) (y5 : Option V), σ = [some v, some (.ref lv), some (.int (a + ws.length)), some (.int (d + 1)), some (.ref bl), y5] ∧ H2 bl = some (.lst acc) ∧ TrsAt (fun b => H b ≠ none) H2 acc (kidss (ts.take i)) ∧ H2 lv = some (.lst ws) ∧ TrsAt (fun b => H b ≠ none) H2 ws ts ∧ Same H H2)
      ⟨b, [], _, rfl, upd_same, .nil, by rw [upd_ne (ne_of_none hL2 hb)]; exact hL2, hts2.same (same_new hb), (same_add hs he0).trans (same_new hb)⟩ (fun i σ H2 _ ⟨_, _, _, _, _, _, h3, _⟩ => SqL.of h3) ?_ ?_⟩
    · rintro i x σ H2 hx ⟨bl, acc, z5, rfl, h1, h2, h3, h4, h5⟩
      obtain ⟨t1, ht1, hx2⟩ := h4.getV hx
      obtain ⟨c, k1⟩ := t1
      have ez : kidss (ts.take (i + 1)) = kidss (ts.take i) ++ k1 := by
        rw [take_succ_of ht1, kidss_append]
        simp only [kidss, Tr.kids, List.append_nil]
      have zs : sizes (kidss (ts.take i) ++ k1) ≤ sizes (kidss ts) := by
        rw [← ez]
        have := congrArg sizes (congrArg kidss (List.take_append_drop (i + 1) ts))
        rw [kidss_append, sizes_append] at this
        omega
      cases hx2 with
      | node g1 g2 o1 o2 c1 c2 r =>
        have a1 := h2.len
        have a2 := len_sizes (kidss (ts.take i))
        have a3 := len_sizes k1
        have a4 := r.len
        rw [sizes_append] at zs
        refine ⟨_, rfl, _, rfl, _, _, 1, _, rfl, rfl, SqT.of g1, atI_nat (j := 1) rfl, bl, _, acc, _, rfl, rfl, h1, g2, Nat.le_trans (show acc.length + _ ≤ 1000 by omega) (by decide), fun b2 hb2 => ?_⟩
        refine ⟨b2, _, _, rfl, upd_same, ?_, by rw [upd_ne (ne_of_none h3 hb2)]; exact h3, h4.same (same_new hb2), same_add h5 (h5.free hb2)⟩
        rw [ez]
        exact (h2.append r).same (same_new hb2)
    · rintro σ H2 ⟨bl, acc, z5, rfl, h1, h2, h3, h4, h5⟩
      rw [hts.len, List.take_length] at h2
      refine ⟨_, rfl, ?_⟩
      exact ⟨a + ts.length, d + 1, bl, acc, kidss ts, _, _, by rw [hln]; rfl, h1, h2, by omega, by omega, by omega, h5⟩
end
section
variable {P : Program} {w : World} {K : PySem.W.Frag} {mg : Str → Option Value} {base : Heap}
theorem ok_law (T : Txt K mg) : FnOk P w K mg base CX0 41 T.f_law T.d_law ["script"] (spLaw K) := by
  have G__law_pool : FnOk P w K mg base CX0 1 T.f__law_pool T.d__law_pool ["script", "k"] (sp__law_pool K) := ok__law_pool T
  have G__law_tree : FnOk P w K mg base CX0 40 T.f__law_tree T.d__law_tree ["pool", "most", "letters"] sp__law_tree := ok__law_tree T
  have G__law_letters : FnOk P w K mg base CX0 2 T.f__law_letters T.d__law_letters ["pool"] sp__law_letters := ok__law_letters T
  have G__law_counted : FnOk P w K mg base CX0 1 T.f__law_counted T.d__law_counted ["tree"] sp__law_counted := ok__law_counted T
  have G__law_copy : FnOk P w K mg base CX0 32 T.f__law_copy T.d__law_copy ["tree"] (sp__law_copy 32) := ok__law_copy T 32
  have G_size_of : FnOk P w K mg base CX0 6 T.f_size_of T.d_size_of ["tree"] sp_size_of := ok_size_of T
  have G_depth_of : FnOk P w K mg base CX0 5 T.f_depth_of T.d_depth_of ["tree"] sp_depth_of := ok_depth_of T
  refine T.F_law.ok sc_law (fun vs H Q E h => ?_) (fun cdv A outer s H vs Q E hr h => ?_)
  · obtain ⟨a, ns, rfl, _⟩ := h
    rfl
  obtain ⟨a, ns, rfl, hS, h63, q⟩ := h
  refine ⟨_, (pss_cons (ps_for PassesOwn.never rfl (pi_range1 (by rfl) T.z_range (pa_cons (pe_callB (call_max2 rfl) (by rfl) T.z_max (by decide +kernel) (pa_cons pe_int (pa_cons (pe_callB (call_min2 rfl) (by rfl) T.z_min (by decide +kernel) (pa_cons pe_int (pa_cons (pe_callB call_len_seq (by rfl) T.z_len PySem.boot_len (pa_cons (pv 0) pa_nil)) pa_nil))) pa_nil))) pa_nil)) (pg_name (i := 1) sc_law.nd rfl (Or.inl rfl)) (pss_cons (ps_set (i := 2) sc_law.nd rfl (Or.inl rfl) (pe_call G__law_pool (hr.mono (by omega)) (by rfl) T.m__law_pool T.F__law_pool.kp T.b__law_pool .nil pass0 (pa_cons (pv 0) (pa_cons (pv 1) pa_nil)))) (pss_cons (ps_set (i := 3) sc_law.nd rfl (Or.inl rfl) (pe_call G__law_tree (hr.mono (by omega)) (by rfl) T.m__law_tree T.F__law_tree.kp T.b__law_tree .nil pass0 (pa_cons (pv 2) (pa_cons pe_int (pa_cons (pe_call G__law_letters (hr.mono (by omega)) (by rfl) T.m__law_letters T.F__law_letters.kp T.b__law_letters .nil pass0 (pa_cons (pv 2) pa_nil)) pa_nil))))) (pss_cons (ps_set (i := 4) sc_law.nd rfl (Or.inl rfl) (pe_call G__law_counted (hr.mono (by omega)) (by rfl) T.m__law_counted T.F__law_counted.kp T.b__law_counted .nil pass0 (pa_cons (pv 3) pa_nil))) (pss_cons (ps_set (i := 5) sc_law.nd rfl (Or.inl rfl) (pe_call G__law_copy (hr.mono (by omega)) (by rfl) T.m__law_copy T.F__law_copy.kp T.b__law_copy .nil pass0 (pa_cons (pv 3) pa_nil))) (pss_one (ps_for PassesOwn.never rfl (pi_range1 (by rfl) T.z_range (pa_cons pe_int pa_nil)) (pg_name (i := 6) sc_law.nd rfl (Or.inl rfl)) (pss_cons (ps_set (i := 7) sc_law.nd rfl (Or.inl rfl) (pe_lst (pa_cons (pe_call G_size_of (hr.mono (by omega)) (by rfl) T.m_size_of T.F_size_of.kp T.b_size_of .nil pass0 (pa_cons (pv 5) pa_nil)) (pa_cons (pe_call G_depth_of (hr.mono (by omega)) (by rfl) T.m_depth_of T.F_depth_of.kp T.b_depth_of .nil pass0 (pa_cons (pv 5) pa_nil)) pa_nil)))) (pss_one (ps_if (PW.pt (pw_or (pt_cmpR (op_neD hr.units) (pv 7) (pv 4) (nomark _)) (pw_or (pt_cmpR (op_neD hr.units) (pe_lc (own := [("one", 8)]) (g := gName 8) (tt := tB (tCB (rIsi K) (tCons (tVar 8) (tCons (tC (.ty "bool")) tNil)))) rfl sc_law.nd (pi_list (pv 7)) (blkOk_by (own := [("one", 8)]) (N := ["script", "k", "pool", "tree", "due", "handed", "again", "found", "one"]) (sc := (defScope s_law)) (by decide +kernel)) (fun _ _ _ _ _ => (pg_name (i := 8) sc_law.nd rfl (Or.inl rfl))) (fun _ _ _ _ _ => pts_one (pt_val (pe_callB call_isi (by rfl) T.z_isinstance (by decide +kernel) (pa_cons (pv 8) (pa_cons (pe_bltn (v := .ty "bool") (by rfl) T.z_bool (by decide +kernel) rfl) pa_nil))))) (fun _ _ _ _ _ => pe_int)) (pe_lst pa_nil) (nomark _)) (pw_or1 (pt_cmpR (op_neD hr.units) (pv 5) (pv 3) (nomark _)))))) (pss_one (ps_ret pe_bl)) pss_nil)))))))))) (pss_one (ps_ret pe_bl))), ?_⟩
  have hl : (ns.map V.int).length = ns.length := List.length_map _
  obtain ⟨j, hj, hj0, hj1⟩ : ∃ j : Int, (if (if ((ns.map V.int).length : Int) < 12 then ((ns.map V.int).length : Int) else 12) > 1 then (if ((ns.map V.int).length : Int) < 12 then ((ns.map V.int).length : Int) else 12) else 1) = j ∧ 0 ≤ j ∧ j ≤ 30 := ⟨_, rfl, by split <;> split <;> omega, by split <;> split <;> omega⟩
  refine ⟨_, rfl, a, _, rfl, .inl hS, _, _, rfl, _, _, rfl, j, congrArg (fun z => [V.int z]) hj, by omega, by omega, for_range (lo := 0) (n := j.toNat) (fun i σ H' => (∃ y1 y2 y3 y4 y5 y6 y7 y8, σ = [some (.ref a), y1, y2, y3, y4, y5, y6, y7, y8]) ∧ SqL K H' a (ns.map V.int)) ⟨⟨_, _, _, _, _, _, _, _, rfl⟩, hS⟩ ?_ ?_⟩
  · rintro i σ H0 hi ⟨⟨y1, y2, y3, y4, y5, y6, y7, y8, rfl⟩, hS0⟩
    refine ⟨_, rfl, _, rfl, a, ns, _, rfl, hS0, h63, by omega, by omega, fun p H1 hp c1 P1 => ?_⟩
    refine ⟨_, rfl, _, rfl, p, 3000, rfl, P1, by decide, fun L H2 hL f2 P2 => ⟨p, _, 60, L, rfl, P2, by decide, by decide, by decide, hL, fun tv t H3 hz hd hlt f3 T3 P3 => ?_⟩⟩
    refine ⟨_, rfl, tv, t, rfl, T3.weak fun _ _ => trivial, by omega, hd, fun r H4 s4 r0 hr4 => ?_⟩
    refine ⟨_, rfl, tv, t, rfl, (T3.same s4).weak fun _ _ => trivial, by omega, by omega, fun hv H5 s5 T5 => ?_⟩
    have Tt := ((T3.same s4).same s5)
    have hr5 := s5 _ _ hr4
    have F5 : Fr p H0 H5 := ((((Fr.chg c1).trans f2).trans f3).trans (Fr.same s4)).trans (Fr.same s5)
    refine ⟨2, rfl, by decide, by decide, for_range (lo := 0) (n := 2) (fun i2 σ H' => ∃ y6 y7 y8, σ = [some (.ref a), some (.int (0 + i)), some (.ref p), some tv, some (.ref r), some hv, y6, y7, y8] ∧ Same H5 H') ⟨_, _, _, rfl, Same.refl _⟩ ?_ ?_⟩
    · rintro i2 σ H' hi2 ⟨y6, y7, y8, rfl, sH⟩
      refine ⟨_, rfl, hv, t, rfl, (T5.same sH).weak fun _ _ => trivial, by omega, fun H6 s6 => ⟨_, rfl, hv, t, rfl, ((T5.same sH).same s6).weak fun _ _ => trivial, by omega, fun H7 s7 => ⟨(by show 2 ≤ sizeLine; decide), fun f hf => ?_⟩⟩⟩
      have S8 : Same H5 (upd H7 f (.lst [.int t.size, .int t.depth])) := ((sH.trans s6).trans s7).trans (same_new hf)
      refine ⟨_, rfl, _, rfl, _, _, dp_intsL (xs := [(t.size : Int), (t.depth : Int)]) (SqL.of upd_same), dp_intsL (xs := [(t.size : Int), (t.depth : Int)]) (SqL.of (S8 _ _ hr5)), shaped_ints _, shaped_ints _, _, rfl, ?_⟩
      rw [eqv_self (shaped_ints _)]
      refine iteF ?_
      refine ⟨_, rfl, f, rfl, ⟨_, SqL.of upd_same⟩, fun D hD => ?_⟩
      have nfD : f ≠ D := ne_of_none upd_same hD
      refine lc_list (xs := [V.int t.size, V.int t.depth]) (fun m H9 => H9 = upd (upd H7 f (.lst [.int t.size, .int t.depth])) D (.lst [])) rfl (fun m H9 _ e => by rw [e]; exact SqL.of (by rw [upd_ne nfD]; exact upd_same)) ?_ ?_
      · rintro m x H9 hx rfl
        obtain ⟨z, rfl⟩ : ∃ z, x = V.int z := by
          have := List.mem_of_getElem? hx
          simp only [List.mem_cons, List.not_mem_nil, or_false] at this
          rcases this with e | e
          · exact ⟨_, e⟩
          · exact ⟨_, e⟩
        refine ⟨rfl, _, rfl, _, _, _, _, false, rfl, .ty "bool", .base (.int _), kit_ty (by decide +kernel), _, rfl, ?_⟩
        exact iteF rfl
      · rintro H9 rfl
        refine ⟨(by show 0 ≤ sizeLine; decide), fun e he => ?_⟩
        have hDe : (upd (upd (upd H7 f (.lst [.int t.size, .int t.depth])) D (.lst [])) e (.lst [])) D = some (.lst []) := by
          rw [upd_ne (ne_of_none upd_same he)]
          exact upd_same
        refine ⟨_, _, dp_nil hDe, dp_nil upd_same, shaped_nil, shaped_nil, _, rfl, ?_⟩
        rw [eqv_self shaped_nil]
        refine iteF ?_
        have S9 := (S8.trans (same_new (o := .lst []) hD)).trans (same_new (o := .lst []) he)
        refine ⟨_, rfl, _, rfl, t.dat, t.dat, TrAt.dp _ _ (T5.same S9), TrAt.dp _ _ (Tt.same S9), shaped_tr T5 (by omega), shaped_tr T5 (by omega), _, rfl, ?_⟩
        rw [eqv_self (shaped_tr T5 (by omega))]
        refine iteF ?_
        exact ⟨_, _, _, rfl, S9⟩
    · rintro σ H' ⟨y6, y7, y8, rfl, sH⟩
      exact ⟨⟨_, _, _, _, _, _, _, _, rfl⟩, (F5.trans (Fr.same sH)).seq hp hS0⟩
  · rintro σ H0 ⟨⟨y1, y2, y3, y4, y5, y6, y7, y8, rfl⟩, hS0⟩
    exact q _
end
theorem all_mk {l : PySem.W.OpenLaw} {w : World} {K : PySem.W.Frag} {h : Heap} {mg : Str → Option Value} {fa f0 f1 f2 f3 f4 f5 f6 f7 f8 f9 f10 f11 f12 f13 f14 f15 f16 : Addr} (X : K.In h) (G : h.Ns mainGlobals mg) (hfa : mg "law" = some (.ref fa))
    {od0 an0 od1 an1 od2 an2 od3 an3 od4 an4 od5 an5 od6 an6 od7 an7 od8 an8 od9 an9 od10 an10 od11 an11 od12 an12 od13 an13 od14 an14 od15 an15 od16 an16 : Option Addr} {sl0 sl1 sl2 sl3 sl4 sl5 sl6 sl7 sl8 sl9 sl10 sl11 sl12 sl13 sl14 sl15 sl16 : Array (Option Value)} {oc0 kV0 dc0 pm0 cd0 ct0 oc1 kV1 dc1 pm1 cd1 ct1 oc2 kV2 dc2 pm2 cd2 ct2 oc3 kV3 dc3 pm3 cd3 ct3 oc4 kV4 dc4 pm4 cd4 ct4 oc5 kV5 dc5 pm5 cd5 ct5 oc6 kV6 dc6 pm6 cd6 ct6 oc7 kV7 dc7 pm7 cd7 ct7 oc8 kV8 dc8 pm8 cd8 ct8 oc9 kV9 dc9 pm9 cd9 ct9 oc10 kV10 dc10 pm10 cd10 ct10 oc11 kV11 dc11 pm11 cd11 ct11 oc12 kV12 dc12 pm12 cd12 ct12 oc13 kV13 dc13 pm13 cd13 ct13 oc14 kV14 dc14 pm14 cd14 ct14 oc15 kV15 dc15 pm15 cd15 ct15 oc16 kV16 dc16 pm16 cd16 ct16 : Value}
    (a0 : PySem.W.nsIn K mainGlobals "is_letter" = some (some (.ref f0))) (l0 : K.lookup f0 = some ⟨oc0, od0, .func (PySem.W.fnOf "is_letter" "is_letter" (defArgs s_is_letter) (defBody s_is_letter) (defScope s_is_letter) .none kV0 dc0 pm0 an0 cd0 ct0), sl0⟩) (c0 : PySem.W.codeIn K cd0 "is_letter" = true) (k0 : PySem.W.keepIn K (.ref f0) = true)
    (a1 : PySem.W.nsIn K mainGlobals "is_tree" = some (some (.ref f1))) (l1 : K.lookup f1 = some ⟨oc1, od1, .func (PySem.W.fnOf "is_tree" "is_tree" (defArgs s_is_tree) (defBody s_is_tree) (defScope s_is_tree) .none kV1 dc1 pm1 an1 cd1 ct1), sl1⟩) (c1 : PySem.W.codeIn K cd1 "is_tree" = true) (k1 : PySem.W.keepIn K (.ref f1) = true)
    (a2 : PySem.W.nsIn K mainGlobals "_is_part" = some (some (.ref f2))) (l2 : K.lookup f2 = some ⟨oc2, od2, .func (PySem.W.fnOf "_is_part" "_is_part" (defArgs s__is_part) (defBody s__is_part) (defScope s__is_part) .none kV2 dc2 pm2 an2 cd2 ct2), sl2⟩) (c2 : PySem.W.codeIn K cd2 "_is_part" = true) (k2 : PySem.W.keepIn K (.ref f2) = true)
    (a3 : PySem.W.nsIn K mainGlobals "check_tree" = some (some (.ref f3))) (l3 : K.lookup f3 = some ⟨oc3, od3, .func (PySem.W.fnOf "check_tree" "check_tree" (defArgs s_check_tree) (defBody s_check_tree) (defScope s_check_tree) .none kV3 dc3 pm3 an3 cd3 ct3), sl3⟩) (c3 : PySem.W.codeIn K cd3 "check_tree" = true) (k3 : PySem.W.keepIn K (.ref f3) = true)
    (a4 : PySem.W.nsIn K mainGlobals "parts_upward" = some (some (.ref f4))) (l4 : K.lookup f4 = some ⟨oc4, od4, .func (PySem.W.fnOf "parts_upward" "parts_upward" (defArgs s_parts_upward) (defBody s_parts_upward) (defScope s_parts_upward) .none kV4 dc4 pm4 an4 cd4 ct4), sl4⟩) (c4 : PySem.W.codeIn K cd4 "parts_upward" = true) (k4 : PySem.W.keepIn K (.ref f4) = true)
    (a5 : PySem.W.nsIn K mainGlobals "size_of" = some (some (.ref f5))) (l5 : K.lookup f5 = some ⟨oc5, od5, .func (PySem.W.fnOf "size_of" "size_of" (defArgs s_size_of) (defBody s_size_of) (defScope s_size_of) .none kV5 dc5 pm5 an5 cd5 ct5), sl5⟩) (c5 : PySem.W.codeIn K cd5 "size_of" = true) (k5 : PySem.W.keepIn K (.ref f5) = true)
    (a6 : PySem.W.nsIn K mainGlobals "depth_of" = some (some (.ref f6))) (l6 : K.lookup f6 = some ⟨oc6, od6, .func (PySem.W.fnOf "depth_of" "depth_of" (defArgs s_depth_of) (defBody s_depth_of) (defScope s_depth_of) .none kV6 dc6 pm6 an6 cd6 ct6), sl6⟩) (c6 : PySem.W.codeIn K cd6 "depth_of" = true) (k6 : PySem.W.keepIn K (.ref f6) = true)
    (a7 : PySem.W.nsIn K mainGlobals "_law_pool" = some (some (.ref f7))) (l7 : K.lookup f7 = some ⟨oc7, od7, .func (PySem.W.fnOf "_law_pool" "_law_pool" (defArgs s__law_pool) (defBody s__law_pool) (defScope s__law_pool) .none kV7 dc7 pm7 an7 cd7 ct7), sl7⟩) (c7 : PySem.W.codeIn K cd7 "_law_pool" = true) (k7 : PySem.W.keepIn K (.ref f7) = true)
    (a8 : PySem.W.nsIn K mainGlobals "_law_take" = some (some (.ref f8))) (l8 : K.lookup f8 = some ⟨oc8, od8, .func (PySem.W.fnOf "_law_take" "_law_take" (defArgs s__law_take) (defBody s__law_take) (defScope s__law_take) .none kV8 dc8 pm8 an8 cd8 ct8), sl8⟩) (c8 : PySem.W.codeIn K cd8 "_law_take" = true) (k8 : PySem.W.keepIn K (.ref f8) = true)
    (a9 : PySem.W.nsIn K mainGlobals "_law_mixed_up" = some (some (.ref f9))) (l9 : K.lookup f9 = some ⟨oc9, od9, .func (PySem.W.fnOf "_law_mixed_up" "_law_mixed_up" (defArgs s__law_mixed_up) (defBody s__law_mixed_up) (defScope s__law_mixed_up) .none kV9 dc9 pm9 an9 cd9 ct9), sl9⟩) (c9 : PySem.W.codeIn K cd9 "_law_mixed_up" = true) (k9 : PySem.W.keepIn K (.ref f9) = true)
    (a10 : PySem.W.nsIn K mainGlobals "_law_grown" = some (some (.ref f10))) (l10 : K.lookup f10 = some ⟨oc10, od10, .func (PySem.W.fnOf "_law_grown" "_law_grown" (defArgs s__law_grown) (defBody s__law_grown) (defScope s__law_grown) .none kV10 dc10 pm10 an10 cd10 ct10), sl10⟩) (c10 : PySem.W.codeIn K cd10 "_law_grown" = true) (k10 : PySem.W.keepIn K (.ref f10) = true)
    (a11 : PySem.W.nsIn K mainGlobals "_law_shuffled" = some (some (.ref f11))) (l11 : K.lookup f11 = some ⟨oc11, od11, .func (PySem.W.fnOf "_law_shuffled" "_law_shuffled" (defArgs s__law_shuffled) (defBody s__law_shuffled) (defScope s__law_shuffled) .none kV11 dc11 pm11 an11 cd11 ct11), sl11⟩) (c11 : PySem.W.codeIn K cd11 "_law_shuffled" = true) (k11 : PySem.W.keepIn K (.ref f11) = true)
    (a12 : PySem.W.nsIn K mainGlobals "_law_tree" = some (some (.ref f12))) (l12 : K.lookup f12 = some ⟨oc12, od12, .func (PySem.W.fnOf "_law_tree" "_law_tree" (defArgs s__law_tree) (defBody s__law_tree) (defScope s__law_tree) .none kV12 dc12 pm12 an12 cd12 ct12), sl12⟩) (c12 : PySem.W.codeIn K cd12 "_law_tree" = true) (k12 : PySem.W.keepIn K (.ref f12) = true)
    (a13 : PySem.W.nsIn K mainGlobals "_law_letters" = some (some (.ref f13))) (l13 : K.lookup f13 = some ⟨oc13, od13, .func (PySem.W.fnOf "_law_letters" "_law_letters" (defArgs s__law_letters) (defBody s__law_letters) (defScope s__law_letters) .none kV13 dc13 pm13 an13 cd13 ct13), sl13⟩) (c13 : PySem.W.codeIn K cd13 "_law_letters" = true) (k13 : PySem.W.keepIn K (.ref f13) = true)
    (a14 : PySem.W.nsIn K mainGlobals "_law_copy" = some (some (.ref f14))) (l14 : K.lookup f14 = some ⟨oc14, od14, .func (PySem.W.fnOf "_law_copy" "_law_copy" (defArgs s__law_copy) (defBody s__law_copy) (defScope s__law_copy) .none kV14 dc14 pm14 an14 cd14 ct14), sl14⟩) (c14 : PySem.W.codeIn K cd14 "_law_copy" = true) (k14 : PySem.W.keepIn K (.ref f14) = true)
    (a15 : PySem.W.nsIn K mainGlobals "_law_counted" = some (some (.ref f15))) (l15 : K.lookup f15 = some ⟨oc15, od15, .func (PySem.W.fnOf "_law_counted" "_law_counted" (defArgs s__law_counted) (defBody s__law_counted) (defScope s__law_counted) .none kV15 dc15 pm15 an15 cd15 ct15), sl15⟩) (c15 : PySem.W.codeIn K cd15 "_law_counted" = true) (k15 : PySem.W.keepIn K (.ref f15) = true)
    (a16 : PySem.W.nsIn K mainGlobals "law" = some (some (.ref f16))) (l16 : K.lookup f16 = some ⟨oc16, od16, .func (PySem.W.fnOf "law" "law" (defArgs s_law) (defBody s_law) (defScope s_law) .none kV16 dc16 pm16 an16 cd16 ct16), sl16⟩) (c16 : PySem.W.codeIn K cd16 "law" = true) (k16 : PySem.W.keepIn K (.ref f16) = true)
    (z_bool : PySem.W.nsIn K mainGlobals "bool" = some none)
    (z_isinstance : PySem.W.nsIn K mainGlobals "isinstance" = some none)
    (z_len : PySem.W.nsIn K mainGlobals "len" = some none)
    (z_list : PySem.W.nsIn K mainGlobals "list" = some none)
    (z_max : PySem.W.nsIn K mainGlobals "max" = some none)
    (z_min : PySem.W.nsIn K mainGlobals "min" = some none)
    (z_range : PySem.W.nsIn K mainGlobals "range" = some none)
    (z_str : PySem.W.nsIn K mainGlobals "str" = some none)
    (z_tuple : PySem.W.nsIn K mainGlobals "tuple" = some none)
    : ∃ fd : FuncData, (∀ (s : Shared) (v : Value), BindsTo s fd ⟨[v], []⟩ [("script", v)]) ∧ ∀ base : Heap, K.In base → base.Ns mainGlobals mg → FnOk l.prog w K mg base CX0 41 fa fd ["script"] (spLaw K) := by
  have e := hfa.symm.trans (PySem.W.mg_of X G a16)
  cases e
  have F0 := fun_mk (st := s_is_letter) l0 c0 k0
  have b0 := F0.binds (ps := ["thing"]) fun _ _ _ _ _ _ us hl => match us, hl with | [_], _ => rfl
  have F1 := fun_mk (st := s_is_tree) l1 c1 k1
  have b1 := F1.binds (ps := ["thing"]) fun _ _ _ _ _ _ us hl => match us, hl with | [_], _ => rfl
  have F2 := fun_mk (st := s__is_part) l2 c2 k2
  have b2 := F2.binds (ps := ["thing"]) fun _ _ _ _ _ _ us hl => match us, hl with | [_], _ => rfl
  have F3 := fun_mk (st := s_check_tree) l3 c3 k3
  have b3 := F3.binds (ps := ["thing"]) fun _ _ _ _ _ _ us hl => match us, hl with | [_], _ => rfl
  have F4 := fun_mk (st := s_parts_upward) l4 c4 k4
  have b4 := F4.binds (ps := ["tree"]) fun _ _ _ _ _ _ us hl => match us, hl with | [_], _ => rfl
  have F5 := fun_mk (st := s_size_of) l5 c5 k5
  have b5 := F5.binds (ps := ["tree"]) fun _ _ _ _ _ _ us hl => match us, hl with | [_], _ => rfl
  have F6 := fun_mk (st := s_depth_of) l6 c6 k6
  have b6 := F6.binds (ps := ["tree"]) fun _ _ _ _ _ _ us hl => match us, hl with | [_], _ => rfl
  have F7 := fun_mk (st := s__law_pool) l7 c7 k7
  have b7 := F7.binds (ps := ["script", "k"]) fun _ _ _ _ _ _ us hl => match us, hl with | [_, _], _ => rfl
  have F8 := fun_mk (st := s__law_take) l8 c8 k8
  have b8 := F8.binds (ps := ["pool", "many"]) fun _ _ _ _ _ _ us hl => match us, hl with | [_, _], _ => rfl
  have F9 := fun_mk (st := s__law_mixed_up) l9 c9 k9
  have b9 := F9.binds (ps := ["pool", "things"]) fun _ _ _ _ _ _ us hl => match us, hl with | [_, _], _ => rfl
  have F10 := fun_mk (st := s__law_grown) l10 c10 k10
  have b10 := F10.binds (ps := ["pool", "most", "letters"]) fun _ _ _ _ _ _ us hl => match us, hl with | [_, _, _], _ => rfl
  have F11 := fun_mk (st := s__law_shuffled) l11 c11 k11
  have b11 := F11.binds (ps := ["pool", "tree"]) fun _ _ _ _ _ _ us hl => match us, hl with | [_, _], _ => rfl
  have F12 := fun_mk (st := s__law_tree) l12 c12 k12
  have b12 := F12.binds (ps := ["pool", "most", "letters"]) fun _ _ _ _ _ _ us hl => match us, hl with | [_, _, _], _ => rfl
  have F13 := fun_mk (st := s__law_letters) l13 c13 k13
  have b13 := F13.binds (ps := ["pool"]) fun _ _ _ _ _ _ us hl => match us, hl with | [_], _ => rfl
  have F14 := fun_mk (st := s__law_copy) l14 c14 k14
  have b14 := F14.binds (ps := ["tree"]) fun _ _ _ _ _ _ us hl => match us, hl with | [_], _ => rfl
  have F15 := fun_mk (st := s__law_counted) l15 c15 k15
  have b15 := F15.binds (ps := ["tree"]) fun _ _ _ _ _ _ us hl => match us, hl with | [_], _ => rfl
  have F16 := fun_mk (st := s_law) l16 c16 k16
  have b16 := F16.binds (ps := ["script"]) fun _ _ _ _ _ _ us hl => match us, hl with | [_], _ => rfl
  let T : Txt K mg := ⟨f0, _, F0, b0, PySem.W.mg_of X G a0, f1, _, F1, b1, PySem.W.mg_of X G a1, f2, _, F2, b2, PySem.W.mg_of X G a2, f3, _, F3, b3, PySem.W.mg_of X G a3, f4, _, F4, b4, PySem.W.mg_of X G a4, f5, _, F5, b5, PySem.W.mg_of X G a5, f6, _, F6, b6, PySem.W.mg_of X G a6, f7, _, F7, b7, PySem.W.mg_of X G a7, f8, _, F8, b8, PySem.W.mg_of X G a8, f9, _, F9, b9, PySem.W.mg_of X G a9, f10, _, F10, b10, PySem.W.mg_of X G a10, f11, _, F11, b11, PySem.W.mg_of X G a11, f12, _, F12, b12, PySem.W.mg_of X G a12, f13, _, F13, b13, PySem.W.mg_of X G a13, f14, _, F14, b14, PySem.W.mg_of X G a14, f15, _, F15, b15, PySem.W.mg_of X G a15, fa, _, F16, b16, PySem.W.mg_of X G a16, PySem.W.mg_none_of X G z_bool, PySem.W.mg_none_of X G z_isinstance, PySem.W.mg_none_of X G z_len, PySem.W.mg_none_of X G z_list, PySem.W.mg_none_of X G z_max, PySem.W.mg_none_of X G z_min, PySem.W.mg_none_of X G z_range, PySem.W.mg_none_of X G z_str, PySem.W.mg_none_of X G z_tuple⟩
  exact ⟨PySem.W.fnOf "law" "law" (defArgs s_law) (defBody s_law) (defScope s_law) .none kV16 dc16 pm16 an16 cd16 ct16, fun s v => .of_eq rfl, fun base _ _ => ok_law T⟩
end My
open PySem PySem.W PyProof.Rows
set_option maxRecDepth 100000 in
set_option maxHeartbeats 0 in
theorem PySem.Challenge.cw_heaptrees_k02_sizes_and_depths_holds : PySem.Challenge.rw_heaptrees_k02_sizes_and_depths.Holds := by
  w_on; o_law; k_head; (case hw => w_witness2)
  k_fill
  refine L2.walk_of (l := PySem.Challenge.rw_heaptrees_k02_sizes_and_depths) (n := 63) (k := 41) (x := "script") (CX := fun _ => L2.CX0) (sp := fun w => My.spLaw _) rfl (by decide) rfl ⟨rfl, by decide, by decide⟩ (fun w h Y => PySem.W.kIn_of Y) ?F (fun _ _ a ns hl _ hS => ⟨a, ns, rfl, hS, hl, fun _ => rfl⟩) (fun _ _ _ _ _ h => h)
  case F =>
    intro w mg fa h KX G hmg
    refine' My.all_mk KX G hmg ?a0 ?l0 ?c0 ?k0 ?a1 ?l1 ?c1 ?k1 ?a2 ?l2 ?c2 ?k2 ?a3 ?l3 ?c3 ?k3 ?a4 ?l4 ?c4 ?k4 ?a5 ?l5 ?c5 ?k5 ?a6 ?l6 ?c6 ?k6 ?a7 ?l7 ?c7 ?k7 ?a8 ?l8 ?c8 ?k8 ?a9 ?l9 ?c9 ?k9 ?a10 ?l10 ?c10 ?k10 ?a11 ?l11 ?c11 ?k11 ?a12 ?l12 ?c12 ?k12 ?a13 ?l13 ?c13 ?k13 ?a14 ?l14 ?c14 ?k14 ?a15 ?l15 ?c15 ?k15 ?a16 ?l16 ?c16 ?k16 ?z_bool ?z_isinstance ?z_len ?z_list ?z_max ?z_min ?z_range ?z_str ?z_tuple
    (case a0 => k_is)
    (case l0 => k_is)
    (case c0 => k_is)
    (case k0 => k_is)
    (case a1 => k_is)
    (case l1 => k_is)
    (case c1 => k_is)
    (case k1 => k_is)
    (case a2 => k_is)
    (case l2 => k_is)
    (case c2 => k_is)
    (case k2 => k_is)
    (case a3 => k_is)
    (case l3 => k_is)
    (case c3 => k_is)
    (case k3 => k_is)
    (case a4 => k_is)
    (case l4 => k_is)
    (case c4 => k_is)
    (case k4 => k_is)
    (case a5 => k_is)
    (case l5 => k_is)
    (case c5 => k_is)
    (case k5 => k_is)
    (case a6 => k_is)
    (case l6 => k_is)
    (case c6 => k_is)
    (case k6 => k_is)
    (case a7 => k_is)
    (case l7 => k_is)
    (case c7 => k_is)
    (case k7 => k_is)
    (case a8 => k_is)
    (case l8 => k_is)
    (case c8 => k_is)
    (case k8 => k_is)
    (case a9 => k_is)
    (case l9 => k_is)
    (case c9 => k_is)
    (case k9 => k_is)
    (case a10 => k_is)
    (case l10 => k_is)
    (case c10 => k_is)
    (case k10 => k_is)
    (case a11 => k_is)
    (case l11 => k_is)
    (case c11 => k_is)
    (case k11 => k_is)
    (case a12 => k_is)
    (case l12 => k_is)
    (case c12 => k_is)
    (case k12 => k_is)
    (case a13 => k_is)
    (case l13 => k_is)
    (case c13 => k_is)
    (case k13 => k_is)
    (case a14 => k_is)
    (case l14 => k_is)
    (case c14 => k_is)
    (case k14 => k_is)
    (case a15 => k_is)
    (case l15 => k_is)
    (case c15 => k_is)
    (case k15 => k_is)
    (case a16 => k_is)
    (case l16 => k_is)
    (case c16 => k_is)
    (case k16 => k_is)
    (case z_bool => k_is)
    (case z_isinstance => k_is)
    (case z_len => k_is)
    (case z_list => k_is)
    (case z_max => k_is)
    (case z_min => k_is)
    (case z_range => k_is)
    (case z_str => k_is)
    (case z_tuple => k_is)
#print axioms PySem.Challenge.cw_heaptrees_k02_sizes_and_depths_holds
