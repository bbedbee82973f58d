/- What a verifier takes: the way up from a leaf and from a beginning, over any kind of node; what the tree's own path leads to, for lists of up to forty leaves: checked on trees of names, and carried over. Plain. -/
import Derived.Test.YtlbggkmblkhjoaaDoorMf
namespace Go.Proofs.YtlbggkmblkhjoaaDoor

namespace V
/-- Both are halved until the first is odd or 0. -/
def up : Nat → Nat → Nat → Nat × Nat
  | 0, f, s => (f, s)
  | k + 1, f, s => if f % 2 = 1 ∨ f = 0 then (f, s) else up k (f / 2) (s / 2)
/-- Both are halved as long as the first is odd. -/
def low : Nat → Nat → Nat → Nat × Nat
  | 0, f, s => (f, s)
  | k + 1, f, s => if f % 2 = 1 then low k (f / 2) (s / 2) else (f, s)
section
variable {α β : Type} (nd : α → α → α) (z : α)
/-- The way up from a leaf: what it ends with. -/
def run : Nat → Nat → α → List α → Option α
  | _, s, r, [] => if s = 0 then some r else none
  | f, s, r, p :: ps =>
    if s = 0 then none else if f % 2 = 1 ∨ f = s then run ((up 64 f s).1 / 2) ((up 64 f s).2 / 2) (nd p r) ps
    else run (f / 2) (s / 2) (nd r p) ps
/-- The way up from a beginning: both that it ends with. -/
def runP : Nat → Nat → α → α → List α → Option (α × α)
  | _, s, x, y, [] => if s = 0 then some (x, y) else none
  | f, s, x, y, p :: ps =>
    if s = 0 then none else if f % 2 = 1 ∨ f = s then runP ((up 64 f s).1 / 2) ((up 64 f s).2 / 2) (nd p x) (nd p y) ps
    else runP (f / 2) (s / 2) x (nd y p) ps
def pre (f s : Nat) : List α → Option (α × α)
  | [] => none
  | c :: cs => runP nd (low 64 f s).1 (low 64 f s).2 c c cs
def root : Nat → List α → α
  | 0, _ => z
  | k + 1, l => if l.length ≤ 1 then l.getD 0 z else nd (root k (l.take (S.half l.length))) (root k (l.drop (S.half l.length)))
def path : Nat → List α → Nat → List α
  | 0, _, _ => []
  | k + 1, l, i => if l.length ≤ 1 then [] else
    if i < S.half l.length then path k (l.take (S.half l.length)) i ++ [root nd z k (l.drop (S.half l.length))]
    else path k (l.drop (S.half l.length)) (i - S.half l.length) ++ [root nd z k (l.take (S.half l.length))]
def grow : Nat → List α → Nat → Bool → List α
  | 0, _, _, _ => []
  | k + 1, l, m, b => if m = l.length then (if b then [] else [root nd z (k + 1) l]) else if l.length ≤ 1 then [] else
    if m ≤ S.half l.length then grow k (l.take (S.half l.length)) m b ++ [root nd z k (l.drop (S.half l.length))]
    else grow k (l.drop (S.half l.length)) (m - S.half l.length) false ++ [root nd z k (l.take (S.half l.length))]
end
section
variable {α β : Type} (nd : α → α → α) (z : α) (ne : β → β → β) (e : α → β) (he : ∀ x y, e (nd x y) = ne (e x) (e y))
include he
theorem run_hom : ∀ (ps : List α) (f s : Nat) (r : α), run ne f s (e r) (ps.map e) = (run nd f s r ps).map e := by
  intro ps
  induction ps with
  | nil => intro f s r; simp only [run, List.map_nil]; split <;> rfl
  | cons p ps ih =>
    intro f s r
    simp only [run, List.map_cons, ← he, ih]
    split
    · rfl
    · split <;> rfl
theorem runP_hom : ∀ (ps : List α) (f s : Nat) (x y : α), runP ne f s (e x) (e y) (ps.map e) = (runP nd f s x y ps).map (fun q => (e q.1, e q.2)) := by
  intro ps
  induction ps with
  | nil => intro f s x y; simp only [runP, List.map_nil]; split <;> rfl
  | cons p ps ih =>
    intro f s x y
    simp only [runP, List.map_cons, ← he, ih]
    split
    · rfl
    · split <;> rfl
theorem pre_hom (f s : Nat) (l : List α) : pre ne f s (l.map e) = (pre nd f s l).map (fun q => (e q.1, e q.2)) := by
  cases l with
  | nil => rfl
  | cons c cs => exact runP_hom nd ne e he cs _ _ c c
theorem root_hom : ∀ k (l : List α), root ne (e z) k (l.map e) = e (root nd z k l) := by
  intro k
  induction k with
  | zero => intro l; rfl
  | succ k ih =>
    intro l
    simp only [root, List.length_map, ← List.map_take, ← List.map_drop, ih, ← he]
    split
    · cases l <;> simp
    · rfl
theorem path_hom : ∀ k (l : List α) (i : Nat), path ne (e z) k (l.map e) i = (path nd z k l i).map e := by
  intro k
  induction k with
  | zero => intro l i; rfl
  | succ k ih =>
    intro l i
    simp only [path, List.length_map, ← List.map_take, ← List.map_drop, ih, root_hom nd z ne e he]
    split
    · rfl
    · split <;> simp
theorem grow_hom : ∀ k (l : List α) (m : Nat) (b : Bool), grow ne (e z) k (l.map e) m b = (grow nd z k l m b).map e := by
  intro k
  induction k with
  | zero => intro l m b; rfl
  | succ k ih =>
    intro l m b
    simp only [grow, List.length_map, ← List.map_take, ← List.map_drop, ih, root_hom nd z ne e he]
    split
    · cases b <;> simp
    · split
      · rfl
      · split <;> simp
end
/-- A tree of names. -/
inductive T where
  | leaf (n : Nat)
  | node (l r : T)
  deriving DecidableEq
def lv (n : Nat) : List T := (List.range n).map T.leaf
theorem chk_leaf : ∀ n, n < 41 → ∀ i, i < n → run T.node i (n - 1) (T.leaf i) (path T.node (T.leaf 0) 41 (lv n) i) = some (root T.node (T.leaf 0) 41 (lv n)) := by decide +kernel
theorem chk_pre : ∀ n, n < 41 → ∀ m, m < n → 0 < m → pre T.node (m - 1) (n - 1) ((if m &&& (m - 1) = 0 then [root T.node (T.leaf 0) 41 ((lv n).take m)] else []) ++ grow T.node (T.leaf 0) 41 (lv n) m true) = some (root T.node (T.leaf 0) 41 ((lv n).take m), root T.node (T.leaf 0) 41 (lv n)) ∧ grow T.node (T.leaf 0) 41 (lv n) m true ≠ [] := by decide +kernel
theorem chk_long : ∀ n, n < 41 → ∀ i, i < n → (path T.node (T.leaf 0) 41 (lv n) i).length ≤ 6 := by decide +kernel
theorem chk_wide : ∀ n, n < 41 → ∀ m, m < n + 1 → (grow T.node (T.leaf 0) 41 (lv n) m true).length ≤ 7 := by decide +kernel
/-- What a tree of names stands for. -/
def ev {β : Type} (ne : β → β → β) (g : Nat → β) : T → β
  | .leaf n => g n
  | .node l r => ne (ev ne g l) (ev ne g r)
theorem lv_ev {β : Type} (ne : β → β → β) (g : Nat → β) (n : Nat) : (lv n).map (ev ne g) = (List.range n).map g := by
  simp [lv, List.map_map, Function.comp_def, ev]
end V
namespace S
theorem leaves_map (a : Int) (l : List (List UInt8)) : l.map (leaf a) = (List.range l.length).map fun i => leaf a (l.getD i []) := by
  apply List.ext_getElem
  · simp
  · intro i h1 h2
    simp at h1 h2 ⊢
    rw [List.getElem?_eq_getElem h1]; rfl
theorem root_V (a : Int) (z : List UInt8) : ∀ k (l : List (List UInt8)), 1 ≤ l.length → l.length ≤ k → root a l = V.root (node a) z k (l.map (leaf a)) := by
  intro k
  induction k with
  | zero => intro l h1 h2; omega
  | succ k ih =>
    intro l h1 h2
    by_cases h : l.length = 1
    · rw [root_one a l h]
      simp only [V.root, List.length_map, h, Nat.le_refl, if_true]
      match l, h with
      | [x], _ => rfl
    · have h3 := half_lt' (show 2 ≤ l.length by omega)
      have h4 := half_pos l.length
      rw [root_more a l (by omega), ih _ (by rw [List.length_take]; omega) (by rw [List.length_take]; omega), ih _ (by rw [List.length_drop]; omega) (by rw [List.length_drop]; omega)]
      simp only [V.root, List.length_map, ← List.map_take, ← List.map_drop]
      rw [if_neg (by omega)]
theorem path_V (a : Int) (z : List UInt8) : ∀ k (l : List (List UInt8)) (i : Nat), l.length ≤ k → path a l i = V.path (node a) z k (l.map (leaf a)) i := by
  intro k
  induction k with
  | zero => intro l i h2; rw [path_one a l i (by omega)]; rfl
  | succ k ih =>
    intro l i h2
    by_cases h : l.length ≤ 1
    · rw [path_one a l i h]; simp only [V.path, List.length_map, h, if_true]
    · have h3 := half_lt' (show 2 ≤ l.length by omega)
      have h4 := half_pos l.length
      simp only [V.path, List.length_map, ← List.map_take, ← List.map_drop]
      rw [if_neg h]
      by_cases hi : i < half l.length
      · rw [path_left a l i (by omega) hi, if_pos hi, ih _ _ (by rw [List.length_take]; omega), root_V a z k _ (by rw [List.length_drop]; omega) (by rw [List.length_drop]; omega)]
      · rw [path_right a l i (by omega) hi, if_neg hi, ih _ _ (by rw [List.length_drop]; omega), root_V a z k _ (by rw [List.length_take]; omega) (by rw [List.length_take]; omega)]
theorem grow_V (a : Int) (z : List UInt8) : ∀ k (l : List (List UInt8)) (m : Nat) (b : Bool), 1 ≤ l.length → l.length ≤ k → grow a l m b = V.grow (node a) z k (l.map (leaf a)) m b := by
  intro k
  induction k with
  | zero => intro l m b h1 h2; omega
  | succ k ih =>
    intro l m b h1 h2
    by_cases hm : m = l.length
    · cases b
      · rw [grow_part a l m hm, root_V a z (k + 1) l h1 h2]; simp only [V.grow, List.length_map, hm, if_true]; rfl
      · rw [grow_all a l m hm]; simp only [V.grow, List.length_map, hm, if_true]
    · by_cases h : l.length ≤ 1
      · rw [grow, if_neg hm, dif_pos h]; simp only [V.grow, List.length_map, hm, h, if_true, if_false]
      · have h3 := half_lt' (show 2 ≤ l.length by omega)
        have h4 := half_pos l.length
        simp only [V.grow, List.length_map, ← List.map_take, ← List.map_drop]
        rw [if_neg hm, if_neg h]
        by_cases hi : m ≤ half l.length
        · rw [grow_left a l m b (by omega) hm hi, if_pos hi, ih _ _ _ (by rw [List.length_take]; omega) (by rw [List.length_take]; omega), root_V a z k _ (by rw [List.length_drop]; omega) (by rw [List.length_drop]; omega)]
        · rw [grow_right a l m b (by omega) hm hi, if_neg hi, ih _ _ _ (by rw [List.length_drop]; omega) (by rw [List.length_drop]; omega), root_V a z k _ (by rw [List.length_take]; omega) (by rw [List.length_take]; omega)]
/-- What the path of a leaf leads to. -/
theorem leaf_takes (a : Int) (l : List (List UInt8)) (i : Nat) (hn : l.length ≤ 40) (hi : i < l.length) : V.run (node a) i (l.length - 1) (leaf a (l.getD i [])) (path a l i) = some (root a l) := by
  let g := fun i => leaf a (l.getD i [])
  have hl : l.map (leaf a) = (V.lv l.length).map (V.ev (node a) g) := by rw [leaves_map, V.lv_ev]
  have hh : ∀ x y, V.ev (node a) g (.node x y) = node a (V.ev (node a) g x) (V.ev (node a) g y) := fun _ _ => rfl
  rw [path_V a (V.ev (node a) g (.leaf 0)) 41 l i (by omega), root_V a (V.ev (node a) g (.leaf 0)) 41 l (by omega) (by omega), hl, V.path_hom V.T.node (.leaf 0) (node a) _ hh, V.root_hom V.T.node (.leaf 0) (node a) _ hh]
  rw [show leaf a (l.getD i []) = V.ev (node a) g (.leaf i) from rfl, V.run_hom V.T.node (node a) _ hh, V.chk_leaf l.length (by omega) i hi]
  rfl
/-- What the proof of a beginning leads to. -/
theorem pre_takes (a : Int) (l : List (List UInt8)) (m : Nat) (hn : l.length ≤ 40) (h0 : 0 < m) (hm : m < l.length) : V.pre (node a) (m - 1) (l.length - 1) ((if m &&& (m - 1) = 0 then [root a (l.take m)] else []) ++ grow a l m true) = some (root a (l.take m), root a l) ∧ grow a l m true ≠ [] := by
  let g := fun i => leaf a (l.getD i [])
  have hl : l.map (leaf a) = (V.lv l.length).map (V.ev (node a) g) := by rw [leaves_map, V.lv_ev]
  have hh : ∀ x y, V.ev (node a) g (.node x y) = node a (V.ev (node a) g x) (V.ev (node a) g y) := fun _ _ => rfl
  have hr : root a l = V.ev (node a) g (V.root V.T.node (.leaf 0) 41 (V.lv l.length)) := by
    rw [root_V a (V.ev (node a) g (.leaf 0)) 41 l (by omega) (by omega), hl, V.root_hom V.T.node (.leaf 0) (node a) _ hh]
  have ht : root a (l.take m) = V.ev (node a) g (V.root V.T.node (.leaf 0) 41 ((V.lv l.length).take m)) := by
    rw [root_V a (V.ev (node a) g (.leaf 0)) 41 (l.take m) (by rw [List.length_take]; omega) (by rw [List.length_take]; omega), List.map_take, hl, ← List.map_take, V.root_hom V.T.node (.leaf 0) (node a) _ hh]
  have hg : grow a l m true = (V.grow V.T.node (.leaf 0) 41 (V.lv l.length) m true).map (V.ev (node a) g) := by
    rw [grow_V a (V.ev (node a) g (.leaf 0)) 41 l m true (by omega) (by omega), hl, V.grow_hom V.T.node (.leaf 0) (node a) _ hh]
  obtain ⟨c1, c2⟩ := V.chk_pre l.length (by omega) m hm h0
  rw [hr, ht, hg]
  refine ⟨?_, by simpa using c2⟩
  rw [show (if m &&& (m - 1) = 0 then [V.ev (node a) g (V.root V.T.node (.leaf 0) 41 ((V.lv l.length).take m))] else []) = (if m &&& (m - 1) = 0 then [V.root V.T.node (.leaf 0) 41 ((V.lv l.length).take m)] else []).map (V.ev (node a) g) by split <;> rfl, ← List.map_append, V.pre_hom V.T.node (node a) _ hh, c1]
  rfl
end S
end Go.Proofs.YtlbggkmblkhjoaaDoor
namespace Go.Proofs.YtlbggkmblkhjoaaDoor

namespace V
theorem up_more : ∀ k f s, f < 2 ^ k → up k f s = up (k + 1) f s := by
  intro k
  induction k with
  | zero => intro f s h; have : f = 0 := by simpa using h
            subst this; rfl
  | succ k ih =>
    intro f s h
    rw [up, up]
    split
    · rfl
    · exact ih _ _ (by rw [Nat.pow_succ] at h; omega)
theorem up_odd (k f s : Nat) (h : f % 2 = 1) : up k f s = (f, s) := by cases k <;> simp [up, h]
theorem up_even (f s : Nat) (h : f % 2 = 0) (h0 : f ≠ 0) (hf : f < 2 ^ 64) : up 64 f s = up 64 (f / 2) (s / 2) := by
  rw [← up_more 63 (f / 2) (s / 2) (by omega)]
  rw [show up 64 f s = if f % 2 = 1 ∨ f = 0 then (f, s) else up 63 (f / 2) (s / 2) from rfl, if_neg (by omega)]
section
variable {α : Type} (nd : α → α → α)
theorem run_skip (f s : Nat) (r : α) (ps : List α) (h : f % 2 = 0) (hs : f = s) (h0 : s ≠ 0) (hf : f < 2 ^ 64) : run nd f s r ps = run nd (f / 2) (s / 2) r ps := by
  cases ps with
  | nil => simp only [run]; rw [if_neg h0, if_neg (by omega)]
  | cons p ps =>
    simp only [run]
    rw [if_neg h0, if_pos (Or.inr hs), if_neg (by omega), if_pos (Or.inr (by omega)), up_even f s h (by omega) hf]
theorem run_odd (f s : Nat) (r p : α) (ps : List α) (h : f % 2 = 1) (h0 : s ≠ 0) : run nd f s r (p :: ps) = run nd (f / 2) (s / 2) (nd p r) ps := by
  simp only [run]; rw [if_neg h0, if_pos (Or.inl h), up_odd 64 f s h]
theorem run_even (f s : Nat) (r p : α) (ps : List α) (h : f % 2 = 0) (hs : f ≠ s) (h0 : s ≠ 0) : run nd f s r (p :: ps) = run nd (f / 2) (s / 2) (nd r p) ps := by
  simp only [run]; rw [if_neg h0, if_neg (by omega)]
theorem run_nil (f s : Nat) (r : α) (h0 : s ≠ 0) : run nd f s r [] = none := by simp only [run]; rw [if_neg h0]
end
/-- How many hashes a way up takes. -/
def need (f s : Nat) : Nat :=
  if _h : s = 0 then 0 else if f % 2 = 0 ∧ f = s then need (f / 2) (s / 2) else need (f / 2) (s / 2) + 1
  termination_by s
theorem need_le : ∀ k f s, s < 2 ^ k → need f s ≤ k := by
  intro k
  induction k with
  | zero => intro f s h; have : s = 0 := by simpa using h
            subst this; rw [need, dif_pos rfl]; omega
  | succ k ih =>
    intro f s h
    rw [need]
    have := ih (f / 2) (s / 2) (by rw [Nat.pow_succ] at h; omega)
    split
    · omega
    · split <;> omega
end V
namespace S
theorem cut_take (d : List UInt8) (a : Nat) : (cut d a).take a = d.take a := by
  apply List.ext_getElem?
  intro j
  simp only [List.getElem?_take, cut, zero_get]
  split
  · rw [if_neg (by omega)]
  · rfl
theorem cut_twice (d : List UInt8) (hd : d.length = 32) (a : Nat) : cut (cut d a) a = cut d a := by rw [cut_cut d hd, Nat.min_self]
theorem cut_hsh (a : Int) (t : List UInt8) : cut (hsh a t) (cw a) = hsh a t := cut_twice _ (sum_length _) _
theorem cut_inj (d e : List UInt8) (hd : d.length = 32) (he : e.length = 32) (a : Nat) (h : d.take a = e.take a) : cut d a = cut e a := by
  apply List.ext_getElem?
  intro j
  have := congrArg (fun l => l[j]?) h
  simp only [List.getElem?_take] at this
  simp only [cut, zero_get, hd, he]
  by_cases hj : j < a
  · rw [if_neg (by omega), if_neg (by omega)]; simpa [hj] using this
  · by_cases h2 : j < 32
    · rw [if_pos (by omega), if_pos (by omega)]
    · rw [if_neg (by omega), if_neg (by omega), List.getElem?_eq_none (by omega), List.getElem?_eq_none (by omega)]
theorem hsh_inj (a : Int) (t u : List UInt8) (h : (hsh a t).take (cw a) = (hsh a u).take (cw a)) : hsh a t = hsh a u := by
  have := cut_inj _ _ (hsh_length a t) (hsh_length a u) _ h
  rwa [cut_hsh, cut_hsh] at this
/-- What is hashed of two hashes. -/
def txt (a : Int) (d e : List UInt8) : List UInt8 := 1 :: (d.take (cw a) ++ e.take (cw a))
theorem node_txt (a : Int) (d e : List UInt8) : node a d e = hsh a (txt a d e) := rfl
theorem txt_cut_l (a : Int) (d e : List UInt8) : txt a (cut d (cw a)) e = txt a d e := by rw [txt, txt, cut_take]
theorem txt_cut_r (a : Int) (d e : List UInt8) : txt a d (cut e (cw a)) = txt a d e := by rw [txt, txt, cut_take]
theorem node_cut_l (a : Int) (d e : List UInt8) : node a (cut d (cw a)) e = node a d e := by rw [node_txt, txt_cut_l]; rfl
theorem node_cut_r (a : Int) (d e : List UInt8) : node a d (cut e (cw a)) = node a d e := by rw [node_txt, txt_cut_r]; rfl
theorem txt_inj (a : Int) (d e f g : List UInt8) (hd : d.length = 32) (hf : f.length = 32) (h : txt a d e = txt a f g) : d.take (cw a) = f.take (cw a) ∧ e.take (cw a) = g.take (cw a) := by
  have := (List.cons.inj h).2
  exact List.append_inj this (by rw [List.length_take, List.length_take]; omega)
theorem run_cut (a : Int) : ∀ (ps : List (List UInt8)) (f s : Nat) (r : List UInt8), V.run (node a) f s r (ps.map fun d => cut d (cw a)) = V.run (node a) f s r ps := by
  intro ps
  induction ps with
  | nil => intro f s r; rfl
  | cons p ps ih => intro f s r; simp only [V.run, List.map_cons, node_cut_l, node_cut_r, ih]
theorem root_cut (a : Int) (l : List (List UInt8)) : cut (root a l) (cw a) = root a l := by
  rcases (by omega : l.length = 0 ∨ l.length = 1 ∨ 2 ≤ l.length) with h | h | h
  · rw [root_none a l h, cut_hsh]
  · rw [root_one a l h]; exact cut_hsh _ _
  · rw [root_more a l h]; exact cut_hsh _ _
theorem path_cut (a : Int) : ∀ N (l : List (List UInt8)) i, l.length = N → ((path a l i).map fun d => cut d (cw a)) = path a l i := by
  intro N
  induction N using Nat.strongRecOn with
  | ind N IH =>
  intro l i hl
  by_cases h : l.length ≤ 1
  · rw [path_one a l i h]; rfl
  · have h2 := half_lt' (show 2 ≤ l.length by omega)
    have h3 := half_pos l.length
    by_cases hi : i < half l.length
    · rw [path_left a l i (by omega) hi, List.map_append, IH (l.take (half l.length)).length (by rw [List.length_take]; omega) _ _ rfl, List.map_cons, root_cut]; rfl
    · rw [path_right a l i (by omega) hi, List.map_append, IH (l.drop (half l.length)).length (by rw [List.length_drop]; omega) _ _ rfl, List.map_cons, root_cut]; rfl
theorem grow_cut (a : Int) : ∀ N (l : List (List UInt8)) m b, l.length = N → ((grow a l m b).map fun d => cut d (cw a)) = grow a l m b := by
  intro N
  induction N using Nat.strongRecOn with
  | ind N IH =>
  intro l m b hl
  by_cases hm : m = l.length
  · cases b
    · rw [grow_part a l m hm, List.map_cons, root_cut]; rfl
    · rw [grow_all a l m hm]; rfl
  · by_cases h : l.length ≤ 1
    · rw [grow, if_neg hm, dif_pos h]; rfl
    · have h2 := half_lt' (show 2 ≤ l.length by omega)
      have h3 := half_pos l.length
      by_cases hi : m ≤ half l.length
      · rw [grow_left a l m b (by omega) hm hi, List.map_append, IH (l.take (half l.length)).length (by rw [List.length_take]; omega) _ _ _ rfl, List.map_cons, root_cut]; rfl
      · rw [grow_right a l m b (by omega) hm hi, List.map_append, IH (l.drop (half l.length)).length (by rw [List.length_drop]; omega) _ _ _ rfl, List.map_cons, root_cut]; rfl
/-- Is the leaf b shown at the place i of n? -/
def vLeaf (a : Int) (b : List UInt8) (i n : Nat) (ps : List (List UInt8)) (rt : List UInt8) : Bool :=
  decide (i < n ∧ V.run (node a) i (n - 1) (leaf a b) ps = some (cut rt (cw a)))
/-- Is the beginning shown? -/
def vPre (a : Int) (m n : Nat) (old rt : List UInt8) (ps : List (List UInt8)) : Bool :=
  if m = 0 ∨ n < m then false else if m = n then decide (ps = [] ∧ cut old (cw a) = cut rt (cw a)) else if ps = [] then false else
  decide (V.pre (node a) (m - 1) (n - 1) ((if m &&& (m - 1) = 0 then [cut old (cw a)] else []) ++ ps.map fun d => cut d (cw a)) = some (cut old (cw a), cut rt (cw a)))
theorem vLeaf_takes (a : Int) (l : List (List UInt8)) (i : Nat) (hn : l.length ≤ 40) (hi : i < l.length) : vLeaf a (l.getD i []) i l.length (path a l i) (root a l) = true := by
  rw [vLeaf, decide_eq_true_iff]; exact ⟨hi, by rw [root_cut]; exact leaf_takes a l i hn hi⟩
theorem vPre_takes (a : Int) (l : List (List UInt8)) (m : Nat) (hn : l.length ≤ 40) (h0 : 0 < m) (hm : m ≤ l.length) : vPre a m l.length (root a (l.take m)) (root a l) (grow a l m true) = true := by
  rw [vPre, if_neg (by omega), root_cut, root_cut]
  by_cases h : m = l.length
  · rw [if_pos h, decide_eq_true_iff]; exact ⟨grow_all a l m h, by rw [h, List.take_length]⟩
  · obtain ⟨h1, h2⟩ := pre_takes a l m hn h0 (by omega)
    rw [if_neg h, if_neg h2, decide_eq_true_iff, grow_cut a l.length l m true rfl]; exact h1
/-- What is hashed on the way up, from the text t on. -/
def way (a : Int) (f s : Nat) (t : List UInt8) (ps : List (List UInt8)) : Option (List (List UInt8)) :=
  if _h : s = 0 then (if ps = [] then some [t] else none) else
  if f % 2 = 0 ∧ f = s then way a (f / 2) (s / 2) t ps else
  match ps with
  | [] => none
  | p :: ps => (way a (f / 2) (s / 2) (if f % 2 = 1 then txt a p (hsh a t) else txt a (hsh a t) p) ps).map (t :: ·)
  termination_by s
theorem way_zero (a : Int) (f : Nat) (t : List UInt8) (ps : List (List UInt8)) : way a f 0 t ps = if ps = [] then some [t] else none := by rw [way.eq_def, dif_pos rfl]
theorem way_skip (a : Int) (f s : Nat) (t : List UInt8) (ps : List (List UInt8)) (h0 : s ≠ 0) (h : f % 2 = 0) (hs : f = s) : way a f s t ps = way a (f / 2) (s / 2) t ps := by
  rw [way.eq_def, dif_neg h0, if_pos ⟨h, hs⟩]
theorem way_nil (a : Int) (f s : Nat) (t : List UInt8) (h0 : s ≠ 0) (h : ¬ (f % 2 = 0 ∧ f = s)) : way a f s t [] = none := by
  rw [way, dif_neg h0, if_neg h]
theorem way_cons (a : Int) (f s : Nat) (t p : List UInt8) (ps : List (List UInt8)) (h0 : s ≠ 0) (h : ¬ (f % 2 = 0 ∧ f = s)) : way a f s t (p :: ps) = (way a (f / 2) (s / 2) (if f % 2 = 1 then txt a p (hsh a t) else txt a (hsh a t) p) ps).map (t :: ·) := by
  rw [way, dif_neg h0, if_neg h]
theorem way_need (a : Int) : ∀ s f t ps l, way a f s t ps = some l → ps.length = V.need f s ∧ l.length = V.need f s + 1 := by
  intro s
  induction s using Nat.strongRecOn with
  | ind s IH =>
  intro f t ps l h
  by_cases h0 : s = 0
  · subst h0
    rw [way_zero] at h
    rw [V.need, dif_pos rfl]
    split at h
    · rename_i hp; cases h; subst hp; exact ⟨rfl, rfl⟩
    · cases h
  · rw [V.need, dif_neg h0]
    by_cases hs : f % 2 = 0 ∧ f = s
    · rw [way_skip a f s t ps h0 hs.1 hs.2] at h
      rw [if_pos hs]; exact IH (s / 2) (by omega) _ _ _ _ h
    · rw [if_neg hs]
      cases ps with
      | nil => rw [way_nil a f s t h0 hs] at h; cases h
      | cons p ps =>
        rw [way_cons a f s t p ps h0 hs] at h
        obtain ⟨l', hl', rfl⟩ := Option.map_eq_some_iff.1 h
        have := IH (s / 2) (by omega) _ _ _ _ hl'
        simp only [List.length_cons]; omega
theorem way_some (a : Int) : ∀ s f t ps, ps.length = V.need f s → ∃ l, way a f s t ps = some l := by
  intro s
  induction s using Nat.strongRecOn with
  | ind s IH =>
  intro f t ps h
  by_cases h0 : s = 0
  · subst h0
    rw [V.need, dif_pos rfl] at h
    rw [way_zero, if_pos (List.length_eq_zero_iff.1 h)]; exact ⟨_, rfl⟩
  · rw [V.need, dif_neg h0] at h
    by_cases hs : f % 2 = 0 ∧ f = s
    · rw [way_skip a f s t ps h0 hs.1 hs.2]
      rw [if_pos hs] at h; exact IH (s / 2) (by omega) _ _ _ h
    · rw [if_neg hs] at h
      cases ps with
      | nil => simp at h
      | cons p ps =>
        rw [way_cons a f s t p ps h0 hs]
        obtain ⟨l, hl⟩ := IH (s / 2) (by omega) (f / 2) (if f % 2 = 1 then txt a p (hsh a t) else txt a (hsh a t) p) ps (by simpa using h)
        exact ⟨t :: l, by rw [hl]; rfl⟩
def lastOf (l : List (List UInt8)) : List UInt8 := l.getLast?.getD []
theorem lastOf_cons (t : List UInt8) (l : List (List UInt8)) (h : l ≠ []) : lastOf (t :: l) = lastOf l := by
  cases l with
  | nil => exact absurd rfl h
  | cons x xs => simp [lastOf, List.getLast?_cons_cons]
theorem way_ne (a : Int) (s f : Nat) (t : List UInt8) (ps l : List (List UInt8)) (h : way a f s t ps = some l) : l ≠ [] := by
  intro e; subst e; have := (way_need a s f t ps [] h).2; simp at this
/-- The way by texts and the way by hashes lead to one end. -/
theorem way_run (a : Int) : ∀ s f t ps, f < 2 ^ 64 → (way a f s t ps).map (fun l => hsh a (lastOf l)) = V.run (node a) f s (hsh a t) ps := by
  intro s
  induction s using Nat.strongRecOn with
  | ind s IH =>
  intro f t ps hf
  by_cases h0 : s = 0
  · subst h0
    rw [way_zero]
    cases ps with
    | nil => rfl
    | cons p ps => simp only [V.run]; rfl
  · by_cases hs : f % 2 = 0 ∧ f = s
    · rw [way_skip a f s t ps h0 hs.1 hs.2, V.run_skip _ f s _ ps hs.1 hs.2 h0 hf]; exact IH (s / 2) (by omega) _ _ _ (by omega)
    · cases ps with
      | nil => rw [way_nil a f s t h0 hs, V.run_nil _ f s _ h0]; rfl
      | cons p ps =>
        rw [way_cons a f s t p ps h0 hs]
        have e : ∀ t', ((way a (f / 2) (s / 2) t' ps).map (t :: ·)).map (fun l => hsh a (lastOf l)) = (way a (f / 2) (s / 2) t' ps).map (fun l => hsh a (lastOf l)) := by
          intro t'
          cases hw : way a (f / 2) (s / 2) t' ps with
          | none => rfl
          | some l => simp only [Option.map_some]; rw [lastOf_cons t l (way_ne a _ _ _ _ _ hw)]
        rw [e, IH (s / 2) (by omega) _ _ _ (by omega)]
        by_cases ho : f % 2 = 1
        · rw [if_pos ho, V.run_odd _ f s _ p ps ho h0]; rfl
        · rw [if_neg ho, V.run_even _ f s _ p ps (by omega) (by omega) h0]; rfl
/-- The first two unlike texts of one hash, side by side. -/
def coll (a : Int) : List (List UInt8) → List (List UInt8) → Option (List UInt8 × List UInt8)
  | x :: xs, y :: ys => if x ≠ y ∧ hsh a x = hsh a y then some (x, y) else coll a xs ys
  | _, _ => none
theorem coll_is (a : Int) : ∀ (x y : List (List UInt8)) u v, coll a x y = some (u, v) → u ≠ v ∧ hsh a u = hsh a v := by
  intro x
  induction x with
  | nil => intro y u v h; simp [coll] at h
  | cons p x ih =>
    intro y u v h
    cases y with
    | nil => simp [coll] at h
    | cons q y =>
      rw [coll] at h
      split at h
      · rename_i hc; cases h; exact hc
      · exact ih y u v h
theorem coll_some (a : Int) : ∀ s f t u ps qs x y, way a f s t ps = some x → way a f s u qs = some y → (∀ p ∈ ps, p.length = 32) → (∀ q ∈ qs, q.length = 32) → t ≠ u → hsh a (lastOf x) = hsh a (lastOf y) → ∃ r, coll a x y = some r := by
  intro s
  induction s using Nat.strongRecOn with
  | ind s IH =>
  intro f t u ps qs x y hx hy hps hqs htu hl
  by_cases h0 : s = 0
  · subst h0
    rw [way_zero] at hx hy
    split at hx <;> split at hy <;> cases hx <;> cases hy
    refine ⟨(t, u), ?_⟩
    rw [coll, if_pos ⟨htu, hl⟩]
  · by_cases hs : f % 2 = 0 ∧ f = s
    · rw [way_skip a f s _ _ h0 hs.1 hs.2] at hx hy
      exact IH (s / 2) (by omega) _ _ _ _ _ _ _ hx hy hps hqs htu hl
    · cases ps with
      | nil => rw [way_nil a f s t h0 hs] at hx; cases hx
      | cons p ps =>
        cases qs with
        | nil => rw [way_nil a f s u h0 hs] at hy; cases hy
        | cons q qs =>
          rw [way_cons a f s _ _ _ h0 hs] at hx hy
          obtain ⟨x', hx', rfl⟩ := Option.map_eq_some_iff.1 hx
          obtain ⟨y', hy', rfl⟩ := Option.map_eq_some_iff.1 hy
          by_cases hh : hsh a t = hsh a u
          · exact ⟨(t, u), by rw [coll, if_pos ⟨htu, hh⟩]⟩
          · rw [coll, if_neg (fun c => hh c.2)]
            rw [lastOf_cons t x' (way_ne a _ _ _ _ _ hx'), lastOf_cons u y' (way_ne a _ _ _ _ _ hy')] at hl
            refine IH (s / 2) (by omega) _ _ _ _ _ _ _ hx' hy' (fun z hz => hps z (List.mem_cons_of_mem _ hz)) (fun z hz => hqs z (List.mem_cons_of_mem _ hz)) ?_ hl
            have hp := hps p (List.mem_cons_self ..)
            have hq := hqs q (List.mem_cons_self ..)
            by_cases ho : f % 2 = 1
            · rw [if_pos ho, if_pos ho]
              intro c; exact hh (hsh_inj a t u (txt_inj a _ _ _ _ hp hq c).2)
            · rw [if_neg ho, if_neg ho]
              intro c; exact hh (hsh_inj a t u (txt_inj a _ _ _ _ (hsh_length a t) (hsh_length a u) c).1)
/-- What two unlike texts that are shown tell. -/
def vColl (a : Int) (b c : List UInt8) (i n : Nat) (ps qs : List (List UInt8)) : Option (List UInt8 × List UInt8) :=
  if i < n ∧ b ≠ c then
    match way a i (n - 1) (0 :: b) ps, way a i (n - 1) (0 :: c) qs with
    | some x, some y => if hsh a (lastOf x) = hsh a (lastOf y) then coll a x y else none
    | _, _ => none
  else none
theorem vLeaf_way (a : Int) (b : List UInt8) (i n : Nat) (ps : List (List UInt8)) (rt : List UInt8) (hi : i < 2 ^ 64) :
    vLeaf a b i n ps rt = decide (i < n ∧ ∃ l, way a i (n - 1) (0 :: b) ps = some l ∧ hsh a (lastOf l) = cut rt (cw a)) := by
  rw [vLeaf]
  congr 1
  rw [show leaf a b = hsh a (0 :: b) from rfl, ← way_run a (n - 1) i (0 :: b) ps hi, Option.map_eq_some_iff]
theorem vColl_tells (a : Int) (b c : List UInt8) (i n : Nat) (ps qs : List (List UInt8)) (rt : List UInt8) (hi : i < 2 ^ 64) (hps : ∀ p ∈ ps, p.length = 32) (hqs : ∀ q ∈ qs, q.length = 32)
    (hb : vLeaf a b i n ps rt = true) (hc : vLeaf a c i n qs rt = true) (hbc : b ≠ c) : ∃ u v, vColl a b c i n ps qs = some (u, v) ∧ u ≠ v ∧ hsh a u = hsh a v := by
  rw [vLeaf_way a b i n ps rt hi, decide_eq_true_iff] at hb
  rw [vLeaf_way a c i n qs rt hi, decide_eq_true_iff] at hc
  obtain ⟨hin, x, hx, hx'⟩ := hb
  obtain ⟨-, y, hy, hy'⟩ := hc
  obtain ⟨⟨u, v⟩, h⟩ := coll_some a (n - 1) i _ _ ps qs x y hx hy hps hqs (by simpa using hbc) (hx'.trans hy'.symm)
  refine ⟨u, v, ?_, coll_is a x y u v h⟩
  rw [vColl, if_pos ⟨hin, hbc⟩, hx, hy]
  simp only
  rw [if_pos (hx'.trans hy'.symm), h]
end S
end Go.Proofs.YtlbggkmblkhjoaaDoor
namespace Go.Proofs.YtlbggkmblkhjoaaDoor

namespace S
theorem cut_leaf (a : Int) (b : List UInt8) : cut (leaf a b) (cw a) = leaf a b := cut_hsh a _
theorem vLeaf_only (a : Int) (b : List UInt8) : vLeaf a b 0 1 [] (leaf a b) = true := by
  rw [vLeaf, decide_eq_true_iff, cut_leaf]; exact ⟨by omega, rfl⟩
theorem vLeaf_over (a : Int) (b p rt : List UInt8) (ps : List (List UInt8)) : vLeaf a b 0 1 (p :: ps) rt = false := by
  rw [vLeaf, decide_eq_false_iff_not]; intro h; have := h.2; simp [V.run] at this
theorem vLeaf_out (a : Int) (b : List UInt8) (i n : Nat) (ps : List (List UInt8)) (rt : List UInt8) (h : n ≤ i) : vLeaf a b i n ps rt = false := by
  rw [vLeaf, decide_eq_false_iff_not]; intro c; omega
theorem vPre_none (a : Int) (n : Nat) (old rt : List UInt8) (ps : List (List UInt8)) : vPre a 0 n old rt ps = false := by rw [vPre, if_pos (Or.inl rfl)]
theorem vPre_over (a : Int) (m n : Nat) (old rt : List UInt8) (ps : List (List UInt8)) (h : n < m) : vPre a m n old rt ps = false := by rw [vPre, if_pos (Or.inr h)]
theorem vPre_same (a : Int) (m : Nat) (h : m ≠ 0) (old rt : List UInt8) : vPre a m m old rt [] = decide (cut old (cw a) = cut rt (cw a)) := by
  rw [vPre, if_neg (by omega), if_pos rfl]; simp
theorem vPre_nil (a : Int) (m n : Nat) (h : m < n) (old rt : List UInt8) : vPre a m n old rt [] = false := by
  unfold vPre; split
  · rfl
  · rw [if_neg (by omega), if_pos rfl]
theorem vColl_same (a : Int) (b : List UInt8) (i n : Nat) (ps qs : List (List UInt8)) : vColl a b b i n ps qs = none := by rw [vColl, if_neg (fun h => h.2 rfl)]
theorem vColl_only (a : Int) (b c : List UInt8) (h : b ≠ c) : vColl a b c 0 1 [] [] = if leaf a b = leaf a c then some (0 :: b, 0 :: c) else none := by
  rw [vColl, if_pos ⟨by omega, h⟩, way_zero, way_zero, if_pos rfl, if_pos rfl]
  show (if hsh a (lastOf [0 :: b]) = hsh a (lastOf [0 :: c]) then coll a [0 :: b] [0 :: c] else none) = _
  by_cases e : leaf a b = leaf a c
  · rw [if_pos e, if_pos (show hsh a (lastOf [0 :: b]) = hsh a (lastOf [0 :: c]) from e), coll, if_pos ⟨by simpa using h, e⟩]
  · rw [if_neg e, if_neg (show ¬ hsh a (lastOf [0 :: b]) = hsh a (lastOf [0 :: c]) from e)]
theorem leaf32_ab : leaf 32 [97] ≠ leaf 32 [98] := by
  have h : (leaf 32 [97]).getD 0 0 ≠ (leaf 32 [98]).getD 0 0 := by decide +kernel
  exact fun e => h (by rw [e])
/-- Of the leaves of one byte, by hashes of one byte, 8 is the first that meets an elder one: 1. -/
theorem leaf1_first : ∀ i, i < 9 → ∀ k, k < i → ((leaf 1 [UInt8.ofNat i]).getD 0 0 = (leaf 1 [UInt8.ofNat k]).getD 0 0 ↔ (i = 8 ∧ k = 1)) := by
  have h : ∀ i, i < 9 → (leaf 1 [UInt8.ofNat i]).getD 0 0 = [150, 180, 252, 88, 79, 159, 64, 46, 180].getD i 0 := by decide +kernel
  intro i hi k hk
  rw [h i hi, h k (by omega)]
  have : ∀ i, i < 9 → ∀ k, k < i → (([150, 180, 252, 88, 79, 159, 64, 46, 180] : List UInt8).getD i 0 = [150, 180, 252, 88, 79, 159, 64, 46, 180].getD k 0 ↔ (i = 8 ∧ k = 1)) := by decide +kernel
  exact this i hi k hk
theorem hsh1_eq (t u : List UInt8) : hsh 1 t = hsh 1 u ↔ (hsh 1 t).getD 0 0 = (hsh 1 u).getD 0 0 := by
  refine ⟨fun h => by rw [h], fun h => hsh_inj 1 t u ?_⟩
  have h1 := hsh_length 1 t
  have h2 := hsh_length 1 u
  show (hsh 1 t).take 1 = (hsh 1 u).take 1
  generalize hsh 1 t = x at *
  generalize hsh 1 u = y at *
  match x, y, h1, h2, h with
  | p :: _, q :: _, _, _, h => simpa using h
theorem leaf1_meets (i k : Nat) (hi : i < 9) (hk : k < i) : leaf 1 [UInt8.ofNat i] = leaf 1 [UInt8.ofNat k] ↔ (i = 8 ∧ k = 1) :=
  (hsh1_eq _ _).trans (leaf1_first i hi k hk)
end S
end Go.Proofs.YtlbggkmblkhjoaaDoor
namespace Go.Proofs.YtlbggkmblkhjoaaDoor

namespace V
theorem need_pos : ∀ s f, s ≠ 0 → 0 < need f s := by
  intro s
  induction s using Nat.strongRecOn with
  | ind s IH =>
  intro f h
  rw [need, dif_neg h]
  split
  · rename_i hc; exact IH (s / 2) (by omega) _ (by omega)
  · omega
theorem low_odd (f s : Nat) (h : f % 2 = 1) (hf : f < 2 ^ 64) : low 64 f s = low 64 (f / 2) (s / 2) := by
  have more : ∀ k f s, f < 2 ^ k → low k f s = low (k + 1) f s := by
    intro k
    induction k with
    | zero => intro f s h; have : f = 0 := by simpa using h
              subst this; rfl
    | succ k ih =>
      intro f s h
      rw [low, low]
      split
      · exact ih _ _ (by rw [Nat.pow_succ] at h; omega)
      · rfl
  rw [← more 63 (f / 2) (s / 2) (by omega)]
  rw [show low 64 f s = if f % 2 = 1 then low 63 (f / 2) (s / 2) else (f, s) from rfl, if_pos h]
theorem low_even (f s : Nat) (h : f % 2 = 0) : low 64 f s = (f, s) := by
  rw [show low 64 f s = if f % 2 = 1 then low 63 (f / 2) (s / 2) else (f, s) from rfl, if_neg (by omega)]
theorem up_stop (f s : Nat) (h : f % 2 = 1 ∨ f = 0) : up 64 f s = (f, s) := by
  rw [show up 64 f s = if f % 2 = 1 ∨ f = 0 then (f, s) else up 63 (f / 2) (s / 2) from rfl, if_pos h]
section
variable {α : Type} (nd : α → α → α)
theorem runP_skip (f s : Nat) (x y : α) (ps : List α) (h : f % 2 = 0) (hs : f = s) (h0 : s ≠ 0) (hf : f < 2 ^ 64) : runP nd f s x y ps = runP nd (f / 2) (s / 2) x y ps := by
  cases ps with
  | nil => simp only [runP]; rw [if_neg h0, if_neg (by omega)]
  | cons p ps =>
    simp only [runP]
    rw [if_neg h0, if_pos (Or.inr hs), if_neg (by omega), if_pos (Or.inr (by omega)), up_even f s h (by omega) hf]
theorem runP_odd (f s : Nat) (x y p : α) (ps : List α) (h : f % 2 = 1) (h0 : s ≠ 0) : runP nd f s x y (p :: ps) = runP nd (f / 2) (s / 2) (nd p x) (nd p y) ps := by
  simp only [runP]; rw [if_neg h0, if_pos (Or.inl h), up_odd 64 f s h]
theorem runP_even (f s : Nat) (x y p : α) (ps : List α) (h : f % 2 = 0) (hs : f ≠ s) (h0 : s ≠ 0) : runP nd f s x y (p :: ps) = runP nd (f / 2) (s / 2) x (nd y p) ps := by
  simp only [runP]; rw [if_neg h0, if_neg (by omega)]
theorem runP_nil (f s : Nat) (x y : α) (h0 : s ≠ 0) : runP nd f s x y [] = none := by simp only [runP]; rw [if_neg h0]
theorem runP_end (f : Nat) (x y : α) : runP nd f 0 x y [] = some (x, y) := by simp only [runP]; rfl
theorem runP_over (f : Nat) (x y p : α) (ps : List α) : runP nd f 0 x y (p :: ps) = none := by simp only [runP]; rfl
theorem runP_mid (f s : Nat) (x y p : α) (ps : List α) (h : f % 2 = 1 ∨ f = s) (h0 : s ≠ 0) : runP nd f s x y (p :: ps) = runP nd ((up 64 f s).1 / 2) ((up 64 f s).2 / 2) (nd p x) (nd p y) ps := by
  simp only [runP]; rw [if_neg h0, if_pos h]
end
end V
namespace S
theorem way_stop (a : Int) (f s : Nat) (t : List UInt8) (h0 : s ≠ 0) : way a f s t [] = none := by
  cases h : way a f s t [] with
  | none => rfl
  | some l => have := (way_need a s f t [] l h).1; have := V.need_pos s f h0; simp at *; omega
/-- What is left of a way behind the texts ts, the next one t. -/
def Up (a : Int) (f0 s0 : Nat) (t0 : List UInt8) (ps0 : List (List UInt8)) (f s : Nat) (ts : List (List UInt8)) (t : List UInt8) (ps : List (List UInt8)) : Prop :=
  way a f0 s0 t0 ps0 = (way a f s t ps).map (ts ++ ·)
theorem Up.refl (a : Int) (f s : Nat) (t : List UInt8) (ps : List (List UInt8)) : Up a f s t ps f s [] t ps := by
  unfold Up; cases way a f s t ps <;> rfl
theorem Up.skip {a : Int} {f0 s0 : Nat} {t0 : List UInt8} {ps0 : List (List UInt8)} {f s : Nat} {ts : List (List UInt8)} {t : List UInt8} {ps : List (List UInt8)} (h : Up a f0 s0 t0 ps0 f s ts t ps) (h0 : s ≠ 0) (he : f % 2 = 0) (hs : f = s) : Up a f0 s0 t0 ps0 (f / 2) (s / 2) ts t ps := by
  unfold Up at *; rw [h, way_skip a f s t ps h0 he hs]
theorem Up.odd {a : Int} {f0 s0 : Nat} {t0 : List UInt8} {ps0 : List (List UInt8)} {f s : Nat} {ts : List (List UInt8)} {t p : List UInt8} {ps : List (List UInt8)} (h : Up a f0 s0 t0 ps0 f s ts t (p :: ps)) (h0 : s ≠ 0) (ho : f % 2 = 1) : Up a f0 s0 t0 ps0 (f / 2) (s / 2) (ts ++ [t]) (txt a p (hsh a t)) ps := by
  unfold Up at *; rw [h, way_cons a f s t p ps h0 (by omega), if_pos ho]
  cases way a (f / 2) (s / 2) (txt a p (hsh a t)) ps <;> simp
theorem Up.even {a : Int} {f0 s0 : Nat} {t0 : List UInt8} {ps0 : List (List UInt8)} {f s : Nat} {ts : List (List UInt8)} {t p : List UInt8} {ps : List (List UInt8)} (h : Up a f0 s0 t0 ps0 f s ts t (p :: ps)) (h0 : s ≠ 0) (ho : f % 2 = 0) (hs : f ≠ s) : Up a f0 s0 t0 ps0 (f / 2) (s / 2) (ts ++ [t]) (txt a (hsh a t) p) ps := by
  unfold Up at *; rw [h, way_cons a f s t p ps h0 (by omega), if_neg (by omega)]
  cases way a (f / 2) (s / 2) (txt a (hsh a t) p) ps <;> simp
theorem Up.done {a : Int} {f0 s0 : Nat} {t0 : List UInt8} {ps0 : List (List UInt8)} {f : Nat} {ts : List (List UInt8)} {t : List UInt8} (h : Up a f0 s0 t0 ps0 f 0 ts t []) : way a f0 s0 t0 ps0 = some (ts ++ [t]) := by
  unfold Up at h; rw [h, way_zero]; rfl
theorem Up.short {a : Int} {f0 s0 : Nat} {t0 : List UInt8} {ps0 : List (List UInt8)} {f s : Nat} {ts : List (List UInt8)} {t : List UInt8} (h : Up a f0 s0 t0 ps0 f s ts t []) (h0 : s ≠ 0) : way a f0 s0 t0 ps0 = none := by
  unfold Up at h; rw [h, way_stop a f s t h0]; rfl
theorem Up.over {a : Int} {f0 s0 : Nat} {t0 : List UInt8} {ps0 : List (List UInt8)} {f : Nat} {ts : List (List UInt8)} {t p : List UInt8} {ps : List (List UInt8)} (h : Up a f0 s0 t0 ps0 f 0 ts t (p :: ps)) : way a f0 s0 t0 ps0 = none := by
  unfold Up at h; rw [h, way_zero]; rfl
theorem runP_cut (a : Int) : ∀ (ps : List (List UInt8)) (f s : Nat) (x y : List UInt8), V.runP (node a) f s x y (ps.map fun d => cut d (cw a)) = V.runP (node a) f s x y ps := by
  intro ps
  induction ps with
  | nil => intro f s x y; rfl
  | cons p ps ih => intro f s x y; simp only [V.runP, List.map_cons, node_cut_l, node_cut_r, ih]
theorem lastOf_snoc (ts : List (List UInt8)) (t : List UInt8) : lastOf (ts ++ [t]) = t := by simp [lastOf]
/-- No two texts of a way are unlike and of one hash ahead of the first place of one hash. -/
theorem coll_first (a : Int) : ∀ s f t u ps qs x y, way a f s t ps = some x → way a f s u qs = some y → (∀ p ∈ ps, p.length = 32) → (∀ q ∈ qs, q.length = 32) → t ≠ u → ∀ j, j < x.length → (∀ k, k < j → hsh a (x.getD k []) ≠ hsh a (y.getD k [])) → hsh a (x.getD j []) = hsh a (y.getD j []) → coll a x y = some (x.getD j [], y.getD j []) := by
  intro s
  induction s using Nat.strongRecOn with
  | ind s IH =>
  intro f t u ps qs x y hx hy hps hqs htu j hj hk he
  by_cases h0 : s = 0
  · subst h0
    rw [way_zero] at hx hy
    split at hx <;> split at hy <;> cases hx <;> cases hy
    obtain rfl : j = 0 := by simpa using hj
    have he' : hsh a t = hsh a u := by simpa using he
    rw [coll, if_pos ⟨htu, he'⟩]; rfl
  · by_cases hs : f % 2 = 0 ∧ f = s
    · rw [way_skip a f s _ _ h0 hs.1 hs.2] at hx hy
      exact IH (s / 2) (by omega) _ _ _ _ _ _ _ hx hy hps hqs htu j hj hk he
    · cases ps with
      | nil => rw [way_nil a f s t h0 hs] at hx; cases hx
      | cons p ps =>
        cases qs with
        | nil => rw [way_nil a f s u h0 hs] at hy; cases hy
        | cons q qs =>
          rw [way_cons a f s _ _ _ h0 hs] at hx hy
          obtain ⟨x', hx', rfl⟩ := Option.map_eq_some_iff.1 hx
          obtain ⟨y', hy', rfl⟩ := Option.map_eq_some_iff.1 hy
          cases j with
          | zero =>
            have he' : hsh a t = hsh a u := by simpa using he
            rw [coll, if_pos ⟨htu, he'⟩]; rfl
          | succ j =>
            have hh : hsh a t ≠ hsh a u := by simpa using hk 0 (by omega)
            rw [coll, if_neg (fun c => hh c.2)]
            have hp := hps p (List.mem_cons_self ..)
            have hq := hqs q (List.mem_cons_self ..)
            have := IH (s / 2) (by omega) _ _ _ _ _ _ _ hx' hy' (fun z hz => hps z (List.mem_cons_of_mem _ hz)) (fun z hz => hqs z (List.mem_cons_of_mem _ hz)) ?_ j (by simpa using hj) (fun k hk' => by simpa using hk (k + 1) (by omega)) (by simpa using he)
            · simpa using this
            · by_cases ho : f % 2 = 1
              · rw [if_pos ho, if_pos ho]
                intro c; exact hh (hsh_inj a t u (txt_inj a _ _ _ _ hp hq c).2)
              · rw [if_neg ho, if_neg ho]
                intro c; exact hh (hsh_inj a t u (txt_inj a _ _ _ _ (hsh_length a t) (hsh_length a u) c).1)
end S
end Go.Proofs.YtlbggkmblkhjoaaDoor
