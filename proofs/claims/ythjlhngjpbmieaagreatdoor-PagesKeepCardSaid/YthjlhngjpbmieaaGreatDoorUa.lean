/- Pages written one behind the other, plainly. -/
import Derived.Test.YthjlhngjpbmieaaGreatDoorTg
import Derived.Test.YthjlhngjpbmieaaGreatDoorJe
namespace Go.Proofs.YthjlhngjpbmieaaGreatDoor
namespace S
/-- The writes of k pages, page i to the place f i. -/
def pagesWs (f : Nat → Nat) (xs : List (List UInt8)) (k : Nat) : Ws := (List.range k).flatMap fun i => pageWs (f i) (xs.getD i []) 8
theorem pagesWs_succ (f : Nat → Nat) (xs : List (List UInt8)) (k : Nat) : pagesWs f xs (k + 1) = pagesWs f xs k ++ pageWs (f k) (xs.getD k []) 8 := by
  unfold pagesWs
  rw [List.range_succ, List.flatMap_append, List.flatMap_singleton]
theorem pagesWs_length (f : Nat → Nat) (xs : List (List UInt8)) (k : Nat) : (pagesWs f xs k).length = k * 8 := by
  induction k with
  | zero => rfl
  | succ k ih => rw [pagesWs_succ, List.length_append, ih, pageWs_length]; omega
theorem wacts_app (p q : Ws) : Ws.acts (p ++ q) = p.acts ++ q.acts := List.map_append
theorem wacts_len (p : Ws) : p.acts.length = p.length := List.length_map ..
theorem spTo_eq (xs : List (List UInt8)) (k : Nat) : spTo xs k = (pagesWs (fun i => 4101 + i * 8) xs k).acts := by
  induction k with
  | zero => rfl
  | succ k ih => rw [spTo_succ, pagesWs_succ, wacts_app, ih]
theorem pagesWs_split (f : Nat → Nat) (xs : List (List UInt8)) (a j : Nat) : ∃ r, (pagesWs f xs (a + j)).acts = (pagesWs f xs a).acts ++ r := by
  induction j with
  | zero => exact ⟨[], (List.append_nil _).symm⟩
  | succ j ih =>
    obtain ⟨r, hr⟩ := ih
    exact ⟨r ++ (pageWs (f (a + j)) (xs.getD (a + j) []) 8).acts, by rw [← Nat.add_assoc, pagesWs_succ, wacts_app, hr, List.append_assoc]⟩
/-- The sectors behind k pages' being written. -/
def putAll (ss : List (List UInt8)) (f : Nat → Nat) (xs : List (List UInt8)) : Nat → List (List UInt8)
  | 0 => ss
  | k + 1 => put (putAll ss f xs k) (f k) (xs.getD k []) 8
theorem putAll_length (ss : List (List UInt8)) (f : Nat → Nat) (xs : List (List UInt8)) (k : Nat) : (putAll ss f xs k).length = ss.length := by
  induction k with
  | zero => rfl
  | succ k ih => rw [putAll, put_length, ih]
theorem putAll_off (ss : List (List UInt8)) (f : Nat → Nat) (xs : List (List UInt8)) (k j : Nat) (h : ∀ i, i < k → j < f i ∨ f i + 8 ≤ j) : (putAll ss f xs k).getD j [] = ss.getD j [] := by
  induction k with
  | zero => rfl
  | succ k ih => rw [putAll, put_off _ _ _ _ _ (h k (by omega)), ih (fun i hi => h i (by omega))]
theorem putAll_other (ss : List (List UInt8)) (f : Nat → Nat) (xs : List (List UInt8)) (k f' : Nat) (h : ∀ i, i < k → f' + 8 ≤ f i ∨ f i + 8 ≤ f') : pageAt (putAll ss f xs k) f' = pageAt ss f' :=
  secs_cong (fun j h1 h2 => putAll_off ss f xs k j (fun i hi => by have := h i hi; omega))
theorem putAll_page (ss : List (List UInt8)) (f : Nat → Nat) (xs : List (List UInt8)) (k : Nat) (hf : ∀ i, i < k → f i + 8 ≤ ss.length) (hx : ∀ i, i < k → (xs.getD i []).length = 1024) (hd : ∀ i j, i < k → j < k → i ≠ j → f i + 8 ≤ f j ∨ f j + 8 ≤ f i) (i : Nat) (hi : i < k) : pageAt (putAll ss f xs k) (f i) = xs.getD i [] := by
  induction k with
  | zero => omega
  | succ k ih =>
    by_cases e : i = k
    · subst e
      rw [putAll]
      exact put_page _ _ _ (hx i hi) (by rw [putAll_length]; exact hf i hi)
    · rw [putAll, put_other _ _ _ _ (by have := hd i k hi (by omega) e; omega)]
      exact ih (fun j hj => hf j (by omega)) (fun j hj => hx j (by omega)) (fun a b ha hb => hd a b (by omega) (by omega)) (by omega)
theorem over_more (ss : List (List UInt8)) (p : Ws) (f : Nat) (x : List UInt8) (i : Nat) : over ss (p ++ pageWs f x i) = put (over ss p) f x i := by
  induction i with
  | zero => show over ss (p ++ []) = _; rw [List.append_nil]; rfl
  | succ i ih => rw [pageWs_succ, ← List.append_assoc, over_snoc, ih]; rfl
theorem over_pages (ss : List (List UInt8)) (f : Nat → Nat) (xs : List (List UInt8)) (k : Nat) : over ss (pagesWs f xs k) = putAll ss f xs k := by
  induction k with
  | zero => rfl
  | succ k ih => rw [pagesWs_succ, over_more, ih]; rfl
theorem pages_flushed (d : Dk) (f : Nat → Nat) (xs : List (List UInt8)) (k : Nat) (hp : d.pend = []) : d.acts ((pagesWs f xs k).acts ++ [.flush]) = { d with safe := putAll d.safe f xs k, pend := [] } := by
  rw [Dk.acts_app, Dk.acts_writes, hp, List.nil_append]
  show ({ d with safe := over d.safe (pagesWs f xs k), pend := [] } : Dk) = _
  rw [over_pages]
/-- A plan that was done. -/
theorem Dk.plan_alike {d d' : Dk} {l : List Act} (h : d.plan l = (d', true)) : d'.Alike (d.acts l) := by
  obtain ⟨n, _, h1, h2, _⟩ := Dk.plan_first l d
  rw [h] at h1 h2
  have := h2 rfl
  rw [this, List.take_length] at h1
  exact h1
theorem Dk.plan_pages {d d' : Dk} {f : Nat → Nat} {xs : List (List UInt8)} {k : Nat} (hp : d.pend = []) (h : d.plan (pagesWs f xs k).acts = (d', true)) : d'.safe = d.safe ∧ d'.seen = putAll d.safe f xs k := by
  have a := Dk.plan_alike h
  rw [Dk.acts_writes, hp, List.nil_append] at a
  refine ⟨a.safe, ?_⟩
  rw [a.seen]
  exact over_pages _ _ _ _
theorem Dk.plan_flushed {d d' : Dk} {f : Nat → Nat} {xs : List (List UInt8)} {k : Nat} (hp : d.pend = []) (h : d.plan ((pagesWs f xs k).acts ++ [.flush]) = (d', true)) : d'.safe = putAll d.safe f xs k ∧ d'.pend = [] := by
  have a := Dk.plan_alike h
  rw [pages_flushed d f xs k hp] at a
  exact ⟨a.safe, a.pend⟩
theorem Dk.plan_no {d d' : Dk} {k l : List Act} (h : d.plan k = (d', false)) : d.plan (k ++ l) = (d', false) := by
  rw [Dk.plan_app, h]
  rfl
theorem Dk.plan_yes {d d' : Dk} {k l : List Act} (h : d.plan k = (d', true)) : d.plan (k ++ l) = d'.plan l := by
  rw [Dk.plan_app, h, if_pos rfl]
/-- Where the pages of a set are home. -/
def homeOf (ns : List Nat) (i : Nat) : Nat := 5 + ns.getD i 0 * 8
/-- Bringing the pages of a set home, and clearing the log. -/
def homeActs (d : Dk) (p t : Nat) (ns : List Nat) (xs : List (List UInt8)) : List Act := ((pagesWs (homeOf ns) xs ns.length).acts ++ [.flush]) ++ commitActs { d with safe := putAll d.safe (homeOf ns) xs ns.length, pend := [] } 1 4 p t [setL ns] []
theorem getD_lt {ns : List Nat} (h : ∀ n ∈ ns, n < 512) (i : Nat) (hi : i < ns.length) : ns.getD i 0 < 512 := by
  rw [List.getD_eq_getElem?_getD, List.getElem?_eq_getElem hi, Option.getD_some]
  exact h _ (List.getElem_mem hi)
theorem setL_ne (ns : List Nat) (h : ∀ n ∈ ns, n < 512) (hne : ns ≠ []) : (setL ns == zeros 64) = false := by
  refine beq_false_of_ne (fun e => ?_)
  cases ns with
  | nil => exact hne rfl
  | cons n r =>
    have h1 := bit_setL (n :: r) h n
    rw [e, bit_zeros] at h1
    simp at h1
theorem apart (ns : List Nat) (hp : ns.Pairwise (· < ·)) (i j : Nat) (hi : i < ns.length) (hj : j < ns.length) (h : i ≠ j) : homeOf ns i + 8 ≤ homeOf ns j ∨ homeOf ns j + 8 ≤ homeOf ns i := by
  unfold homeOf
  rw [List.getD_eq_getElem?_getD, List.getD_eq_getElem?_getD, List.getElem?_eq_getElem hi, List.getElem?_eq_getElem hj, Option.getD_some, Option.getD_some]
  rw [List.pairwise_iff_getElem] at hp
  rcases Nat.lt_or_gt_of_ne h with e | e
  · have := hp i j hi hj e; omega
  · have := hp j i hj hi e; omega
end S
/-- The row of a []int of the call's own. -/
theorem ints_row {w : World} {base : Nat} {v : Value} {ns : List Nat} (h : w.ownsRow base 3 1 v ns.length (S.ints ns)) (hne : ns ≠ []) : ∃ g c cur, v = .slice (some ⟨g, 0, none⟩) ns.length c ∧ base ≤ g ∧ w.heap[g]? = some (.cells cur 3 (0, 0)) ∧ ∀ j, j < ns.length → cur[j]? = some (.int .i64 ((ns.getD j 0 : Nat) : Int)) := by
  rcases h.2 with ⟨_, h2⟩ | ⟨g, cap, cur, h1, h2, h3, h4, h5, h6, h7⟩
  · exact absurd (List.length_eq_zero_iff.1 h2) hne
  · refine ⟨g, cap, cur, h1, h2, h3, fun j hj => ?_⟩
    have e : (cur.toList.take (ns.length * 1))[j]? = (S.ints ns)[j]? := by rw [h7]
    rw [List.getElem?_take_of_lt (by omega), Array.getElem?_toList] at e
    rw [e]
    unfold S.ints
    rw [List.getElem?_map, List.getD_eq_getElem?_getD, List.getElem?_eq_getElem hj]
    rfl
end Go.Proofs.YthjlhngjpbmieaaGreatDoor
