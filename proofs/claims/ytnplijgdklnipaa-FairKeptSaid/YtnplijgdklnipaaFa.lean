/- Rows of one's own over any kind of element. -/
import Derived.Test.YtnplijgdklnipaaCells
import Derived.Recover
import Derived.Deep.LoopGhost
import Derived.Deep.RegionLaw
namespace Go.Proofs.Ytnplijgdklnipaa
open Go.RowKit
theorem info_parts' {P : Program} {t : TypeId} {z : Value} {s b : Nat} (h : (P.info? t).map (fun i => (i.zero, i.size, i.bytes)) = some (some z, s, b)) : ∃ i, P.info? t = some i ∧ i.zero = some z ∧ i.size = s ∧ i.bytes = b := info_parts h
section
variable {α : Type}
/-- A row of one's own: elements of k cells each. -/
def Rw (el : TypeId) (k : Nat) (enc : α → List Value) (B : Nat) (w : World) (v : Value) (xs : List α) : Prop := w.ownsRow B el k v xs.length (xs.flatMap enc)
variable {el : TypeId} {k : Nat} {enc : α → List Value} {B : Nat} {w W : World} {v : Value} {xs : List α}
theorem Rw.nil (el : TypeId) (k : Nat) (enc : α → List Value) (B : Nat) (w : World) : Rw el k enc B w (.slice none 0 0) [] := ⟨by simp, Or.inl ⟨rfl, rfl⟩⟩
theorem Rw.form (h : Rw el k enc B w v xs) : ∃ ao cap, v = .slice ao xs.length cap := by
  rcases h.2 with ⟨rfl, h0⟩ | ⟨g, cap, cur, rfl, _⟩
  · exact ⟨none, 0, by rw [h0]⟩
  · exact ⟨_, _, rfl⟩
theorem Rw.blk (h : Rw el k enc B w v xs) {j : Nat} (hj : v.ownBlock = some j) : B ≤ j ∧ j < w.heap.size ∧ ∃ cur, w.heap[j]? = some (.cells cur el (0, 0)) := by
  rcases h.2 with ⟨rfl, h0⟩ | ⟨g, cap, cur, rfl, hB, hr, _⟩
  · simp [Value.ownBlock] at hj
  · simp only [Value.ownBlock, Option.some.injEq] at hj
    subst hj
    exact ⟨hB, block_lt_of_row hr, cur, hr⟩
theorem Rw.apart (h : Rw el k enc B w v xs) {j : Nat} {c : Array Value} {t : TypeId} {p : Nat × Nat} (hj : w.heap[j]? = some (.cells c t p)) (ht : t ≠ el) : v.ownBlock ≠ some j := fun e => by
  obtain ⟨_, _, cur, hr⟩ := h.blk e
  rw [hj] at hr
  injection hr with hr
  injection hr with _ h2 _
  exact ht h2
theorem Rw.mono {B' : Nat} (h : Rw el k enc B w v xs) (hB : B' ≤ B) : Rw el k enc B' w v xs := by
  refine ⟨h.1, ?_⟩
  rcases h.2 with h0 | ⟨g, cap, cur, h1, h2, h3⟩
  · exact Or.inl h0
  · exact Or.inr ⟨g, cap, cur, h1, Nat.le_trans hB h2, h3⟩
theorem Rw.chg {p : Nat → Prop} (h : Rw el k enc B w v xs) (hc : Chg p w W) (hp : ∀ j, v.ownBlock = some j → ¬ p j) : Rw el k enc B W v xs := by
  refine ⟨h.1, ?_⟩
  rcases h.2 with h0 | ⟨g, cap, cur, rfl, hB, hr, h1⟩
  · exact Or.inl h0
  · exact Or.inr ⟨g, cap, cur, rfl, hB, hc.row hr (hp g rfl), h1⟩
theorem Rw.below (h : Rw el k enc B w v xs) (hb : Below w.heap.size w W) : Rw el k enc B W v xs := h.chg (p := fun _ => False) (Chg.ofBelow' hb) (fun _ _ e => e)
theorem flat_gen (xs : List α) (h : ∀ x ∈ xs, (enc x).length = k) : (xs.flatMap enc).length = xs.length * k := by
  induction xs with
  | nil => simp
  | cons x xs ih =>
    rw [List.flatMap_cons, List.length_append, h x (by simp), ih (fun y hy => h y (by simp [hy])), List.length_cons, Nat.succ_mul]
    omega
theorem flat_get (xs : List α) (h : ∀ x ∈ xs, (enc x).length = k) (j i : Nat) (hj : j < xs.length) (hi : i < k) : (xs.flatMap enc)[j * k + i]? = (enc (xs[j]'hj))[i]? := by
  induction xs generalizing j with
  | nil => simp at hj
  | cons x xs ih =>
    have hd := h x (by simp)
    rw [List.flatMap_cons]
    cases j with
    | zero => rw [List.getElem?_append_left (by omega)]; simp
    | succ j =>
      rw [List.getElem?_append_right (by rw [hd, Nat.succ_mul]; omega), hd, show (j + 1) * k + i - k = j * k + i by rw [Nat.succ_mul]; omega, ih (fun y hy => h y (by simp [hy])) j (by simpa using hj)]
      simp
/-- What lies at a place of a row. -/
theorem Rw.at_ (h : Rw el k enc B w v xs) (hk : ∀ x ∈ xs, (enc x).length = k) (j : Nat) (x : α) (hx : xs[j]? = some x) :
    ∃ g cap, v = .slice (some ⟨g, 0, none⟩) xs.length cap ∧ g < w.heap.size ∧ B ≤ g ∧ w.rangeAt g (j * k) (enc x) := by
  obtain ⟨hj, hxe⟩ := List.getElem?_eq_some_iff.1 hx
  rcases h.2 with ⟨rfl, h0⟩ | ⟨g, cap, cur, rfl, hB, hr, q1, q2, q3, q4⟩
  · omega
  · refine ⟨g, cap, rfl, block_lt_of_row hr, hB, fun i u hu => ?_⟩
    have hi : i < k := by
      have := (List.getElem?_eq_some_iff.1 hu).1
      rwa [hk x (List.mem_of_getElem? hx)] at this
    rw [← hxe, ← flat_get xs hk j i hj hi, ← q4, List.getElem?_take, if_pos (by
      have : (j + 1) * k ≤ xs.length * k := Nat.mul_le_mul_right k hj
      rw [Nat.succ_mul] at this; omega)] at hu
    rw [cell_of_row w g (j * k + i) _ _ _ hr]
    simpa using hu
/-- The last one is left out. -/
theorem Rw.pop {ao : Option Addr} {n cap : Nat} {x : α} (h : Rw el k enc B w (.slice ao n cap) (xs ++ [x])) (hk : ∀ y ∈ xs ++ [x], (enc y).length = k) : Rw el k enc B w (.slice ao xs.length cap) xs := by
  have hl : (xs.flatMap enc).length = xs.length * k := flat_gen xs (fun y hy => hk y (List.mem_append_left _ hy))
  rcases h.2 with ⟨e, h0⟩ | ⟨g, cap', cur, e, hB, hr, q1, q2, q3, q4⟩
  · simp at h0
  · simp only [Value.slice.injEq] at e
    obtain ⟨rfl, rfl, rfl⟩ := e
    rw [List.length_append] at q1 q4
    refine ⟨hl, Or.inr ⟨g, cap, cur, rfl, hB, hr, by omega, q2, q3, ?_⟩⟩
    rw [List.flatMap_append] at q4
    have := congrArg (List.take (xs.length * k)) q4
    rw [List.take_take, Nat.min_eq_left (Nat.mul_le_mul_right k (by omega)), ← hl, List.take_left] at this
    rw [← hl]; exact this
/-- What is put behind a row. -/
def Sce (enc : α → List Value) (w : World) (u : Value) (ys : List α) : Prop := (u = .slice none 0 0 ∧ ys = []) ∨ ∃ a c, u = .slice (some a) ys.length c ∧ ∀ j y, (ys.flatMap enc)[j]? = some y → w.cell? (a.add j) = some y
theorem Sce.of_row {g c : Nat} {y : α} {t : TypeId} {p : Nat × Nat} (h : w.heap[g]? = some (.cells (enc y).toArray t p)) : Sce enc w (.slice (some ⟨g, 0, none⟩) 1 c) [y] :=
  Or.inr ⟨⟨g, 0, none⟩, c, rfl, fun j u hu => by
    rw [Addr.add_lit, Nat.zero_add, cell_of_row w g j _ _ _ h]
    simpa using hu⟩
theorem Rw.src (h : Rw el k enc B w v xs) : Sce enc w v xs := by
  rcases h.2 with ⟨rfl, h0⟩ | ⟨g, cap, cur, rfl, hB, hr, q1, q2, q3, q4⟩
  · exact Or.inl ⟨rfl, List.length_eq_zero_iff.1 h0⟩
  · refine Or.inr ⟨⟨g, 0, none⟩, cap, rfl, fun j u hu => ?_⟩
    have hj := (List.getElem?_eq_some_iff.1 hu).1
    rw [h.1] at hj
    rw [Addr.add_lit, Nat.zero_add, cell_of_row w g j _ _ _ hr]
    rw [← q4, List.getElem?_take, if_pos hj] at hu
    simpa using hu
/-- What is known of a kind of element. -/
structure Kd (P : Program) (t el : TypeId) (k bytes : Nat) (enc : α → List Value) : Prop where
  ht : P.underlying t = some (.slice el)
  hi : ∃ i z, P.info? el = some i ∧ i.zero = some z ∧ i.size = k ∧ i.bytes = bytes ∧ z.cells.size = k
  hk : 0 < k
  hb : bytes ≤ 1000
  one : ∀ x, ∀ u ∈ enc x, u.oneCell' = true
theorem Rw.append {P : Program} {t : TypeId} {bytes : Nat} (K : Kd P t el k bytes enc) (ty : TypeId) {u : Value} {ys : List α} (h : Rw el k enc B w v xs) (hu : Sce enc w u ys) (hk : ∀ y ∈ ys, (enc y).length = k) (hl : xs.length + ys.length ≤ 100000) (hB : B ≤ w.heap.size) :
    ∃ v' w', (Builtin.append_ #[t, t] ty #[v, u]).run P w = .ok v' w' ∧ (Rw el k enc B w' v' (xs ++ ys) ∧ Chg (fun j => v.ownBlock = some j) w w') := by
  obtain ⟨i, z, hi, hz, hs, hby, hzs⟩ := K.hi
  have hb := K.hb
  rcases hu with ⟨rfl, rfl⟩ | ⟨a, c, rfl, hc⟩
  · exact ⟨v, w, run_append_owned_none (P := P) (w := w) B t ty el i k K.ht hi v xs.length (xs.flatMap enc) h, by rw [List.append_nil]; exact h, Chg.refl _ _⟩
  · obtain ⟨v', w', h1, h2, h3, h4⟩ := run_append_own (P := P) w B t ty el i z k bytes K.ht hi hz hs hby hzs K.hk v xs.length (xs.flatMap enc) h a ys.length c (ys.flatMap enc) (flat_gen ys hk) hc (fun x hx => by
      rw [List.mem_flatMap] at hx
      obtain ⟨y, _, hy⟩ := hx
      exact K.one y x hy) (by simp [maxLen]; omega) (by
      have : (xs.length + ys.length) * bytes ≤ 100000 * 1000 := Nat.mul_le_mul hl hb
      omega) hB
    have h2b : Rw el k enc B w' v' (xs ++ ys) := by unfold Rw; rw [List.length_append, List.flatMap_append]; exact h2
    exact ⟨v', w', h1, h2b, (Chg.refl _ w).grown h3 (fun k _ e => e)⟩
theorem Rw.one {g : Nat} {y : α} (h : w.heap[g]? = some (.cells (enc y).toArray el (0, 0))) (hk : (enc y).length = k) (hB : B ≤ g) : Rw el k enc B w (.slice (some ⟨g, 0, none⟩) 1 1) [y] := by
  refine ⟨by simp [hk], Or.inr ⟨g, 1, _, rfl, hB, h, by simp, by simp [maxLen], by simp [hk], ?_⟩⟩
  simp [List.take_of_length_le, hk]
end

/-- The first n of a row. -/
theorem Rw.take {α : Type} {el : TypeId} {k : Nat} {enc : α → List Value} {B : Nat} {w : World} {ao : Option Addr} {l cap : Nat} {xs : List α} (h : Rw el k enc B w (.slice ao l cap) xs) (hk : ∀ y ∈ xs, (enc y).length = k) (n : Nat) (hn : n ≤ xs.length) : Rw el k enc B w (.slice ao n cap) (xs.take n) := by
  have hl : ((xs.take n).flatMap enc).length = (xs.take n).length * k := flat_gen _ (fun y hy => hk y (List.mem_of_mem_take hy))
  have hlt : (xs.take n).length = n := by rw [List.length_take]; omega
  rcases h.2 with ⟨e, h0⟩ | ⟨g, cap', cur, e, hB, hr, q1, q2, q3, q4⟩
  · simp only [Value.slice.injEq] at e
    obtain ⟨rfl, rfl, rfl⟩ := e
    obtain rfl : n = 0 := by omega
    refine ⟨by rw [hl], Or.inl ⟨rfl, by rw [hlt]⟩⟩
  · simp only [Value.slice.injEq] at e
    obtain ⟨rfl, rfl, rfl⟩ := e
    refine ⟨by rw [hl], Or.inr ⟨g, cap, cur, by rw [hlt], hB, hr, by omega, q2, q3, ?_⟩⟩
    have e2 : xs.flatMap enc = (xs.take n).flatMap enc ++ (xs.drop n).flatMap enc := by rw [← List.flatMap_append, List.take_append_drop]
    have := congrArg (List.take (n * k)) q4
    rw [List.take_take, Nat.min_eq_left (Nat.mul_le_mul_right k hn), e2, List.take_append_of_le_length (by rw [hl, hlt]; omega), List.take_of_length_le (l := (xs.take n).flatMap enc) (by rw [hl, hlt]; omega)] at this
    rw [hlt]; exact this
end Go.Proofs.Ytnplijgdklnipaa
