/- A disk in plain words: what is safe, what is pending, when it stops; what writes, flushes and crashes leave. Nothing of the program. -/
import Derived.Test.YtjnbjgkcliaipaaCells
namespace Go.Proofs.Ytjnbjgkcliaipaa
namespace S
/-- The statements' sector: a byte and what follows it. -/
def sec (c : UInt8) (n : Nat) : List UInt8 := (List.range n).map fun i => c + UInt8.ofNat (i % 7)
theorem sec_length (c : UInt8) (n : Nat) : (sec c n).length = n := by simp [sec]
/-- Writes: a place and a text. -/
abbrev Ws := List (Nat × List UInt8)
abbrev Ws.nth (p : Ws) (k : Nat) : Nat × List UInt8 := p.getD k (0, [])
/-- The first k writes, one over the other. -/
def overTo (safe : List (List UInt8)) (pend : Ws) : Nat → List (List UInt8)
  | 0 => safe
  | k + 1 => (overTo safe pend k).set (Ws.nth pend k).1 (Ws.nth pend k).2
def over (safe : List (List UInt8)) (pend : Ws) : List (List UInt8) := overTo safe pend pend.length
/-- A disk: the safe sectors, the pending writes, how many calls it still does (none: it does not stop). -/
structure Dk where
  safe : List (List UInt8)
  pend : Ws
  left : Option Nat
def Dk.seen (d : Dk) : List (List UInt8) := over d.safe d.pend
structure Dk.Ok (d : Dk) : Prop where
  len : ∀ i, i < d.safe.length → (d.safe.getD i []).length = 128
  pend : ∀ k, k < d.pend.length → (Ws.nth d.pend k).1 < d.safe.length ∧ (Ws.nth d.pend k).2.length = 128
  few : d.safe.length ≤ 8192
structure Cut where
  keep : List Bool
  torn : Int
  bytes : Int
/-- How many bytes of the k-th write become safe. -/
def Cut.of (c : Cut) (k : Nat) : Nat := if c.keep.getD k false = true then 128 else if (k : Int) = c.torn then (min (max c.bytes 0) 128).toNat else 0
theorem Cut.of_le (c : Cut) (k : Nat) : c.of k ≤ 128 := by unfold Cut.of; split; omega; split <;> omega
def mix (n : Nat) (a b : List UInt8) : List UInt8 := a.take n ++ b.drop n
theorem mix_length (n : Nat) (a b : List UInt8) (hn : n ≤ a.length) (h : a.length = b.length) : (mix n a b).length = b.length := by simp [mix]; omega
def crashTo (c : Cut) (safe : List (List UInt8)) (pend : Ws) : Nat → List (List UInt8)
  | 0 => safe
  | k + 1 => (crashTo c safe pend k).set (Ws.nth pend k).1 (mix (c.of k) (Ws.nth pend k).2 ((crashTo c safe pend k).getD (Ws.nth pend k).1 []))
/-- The first k places are as in another list of sectors. -/
def backTo (new seen : List (List UInt8)) (pend : Ws) : Nat → List (List UInt8)
  | 0 => seen
  | k + 1 => (backTo new seen pend k).set (Ws.nth pend k).1 (new.getD (Ws.nth pend k).1 [])
def Dk.write (d : Dk) (p : Nat) (t : List UInt8) : Dk := { d with pend := d.pend ++ [(p, t)] }
def Dk.flush (d : Dk) : Dk := { d with safe := d.seen, pend := [] }
def Dk.crash (c : Cut) (d : Dk) : Dk := { safe := crashTo c d.safe d.pend d.pend.length, pend := [], left := none }
def Dk.stop (d : Dk) (a : Int) : Dk := { d with left := some a.toNat }
/-- May one call more be done? -/
def Dk.goes (d : Dk) : Bool := d.left != some 0
def Dk.went (d : Dk) : Dk := { d with left := d.left.map (· - 1) }
/-- Behind a call that asked. -/
def Dk.tried (d : Dk) : Dk := if d.goes = true then d.went else d
theorem Dk.tried_yes {d : Dk} (h : d.goes = true) : d.tried = d.went := if_pos h
theorem Dk.tried_no {d : Dk} (h : d.goes = false) : d.tried = d := if_neg (by rw [h]; decide)
def Dk.inside (d : Dk) (n : Int) : Bool := decide (0 ≤ n ∧ n < d.safe.length)
theorem Dk.inside_yes {d : Dk} {n : Nat} (h : n < d.safe.length) : d.inside (n : Int) = true := by simp [Dk.inside]; omega
theorem Dk.inside_no {d : Dk} {n : Int} (h : ¬ (0 ≤ n ∧ n < d.safe.length)) : d.inside n = false := decide_eq_false h
def Dk.new (n : Nat) : Dk := { safe := List.replicate n (zeros 128), pend := [], left := none }
theorem overTo_length (s : List (List UInt8)) (p : Ws) (k : Nat) : (overTo s p k).length = s.length := by
  induction k with
  | zero => rfl
  | succ k ih => simp [overTo, ih]
theorem crashTo_length (c : Cut) (s : List (List UInt8)) (p : Ws) (k : Nat) : (crashTo c s p k).length = s.length := by
  induction k with
  | zero => rfl
  | succ k ih => simp [crashTo, ih]
theorem backTo_length (n s : List (List UInt8)) (p : Ws) (k : Nat) : (backTo n s p k).length = s.length := by
  induction k with
  | zero => rfl
  | succ k ih => simp [backTo, ih]
theorem getD_set {α : Type} (l : List α) (i j : Nat) (x d : α) (hi : i < l.length) : (l.set i x).getD j d = if i = j then x else l.getD j d := by
  simp only [List.getD_eq_getElem?_getD, List.getElem?_set, hi, if_true]
  split
  · rfl
  · rfl
theorem overTo_len128 {s : List (List UInt8)} {p : Ws} (h1 : ∀ i, i < s.length → (s.getD i []).length = 128) (h2 : ∀ k, k < p.length → (Ws.nth p k).1 < s.length ∧ (Ws.nth p k).2.length = 128) (k : Nat) (hk : k ≤ p.length) : ∀ i, i < s.length → ((overTo s p k).getD i []).length = 128 := by
  induction k with
  | zero => exact h1
  | succ k ih =>
    intro i hi
    rw [overTo, getD_set _ _ _ _ _ (by rw [overTo_length]; exact (h2 k (by omega)).1)]
    split
    · exact (h2 k (by omega)).2
    · exact ih (by omega) i hi
theorem crashTo_len128 {c : Cut} {s : List (List UInt8)} {p : Ws} (h1 : ∀ i, i < s.length → (s.getD i []).length = 128) (h2 : ∀ k, k < p.length → (Ws.nth p k).1 < s.length ∧ (Ws.nth p k).2.length = 128) (k : Nat) (hk : k ≤ p.length) : ∀ i, i < s.length → ((crashTo c s p k).getD i []).length = 128 := by
  induction k with
  | zero => exact h1
  | succ k ih =>
    intro i hi
    have h := h2 k (by omega)
    have hc := c.of_le k
    rw [crashTo, getD_set _ _ _ _ _ (by rw [crashTo_length]; exact h.1)]
    split
    · rw [mix_length _ _ _ (by omega) (by rw [h.2, ih (by omega) _ h.1])]
      exact ih (by omega) _ h.1
    · exact ih (by omega) i hi
theorem overTo_app (s : List (List UInt8)) (p q : Ws) (k : Nat) (hk : k ≤ p.length) : overTo s (p ++ q) k = overTo s p k := by
  induction k with
  | zero => rfl
  | succ k ih =>
    have e : Ws.nth (p ++ q) k = Ws.nth p k := by
      simp only [Ws.nth, List.getD_eq_getElem?_getD]
      rw [List.getElem?_append_left (by omega)]
    rw [overTo, overTo, ih (by omega), e]
theorem over_snoc (s : List (List UInt8)) (p : Ws) (i : Nat) (t : List UInt8) : over s (p ++ [(i, t)]) = (over s p).set i t := by
  unfold over
  rw [List.length_append, List.length_singleton, overTo, overTo_app _ _ _ _ (Nat.le_refl _)]
  have e : Ws.nth (p ++ [(i, t)]) p.length = (i, t) := by simp [Ws.nth]
  rw [e]
theorem over_nil (s : List (List UInt8)) : over s [] = s := rfl
/-- A place that no write names. -/
theorem overTo_not {s : List (List UInt8)} {p : Ws} (h2 : ∀ k, k < p.length → (Ws.nth p k).1 < s.length) (j k : Nat) (hk : k ≤ p.length) (hj : ∀ i, i < k → (Ws.nth p i).1 ≠ j) : (overTo s p k).getD j [] = s.getD j [] := by
  induction k with
  | zero => rfl
  | succ k ih => rw [overTo, getD_set _ _ _ _ _ (by rw [overTo_length]; exact h2 k (by omega)), if_neg (hj k (by omega)), ih (by omega) (fun i hi => hj i (by omega))]
theorem crashTo_not {c : Cut} {s : List (List UInt8)} {p : Ws} (h2 : ∀ k, k < p.length → (Ws.nth p k).1 < s.length) (j k : Nat) (hk : k ≤ p.length) (hj : ∀ i, i < k → (Ws.nth p i).1 ≠ j) : (crashTo c s p k).getD j [] = s.getD j [] := by
  induction k with
  | zero => rfl
  | succ k ih => rw [crashTo, getD_set _ _ _ _ _ (by rw [crashTo_length]; exact h2 k (by omega)), if_neg (hj k (by omega)), ih (by omega) (fun i hi => hj i (by omega))]
theorem backTo_at {n s : List (List UInt8)} {p : Ws} (h2 : ∀ k, k < p.length → (Ws.nth p k).1 < s.length) (j k : Nat) (hk : k ≤ p.length) :
    ((∃ i, i < k ∧ (Ws.nth p i).1 = j) → (backTo n s p k).getD j [] = n.getD j []) ∧ ((∀ i, i < k → (Ws.nth p i).1 ≠ j) → (backTo n s p k).getD j [] = s.getD j []) := by
  induction k with
  | zero => exact ⟨fun ⟨i, hi, _⟩ => absurd hi (Nat.not_lt_zero _), fun _ => rfl⟩
  | succ k ih =>
    obtain ⟨a, b⟩ := ih (by omega)
    rw [backTo, getD_set _ _ _ _ _ (by rw [backTo_length]; exact h2 k (by omega))]
    constructor
    · rintro ⟨i, hi, e⟩
      by_cases hj : (Ws.nth p k).1 = j
      · rw [if_pos hj, hj]
      · rw [if_neg hj]
        exact a ⟨i, by rcases Nat.lt_succ_iff_lt_or_eq.1 hi with h | h; exact h; exact absurd (h ▸ e) hj, e⟩
    · intro h
      rw [if_neg (h k (by omega))]
      exact b (fun i hi => h i (by omega))
theorem ext_getD {a b : List (List UInt8)} (hl : a.length = b.length) (h : ∀ j, j < a.length → a.getD j [] = b.getD j []) : a = b := by
  apply List.ext_getElem hl
  intro j h1 h2
  have := h j h1
  simpa [List.getD_eq_getElem?_getD, List.getElem?_eq_getElem h1, List.getElem?_eq_getElem h2] using this
/-- Behind a crash what is read is what is safe. -/
theorem back_crash (d : Dk) (hd : d.Ok) (c : Cut) : backTo (crashTo c d.safe d.pend d.pend.length) d.seen d.pend d.pend.length = crashTo c d.safe d.pend d.pend.length := by
  have hp : ∀ k, k < d.pend.length → (Ws.nth d.pend k).1 < d.safe.length := fun k hk => (hd.pend k hk).1
  have hs : d.seen.length = d.safe.length := overTo_length _ _ _
  refine ext_getD (by rw [backTo_length, crashTo_length, hs]) fun j _ => ?_
  obtain ⟨a, b⟩ := backTo_at (n := crashTo c d.safe d.pend d.pend.length) (s := d.seen) (p := d.pend) (fun k hk => by rw [hs]; exact hp k hk) j d.pend.length (Nat.le_refl _)
  by_cases h : ∃ i, i < d.pend.length ∧ (Ws.nth d.pend i).1 = j
  · exact a h
  · have h' : ∀ i, i < d.pend.length → (Ws.nth d.pend i).1 ≠ j := fun i hi e => h ⟨i, hi, e⟩
    rw [b h', crashTo_not hp j _ (Nat.le_refl _) h']
    exact overTo_not hp j _ (Nat.le_refl _) h'
theorem Dk.seen_length (d : Dk) : d.seen.length = d.safe.length := overTo_length _ _ _
theorem Dk.Ok.seen {d : Dk} (h : d.Ok) : ∀ i, i < d.safe.length → (d.seen.getD i []).length = 128 := overTo_len128 h.len h.pend _ (Nat.le_refl _)
theorem Dk.Ok.write {d : Dk} (h : d.Ok) (p : Nat) (t : List UInt8) (hp : p < d.safe.length) (ht : t.length = 128) : (d.write p t).Ok := by
  refine ⟨h.len, fun k hk => ?_, h.few⟩
  simp only [Dk.write, List.length_append, List.length_singleton] at hk ⊢
  by_cases e : k < d.pend.length
  · have := h.pend k e
    simp only [Ws.nth, List.getD_eq_getElem?_getD] at this ⊢
    rw [List.getElem?_append_left e]
    exact this
  · obtain rfl : k = d.pend.length := by omega
    simp [Ws.nth, hp, ht]
theorem Dk.Ok.flush {d : Dk} (h : d.Ok) : d.flush.Ok :=
  ⟨fun i hi => h.seen i (by simpa [Dk.flush, Dk.seen_length] using hi), fun k hk => absurd hk (by simp [Dk.flush]), by simpa [Dk.flush, Dk.seen_length] using h.few⟩
theorem Dk.Ok.crash {d : Dk} (h : d.Ok) (c : Cut) : (d.crash c).Ok :=
  ⟨fun i hi => crashTo_len128 h.len h.pend _ (Nat.le_refl _) i (by simpa [Dk.crash, crashTo_length] using hi), fun k hk => absurd hk (by simp [Dk.crash]), by simpa [Dk.crash, crashTo_length] using h.few⟩
theorem Dk.Ok.of {d e : Dk} (h : d.Ok) (h1 : e.safe = d.safe) (h2 : e.pend = d.pend) : e.Ok := ⟨by rw [h1]; exact h.len, by rw [h1, h2]; exact h.pend, by rw [h1]; exact h.few⟩
theorem Dk.new_ok (n : Nat) (h : n ≤ 8192) : (Dk.new n).Ok := by
  refine ⟨fun i hi => ?_, fun k hk => absurd hk (by simp [Dk.new]), by simpa [Dk.new] using h⟩
  have hi' : i < n := by simpa [Dk.new] using hi
  simp [Dk.new, List.getD_eq_getElem?_getD, hi', zeros_length]
end S
end Go.Proofs.Ytjnbjgkcliaipaa
