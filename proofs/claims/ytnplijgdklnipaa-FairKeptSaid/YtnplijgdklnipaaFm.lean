/- Whose turn it is, counted: ranks, turns, fresh lanes. Plain words alone. -/
import Derived.Test.YtnplijgdklnipaaFl
namespace Go.Proofs.Ytnplijgdklnipaa
open Go.RowKit
namespace S
/-- Does the lane at j take part? -/
def on (l : List Ln) (j : Nat) : Prop := j < l.length ∧ 1 ≤ (l.getD j l0).w
instance (l : List Ln) (j : Nat) : Decidable (on l j) := by unfold on; infer_instance
/-- How many take part ahead of place j. -/
def rk (l : List Ln) : Nat → Nat
  | 0 => 0
  | j + 1 => rk l j + if on l j then 1 else 0
theorem rk_mono (l : List Ln) : ∀ (i j : Nat), i ≤ j → rk l i ≤ rk l j
  | i, 0, h => by obtain rfl : i = 0 := by omega
                  exact Nat.le_refl _
  | i, j + 1, h => by
    by_cases e : i = j + 1
    · rw [e]; exact Nat.le_refl _
    · have := rk_mono l i j (by omega)
      simp only [rk]; omega
theorem rk_lt {l : List Ln} {i j : Nat} (hi : on l i) (h : i < j) : rk l i < rk l j := by
  have h1 : rk l (i + 1) ≤ rk l j := rk_mono l (i + 1) j h
  simp only [rk, if_pos hi] at h1
  omega
theorem rk_same {l : List Ln} : ∀ (i j : Nat), i ≤ j → (∀ k, i ≤ k → k < j → ¬ on l k) → rk l i = rk l j
  | i, 0, h, _ => by obtain rfl : i = 0 := by omega
                     rfl
  | i, j + 1, h, hn => by
    by_cases e : i = j + 1
    · rw [e]
    · rw [rk_same i j (by omega) (fun k h1 h2 => hn k h1 (by omega))]
      simp only [rk, if_neg (hn j (by omega) (by omega))]
      omega
theorem rk_inj {l : List Ln} {i j : Nat} (hi : on l i) (hj : on l j) (h : rk l i = rk l j) : i = j := by
  rcases Nat.lt_trichotomy i j with h1 | h1 | h1
  · have := rk_lt hi h1; omega
  · exact h1
  · have := rk_lt hj h1; omega
/-- The number of those that take part. -/
def all (l : List Ln) : Nat := rk l l.length
theorem rk_all {l : List Ln} {j : Nat} (hj : on l j) : rk l j < all l := rk_lt hj hj.1
theorem rk_le (l : List Ln) {j : Nat} (hj : j ≤ l.length) : rk l j ≤ all l := rk_mono l j _ hj
theorem rk_cons (x : Ln) (l : List Ln) : ∀ j, rk (x :: l) (j + 1) = (if 1 ≤ x.w then 1 else 0) + rk l j
  | 0 => by
    have h0 : on (x :: l) 0 ↔ 1 ≤ x.w := by unfold on; simp
    show rk (x :: l) 0 + (if on (x :: l) 0 then 1 else 0) = _
    simp only [h0, rk]
    omega
  | j + 1 => by
    rw [rk, rk_cons x l j, rk]
    have : on (x :: l) (j + 1) ↔ on l j := by
      unfold on
      simp
    simp only [this]
    omega
theorem all_cnt : ∀ l : List Ln, all l = cnt l
  | [] => rfl
  | x :: l => by
    unfold all
    rw [List.length_cons, rk_cons, cnt, ← all_cnt l]
    rfl
/-- A turn, told by ranks: who has it. -/
theorem find_rk {l : List Ln} {a k : Nat} (ha : a ≤ l.length) (h : find l a = some k) : on l k ∧ rk l k = rk l a % all l := by
  obtain ⟨h1, h2, h3⟩ := find_yes ha h
  have hk : on l k := ⟨h1, h2⟩
  refine ⟨hk, ?_⟩
  rcases h3 with ⟨h4, h5⟩ | ⟨h4, h5, h6⟩
  · have e : rk l a = rk l k := rk_same a k h4 (fun j h7 h8 c => by have := h5 j h7 h8; have := c.2; omega)
    rw [e, Nat.mod_eq_of_lt (rk_all hk)]
  · have e : rk l a = all l := rk_same a l.length ha (fun j h7 h8 c => by have := h5 j h7 h8; have := c.2; omega)
    have e0 : rk l 0 = rk l k := rk_same 0 k (by omega) (fun j _ h8 c => by have := h6 j h8; have := c.2; omega)
    rw [e, Nat.mod_self, ← e0]
    rfl
theorem find_ex {l : List Ln} {a : Nat} (ha : a ≤ l.length) (h : 0 < all l) : ∃ k, find l a = some k := by
  cases hf : find l a with
  | some k => exact ⟨k, rfl⟩
  | none =>
    have h0 : all l = 0 := by
      have := rk_same (l := l) 0 l.length (by omega) (fun j _ h2 c => by have := find_no ha hf j h2; have := c.2; omega)
      unfold all
      rw [← this]; rfl
    omega
theorem next_rk {l : List Ln} {k : Nat} (hk : on l k) : rk l ((k + 1) % l.length) % all l = (rk l k + 1) % all l := by
  have h1 := hk.1
  by_cases h : k + 1 = l.length
  · have e : all l = rk l k + 1 := by
      unfold all
      rw [← h, rk, if_pos hk]
    rw [h, Nat.mod_self, e, Nat.mod_self]
    simp [rk]
  · have e : (k + 1) % l.length = k + 1 := Nat.mod_eq_of_lt (by omega)
    rw [e]
    show (rk l k + if on l k then 1 else 0) % _ = _
    rw [if_pos hk]
/-- Where one begins, and how many turns have been. -/
def At (l : List Ln) (t i a : Nat) : Prop := a ≤ l.length ∧ rk l a % all l = (t + i) % all l
theorem At.start (l : List Ln) (a : Nat) (ha : a ≤ l.length) : At l (rk l a) 0 a := ⟨ha, by rw [Nat.add_zero]⟩
/-- The place of a lane among the turns. -/
def plc (l : List Ln) (t j : Nat) : Nat := (rk l j + (all l - t % all l)) % all l
theorem plc_lt {l : List Ln} (t j : Nat) (h : 0 < all l) : plc l t j < all l := Nat.mod_lt _ h
theorem At.turn {l : List Ln} {t i a : Nat} (h : At l t i a) (hp : 0 < all l) : ∃ k, find l a = some k ∧ on l k ∧ At l t (i + 1) ((k + 1) % l.length) ∧ rk l k = (t + i) % all l := by
  obtain ⟨k, hf⟩ := find_ex h.1 hp
  obtain ⟨h1, h2⟩ := find_rk h.1 hf
  have h3 : rk l k = (t + i) % all l := by rw [h2, h.2]
  refine ⟨k, hf, h1, ⟨Nat.le_of_lt (Nat.mod_lt _ (by have := h1.1; omega)), ?_⟩, h3⟩
  rw [next_rk h1, h3, Nat.mod_add_mod, Nat.add_assoc]
/-- It is the turn of the one whose place it is. -/
theorem plc_turn {l : List Ln} {t i j k : Nat} (hj : on l j) (hk : on l k) (hr : rk l k = (t + i) % all l) (hp : 0 < all l) : plc l t j = i % all l ↔ j = k := by
  obtain ⟨n, hn⟩ : ∃ n, n = all l := ⟨_, rfl⟩
  have hrj : rk l j < n := by rw [hn]; exact rk_all hj
  obtain ⟨r, hrr⟩ : ∃ r, r = rk l j := ⟨_, rfl⟩
  obtain ⟨s, hs⟩ : ∃ s, s = t % n := ⟨_, rfl⟩
  have hsn : s < n := by rw [hs]; exact Nat.mod_lt _ (by omega)
  have ek : rk l k = (s + i) % n := by rw [hr, ← hn, hs, Nat.mod_add_mod]
  have ep : plc l t j = (r + (n - s)) % n := by unfold plc; rw [← hn, ← hs, ← hrr]
  rw [ep, ← hn]
  rw [← hrr] at hrj
  constructor
  · intro h
    refine rk_inj hj hk ?_
    rw [ek, ← hrr, ← Nat.add_mod_mod, ← h, Nat.add_mod_mod, show s + (r + (n - s)) = r + n by omega, Nat.add_mod_right, Nat.mod_eq_of_lt hrj]
  · intro h
    subst h
    rw [← hrr] at ek
    rw [ek, Nat.mod_add_mod, show s + i + (n - s) = i + n by omega, Nat.add_mod_right]
/-- How often the one at place p has had its turn. -/
def had (n p i : Nat) : Nat := i / n + if p < i % n then 1 else 0
theorem had_zero (n p : Nat) : had n p 0 = 0 := by simp [had]
theorem had_more {n p i : Nat} (hp : p < n) : had n p (i + 1) = had n p i + if p = i % n then 1 else 0 := by
  have hn : 0 < n := by omega
  obtain ⟨q, hq⟩ : ∃ q, q = i / n := ⟨_, rfl⟩
  obtain ⟨r, hr⟩ : ∃ r, r = i % n := ⟨_, rfl⟩
  have hrn : r < n := by rw [hr]; exact Nat.mod_lt _ hn
  have hi : i = n * q + r := by rw [hq, hr]; exact (Nat.div_add_mod i n).symm
  unfold had
  rw [← hq, ← hr]
  by_cases h : r + 1 = n
  · have e : i + 1 = n * (q + 1) := by rw [Nat.mul_succ]; omega
    rw [e, Nat.mul_div_cancel_left _ hn, Nat.mul_mod_right]
    split <;> (try split) <;> (try split) <;> omega
  · have e : i + 1 = n * q + (r + 1) := by omega
    rw [e, Nat.mul_add_div hn, Nat.div_eq_of_lt (by omega), Nat.mul_add_mod, Nat.mod_eq_of_lt (by omega)]
    split <;> (try split) <;> (try split) <;> omega
theorem had_all {n : Nat} (p q : Nat) (hn : 0 < n) : had n p (q * n) = q := by
  unfold had
  rw [Nat.mul_div_cancel _ hn, Nat.mul_mod_left]
  simp
theorem had_once {n p i : Nat} (hi : i ≤ n) (hp : p < n) : had n p i = if p < i then 1 else 0 := by
  unfold had
  by_cases h : i = n
  · subst h
    rw [Nat.div_self (by omega), Nat.mod_self, if_pos hp]
    simp
  · rw [Nat.div_eq_of_lt (by omega), Nat.mod_eq_of_lt (by omega)]
    omega
theorem had_near (n p q i : Nat) : had n p i ≤ had n q i + 1 := by
  unfold had
  split <;> split <;> omega
/-- Fresh lanes: weights up to 4, no deficits. -/
def Fr (b : Int) (x : Ln) : Prop := 0 ≤ x.w ∧ x.w ≤ 4 ∧ 0 ≤ x.b ∧ x.b ≤ b ∧ x.d = 0
theorem Fr.mild {b : Int} {x : Ln} (h : Fr b x) (hb : b ≤ 100000000) : Mild x := by
  unfold Fr at h; unfold Mild; omega
theorem Fr.take {b : Int} {x : Ln} (h : Fr b x) (q : Int) : tk x q = min (sh x.w q) x.b := by
  have := sh_bounds x.w q
  unfold Fr at h; unfold tk; omega
theorem Fr.one {b : Int} {x : Ln} (h : Fr b x) (q : Int) : one x q = ⟨x.w, x.b - min (sh x.w q) x.b, 0⟩ := by
  have ht := h.take q
  have hs := sh_bounds x.w q
  unfold S.one
  rw [ht]
  unfold Fr at h
  congr 1
  split <;> omega
theorem Fr.after {b : Int} {x : Ln} (h : Fr b x) (q : Int) : Fr b (S.one x q) := by
  have hs := sh_bounds x.w q
  rw [h.one q]
  obtain ⟨h1, h2, h3, h4, h5⟩ := h
  exact ⟨h1, h2, by show 0 ≤ x.b - min (sh x.w q) x.b; omega, by show x.b - min (sh x.w q) x.b ≤ b; omega, rfl⟩
theorem sh_is {w q : Int} (h1 : 1 ≤ w) (h2 : w ≤ 4) (h3 : 1 ≤ q) (h4 : q ≤ 2) : sh w q = w * q := by
  unfold sh cl
  rw [show min (max w 1) 4 = w by omega, show min (max q 1) 2 = q by omega]
/-- The weights, as one looks at them. -/
theorem on_w {l m : List Ln} (h : m.map (·.w) = l.map (·.w)) (j : Nat) : on m j ↔ on l j := by
  have hl : m.length = l.length := by have := congrArg List.length h; simpa using this
  have hj : (m.getD j l0).w = (l.getD j l0).w := by
    have h2 := congrArg (fun z : List Int => z[j]?) h
    simp only [List.getElem?_map] at h2
    rw [List.getD_eq_getElem?_getD, List.getD_eq_getElem?_getD]
    cases h3 : m[j]? with
    | none =>
      rw [h3] at h2
      cases h4 : l[j]? with
      | none => rfl
      | some y => rw [h4] at h2; simp at h2
    | some x =>
      rw [h3] at h2
      cases h4 : l[j]? with
      | none => rw [h4] at h2; simp at h2
      | some y => rw [h4] at h2; simpa using h2
  unfold on
  rw [hl, hj]
theorem rk_w {l m : List Ln} (h : m.map (·.w) = l.map (·.w)) : ∀ j, rk m j = rk l j
  | 0 => rfl
  | j + 1 => by
    simp only [rk, rk_w h j, on_w h j]
theorem all_w {l m : List Ln} (h : m.map (·.w) = l.map (·.w)) : all m = all l := by
  have hl : m.length = l.length := by have := congrArg List.length h; simpa using this
  unfold all
  rw [hl, rk_w h]
theorem after_w (l : List Ln) (a : Nat) (q : Int) : (after l a q).map (·.w) = l.map (·.w) := by
  unfold after
  split
  · rename_i k hk
    rw [List.map_set]
    apply List.ext_getElem?
    intro i
    by_cases e : k = i
    · subst e
      by_cases hl : k < l.length
      · rw [List.getElem?_set_self (by simpa using hl), List.getElem?_map, List.getD_eq_getElem?_getD, List.getElem?_eq_getElem hl]
        rfl
      · rw [List.getElem?_eq_none (by simp; omega), List.getElem?_eq_none (by simp; omega)]
    · rw [List.getElem?_set_ne e]
  · rfl
theorem after_length (l : List Ln) (a : Nat) (q : Int) : (after l a q).length = l.length := by
  unfold after; split <;> simp
theorem after_fr {l : List Ln} {b : Int} (h : ∀ x ∈ l, Fr b x) (a : Nat) (q : Int) : ∀ x ∈ after l a q, Fr b x := by
  unfold after
  split
  · rename_i k hk
    intro x hx
    rcases List.mem_or_eq_of_mem_set hx with h1 | h1
    · exact h x h1
    · rw [h1]
      by_cases hl : k < l.length
      · rw [List.getD_eq_getElem?_getD, List.getElem?_eq_getElem hl]
        exact (h _ (List.getElem_mem hl)).after q
      · rw [List.set_eq_of_length_le (by omega)] at hx
        rw [← h1]; exact h x hx
  · exact h
/-- What lies elsewhere stays. -/
theorem after_else {l : List Ln} {a k : Nat} {q : Int} (hf : find l a = some k) (j : Nat) : (after l a q).getD j l0 = if j = k ∧ j < l.length then one (l.getD k l0) q else l.getD j l0 := by
  unfold after
  rw [hf]
  simp only [List.getD_eq_getElem?_getD]
  by_cases e : k = j
  · subst e
    by_cases hl : k < l.length
    · rw [List.getElem?_set_self hl, if_pos ⟨rfl, hl⟩]; rfl
    · rw [if_neg (fun c => hl c.2), List.getElem?_eq_none (by simp; omega), List.getElem?_eq_none (by omega)]
  · rw [List.getElem?_set_ne e, if_neg (fun c => e c.1.symm)]
theorem fr_fr (m : Nat) (f g : Nat → Int) (k : Nat) : ∀ x ∈ fr m f g k, Fr 60 x := by
  intro x hx
  simp only [fr, List.mem_map] at hx
  obtain ⟨i, _, rfl⟩ := hx
  have h1 := within_le (f i) 4 (by omega)
  have h2 := within_le (g i) 60 (by omega)
  have h3 : (if i < m then within (g i) 60 else 0) ≤ 60 := by split <;> omega
  exact ⟨by show (0 : Int) ≤ ((within (f i) 4 : Nat) : Int); omega, h1, by show (0 : Int) ≤ ((if i < m then within (g i) 60 else 0 : Nat) : Int); omega, by show ((if i < m then within (g i) 60 else 0 : Nat) : Int) ≤ 60; omega, rfl⟩
theorem pos_in {at_ : Int} {n : Nat} (h0 : 0 ≤ at_) (h : at_ < n) : pos at_ n = at_.toNat := by unfold pos; rw [if_pos ⟨h0, h⟩]
theorem pos_nat {a n : Nat} (h : a < n) : pos (a : Int) n = a := by rw [pos_in (by omega) (by omega)]; simp
end S
end Go.Proofs.Ytnplijgdklnipaa
