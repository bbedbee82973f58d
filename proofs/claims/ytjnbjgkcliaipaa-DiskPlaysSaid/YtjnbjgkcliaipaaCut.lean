/- bytesOf: how many bytes of a pending write a crash leaves. -/
import Derived.Test.YtjnbjgkcliaipaaFlush
namespace Go.Proofs.Ytjnbjgkcliaipaa
open Go.RowKit
/-- The value v is a []bool that reads as ks. -/
def BoolsAt (w : World) (v : Value) (ks : List Bool) : Prop :=
  ∃ ao cap, v = .slice ao ks.length cap ∧ ks.length ≤ 9223372036854775807 ∧ (0 < ks.length → ∃ b off, ao = some ⟨b, off, none⟩ ∧ b < w.heap.size ∧ ∀ j, j < ks.length → w.cell? ⟨b, off + j, none⟩ = some (.bool (ks.getD j false)))
theorem BoolsAt.below {w w' : World} {v : Value} {ks : List Bool} {B : Nat} (h : BoolsAt w v ks) (hb : Below B w w') (hB : w.heap.size ≤ B) : BoolsAt w' v ks := by
  obtain ⟨ao, cap, e, h1, h2⟩ := h
  refine ⟨ao, cap, e, h1, fun hp => ?_⟩
  obtain ⟨b, off, e2, h3, h4⟩ := h2 hp
  exact ⟨b, off, e2, Nat.lt_of_lt_of_le h3 hb.size, fun j hj => (hb.cell (p := ⟨b, off + j, none⟩) (by show b < B; omega)).trans (h4 j hj)⟩
theorem BoolsAt.chg {p : Nat → Prop} {w W : World} {v : Value} {ks : List Bool} (h : BoolsAt w v ks) (hc : Chg p w W) (hp : ∀ k, k < w.heap.size → ¬ p k) : BoolsAt W v ks :=
  h.below (hc.below w.heap.size (Nat.le_refl _) hp) (Nat.le_refl _)
theorem bools_nil (w : World) : BoolsAt w (.slice none 0 0) [] := ⟨none, 0, rfl, by simp, fun h => absurd h (by simp)⟩
namespace S
theorem Cut.of_keep {c : Cut} {k : Nat} (h : c.keep.getD k false = true) : c.of k = 128 := by unfold Cut.of; rw [if_pos h]
theorem Cut.of_torn {c : Cut} {k : Nat} (h : c.keep.getD k false = false) (ht : (k : Int) = c.torn) : c.of k = (min (max c.bytes 0) 128).toNat := by unfold Cut.of; rw [if_neg (by rw [h]; decide), if_pos ht]
theorem Cut.of_lost {c : Cut} {k : Nat} (h : c.keep.getD k false = false) (ht : ¬ (k : Int) = c.torn) : c.of k = 0 := by unfold Cut.of; rw [if_neg (by rw [h]; decide), if_neg ht]
end S
set_option maxHeartbeats 1600000 in
theorem bytesOf_any (v : Value) (c : S.Cut) (k : Nat) (w : World) (hv : BoolsAt w v c.keep) (hk : k ≤ 1000000) :
   Calls Try.prog 36 #[.agg #[v, .int .i64 c.torn, .int .i64 c.bytes], .int .i64 (k : Int)] w fun e w' => e = .returned (.int .i64 (c.of k : Int)) ∧ Below w.heap.size w w' := by
  obtain ⟨ao, cap, rfl, hmax, hcell⟩ := hv
  have HB : Hid (∀ a b d : Value, Below w.heap.size w (w.alloc (.cells #[a, b, d] 38))) := fun a b d => (Below.refl _ _).alloc (Nat.le_refl _) _
  obtain ⟨L, hL⟩ : ∃ L, L = c.keep.length := ⟨_, rfl⟩
  by_cases hlt : k < L
  · obtain ⟨b, off, rfl, hbl, hc⟩ := hcell (by omega)
    have hck := hc k (by omega)
    rw [← hL]
    have hck' : ∀ o : Obj, (w.alloc o).cell? ⟨b, off + k, none⟩ = some (.bool (c.keep.getD k false)) := fun o => (World.cell?_alloc_lt _ _ _ hbl).trans hck
    have hck2 := hck' (.cells #[.slice (some ⟨b, off, none⟩) L cap, .int .i64 c.torn, .int .i64 c.bytes] 38)
    have q1 : (0 : Int) ≤ (k : Int) := by omega
    have q2 : (k : Int) < (L : Int) := by omega
    cases hkb : c.keep.getD k false
    · rw [hkb] at hck2
      by_cases ht : (k : Int) = c.torn
      · have E := S.Cut.of_torn hkb ht
        rw [← ht] at hck2 ⊢
        clear ht
        by_cases h1 : c.bytes < 0
        · have e : Hid ((c.of k : Int) = 0) := by show (c.of k : Int) = 0; omega
          clear hcell hc hck hck' hL hkb E
          go_enter Try.func36, Try.ntmps36
          go_wp2
          go_ret
          exact ⟨by rw [e.out]; rfl, HB.out _ _ _⟩
        · by_cases h2 : 128 < c.bytes
          · have e : Hid ((c.of k : Int) = 128) := by show (c.of k : Int) = 128; omega
            clear hcell hc hck hck' hL hkb E
            go_enter Try.func36, Try.ntmps36
            go_wp2
            go_ret
            exact ⟨by rw [e.out]; rfl, HB.out _ _ _⟩
          · have e : Hid ((c.of k : Int) = c.bytes) := by show (c.of k : Int) = c.bytes; omega
            clear hcell hc hck hck' hL hkb E
            go_enter Try.func36, Try.ntmps36
            go_wp2
            go_ret
            exact ⟨by rw [e.out]; rfl, HB.out _ _ _⟩
      · have e : Hid ((c.of k : Int) = 0) := by show (c.of k : Int) = 0; rw [S.Cut.of_lost hkb ht]; rfl
        clear hcell hc hck hck' hL hkb
        go_enter Try.func36, Try.ntmps36
        go_wp2
        go_ret
        exact ⟨by rw [e.out]; rfl, HB.out _ _ _⟩
    · rw [hkb] at hck2
      have e : Hid ((c.of k : Int) = 128) := by show (c.of k : Int) = 128; rw [S.Cut.of_keep hkb]; rfl
      clear hcell hc hck hck' hL hkb
      go_enter Try.func36, Try.ntmps36
      go_wp2
      go_ret
      exact ⟨by rw [e.out]; rfl, HB.out _ _ _⟩
  · have hkb : c.keep.getD k false = false := by rw [List.getD_eq_getElem?_getD, List.getElem?_eq_none (by omega)]; rfl
    rw [← hL]
    have q2 : ¬ ((k : Int) < (L : Int)) := by omega
    by_cases ht : (k : Int) = c.torn
    · have E := S.Cut.of_torn hkb ht
      by_cases h1 : c.bytes < 0
      · have e : Hid ((c.of k : Int) = 0) := by show (c.of k : Int) = 0; omega
        clear hcell hL hkb E
        go_enter Try.func36, Try.ntmps36
        go_wp2
        go_ret
        exact ⟨by rw [e.out]; rfl, HB.out _ _ _⟩
      · by_cases h2 : 128 < c.bytes
        · have e : Hid ((c.of k : Int) = 128) := by show (c.of k : Int) = 128; omega
          clear hcell hL hkb E
          go_enter Try.func36, Try.ntmps36
          go_wp2
          go_ret
          exact ⟨by rw [e.out]; rfl, HB.out _ _ _⟩
        · have e : Hid ((c.of k : Int) = c.bytes) := by show (c.of k : Int) = c.bytes; omega
          clear hcell hL hkb E
          go_enter Try.func36, Try.ntmps36
          go_wp2
          go_ret
          exact ⟨by rw [e.out]; rfl, HB.out _ _ _⟩
    · have e : Hid ((c.of k : Int) = 0) := by show (c.of k : Int) = 0; rw [S.Cut.of_lost hkb ht]; rfl
      clear hcell hL hkb
      go_enter Try.func36, Try.ntmps36
      go_wp2
      go_ret
      exact ⟨by rw [e.out]; rfl, HB.out _ _ _⟩
end Go.Proofs.Ytjnbjgkcliaipaa
