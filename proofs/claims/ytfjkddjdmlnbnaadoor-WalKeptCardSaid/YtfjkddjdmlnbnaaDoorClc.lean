/- bytes.Clone, with what its room is bound by. -/
import Derived.Test.YtfjkddjdmlnbnaaDoorGw
namespace Go.Proofs.YtfjkddjdmlnbnaaDoor
open Go.RowKit
theorem own_room_cap {w : World} {base : Nat} {v : Value} {bs : List UInt8} (h : Own w base v bs) : ∃ g c, v = .slice (some ⟨g, 0, none⟩) bs.length c ∧ base ≤ g ∧ Room w g c bs ∧ c ≤ 9223372036854775807 := by
  obtain ⟨⟨h1, h2⟩, g, cap, rfl⟩ := h
  rcases h2 with ⟨h3, _⟩ | ⟨g', cap', cur, h3, h4, h5, h6, h7, h8, h9⟩
  · simp at h3
  · simp only [Value.slice.injEq, Option.some.injEq, Addr.mk.injEq, and_true, true_and] at h3
    obtain ⟨rfl, rfl⟩ := h3
    exact ⟨g, cap, rfl, h4, ⟨cur, h5, by omega, h6, by rw [Nat.mul_one] at h9; exact h9⟩, by simp only [maxLen] at h7; omega⟩
set_option maxRecDepth 10000 in
theorem clone_cap (b off n cap : Nat) (xs : List UInt8) (w : World) (h1 : SliceAt w (.slice (some ⟨b, off, none⟩) n cap) xs) :
   Calls Tryd.prog 36 #[.slice (some ⟨b, off, none⟩) n cap] w fun e w' => ∃ g c, e = .returned (.slice (some ⟨g, 0, none⟩) n c) ∧ w.heap.size ≤ g ∧ Room w' g c xs ∧ c ≤ 9223372036854775807 ∧ Below w.heap.size w w' := by
  have hnil := eql_nil ⟨b, off, none⟩ n cap
  obtain ⟨ax, l1, c1, hv, hl1, hm1⟩ := h1.form
  simp only [Value.slice.injEq] at hv
  obtain ⟨rfl, rfl, rfl⟩ := hv
  have hb0 : Below w.heap.size w (w.alloc (.cells #[] 5)) := (Below.refl _ _).alloc (Nat.le_refl _) _
  have HR := hide (run_append_bytes (w.alloc (.cells #[] 5)) w.heap.size _ (.slice (some ⟨b, off, none⟩) n cap) [] xs 29 (own_none w) (h1.below hb0 (Nat.le_refl _)) (by simp; omega) (by simp))
  have HB := hide hb0
  have HL : Hid (n = xs.length) := hl1
  clear h1 hl1 hb0
  go_enter Tryd.func36, Tryd.ntmps36
  go_wp2_with (refine wpList_append_known rfl (.tmp 5) (.tmp 6) 29 29 rfl _ _ rfl rfl HR.out ?_)
  intro v' w' hown hbel
  obtain ⟨g, c, rfl, hg, hr, hc⟩ := own_room_cap hown
  have HC := hide hc
  have HF : Hid (Below w.heap.size w w') := HB.out.trans (hbel.mono (by simp))
  have HG := hide hg
  have HM := hide hr
  clear hown hbel hg hr hc
  rw [← HL.out]
  go_wp2_with fail
  go_ret
  exact ⟨g, c, rfl, HG.out, HM.out, HC.out, HF.out⟩
end Go.Proofs.YtfjkddjdmlnbnaaDoor
