/- root of the document's own answer: the first 32 bits behind the point of a square or cube root; nothing that was there changes. -/
import Derived.Test.YtdfjbajehcedaaaDoorUnder
namespace Go.Proofs.YtdfjbajehcedaaaDoor
open Go.RowKit
set_option maxHeartbeats 2000000 in
set_option maxRecDepth 100000 in
theorem root_sq (p r : Nat) (hp : p < 65536) (hr : r < 171798691840) (hroot : ∀ x : Nat, x * x ≤ p * 65536 ^ 4 ↔ x ≤ r) (w : World) :
   Calls Tryd.prog 28 #[.int .u64 (p : Int), .bool false] w fun e w' => e = .returned (.int .u32 ((r % 4294967296 : Nat) : Int)) ∧ Below w.heap.size w w' := by
  have HR := hide hroot
  clear hroot
  go_enter Tryd.func28, Tryd.ntmps28
  go_wp2
  go_loopw [5, 6] (fun lo hi wr => ∃ l h : Nat, lo = .int .u64 (l : Int) ∧ hi = .int .u64 (h : Int) ∧ l ≤ r ∧ r < h ∧ h ≤ 171798691840 ∧ Below w.heap.size w wr) (fun lo hi _ => (intOf hi - intOf lo).toNat)
  case atStart => exact ⟨0, 171798691840, rfl, rfl, by omega, hr, by omega, Below.refl _ _⟩
  case round =>
    obtain ⟨l, h, rfl, rfl, h1, h2, h3, hbl⟩ := hrel
    have BL := hide hbl
    clear hbl
    have q1 : IntKind.u64.wrap ((h : Int) - (l : Int)) = (h : Int) - (l : Int) := by rw [IntKind.wrap_u64]; omega
    by_cases hlt : 1 < h - l
    · have q2 : (1 : Int) < (h : Int) - (l : Int) := by omega
      have q3 : IntKind.u64.wrap ((l : Int) + (h : Int)) = (l : Int) + (h : Int) := by rw [IntKind.wrap_u64]; omega
      obtain ⟨m, hm⟩ : ∃ m, m = (l + h) / 2 := ⟨_, rfl⟩
      have Q4 : Hid (((l : Int) + (h : Int)) / 2 = (m : Int)) := by show ((l : Int) + (h : Int)) / 2 = (m : Int); omega
      go_wp2_with fail
      rw [Q4.out]
      refine (below_sq m p (by omega) hp _).mono ?_
      rintro e0 w1 ⟨rfl, hb1⟩
      have BL1 := hide (BL.out.trans (hb1.mono BL.out.size))
      clear hb1
      by_cases hmr : m ≤ r
      · rw [decide_eq_true ((HR.out m).2 hmr)]
        go_wp2_with fail
        go_roundw
        case rel => exact ⟨m, h, by rw [Q4.out], rfl, hmr, h2, h3, BL1.out⟩
        case measure => simp [intOf]; omega
      · rw [decide_eq_false (fun e => hmr ((HR.out m).1 e))]
        go_wp2_with fail
        go_roundw
        case rel => exact ⟨l, m, rfl, by rw [Q4.out], h1, by omega, by omega, BL1.out⟩
        case measure => simp [intOf]; omega
    · have q2 : ¬ ((1 : Int) < (h : Int) - (l : Int)) := by omega
      obtain rfl : r = l := by omega
      go_wp2
      go_ret
      exact ⟨by simp, BL.out⟩
set_option maxHeartbeats 2000000 in
set_option maxRecDepth 100000 in
theorem root_cu (p r : Nat) (hp : p < 65536) (hr : r < 171798691840) (hroot : ∀ x : Nat, x * x * x ≤ p * 65536 ^ 6 ↔ x ≤ r) (w : World) :
   Calls Tryd.prog 28 #[.int .u64 (p : Int), .bool true] w fun e w' => e = .returned (.int .u32 ((r % 4294967296 : Nat) : Int)) ∧ Below w.heap.size w w' := by
  have HR := hide hroot
  clear hroot
  go_enter Tryd.func28, Tryd.ntmps28
  go_wp2
  go_loopw [5, 6] (fun lo hi wr => ∃ l h : Nat, lo = .int .u64 (l : Int) ∧ hi = .int .u64 (h : Int) ∧ l ≤ r ∧ r < h ∧ h ≤ 171798691840 ∧ Below w.heap.size w wr) (fun lo hi _ => (intOf hi - intOf lo).toNat)
  case atStart => exact ⟨0, 171798691840, rfl, rfl, by omega, hr, by omega, Below.refl _ _⟩
  case round =>
    obtain ⟨l, h, rfl, rfl, h1, h2, h3, hbl⟩ := hrel
    have BL := hide hbl
    clear hbl
    have q1 : IntKind.u64.wrap ((h : Int) - (l : Int)) = (h : Int) - (l : Int) := by rw [IntKind.wrap_u64]; omega
    by_cases hlt : 1 < h - l
    · have q2 : (1 : Int) < (h : Int) - (l : Int) := by omega
      have q3 : IntKind.u64.wrap ((l : Int) + (h : Int)) = (l : Int) + (h : Int) := by rw [IntKind.wrap_u64]; omega
      obtain ⟨m, hm⟩ : ∃ m, m = (l + h) / 2 := ⟨_, rfl⟩
      have Q4 : Hid (((l : Int) + (h : Int)) / 2 = (m : Int)) := by show ((l : Int) + (h : Int)) / 2 = (m : Int); omega
      go_wp2_with fail
      rw [Q4.out]
      refine (below_cu m p (by omega) hp _).mono ?_
      rintro e0 w1 ⟨rfl, hb1⟩
      have BL1 := hide (BL.out.trans (hb1.mono BL.out.size))
      clear hb1
      by_cases hmr : m ≤ r
      · rw [decide_eq_true ((HR.out m).2 hmr)]
        go_wp2_with fail
        go_roundw
        case rel => exact ⟨m, h, by rw [Q4.out], rfl, hmr, h2, h3, BL1.out⟩
        case measure => simp [intOf]; omega
      · rw [decide_eq_false (fun e => hmr ((HR.out m).1 e))]
        go_wp2_with fail
        go_roundw
        case rel => exact ⟨l, m, rfl, by rw [Q4.out], h1, by omega, by omega, BL1.out⟩
        case measure => simp [intOf]; omega
    · have q2 : ¬ ((1 : Int) < (h : Int) - (l : Int)) := by omega
      obtain rfl : r = l := by omega
      go_wp2
      go_ret
      exact ⟨by simp, BL.out⟩
end Go.Proofs.YtdfjbajehcedaaaDoor
