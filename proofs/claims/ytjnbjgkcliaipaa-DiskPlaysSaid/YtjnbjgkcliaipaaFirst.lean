/- first: the first bytes of a sector. -/
import Derived.Test.YtjnbjgkcliaipaaSector
namespace Go.Proofs.Ytjnbjgkcliaipaa
open Go.RowKit
namespace S
def byteOf (s : List UInt8) (j : Nat) : Value := .int .u8 ((s.getD j 0).toNat : Int)
end S
set_option maxHeartbeats 1600000 in
set_option maxRecDepth 100000 in
theorem first_any (o : Ow) (d : S.Dk) (n : Nat) (w : World) (hd : DkIs w o d) (hn : n < d.safe.length) :
   Calls Try.prog 17 #[o.ptr, .int .i64 (n : Int)] w fun e w' => e = .returned (.agg #[S.byteOf (d.seen.getD n []) 0, S.byteOf (d.seen.getD n []) 1, S.byteOf (d.seen.getD n []) 2]) ∧ Below w.heap.size w w' := by
  have HD := hide hd
  have HN := hide hn
  clear hd hn
  unfold Ow.ptr
  go_enter Try.func17, Try.ntmps17
  go_wp2_with fail
  have bA : Below w.heap.size w (w.alloc (.cells #[.int .u8 0, .int .u8 0, .int .u8 0] 39)) := (Below.refl _ _).alloc (Nat.le_refl _) _
  have HDA := hide (HD.out.below bA)
  have RA : Hid ((w.alloc (.cells #[.int .u8 0, .int .u8 0, .int .u8 0] 39)).heap[w.heap.size]? = some (.cells #[.int .u8 0, .int .u8 0, .int .u8 0] 39 (0, 0))) := heap_alloc_new _ _
  have BA := hide bA
  clear bA
  generalize w.alloc (.cells #[.int .u8 0, .int .u8 0, .int .u8 0] 39) = wa at *
  refine (read_yes o d n wa HDA.out HN.out).mono ?_
  rintro e w1 ⟨rfl, hr, hb⟩
  obtain ⟨s, hs⟩ : ∃ s, s = d.seen.getD n [] := ⟨_, rfl⟩
  rw [← hs] at hr
  have hsl : s.length = 128 := by rw [hs]; exact HD.out.ok.seen n HN.out
  have HS := hide hs
  have c0 : w1.cell? ⟨wa.heap.size, 0, none⟩ = some (S.byteOf s 0) := v8_cell hr 0 (by omega)
  have c1 : w1.cell? ⟨wa.heap.size, 1, none⟩ = some (S.byteOf s 1) := v8_cell hr 1 (by omega)
  have c2 : w1.cell? ⟨wa.heap.size, 2, none⟩ = some (S.byteOf s 2) := v8_cell hr 2 (by omega)
  obtain ⟨b0, hb0⟩ : ∃ b, b = (s.getD 0 0).toNat := ⟨_, rfl⟩
  obtain ⟨b1, hb1⟩ : ∃ b, b = (s.getD 1 0).toNat := ⟨_, rfl⟩
  obtain ⟨b2, hb2⟩ : ∃ b, b = (s.getD 2 0).toNat := ⟨_, rfl⟩
  unfold S.byteOf at c0 c1 c2
  rw [← hb0] at c0
  rw [← hb1] at c1
  rw [← hb2] at c2
  have r1 := (hb.block w.heap.size (block_lt_of_row RA.out)).trans RA.out
  obtain ⟨d0, d1, d2⟩ := cells3 r1
  have f0 := frozen_of_row _ _ 0 _ _ r1
  have f1 := frozen_of_row _ _ 1 _ _ r1
  have f2 := frozen_of_row _ _ 2 _ _ r1
  have R1 := hide r1
  have B1 := hide (BA.out.trans (hb.mono (BA.out.size)))
  have HB0 := hide hb0
  have HB1 := hide hb1
  have HB2 := hide hb2
  have hne : w.heap.size ≠ wa.heap.size := by have := block_lt_of_row RA.out; omega
  clear hr hb hs r1 hb0 hb1 hb2
  obtain ⟨g0, hg0⟩ : ∃ g, g = w.heap.size := ⟨_, rfl⟩
  rw [← hg0] at d0 d1 d2 f0 f1 f2 R1 B1 hne ⊢
  have HG0 := hide hg0
  clear hg0 RA BA
  generalize wa.heap.size = gr at *
  go_wp2_with fail
  go_region
  go_wp2_with fail
  have X0 := heap_setCell_same _ _ 0 _ _ (.int .u8 (b0 : Int)) R1.out
  have X1 := heap_setCell_same _ _ 1 _ _ (.int .u8 (b1 : Int)) X0
  have X2 := heap_setCell_same _ _ 2 _ _ (.int .u8 (b2 : Int)) X1
  refine bodyPost_ret (v := .agg #[.int .u8 (b0 : Int), .int .u8 (b1 : Int), .int .u8 (b2 : Int)]) (results_cell_row (g := g0) (t := 39) (fr := (0, 0)) Try.results17 _ _ _ _ rfl X2 Try.underlying39 rfl (by kernel_rfl)) rfl ⟨?_, ?_⟩
  · rw [← HS.out]
    unfold S.byteOf
    rw [← HB0.out, ← HB1.out, ← HB2.out]
  · rw [← HG0.out]
    exact (((B1.out.setCell (p := ⟨g0, 0, none⟩) (Nat.le_refl _) _).setCell (p := ⟨g0, 1, none⟩) (Nat.le_refl _) _).setCell (p := ⟨g0, 2, none⟩) (Nat.le_refl _) _).drew
end Go.Proofs.Ytjnbjgkcliaipaa
