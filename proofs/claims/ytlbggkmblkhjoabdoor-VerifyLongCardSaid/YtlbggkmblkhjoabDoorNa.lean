/- The document's hasher: made, and what it hashes. -/
import Derived.Test.YtlbggkmblkhjoabDoorMg
import Derived.Test.YtlbggkmblkhjoabDoorRsum
namespace Go.Proofs.YtlbggkmblkhjoabDoor
open Go.RowKit

/-- The document's hasher of a width, and its table. -/
structure HsAt (w : World) (gh gT : Nat) (a : Int) : Prop where
  h : w.heap[gh]? = some (.cells #[.pointer (some ⟨gT, 0, none⟩), .int .i64 (S.cw a : Int)] 36 (0, 0))
  t : w.heap[gT]? = some (.cells (S.v32 (S.K ++ S.H0)) 77 (0, 0))
theorem HsAt.below {w w' : World} {gh gT B : Nat} {a : Int} (h : HsAt w gh gT a) (hb : Below B w w') (hB : w.heap.size ≤ B) : HsAt w' gh gT a :=
  ⟨(hb.block _ (by have := block_lt_of_row h.h; omega)).trans h.h, (hb.block _ (by have := block_lt_of_row h.t; omega)).trans h.t⟩
theorem HsAt.of_heap {w w' : World} {gh gT : Nat} {a : Int} (h : HsAt w gh gT a) (hh : w'.heap = w.heap) : HsAt w' gh gT a := ⟨by rw [hh]; exact h.h, by rw [hh]; exact h.t⟩
theorem cells2 {w : World} {g : Nat} {a b : Value} {t : TypeId} (h : w.heap[g]? = some (.cells #[a, b] t (0, 0))) : w.cell? ⟨g, 0, none⟩ = some a ∧ w.cell? ⟨g, 1, none⟩ = some b :=
  ⟨(cell_of_row w g 0 _ _ _ h).trans rfl, (cell_of_row w g 1 _ _ _ h).trans rfl⟩
set_option maxHeartbeats 1000000 in
set_option maxRecDepth 10000 in
theorem hnew_any (gT : Nat) (a : Int) (w : World) (hT : w.heap[gT]? = some (.cells (S.v32 (S.K ++ S.H0)) 77 (0, 0))) :
   Calls Tryd.prog 20 #[.pointer (some ⟨gT, 0, none⟩), .int .i64 a] w fun e w' => ∃ gh, e = .returned (.pointer (some ⟨gh, 0, none⟩)) ∧ HsAt w' gh gT a ∧ Below w.heap.size w w' := by
  have HT := hide hT
  clear hT
  have key : ∀ n : Nat, n = S.cw a → ∃ gh, Ending.returned (.pointer (some ⟨w.heap.size, 0, none⟩)) = Ending.returned (.pointer (some ⟨gh, 0, none⟩)) ∧ HsAt (w.alloc (.cells #[.pointer (some ⟨gT, 0, none⟩), .int .i64 (n : Int)] 36)) gh gT a ∧ Below w.heap.size w (w.alloc (.cells #[.pointer (some ⟨gT, 0, none⟩), .int .i64 (n : Int)] 36)) := fun n hn => by
    subst hn
    exact ⟨_, rfl, ⟨heap_alloc_new _ _, (heap_alloc_old _ _ (block_lt_of_row HT.out)).trans HT.out⟩, (Below.refl _ _).alloc (Nat.le_refl _) _⟩
  have KEY := hide key
  clear key
  by_cases h1 : a < 1
  · have q : S.cw a = 32 := by unfold S.cw; rw [if_pos (by omega)]
    have Q := hide q
    clear q
    go_enter Tryd.func20, Tryd.ntmps20
    go_wp2_with fail
    go_ret
    exact KEY.out 32 Q.out.symm
  · by_cases h2 : a > 32
    · have q : S.cw a = 32 := by unfold S.cw; rw [if_pos (by omega)]
      have h4 : (32 : Int) < a := by omega
      have Q := hide q
      clear q
      go_enter Tryd.func20, Tryd.ntmps20
      go_wp2_with fail
      go_ret
      exact KEY.out 32 Q.out.symm
    · have q : S.cw a = a.toNat := by unfold S.cw; rw [if_neg (by omega)]
      have h4 : ¬ (32 : Int) < a := by omega
      have q2 : a = ((a.toNat : Nat) : Int) := by omega
      obtain ⟨n, hn⟩ : ∃ n, n = a.toNat := ⟨_, rfl⟩
      rw [← hn] at q2 q
      have Q := hide q
      have Q2 := hide q2
      clear q q2 hn
      go_enter Tryd.func20, Tryd.ntmps20
      go_wp2_with fail
      go_ret
      have := KEY.out n Q.out.symm
      rw [← Q2.out] at this
      exact this
theorem hasher_any (a : Int) (w : World) :
   Calls Tryd.prog 6 #[.int .i64 a] w fun e w' => ∃ gh gT, e = .returned (.pointer (some ⟨gh, 0, none⟩)) ∧ HsAt w' gh gT a ∧ Below w.heap.size w w' := by
  go_enter Tryd.func6, Tryd.ntmps6
  go_wp2_with fail
  refine (new_any w).mono ?_
  rintro e w1 ⟨gT, rfl, _, r1, b1⟩
  have R1 := hide r1
  have B1 := hide b1
  clear r1 b1
  go_wp2_with fail
  refine (hnew_any gT a w1 R1.out).mono ?_
  rintro e w2 ⟨gh, rfl, h2, b2⟩
  have H2 := hide h2
  have B2 := hide (B1.out.trans (b2.mono B1.out.size))
  clear h2 b2
  go_wp2_with fail
  go_ret
  exact ⟨gh, gT, rfl, H2.out, B2.out⟩
theorem own_one {w : World} {g : Nat} {x : UInt8} {c : Int} {B : Nat} (hc : c = (x.toNat : Int)) (h : w.heap[g]? = some (.cells #[.int .u8 c] 5 (0, 0))) (hB : B ≤ g) : Own w B (.slice (some ⟨g, 0, none⟩) 1 1) [x] := by
  refine ⟨⟨rfl, Or.inr ⟨g, 1, _, rfl, hB, h, by simp, by simp [maxLen], rfl, ?_⟩⟩, g, 1, rfl⟩
  rw [hc]; rfl
set_option maxHeartbeats 1000000 in
set_option maxRecDepth 10000 in
theorem leafText_any (gh : Nat) (v : Value) (bs : List UInt8) (w : World) (hv : SliceAt w v bs) (hl : bs.length + 1 ≤ 140737488355328) :
   Calls Tryd.prog 37 #[.pointer (some ⟨gh, 0, none⟩), v] w fun e w' => ∃ v', e = .returned v' ∧ SliceAt w' v' (0 :: bs) ∧ Below w.heap.size w w' := by
  obtain ⟨ao, len, cap, rfl, hlen, hmx⟩ := hv.form
  have b0 : Below w.heap.size w (w.alloc (.cells #[.int .u8 0] 5)) := (Below.refl _ _).alloc (Nat.le_refl _) _
  have KEY := hide (run_append_bytes (w.alloc (.cells #[.int .u8 0] 5)) w.heap.size (.slice (some ⟨w.heap.size, 0, none⟩) 1 1) _ [0] bs 22 (own_one (x := 0) rfl (heap_alloc_new _ _) (Nat.le_refl _)) (hv.below b0 (Nat.le_refl _)) (by simp; omega) (by simp))
  have B0 := hide b0
  have HL := hide hl
  clear b0 hv hl hlen hmx
  go_enter Tryd.func37, Tryd.ntmps37
  go_wp2_with (at_builtin; (refine wpList_append_known rfl (.tmp 5) (.tmp 6) 22 22 rfl _ _ rfl rfl KEY.out ?_; rintro v' w' ⟨hO, hB⟩))
  have HO := hide hO
  have HB := hide (B0.out.trans hB)
  clear hO hB
  go_wp2_with fail
  go_ret
  exact ⟨v', rfl, HO.out.sliceAt (by have := HL.out; simp; omega), HB.out⟩
end Go.Proofs.YtlbggkmblkhjoabDoor
