/- numberSize brings a number between 1 and 8; copyOf answers a copy in memory of its own; nothing that was there changes. -/
import Derived.Test.YtdhaeepaemneaaaDoorFrames
namespace Go.Proofs.YtdhaeepaemneaaaDoor
open Go.RowKit
namespace S
/-- How many bytes a number has. -/
def size (k : Int) : Nat := (min (max k 1) 8).toNat
theorem size_ge (k : Int) : 1 ≤ size k := by unfold size; omega
theorem size_le (k : Int) : size k ≤ 8 := by unfold size; omega
theorem size_cast (k : Int) : (size k : Int) = min (max k 1) 8 := by unfold size; omega
end S
set_option maxHeartbeats 400000 in
theorem numberSize_any (k : Int) (w : World) :
   Calls Tryd.prog 38 #[.int .i64 k] w fun e w' => e = .returned (.int .i64 (S.size k : Int)) ∧ w = w' := by
  go_enter Tryd.func38, Tryd.ntmps38
  by_cases h1 : k < 1
  · have e : (S.size k : Int) = 1 := by rw [S.size_cast]; omega
    have HE := hide e
    clear e
    go_wp2
    go_ret
    exact ⟨by rw [HE.out]; rfl, rfl⟩
  · by_cases h8 : 8 < k
    · have e : (S.size k : Int) = 8 := by rw [S.size_cast]; omega
      have HE := hide e
      clear e
      go_wp2
      go_ret
      exact ⟨by rw [HE.out]; rfl, rfl⟩
    · have e : (S.size k : Int) = k := by rw [S.size_cast]; omega
      have HE := hide e
      clear e
      go_wp2
      go_ret
      exact ⟨by rw [HE.out]; rfl, rfl⟩
set_option maxHeartbeats 800000 in
set_option maxRecDepth 100000 in
theorem copyOf_any (v : Value) (bs : List UInt8) (w : World) (hv : SliceAt w v bs) :
   Calls Tryd.prog 36 #[v] w fun e w' => e = .returned (.slice (some ⟨w.heap.size, 0, none⟩) bs.length bs.length) ∧ w'.heap[w.heap.size]? = some (.cells (S.v8 bs) 5 (0, 0)) ∧ Below w.heap.size w w' := by
  obtain ⟨ao, len, cap, rfl, hlen, hmax, hsrc⟩ := hv.shape
  have hmk : ∀ w : World, (Instr.makeSlice 24 (.int .i64 (len : Int)) (.int .i64 (len : Int))).run Tryd.prog w = .ok (.slice (some ⟨w.heap.size, 0, none⟩) len len) (w.alloc (.cells (S.v8 (S.zeros len)) 5)) := fun w => make_bytes_big len (by omega) w
  have HS := hide hsrc
  have HN : Hid ((S.v8l bs).length = Nat.min len len) := by show (S.v8l bs).length = Nat.min len len; rw [S.v8l_length]; show _ = min _ _; omega
  have HF : Hid (0 + (S.v8l bs).length ≤ (S.v8l (S.zeros len)).length) := by show 0 + (S.v8l bs).length ≤ (S.v8l (S.zeros len)).length; rw [S.v8l_length, S.v8l_length, S.zeros_length]; omega
  have HNX : Hid (Below w.heap.size w (w.alloc (.cells (S.v8 (S.zeros len)) 5))) := (Below.refl _ _).alloc (Nat.le_refl _) _
  have HL := hide hlen
  clear hsrc hv hlen
  go_enter Tryd.func36, Tryd.ntmps36
  go_wp2_with (first | (refine wpList_copy_splice rfl (.tmp 7) (.tmp 8) 24 24 rfl 5 Tryd.underlying24 size5 _ _ _ _ _ _ rfl rfl w.heap.size 0 (S.v8l (S.zeros len)) 5 (heap_alloc_new _ _) (S.v8l bs) HN.out (copy_src _ HS.out HNX.out) HF.out (S.v8l_one _) w.heap.size (w.alloc (.cells (S.v8 (S.zeros len)) 5)) (Below.refl _ _) (Nat.le_refl _) ?_; intro w2 HG2 hB2; have HG3 := hide (spl_rowT HG2); clear HG2; have HN2 := hide (HNX.out.trans hB2); clear hB2))
  go_ret
  refine ⟨by rw [HL.out]; rfl, ?_, HN2.out⟩
  have e : splice (S.zeros len) 0 bs = bs := by rw [splice_front, show len - bs.length = 0 from by have := HL.out; omega]; simp [S.zeros]
  rw [← e]; exact HG3.out
end Go.Proofs.YtdhaeepaemneaaaDoor
