/- Sum: of a text that lies in memory, Sum answers the Lean function's digest; nothing that was there changes. -/
import Derived.Test.YtlbggkmblkhjoaaDoorFinz
namespace Go.Proofs.YtlbggkmblkhjoaaDoor
open Go.RowKit
theorem finish_any (st : List UInt32) (hst : st.length = 8) (before : Nat) (hbef : before ≤ 64) (v : Value) (bs : List UInt8) (w : World) (hv : SliceAt w v bs) (hK : KAt w) :
   Calls Tryd.prog 54 #[.agg (S.v32 st), .int .u64 (before : Int), v] w fun e w' => e = .returned (.agg (S.v8 (S.fin st before bs))) ∧ Below w.heap.size w w' := by
  rcases hv with ⟨rfl, rfl⟩ | ⟨a, cap, rfl, _, rfl⟩ | ⟨b, off, cap, rfl, h1, h2, h3, h4⟩
  · exact finish_nil st hst before hbef w hK
  · exact finish_empty st hst before hbef a cap w hK
  · exact finish_some st hst before hbef b off bs.length cap bs w rfl h1 h2 h3 hK h4
def S.sum (bs : List UInt8) : List UInt8 := S.fin S.H0 0 bs
theorem S.sum_length (bs : List UInt8) : (S.sum bs).length = 32 := S.dig_length _ _
theorem finish_0 (v : Value) (bs : List UInt8) (w : World) (hv : SliceAt w v bs) (hK : KAt w) :
   Calls Tryd.prog 54 #[.agg (S.v32 S.H0), .int .u64 0, v] w fun e w' => e = .returned (.agg (S.v8 (S.sum bs))) ∧ Below w.heap.size w w' :=
  finish_any S.H0 rfl 0 (by omega) v bs w hv hK
theorem size_sum (bs : List UInt8) : (Tryd.prog.info? 23).map (·.size) = some (S.v8 (S.sum bs)).size := by rw [S.v8_size, S.sum_length]; exact size23
theorem zeros_sum (bs : List UInt8) : (S.v8 (S.zeros 32)).size = (S.v8 (S.sum bs)).size := by rw [S.v8_size, S.v8_size, S.sum_length]; rfl
set_option maxHeartbeats 800000 in
set_option maxRecDepth 100000 in
theorem Sum_any (v : Value) (bs : List UInt8) (w : World) (hv : SliceAt w v bs) (hK : KAt w) :
   Calls Tryd.prog 30 #[v] w fun e w' => e = .returned (.agg (S.v8 (S.sum bs))) ∧ Below w.heap.size w w' := by
  have HV := hide hv
  have HK := hide hK
  have h0 := hK.pos
  clear hv hK
  go_enter Tryd.func30, Tryd.ntmps30
  go_wp2_with fail
  generalize hW0 : w.alloc _ = W0
  have r0 : W0.heap[w.heap.size]? = some (.cells (S.v8 (S.zeros 32)) 23 (0, 0)) := by rw [← hW0]; exact heap_alloc_new _ _
  have hn0 : Below w.heap.size w W0 := by rw [← hW0]; exact (Below.refl _ _).alloc (Nat.le_refl _) _
  clear hW0
  refine (firstState_any W0).mono ?_
  rintro e w1 ⟨rfl, hb1⟩
  have hz0 := block_lt_of_row r0
  have hn1 : Below w.heap.size w w1 := hn0.trans (hb1.mono (by omega))
  have r1 := (hb1.block w.heap.size hz0).trans r0
  have R1 := hide r1
  have N1 := hide hn1
  clear r0 hn0 hb1 r1 hn1 hz0
  go_wp2_with fail
  refine (finish_0 v bs w1 (HV.out.below N1.out (Nat.le_refl _)) (HK.out.below N1.out h0)).mono ?_
  rintro e w2 ⟨rfl, hb2⟩
  have hz1 := block_lt_of_row R1.out
  have hn2 : Below w.heap.size w w2 := N1.out.trans (hb2.mono (by omega))
  have r2 := (hb2.block w.heap.size hz1).trans R1.out
  have R2 := hide r2
  clear hb2 r2
  go_wp2_with (refine wpList_store_row rfl 23 _ _ rfl w.heap.size (S.v8 (S.sum bs)) rfl rfl 23 _ R2.out (size_sum bs) (zeros_sum bs) (S.v8_one _) ?_)
  exact bodyPost_ret (v := .agg (S.v8 (S.sum bs))) (results_cell_row (g := w.heap.size) (t := 23) (fr := (0, 0)) Tryd.results30 _ _ _ _ rfl (setRow_heap _ _ _ _ _ _ R2.out) Tryd.underlying23 rfl (size_sum bs)) rfl ⟨rfl, below_setRow hn2 (Nat.le_refl _) _⟩
end Go.Proofs.YtlbggkmblkhjoaaDoor
