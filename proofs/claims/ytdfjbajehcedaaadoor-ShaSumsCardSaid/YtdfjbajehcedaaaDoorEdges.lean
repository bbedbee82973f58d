/- The walk of ShaEdges: for any number and any byte the call returns true and nothing that was there changes. -/
import Derived.Test.YtdfjbajehcedaaaDoorRmac
import Derived.Test.YtdfjbajehcedaaaDoorCuts
import Derived.Lib.JoinLaws
namespace Go.Proofs.YtdfjbajehcedaaaDoor
open Go.RowKit
theorem make_bytes (r : Nat) (hr : r ≤ 1000) (w : World) : (Instr.makeSlice 26 (.int .i64 (r : Int)) (.int .i64 (r : Int))).run Tryd.prog w = .ok (.slice (some ⟨w.heap.size, 0, none⟩) r r) (w.alloc (.cells (S.v8 (S.zeros r)) 5)) := by
  obtain ⟨i, hi, hz0, hz1, hz2⟩ := info_parts info5
  have h := run_make (P := Tryd.prog) w 26 5 i (.int .u8 0) Tryd.underlying26 hi hz0 .i64 .i64 (r : Int) (r : Int) (by omega) (Int.le_refl _) (by rw [hz2]; omega) (by omega)
  rw [h, hz1]
  have e : madeCells (Value.int .u8 0).cells (((r : Int)).toNat * 1) = S.v8 (S.zeros r) := by
    apply Array.ext'
    simp [madeCells, S.v8, S.zeros, Value.cells]
    apply List.ext_getElem
    · simp
    · intro j h1 h2
      simp [Nat.mod_one]
  rw [e]
  rfl
theorem Sum_is (D : List UInt8) (v : Value) (bs : List UInt8) (w : World) (hD : Hid (D = S.sum bs)) (hv : SliceAt w v bs) (hK : KAt w) :
   Calls Tryd.prog 16 #[v] w fun e w' => e = .returned (.agg (S.v8 D)) ∧ Below w.heap.size w w' := by
  rw [hD.out]; exact Sum_any v bs w hv hK
theorem rsum_is (D : List UInt8) (gT : Nat) (v : Value) (bs : List UInt8) (w : World) (hD : Hid (D = S.sum bs)) (hT : w.heap[gT]? = some (.cells (S.v32 (S.K ++ S.H0)) 54 (0, 0))) (hv : SliceAt w v bs) (hl : bs.length ≤ 100000) :
   Calls Tryd.prog 17 #[.pointer (some ⟨gT, 0, none⟩), v] w fun e w' => e = .returned (.agg (S.v8 D)) ∧ Below w.heap.size w w' := by
  rw [hD.out]; exact rsum_any gT v bs w hT hv hl
theorem Mac_is (D : List UInt8) (v : Value) (ks : List UInt8) (u : Value) (bs : List UInt8) (w : World) (hD : Hid (D = S.mac ks bs)) (hv : SliceAt w v ks) (hu : SliceAt w u bs) (hK : KAt w) :
   Calls Tryd.prog 10 #[v, u] w fun e w' => e = .returned (.agg (S.v8 D)) ∧ Below w.heap.size w w' := by
  rw [hD.out]; exact Mac_any v ks u bs w hv hu hK
theorem rmac_is (D : List UInt8) (gT : Nat) (v : Value) (ks : List UInt8) (u : Value) (bs : List UInt8) (w : World) (hD : Hid (D = S.mac ks bs)) (hT : w.heap[gT]? = some (.cells (S.v32 (S.K ++ S.H0)) 54 (0, 0))) (hv : SliceAt w v ks) (hu : SliceAt w u bs) (hlk : ks.length ≤ 5000) (hlb : bs.length ≤ 5000) :
   Calls Tryd.prog 18 #[.pointer (some ⟨gT, 0, none⟩), v, u] w fun e w' => e = .returned (.agg (S.v8 D)) ∧ Below w.heap.size w w' := by
  rw [hD.out]; exact rmac_any gT v ks u bs w hT hv hu hlk hlb
theorem whole_at {w : World} {g : Nat} {l : List UInt8} (h : w.heap[g]? = some (.cells (S.v8 l) 5 (0, 0))) (hl : l.length ≤ 1000) : SliceAt w (.slice (some ⟨g, 0, none⟩) l.length l.length) l :=
  Or.inr (Or.inr ⟨g, 0, l.length, rfl, Nat.le_refl _, by omega, block_lt_of_row h, fun j hj => by rw [Nat.zero_add]; exact v8_cell h j hj⟩)
set_option maxHeartbeats 4000000 in
set_option maxRecDepth 100000 in
theorem shaEdges_walk (n : Int) (c : Nat) (w : World) (_hc : c < 256) (hK : KAt w) (hn1 : -9223372036854775808 ≤ n) (hn2 : n ≤ 9223372036854775807) :
   Calls Tryd.prog 5 #[.int .i64 n, .int .u8 (c : Int)] w fun e w' => e = .returned (.bool true) ∧ Below w.heap.size w w' := by
  have HK := hide hK
  have h0 := hK.pos
  clear hK
  go_enter Tryd.func5, Tryd.ntmps5
  go_wp2_with fail
  refine (new_any w).mono ?_
  rintro e0 w1 ⟨gT, rfl, hgT, hT, hb1⟩
  have HT := hide hT
  have B1 := hide hb1
  have hTl := block_lt_of_row hT
  clear hT hb1
  go_wp2_with fail
  refine (within_any n 130 w1 hn1 hn2 (by omega) (by omega)).mono ?_
  rintro e1 w2 ⟨r0, rfl, hr1, hr2, rfl⟩
  obtain ⟨r, rfl⟩ := Int.eq_ofNat_of_zero_le hr1
  have hmk := make_bytes r (by omega)
  have hr : r ≤ 130 := by omega
  clear hr1 hr2 hn1 hn2
  go_wp2_with fail
  generalize hW2 : w1.alloc _ = W2
  have rb : W2.heap[w1.heap.size]? = some (.cells (S.v8 (S.zeros r)) 5 (0, 0)) := by rw [← hW2]; exact heap_alloc_new _ _
  have hT2 : W2.heap[gT]? = some (.cells (S.v32 (S.K ++ S.H0)) 54 (0, 0)) := by rw [← hW2]; exact (heap_alloc_old _ _ hTl).trans HT.out
  have hb2 : Below w.heap.size w W2 := by rw [← hW2]; exact B1.out.alloc B1.out.size _
  have hgb : w.heap.size ≤ w1.heap.size := B1.out.size
  have R2 := hide rb
  have T2 := hide hT2
  have B2 := hide hb2
  clear hW2 rb hT2 hb2 HT B1 hmk
  generalize w1.heap.size = g at *
  go_loopw [7] (fun i wr => ∃ k : Nat, k ≤ r ∧ i = .int .i64 (k : Int) ∧ (∃ l : List UInt8, l.length = r ∧ wr.heap[g]? = some (.cells (S.v8 l) 5 (0, 0))) ∧ wr.heap[gT]? = some (.cells (S.v32 (S.K ++ S.H0)) 54 (0, 0)) ∧ Below w.heap.size w wr) (fun i _ => r - (intOf i).toNat)
  case atStart => exact ⟨0, by omega, rfl, ⟨_, S.zeros_length r, R2.out⟩, T2.out, B2.out⟩
  case round =>
    obtain ⟨k, hk, rfl, ⟨l, hl, hrow⟩, hT, hb⟩ := hrel
    clear R2 T2 B2
    by_cases hlt : k < r
    · have c1 := v8_cell hrow k (by omega)
      have f1 := frozen_of_row _ _ k _ _ hrow
      obtain ⟨x, hx⟩ : ∃ x : UInt8, x = UInt8.ofNat (c + k) := ⟨_, rfl⟩
      have hxn : x.toNat = (c + k) % 256 := by rw [hx, UInt8.toNat_ofNat']
      have V1 := hide (v8_set hrow k x)
      have V2 := hide ((heap_setCell_other wr ⟨g, k, none⟩ gT (.int .u8 (x.toNat : Int)) (by show gT ≠ g; omega)).trans hT)
      have V3 := hide (hb.setCell (p := ⟨g, k, none⟩) hgb (.int .u8 (x.toNat : Int)))
      have q1 : (0 : Int) ≤ (k : Int) := by omega
      have q2 : (k : Int) < (r : Int) := by omega
      have q4 : IntKind.i64.wrap ((k : Int) + 1) = (k : Int) + 1 := by rw [IntKind.wrap_i64]; omega
      have e1 : IntKind.u8.wrap ((c : Int) + (k : Int)) = (x.toNat : Int) := by rw [hxn, IntKind.wrap_u8']; omega
      have e2 : ((c : Int) + (k : Int)) % 256 = (x.toNat : Int) := by rw [hxn]; omega
      have e3 : (k : Int) % 256 = (k : Int) := by omega
      clear hrow hT hb hx hxn
      go_wp2
      go_roundw
      case rel => exact ⟨k + 1, by omega, by go_num, ⟨_, by rw [List.length_set]; exact hl, V1.out⟩, V2.out, V3.out⟩
      case measure => simp [intOf]; omega
    · obtain rfl : r = k := by omega
      have q2 : ¬ ((r : Int) < (r : Int)) := by omega
      have sl : SliceAt wr (.slice (some ⟨g, 0, none⟩) r r) l := by
        have h := whole_at hrow (by omega)
        rw [hl] at h
        exact h
      obtain ⟨D, hD⟩ : ∃ D, D = S.sum l := ⟨_, rfl⟩
      obtain ⟨M, hM⟩ : ∃ M, M = S.mac l l := ⟨_, rfl⟩
      have hD32 : D.length = 32 := by rw [hD]; exact S.sum_length _
      have hM32 : M.length = 32 := by rw [hM]; exact S.mac_length _ _
      have e1 : ∀ w, (Op.equalIn 10000 23 (.agg (S.v8 D)) (.agg (S.v8 D))).run Tryd.prog w = .ok true w := fun w => by rw [equal_bytes _ _ hD32 hD32 w]; simp
      have e2 : ∀ w, (Op.equalIn 10000 23 (.agg (S.v8 M)) (.agg (S.v8 M))).run Tryd.prog w = .ok true w := fun w => by rw [equal_bytes _ _ hM32 hM32 w]; simp
      have HD := hide hD
      have HM := hide hM
      have SL := hide sl
      have HT := hide hT
      have HB := hide hb
      have hTl2 := block_lt_of_row hT
      have hll : l.length ≤ 130 := by omega
      clear hD hM hD32 hM32 sl hrow hT hb hl hk hlt
      go_wp2_with fail
      refine (Sum_is D _ l wr HD SL.out (HK.out.below HB.out h0)).mono ?_
      rintro e w3 ⟨rfl, hb3⟩
      have SL3 := hide (SL.out.below hb3 (Nat.le_refl _))
      have HT3 := hide ((hb3.block gT hTl2).trans HT.out)
      have HB3 := hide (HB.out.trans (hb3.mono HB.out.size))
      clear hb3 SL HT HB hTl2
      go_wp2_with fail
      refine (rsum_is D gT _ l w3 HD HT3.out SL3.out (by omega)).mono ?_
      rintro e w4 ⟨rfl, hb4⟩
      have SL4 := hide (SL3.out.below hb4 (Nat.le_refl _))
      have HT4 := hide ((hb4.block gT (block_lt_of_row HT3.out)).trans HT3.out)
      have HB4 := hide (HB3.out.trans (hb4.mono HB3.out.size))
      clear hb4 SL3 HT3 HB3
      go_wp2_with fail
      refine (Mac_is M _ l _ l w4 HM SL4.out SL4.out (HK.out.below HB4.out h0)).mono ?_
      rintro e w5 ⟨rfl, hb5⟩
      have SL5 := hide (SL4.out.below hb5 (Nat.le_refl _))
      have HT5 := hide ((hb5.block gT (block_lt_of_row HT4.out)).trans HT4.out)
      have HB5 := hide (HB4.out.trans (hb5.mono HB4.out.size))
      clear hb5 SL4 HT4 HB4
      go_wp2_with fail
      refine (rmac_is M gT _ l _ l w5 HM HT5.out SL5.out SL5.out (by omega) (by omega)).mono ?_
      rintro e w6 ⟨rfl, hb6⟩
      have HB6 := hide (HB5.out.trans (hb6.mono HB5.out.size))
      clear hb6 SL5 HT5 HB5
      go_wp2_with fail
      refine (known_any w6 (HK.out.below HB6.out h0)).mono ?_
      rintro e w7 ⟨rfl, hb7⟩
      have Z := HB6.out.trans (hb7.mono HB6.out.size)
      clear hb7
      go_wp2_with fail
      go_ret
      exact ⟨rfl, Z⟩
end Go.Proofs.YtdfjbajehcedaaaDoor
