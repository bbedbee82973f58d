/- block of the document's own answer: of a state of eight words and a block of 64 bytes in memory it answers the state of the plain function; nothing that was there changes. -/
import Derived.Test.YtlcilclhaahopaaDoorNew
import Derived.Test.YtlcilclhaahopaaDoorRturn
namespace Go.Proofs.YtlcilclhaahopaaDoor
open Go.RowKit
def S.addTo (st rl : List UInt32) : Nat → List UInt32
  | 0 => st
  | k + 1 => (S.addTo st rl k).set k (st.getD k 0 + rl.getD k 0)
theorem S.addTo_length (st rl : List UInt32) (k : Nat) : (S.addTo st rl k).length = st.length := by
  induction k with
  | zero => rfl
  | succ k ih => rw [S.addTo, List.length_set]; exact ih
theorem S.addTo_at (st rl : List UInt32) (k j : Nat) (h : k ≤ j) : (S.addTo st rl k).getD j 0 = st.getD j 0 := by
  induction k with
  | zero => rfl
  | succ k ih => rw [S.addTo, List.getD_eq_getElem?_getD, List.getElem?_set_ne (by omega), ← List.getD_eq_getElem?_getD]; exact ih (by omega)
theorem S.addTo_all (st : List UInt32) (hst : st.length = 8) (s : S.R8) (hs : S.ofR s = st) (r : S.R8) : S.addTo st (S.ofR r) 8 = S.addR s r := by
  subst hs
  rfl
theorem rt1_cast (r : S.R8) (k w : UInt32) : ((r.h.toNat : Int) + bits .xor .u32 (bits .xor .u32 ((S.ror r.e 6).toNat : Int) ((S.ror r.e 11).toNat : Int)) ((S.ror r.e 25).toNat : Int) + bits .xor .u32 (bits .and .u32 (r.e.toNat : Int) (r.f.toNat : Int)) (bits .and .u32 (bits .xor .u32 IntKind.u32.max (r.e.toNat : Int)) (r.g.toNat : Int)) + (k.toNat : Int) + (w.toNat : Int)) % (4294967296 : Int) = ((S.t1 r k w).toNat : Int) := by
  rw [u32_not_cast, u32_and_cast, u32_and_cast, u32_xor_cast, u32_xor_cast, u32_xor_cast]
  exact t1_cast r k w
theorem rt2_cast (r : S.R8) : (bits .xor .u32 (bits .xor .u32 ((S.ror r.a 2).toNat : Int) ((S.ror r.a 13).toNat : Int)) ((S.ror r.a 22).toNat : Int) + bits .xor .u32 (bits .xor .u32 (bits .and .u32 (r.a.toNat : Int) (r.b.toNat : Int)) (bits .and .u32 (r.a.toNat : Int) (r.c.toNat : Int))) (bits .and .u32 (r.b.toNat : Int) (r.c.toNat : Int))) % (4294967296 : Int) = ((S.t2 r).toNat : Int) := by
  rw [u32_and_cast, u32_and_cast, u32_and_cast, u32_xor_cast, u32_xor_cast, u32_xor_cast, u32_xor_cast]
  exact t2_cast r
theorem rnext_cast (ws : List UInt32) (k : Nat) : (((bits .xor .u32 (bits .xor .u32 ((S.ror (ws[k - 2]?.getD 0) 17).toNat : Int) ((S.ror (ws[k - 2]?.getD 0) 19).toNat : Int)) (((ws[k - 2]?.getD 0).toNat : Int) / (1024 : Int)) + ((ws[k - 7]?.getD 0).toNat : Int)) % (4294967296 : Int) + bits .xor .u32 (bits .xor .u32 ((S.ror (ws[k - 15]?.getD 0) 7).toNat : Int) ((S.ror (ws[k - 15]?.getD 0) 18).toNat : Int)) (((ws[k - 15]?.getD 0).toNat : Int) / (8 : Int))) % (4294967296 : Int) + ((ws[k - 16]?.getD 0).toNat : Int)) % (4294967296 : Int) = ((S.next ws k).toNat : Int) := by
  rw [shr_10, shr_3, u32_xor_cast, u32_xor_cast, u32_xor_cast, u32_xor_cast, u32_add_cast, u32_add_cast, u32_add_cast]
  simp [S.next, S.ss1, S.ss0]
set_option maxHeartbeats 8000000 in
set_option maxRecDepth 100000 in
theorem block_any (gT : Nat) (st : List UInt32) (hst : st.length = 8) (b off cap : Nat) (bs : List UInt8) (w : World) (hT : w.heap[gT]? = some (.cells (S.v32 (S.K ++ S.H0)) 103 (0, 0))) (hb : b < w.heap.size)
    (hc : ∀ j, j < 64 → w.cell? ⟨b, off + j, none⟩ = some (.int .u8 ((bs.getD j 0).toNat : Int))) :
   Calls Tryd.prog 91 #[.pointer (some ⟨gT, 0, none⟩), .agg (S.v32 st), .slice (some ⟨b, off, none⟩) 64 cap] w fun e w' => e = .returned (.agg (S.v32 (S.comp st bs))) ∧ Below w.heap.size w w' := by
  have HT := hide hT
  have HC := hide hc
  clear hT hc
  go_enter Tryd.func91, Tryd.ntmps91
  go_wp2
  generalize hW0 : ((w.alloc (.cells (S.v32 st) 101)).alloc _).alloc _ = W0
  have rH : W0.heap[w.heap.size]? = some (.cells (S.v32 st) 101 (0, 0)) := by rw [← hW0]; exact (heap_alloc_old _ _ (by simp; omega)).trans (heap_alloc2_old _ _ _)
  have rR : W0.heap[w.heap.size + 1]? = some (.cells (S.v32 (List.replicate 8 0)) 101 (0, 0)) := by rw [← hW0]; exact (heap_alloc_old _ _ (by simp)).trans (heap_alloc2_new _ _ _)
  have rW : W0.heap[w.heap.size + 2]? = some (.cells (S.v32 (S.fill bs 0)) 100 (0, 0)) := by
    have e : w.heap.size + 2 = ((w.alloc (.cells (S.v32 st) 101)).alloc (.cells (S.v32 (List.replicate 8 0)) 101)).heap.size := by simp
    rw [← hW0, e]
    exact heap_alloc_new _ _
  have hn0 : Below w.heap.size w W0 := by rw [← hW0]; exact (((Below.refl _ _).alloc (Nat.le_refl _) _).alloc (by simp) _).alloc (by simp; omega) _
  clear hW0
  obtain ⟨gH, hgH⟩ : ∃ gH, gH = w.heap.size := ⟨_, rfl⟩
  obtain ⟨gR, hgR⟩ : ∃ gR, gR = w.heap.size + 1 := ⟨_, rfl⟩
  obtain ⟨gW, hgW⟩ : ∃ gW, gW = w.heap.size + 2 := ⟨_, rfl⟩
  rw [← hgH] at rH
  rw [← hgR] at rR
  rw [← hgW] at rW
  rw [← hgW, ← hgR, ← hgH]
  have I0 := hide rH
  have I1 := hide rR
  have I2 := hide rW
  have I3 := hide hn0
  have gb : Hid (w.heap.size = gH) := hgH.symm
  have g1 : w.heap.size ≤ gH := by omega
  have g2 : gH < gR := by omega
  have g3 : gR < gW := by omega
  have hbn : b < gH := by omega
  clear rH rR rW hn0 hgH hgR hgW
  go_loopw [8] (fun i wr => ∃ k : Nat, k ≤ 16 ∧ i = .int .i64 k ∧ wr.heap[gW]? = some (.cells (S.v32 (S.fill bs k)) 100 (0, 0)) ∧ wr.heap[gH]? = some (.cells (S.v32 st) 101 (0, 0)) ∧ wr.heap[gR]? = some (.cells (S.v32 (List.replicate 8 0)) 101 (0, 0)) ∧ Below w.heap.size w wr)
    (fun i _ => 16 - (intOf i).toNat)
  case atStart => exact ⟨0, by omega, rfl, I2.out, I0.out, I1.out, I3.out⟩
  case round =>
    obtain ⟨k, hk, rfl, hrow, hrH, hrR, hnx⟩ := hrel
    clear I0 I1 I2 I3
    have hlen := S.fill_length bs k
    by_cases hlt : k < 16
    · have cw : wr.cell? ⟨gW, k, none⟩ = some (.int .u32 (((S.fill bs k).getD k 0).toNat : Int)) := v32_cell hrow k (by omega)
      have cf : wr.frozen? ⟨gW, k, none⟩ = false := frozen_of_row _ _ _ _ _ hrow
      have c0 : wr.cell? ⟨b, off + (4 * k), none⟩ = some (.int .u8 ((bs.getD (4 * k) 0).toNat : Int)) := (hnx.cell (by exact hb)).trans (HC.out _ (by omega))
      have c1 : wr.cell? ⟨b, off + (4 * k + 1), none⟩ = some (.int .u8 ((bs.getD (4 * k + 1) 0).toNat : Int)) := (hnx.cell (by exact hb)).trans (HC.out _ (by omega))
      have c2 : wr.cell? ⟨b, off + (4 * k + 2), none⟩ = some (.int .u8 ((bs.getD (4 * k + 2) 0).toNat : Int)) := (hnx.cell (by exact hb)).trans (HC.out _ (by omega))
      have c3 : wr.cell? ⟨b, off + (4 * k + 3), none⟩ = some (.int .u8 ((bs.getD (4 * k + 3) 0).toNat : Int)) := (hnx.cell (by exact hb)).trans (HC.out _ (by omega))
      have H1 := hide (v32_set hrow k (S.word bs k))
      have H2 := hide ((heap_setCell_other wr ⟨gW, k, none⟩ gH (.int .u32 ((S.word bs k).toNat : Int)) (by show gH ≠ gW; omega)).trans hrH)
      have H3 := hide ((heap_setCell_other wr ⟨gW, k, none⟩ gR (.int .u32 ((S.word bs k).toNat : Int)) (by show gR ≠ gW; omega)).trans hrR)
      have H4 := hide (hnx.setCell (p := ⟨gW, k, none⟩) (by show w.heap.size ≤ gW; omega) (.int .u32 ((S.word bs k).toNat : Int)))
      clear hrow hrH hrR hnx hlen
      have q1 : (0 : Int) ≤ (k : Int) := by omega
      have q2 : (k : Int) < 64 := by omega
      have q3 : (k : Int) < 16 := by omega
      have hne : ¬ b = gW := by omega
      have hne2 : ¬ gW = b := by omega
      have e0 : IntKind.i64.wrap (4 * (k : Int)) = 4 * (k : Int) := by rw [IntKind.wrap_i64]; omega
      have f0 : (0 : Int) ≤ 4 * (k : Int) := by omega
      have g0 : 4 * (k : Int) < 64 := by omega
      have n0 : (4 * (k : Int)).toNat = 4 * k := by omega
      have e1 : IntKind.i64.wrap (4 * (k : Int) + 1) = 4 * (k : Int) + 1 := by rw [IntKind.wrap_i64]; omega
      have f1 : (0 : Int) ≤ 4 * (k : Int) + 1 := by omega
      have g1 : 4 * (k : Int) + 1 < 64 := by omega
      have n1 : (4 * (k : Int) + 1).toNat = 4 * k + 1 := by omega
      have e2 : IntKind.i64.wrap (4 * (k : Int) + 2) = 4 * (k : Int) + 2 := by rw [IntKind.wrap_i64]; omega
      have f2 : (0 : Int) ≤ 4 * (k : Int) + 2 := by omega
      have g2 : 4 * (k : Int) + 2 < 64 := by omega
      have n2 : (4 * (k : Int) + 2).toNat = 4 * k + 2 := by omega
      have e3 : IntKind.i64.wrap (4 * (k : Int) + 3) = 4 * (k : Int) + 3 := by rw [IntKind.wrap_i64]; omega
      have f3 : (0 : Int) ≤ 4 * (k : Int) + 3 := by omega
      have g3 : 4 * (k : Int) + 3 < 64 := by omega
      have n3 : (4 * (k : Int) + 3).toNat = 4 * k + 3 := by omega
      go_wp2
      go_region_held3 (fun w' => w'.cell? ⟨b, off + 4 * k, none⟩ = some (.int .u8 ((bs.getD (4 * k) 0).toNat : Int)) ∧ w'.cell? ⟨b, off + (4 * k + 1), none⟩ = some (.int .u8 ((bs.getD (4 * k + 1) 0).toNat : Int)) ∧ w'.cell? ⟨b, off + (4 * k + 2), none⟩ = some (.int .u8 ((bs.getD (4 * k + 2) 0).toNat : Int)) ∧ w'.cell? ⟨b, off + (4 * k + 3), none⟩ = some (.int .u8 ((bs.getD (4 * k + 3) 0).toNat : Int))) (go_keep) (fail)
      go_wp2
      go_roundw
      case rel =>
        rw [word_cast]
        exact ⟨k + 1, by omega, by go_num, H1.out, H2.out, H3.out, H4.out.drew⟩
      case measure => simp [intOf]; omega
    · have hk16 : Hid (k = 16) := by show k = 16; omega
      have q8 : ¬ ((k : Int) < 16) := by omega
      have J0 := hide hrow
      have J1 := hide hrH
      have J2 := hide hrR
      have J3 := hide hnx
      obtain ⟨k0, hk0⟩ : ∃ k0, k0 = k := ⟨_, rfl⟩
      rw [← hk0] at hk16 J0 q8 ⊢
      clear hk0 hk hlt hrow hrH hrR hnx hlen
      go_wp2
      clear q8
      go_loopw [9] (fun i wr => ∃ k : Nat, 16 ≤ k ∧ k ≤ 64 ∧ i = .int .i64 k ∧ wr.heap[gW]? = some (.cells (S.v32 (S.ext (S.fill bs 16) (k - 16))) 100 (0, 0)) ∧ wr.heap[gH]? = some (.cells (S.v32 st) 101 (0, 0)) ∧ wr.heap[gR]? = some (.cells (S.v32 (List.replicate 8 0)) 101 (0, 0)) ∧ Below w.heap.size w wr)
        (fun i _ => 64 - (intOf i).toNat)
      case atStart => exact ⟨16, by omega, by omega, rfl, (by have h := J0.out; rw [hk16.out] at h; exact h), J1.out, J2.out, J3.out⟩
      case round =>
        obtain ⟨k, hk1, hk, rfl, hrow, hrH, hrR, hnx⟩ := hrel
        clear J0 J1 J2 J3 hk16
        by_cases hlt : k < 64
        · have hlen : (S.ext (S.fill bs 16) (k - 16)).length = 64 := by rw [S.ext_length, S.fill_length]
          have hnext : S.ext (S.fill bs 16) (k + 1 - 16) = (S.ext (S.fill bs 16) (k - 16)).set k (S.next (S.ext (S.fill bs 16) (k - 16)) k) := by
            obtain ⟨j, rfl⟩ : ∃ j, k = 16 + j := ⟨k - 16, by omega⟩
            rw [show 16 + j + 1 - 16 = j + 1 from by omega, show 16 + j - 16 = j from by omega]; rfl
          generalize S.ext (S.fill bs 16) (k - 16) = ws at *
          have cw : wr.cell? ⟨gW, k, none⟩ = some (.int .u32 ((ws.getD k 0).toNat : Int)) := v32_cell hrow k (by omega)
          have cf : wr.frozen? ⟨gW, k, none⟩ = false := frozen_of_row _ _ _ _ _ hrow
          have R1 := v32_set hrow k (S.next ws k)
          rw [← hnext] at R1
          have H1 := hide R1
          have H2 := hide ((heap_setCell_other wr ⟨gW, k, none⟩ gH (.int .u32 ((S.next ws k).toNat : Int)) (by show gH ≠ gW; omega)).trans hrH)
          have H3 := hide ((heap_setCell_other wr ⟨gW, k, none⟩ gR (.int .u32 ((S.next ws k).toNat : Int)) (by show gR ≠ gW; omega)).trans hrR)
          have H4 := hide (hnx.setCell (p := ⟨gW, k, none⟩) (by show w.heap.size ≤ gW; omega) (.int .u32 ((S.next ws k).toNat : Int)))
          have e2 : IntKind.i64.wrap ((k : Int) - 2) = (k : Int) - 2 := by rw [IntKind.wrap_i64]; omega
          have f2 : (0 : Int) ≤ (k : Int) - 2 := by omega
          have g2 : (k : Int) - 2 < 64 := by omega
          have p2 : (2 : Int) ≤ (k : Int) := by omega
          have r2 : (k : Int) < 66 := by omega
          have n2 : ((k : Int) - 2).toNat = k - 2 := by omega
          have m2 : ¬ k = k - 2 := by omega
          have o2 : ¬ k - 2 = k := by omega
          have c2 : wr.cell? ⟨gW, k - 2, none⟩ = some (.int .u32 ((ws.getD (k - 2) 0).toNat : Int)) := v32_cell hrow _ (by omega)
          have s2 : ∀ v, (wr.setCell ⟨gW, k, none⟩ v).cell? ⟨gW, k - 2, none⟩ = some (.int .u32 ((ws.getD (k - 2) 0).toNat : Int)) := fun v => (World.cell?_setCell_other wr _ _ v (by simp)).trans c2
          have e7 : IntKind.i64.wrap ((k : Int) - 7) = (k : Int) - 7 := by rw [IntKind.wrap_i64]; omega
          have f7 : (0 : Int) ≤ (k : Int) - 7 := by omega
          have g7 : (k : Int) - 7 < 64 := by omega
          have p7 : (7 : Int) ≤ (k : Int) := by omega
          have r7 : (k : Int) < 71 := by omega
          have n7 : ((k : Int) - 7).toNat = k - 7 := by omega
          have m7 : ¬ k = k - 7 := by omega
          have o7 : ¬ k - 7 = k := by omega
          have c7 : wr.cell? ⟨gW, k - 7, none⟩ = some (.int .u32 ((ws.getD (k - 7) 0).toNat : Int)) := v32_cell hrow _ (by omega)
          have s7 : ∀ v, (wr.setCell ⟨gW, k, none⟩ v).cell? ⟨gW, k - 7, none⟩ = some (.int .u32 ((ws.getD (k - 7) 0).toNat : Int)) := fun v => (World.cell?_setCell_other wr _ _ v (by simp)).trans c7
          have e15 : IntKind.i64.wrap ((k : Int) - 15) = (k : Int) - 15 := by rw [IntKind.wrap_i64]; omega
          have f15 : (0 : Int) ≤ (k : Int) - 15 := by omega
          have g15 : (k : Int) - 15 < 64 := by omega
          have p15 : (15 : Int) ≤ (k : Int) := by omega
          have r15 : (k : Int) < 79 := by omega
          have n15 : ((k : Int) - 15).toNat = k - 15 := by omega
          have m15 : ¬ k = k - 15 := by omega
          have o15 : ¬ k - 15 = k := by omega
          have c15 : wr.cell? ⟨gW, k - 15, none⟩ = some (.int .u32 ((ws.getD (k - 15) 0).toNat : Int)) := v32_cell hrow _ (by omega)
          have s15 : ∀ v, (wr.setCell ⟨gW, k, none⟩ v).cell? ⟨gW, k - 15, none⟩ = some (.int .u32 ((ws.getD (k - 15) 0).toNat : Int)) := fun v => (World.cell?_setCell_other wr _ _ v (by simp)).trans c15
          have e16 : IntKind.i64.wrap ((k : Int) - 16) = (k : Int) - 16 := by rw [IntKind.wrap_i64]; omega
          have f16 : (0 : Int) ≤ (k : Int) - 16 := by omega
          have g16 : (k : Int) - 16 < 64 := by omega
          have p16 : (16 : Int) ≤ (k : Int) := by omega
          have r16 : (k : Int) < 80 := by omega
          have n16 : ((k : Int) - 16).toNat = k - 16 := by omega
          have m16 : ¬ k = k - 16 := by omega
          have o16 : ¬ k - 16 = k := by omega
          have c16 : wr.cell? ⟨gW, k - 16, none⟩ = some (.int .u32 ((ws.getD (k - 16) 0).toNat : Int)) := v32_cell hrow _ (by omega)
          have s16 : ∀ v, (wr.setCell ⟨gW, k, none⟩ v).cell? ⟨gW, k - 16, none⟩ = some (.int .u32 ((ws.getD (k - 16) 0).toNat : Int)) := fun v => (World.cell?_setCell_other wr _ _ v (by simp)).trans c16
          clear R1 hrow hrH hrR hnx hlen hnext
          have q1 : (0 : Int) ≤ (k : Int) := by omega
          have q2 : (k : Int) < 64 := by omega
          go_wp2
          go_region_held3 (fun w' => w'.cell? ⟨gW, k - 2, none⟩ = some (.int .u32 ((ws.getD (k - 2) 0).toNat : Int)) ∧ w'.cell? ⟨gW, k - 7, none⟩ = some (.int .u32 ((ws.getD (k - 7) 0).toNat : Int)) ∧ w'.cell? ⟨gW, k - 15, none⟩ = some (.int .u32 ((ws.getD (k - 15) 0).toNat : Int)) ∧ w'.cell? ⟨gW, k - 16, none⟩ = some (.int .u32 ((ws.getD (k - 16) 0).toNat : Int))) (go_keep) (first | (go_at_call_of 98 (Value.int .u64 17); refine (rturn_17 _ _).mono ?_; rintro e w' ⟨rfl, rfl⟩) | (go_at_call_of 98 (Value.int .u64 19); refine (rturn_19 _ _).mono ?_; rintro e w' ⟨rfl, rfl⟩) | (go_at_call_of 98 (Value.int .u64 7); refine (rturn_7 _ _).mono ?_; rintro e w' ⟨rfl, rfl⟩) | (go_at_call_of 98 (Value.int .u64 18); refine (rturn_18 _ _).mono ?_; rintro e w' ⟨rfl, rfl⟩))
          go_wp2
          go_roundw
          case rel =>
            rw [rnext_cast]
            exact ⟨k + 1, by omega, by omega, by go_num, H1.out, H2.out, H3.out, H4.out.drew⟩
          case measure => simp [intOf]; omega
        · have hk64 : k = 64 := by omega
          have q8 : ¬ ((k : Int) < 64) := by omega
          rw [hk64] at hrow
          have hrow' : wr.heap[gW]? = some (.cells (S.v32 (S.sched bs)) 100 (0, 0)) := hrow
          have hs49 : (Tryd.prog.info? 101).map (·.size) = some (S.v32 st).size := by rw [S.v32_size, hst]; exact size49
          have ho49 : (S.v32 (List.replicate 8 0)).size = (S.v32 st).size := by rw [S.v32_size, S.v32_size, hst]; rfl
          have gz : gW < wr.heap.size := block_lt_of_row hrow'
          have J0 := hide hrow'
          have J1 := hide hrH
          have J2 := hide hrR
          have J3 := hide hnx
          have J4 := hide hs49
          have J5 := hide ho49
          clear hrow hrow' hrH hrR hnx hs49 ho49 hk64 hk hlt hk1
          go_wp2_with (first | refine wpList_load_row rfl 101 _ rfl gH rfl 101 _ _ _ J1.out Tryd.underlying101 rfl J4.out ?_ | refine wpList_store_row rfl 101 _ _ rfl wr.heap.size (S.v32 st) rfl rfl 101 (S.v32 (List.replicate 8 0)) (heap_alloc_new _ _) J4.out J5.out (S.v32_one _) ?_)
          clear q8
          try simp only [Act.put]
          generalize hWS : World.setRow _ wr.heap.size (S.v32 st) = WS
          have rS : WS.heap[wr.heap.size]? = some (.cells (S.v32 st) 101 (0, 0)) := by rw [← hWS]; exact setRow_heap _ _ _ _ _ _ (heap_alloc_new _ _)
          have oth : ∀ g, g < wr.heap.size → WS.heap[g]? = wr.heap[g]? := fun g hg => by rw [← hWS]; exact (setRow_other _ _ _ _ (by omega)).trans (heap_alloc_old _ _ hg)
          have hbS : Below w.heap.size w WS := by rw [← hWS]; exact below_setRow (J3.out.alloc J3.out.size _) J3.out.size _
          have L0 := hide ((oth gW gz).trans J0.out)
          have L1 := hide ((oth gH (by omega)).trans J1.out)
          have L2 := hide ((oth gR (by omega)).trans J2.out)
          have L3 := hide hbS
          have L4 := hide rS
          clear hWS oth hbS rS J0 J1 J2 J3 J4 J5
          generalize wr.heap.size = gS at *
          obtain ⟨s, hs0⟩ : ∃ s : S.R8, s = S.toR st := ⟨_, rfl⟩
          have HS := hide hs0
          have hof : S.ofR s = st := by rw [hs0]; exact S.ofR_toR st hst
          have HOF := hide hof
          clear hs0 hof
          have g4 : w.heap.size ≤ gS := by omega
          go_loopw [13] (fun i wr => ∃ k : Nat, k ≤ 64 ∧ i = .int .i64 k ∧ wr.heap[gS]? = some (.cells (S.v32 (S.ofR (S.rounds (S.sched bs) s k))) 101 (0, 0)) ∧ wr.heap[gW]? = some (.cells (S.v32 (S.sched bs)) 100 (0, 0)) ∧ wr.heap[gH]? = some (.cells (S.v32 st) 101 (0, 0)) ∧ wr.heap[gR]? = some (.cells (S.v32 (List.replicate 8 0)) 101 (0, 0)) ∧ Below w.heap.size w wr)
            (fun i _ => 64 - (intOf i).toNat)
          case atStart => exact ⟨0, by omega, rfl, (by show WS.heap[gS]? = some (.cells (S.v32 (S.ofR s)) 101 (0, 0)); rw [HOF.out]; exact L4.out), L0.out, L1.out, L2.out, L3.out⟩
          case round =>
            obtain ⟨k, hk, rfl, hS, hrow, hrH, hrR, hnx⟩ := hrel
            clear L0 L1 L2 L3 L4
            by_cases hlt : k < 64
            · obtain ⟨r, hr⟩ : ∃ r, r = S.rounds (S.sched bs) s k := ⟨_, rfl⟩
              rw [← hr] at hS
              obtain ⟨kt, hkt⟩ : ∃ kt : UInt32, kt = S.K.getD k 0 := ⟨_, rfl⟩
              obtain ⟨wt, hwt⟩ : ∃ wt : UInt32, wt = (S.sched bs).getD k 0 := ⟨_, rfl⟩
              have hgT : gT < w.heap.size := block_lt_of_row HT.out
              have cK : wr.cell? ⟨gT, k, none⟩ = some (.int .u32 (kt.toNat : Int)) := by
                have h := v32_cell ((hnx.block gT hgT).trans HT.out) k (by rw [List.length_append]; show k < 64 + 8; omega)
                rw [h, hkt, List.getD_eq_getElem?_getD, List.getElem?_append_left (by show k < 64; omega), List.getD_eq_getElem?_getD]
              have cW : wr.cell? ⟨gW, k, none⟩ = some (.int .u32 (wt.toNat : Int)) := by rw [hwt]; exact v32_cell hrow k (by rw [S.sched_length]; omega)
              have c0 : wr.cell? ⟨gS, 0, none⟩ = some (.int .u32 (r.a.toNat : Int)) := v32_cell hS 0 (by show 0 < 8; omega)
              have c1 : wr.cell? ⟨gS, 1, none⟩ = some (.int .u32 (r.b.toNat : Int)) := v32_cell hS 1 (by show 1 < 8; omega)
              have c2 : wr.cell? ⟨gS, 2, none⟩ = some (.int .u32 (r.c.toNat : Int)) := v32_cell hS 2 (by show 2 < 8; omega)
              have c3 : wr.cell? ⟨gS, 3, none⟩ = some (.int .u32 (r.d.toNat : Int)) := v32_cell hS 3 (by show 3 < 8; omega)
              have c4 : wr.cell? ⟨gS, 4, none⟩ = some (.int .u32 (r.e.toNat : Int)) := v32_cell hS 4 (by show 4 < 8; omega)
              have c5 : wr.cell? ⟨gS, 5, none⟩ = some (.int .u32 (r.f.toNat : Int)) := v32_cell hS 5 (by show 5 < 8; omega)
              have c6 : wr.cell? ⟨gS, 6, none⟩ = some (.int .u32 (r.g.toNat : Int)) := v32_cell hS 6 (by show 6 < 8; omega)
              have c7 : wr.cell? ⟨gS, 7, none⟩ = some (.int .u32 (r.h.toNat : Int)) := v32_cell hS 7 (by show 7 < 8; omega)
              have hr1 : S.rounds (S.sched bs) s (k + 1) = S.round r kt wt := by rw [hr, hkt, hwt]; rfl
              have G0 := hide hr1
              have G1 := hide hS
              have G2 := hide hrow
              have G3 := hide hrH
              have G4 := hide hrR
              have G5 := hide hnx
              have q1 : (0 : Int) ≤ (k : Int) := by omega
              have q2 : (k : Int) < 64 := by omega
              clear hr hkt hwt hr1 hS hrow hrH hrR hnx hgT
              go_wp2
              go_quiet (first | (go_at_call_of 98 (Value.int .u64 6); exact Calls.quiet_of_same (rturn_6 _ _)) | (go_at_call_of 98 (Value.int .u64 11); exact Calls.quiet_of_same (rturn_11 _ _)) | (go_at_call_of 98 (Value.int .u64 25); exact Calls.quiet_of_same (rturn_25 _ _)))
              go_wp2
              rw [rt1_cast]
              obtain ⟨T1, hT1⟩ : ∃ T1, T1 = S.t1 r kt wt := ⟨_, rfl⟩
              rw [← hT1]
              have M1 := hide hT1
              clear hT1
              have d0 : (wr.drewN nq).cell? ⟨gS, 0, none⟩ = some (.int .u32 (r.a.toNat : Int)) := c0
              have d1 : (wr.drewN nq).cell? ⟨gS, 1, none⟩ = some (.int .u32 (r.b.toNat : Int)) := c1
              have d2 : (wr.drewN nq).cell? ⟨gS, 2, none⟩ = some (.int .u32 (r.c.toNat : Int)) := c2
              have d3 : (wr.drewN nq).cell? ⟨gS, 3, none⟩ = some (.int .u32 (r.d.toNat : Int)) := c3
              have d4 : (wr.drewN nq).cell? ⟨gS, 4, none⟩ = some (.int .u32 (r.e.toNat : Int)) := c4
              have d5 : (wr.drewN nq).cell? ⟨gS, 5, none⟩ = some (.int .u32 (r.f.toNat : Int)) := c5
              have d6 : (wr.drewN nq).cell? ⟨gS, 6, none⟩ = some (.int .u32 (r.g.toNat : Int)) := c6
              have d7 : (wr.drewN nq).cell? ⟨gS, 7, none⟩ = some (.int .u32 (r.h.toNat : Int)) := c7
              have N1 : Hid ((wr.drewN nq).heap[gS]? = some (.cells (S.v32 (S.ofR r)) 101 (0, 0))) := G1
              have N2 : Hid ((wr.drewN nq).heap[gW]? = some (.cells (S.v32 (S.sched bs)) 100 (0, 0))) := G2
              have N3 : Hid ((wr.drewN nq).heap[gH]? = some (.cells (S.v32 st) 101 (0, 0))) := G3
              have N4 : Hid ((wr.drewN nq).heap[gR]? = some (.cells (S.v32 (List.replicate 8 0)) 101 (0, 0))) := G4
              have N5 : Hid (Below w.heap.size w (wr.drewN nq)) := below_drewN G5.out _
              clear c0 c1 c2 c3 c4 c5 c6 c7 cK cW G1 G2 G3 G4 G5
              generalize wr.drewN nq = wq at *
              go_quiet (first | (go_at_call_of 98 (Value.int .u64 2); exact Calls.quiet_of_same (rturn_2 _ _)) | (go_at_call_of 98 (Value.int .u64 13); exact Calls.quiet_of_same (rturn_13 _ _)) | (go_at_call_of 98 (Value.int .u64 22); exact Calls.quiet_of_same (rturn_22 _ _)))
              rw [show bits .xor .u32 (bits .xor .u32 ((S.ror r.a 2).toNat : Int) ((S.ror r.a 13).toNat : Int)) ((S.ror r.a 22).toNat : Int) = bits .xor .u32 (bits .xor .u32 ((S.ror r.a 2).toNat : Int) ((S.ror r.a 13).toNat : Int)) ((S.ror r.a 22).toNat : Int) from rfl, rt2_cast]
              obtain ⟨T2, hT2⟩ : ∃ T2, T2 = S.t2 r := ⟨_, rfl⟩
              rw [← hT2]
              have M2 := hide hT2
              clear hT2
              have hCE : (#[.int .u32 (((T1.toNat : Int) + (T2.toNat : Int)) % (4294967296 : Int)), .int .u32 (r.a.toNat : Int), .int .u32 (r.b.toNat : Int), .int .u32 (r.c.toNat : Int), .int .u32 (((r.d.toNat : Int) + (T1.toNat : Int)) % (4294967296 : Int)), .int .u32 (r.e.toNat : Int), .int .u32 (r.f.toNat : Int), .int .u32 (r.g.toNat : Int)] : Array Value) = S.v32 (S.ofR (S.round r kt wt)) := by
                rw [u32_add_cast, u32_add_cast, M1.out, M2.out]
                rfl
              have HCE := hide hCE
              have hs8 : (Tryd.prog.info? 101).map (·.size) = some (S.v32 (S.ofR (S.round r kt wt))).size := by rw [S.v32_size]; exact size49
              have ho8 : (S.v32 (S.ofR r)).size = (S.v32 (S.ofR (S.round r kt wt))).size := by rw [S.v32_size, S.v32_size]; rfl
              have HS8 := hide hs8
              have HO8 := hide ho8
              have d0' := d0
              clear hCE hs8 ho8
              go_wp2_with (first | (refine wpList_build_to rfl 101 _ rfl (#[.int .u32 (((T1.toNat : Int) + (T2.toNat : Int)) % (4294967296 : Int)), .int .u32 (r.a.toNat : Int), .int .u32 (r.b.toNat : Int), .int .u32 (r.c.toNat : Int), .int .u32 (((r.d.toNat : Int) + (T1.toNat : Int)) % (4294967296 : Int)), .int .u32 (r.e.toNat : Int), .int .u32 (r.f.toNat : Int), .int .u32 (r.g.toNat : Int)] : Array Value) (by kernel_rfl) ?_; rw [HCE.out]) | refine wpList_store_row rfl 101 _ _ rfl gS (S.v32 (S.ofR (S.round r kt wt))) rfl rfl 101 (S.v32 (S.ofR r)) N1.out HS8.out HO8.out (S.v32_one _) ?_)
              refine ⟨⟨k + 1, by omega, by simp, ?_, (setRow_other _ _ _ _ (by show gW ≠ gS; omega)).trans N2.out, (setRow_other _ _ _ _ (by show gH ≠ gS; omega)).trans N3.out, (setRow_other _ _ _ _ (by show gR ≠ gS; omega)).trans N4.out, below_setRow (below_drewN N5.out _) g4 _⟩, by simp [intOf]; omega⟩
              rw [G0.out]
              exact setRow_heap _ _ _ _ _ _ N1.out
            · have hk64 : k = 64 := by omega
              have q8 : ¬ ((k : Int) < 64) := by omega
              rw [hk64] at hS
              obtain ⟨rl, hrl⟩ : ∃ rl, rl = S.ofR (S.rounds (S.sched bs) s 64) := ⟨_, rfl⟩
              rw [← hrl] at hS
              have hrlen : rl.length = 8 := by rw [hrl]; rfl
              have HRL := hide hrl
              have J0 := hide hS
              have J1 := hide hrH
              have J2 := hide hrR
              have J3 := hide hnx
              obtain ⟨k1, hk1⟩ : ∃ k1, k1 = k := ⟨_, rfl⟩
              rw [← hk1] at q8 ⊢
              clear hk1 hk hlt hS hrow hrH hrR hnx hk64 hrl
              go_wp2
              clear q8
              go_loopw [18] (fun i wr => ∃ k : Nat, k ≤ 8 ∧ i = .int .i64 k ∧ wr.heap[gH]? = some (.cells (S.v32 (S.addTo st rl k)) 101 (0, 0)) ∧ wr.heap[gS]? = some (.cells (S.v32 rl) 101 (0, 0)) ∧ wr.heap[gR]? = some (.cells (S.v32 (List.replicate 8 0)) 101 (0, 0)) ∧ Below w.heap.size w wr)
                (fun i _ => 8 - (intOf i).toNat)
              case atStart => exact ⟨0, by omega, rfl, J1.out, J0.out, J2.out, J3.out⟩
              case round =>
                obtain ⟨k, hk, rfl, hrH, hS, hrR, hnx⟩ := hrel
                clear J0 J1 J2 J3
                have hal : (S.addTo st rl k).length = 8 := by rw [S.addTo_length]; exact hst
                by_cases hlt : k < 8
                · have cH := v32_cell hrH k (by omega)
                  have fH := frozen_of_row _ _ k _ _ hrH
                  have cS := v32_cell hS k (by omega)
                  rw [S.addTo_at st rl k k (Nat.le_refl _)] at cH
                  have V := hide (v32_set hrH k (st.getD k 0 + rl.getD k 0))
                  have V2 := hide ((heap_setCell_other wr ⟨gH, k, none⟩ gS (.int .u32 ((st.getD k 0 + rl.getD k 0).toNat : Int)) (by show gS ≠ gH; omega)).trans hS)
                  have V3 := hide ((heap_setCell_other wr ⟨gH, k, none⟩ gR (.int .u32 ((st.getD k 0 + rl.getD k 0).toNat : Int)) (by show gR ≠ gH; omega)).trans hrR)
                  have V4 := hide (hnx.setCell (p := ⟨gH, k, none⟩) g1 (.int .u32 ((st.getD k 0 + rl.getD k 0).toNat : Int)))
                  have V5 : Hid (S.addTo st rl (k + 1) = (S.addTo st rl k).set k (st.getD k 0 + rl.getD k 0)) := rfl
                  clear hrH hS hrR hnx hal
                  generalize st.getD k 0 = xh at *
                  generalize rl.getD k 0 = xs at *
                  have q1 : (0 : Int) ≤ (k : Int) := by omega
                  have q2 : (k : Int) < 8 := by omega
                  have q4 : IntKind.i64.wrap ((k : Int) + 1) = (k : Int) + 1 := by rw [IntKind.wrap_i64]; omega
                  go_wp2
                  refine wp_region_noPanic ?_
                  refine wp_region_held_drew (S := (fun w' => w'.cell? ⟨gS, k, none⟩ = some (.int .u32 (xs.toNat : Int)))) follows (show wr.cell? ⟨gS, k, none⟩ = _ from cS) (fun hHeld => ?_)
                  refine wpAnyH_take (i := 0) (oi := { dst := some 189, op := Op.move (Operand.tmp 18), type := 3, pos := "ref.go:120", after := #[], guard := none }) (v := ?_) rfl (by kernel_rfl) (by kernel_rfl) (by kernel_rfl) (fun _ _ _ h => h) (Or.inl ⟨by rfl, ?_⟩) (by assumption) ?_
                  rotate_left
                  · intro w hSw
                    clear hSw
                    go_simp
                    all_goals with_reducible rfl
                  simp only [Act.put, List.setIfInBounds_toArray, List.set_cons_zero, List.set_cons_succ]
                  refine wpAnyH_take (i := 1) (oi := { dst := some 190, op := Op.move (Operand.tmp 18), type := 3, pos := "ref.go:120", after := #[], guard := none }) (v := ?_) rfl (by kernel_rfl) (by kernel_rfl) (by kernel_rfl) (fun _ _ _ h => h) (Or.inl ⟨by rfl, ?_⟩) (by assumption) ?_
                  rotate_left
                  · intro w hSw
                    clear hSw
                    go_simp
                    all_goals with_reducible rfl
                  simp only [Act.put, List.setIfInBounds_toArray, List.set_cons_zero, List.set_cons_succ]
                  refine wpAnyH_take (i := 2) (oi := { dst := some 191, op := Op.indexAddr 101 (Operand.tmp 4) (Operand.tmp 190), type := 0, pos := "ref.go:120", after := #[{ on := 1, ground := Ground.data }], guard := none }) (v := ?_) rfl (by kernel_rfl) (by kernel_rfl) (by kernel_rfl) (fun _ _ _ h => h) (Or.inl ⟨by rfl, ?_⟩) (by assumption) ?_
                  rotate_left
                  · intro w hSw
                    clear hSw
                    go_simp
                    all_goals with_reducible rfl
                  simp only [Act.put, List.setIfInBounds_toArray, List.set_cons_zero, List.set_cons_succ]
                  refine wpAnyH_take (i := 4) (oi := { dst := some 193, op := Op.move (Operand.tmp 18), type := 3, pos := "ref.go:120", after := #[], guard := none }) (v := ?_) rfl (by kernel_rfl) (by kernel_rfl) (by kernel_rfl) (fun _ _ _ h => h) (Or.inl ⟨by rfl, ?_⟩) (by assumption) ?_
                  rotate_left
                  · intro w hSw
                    clear hSw
                    go_simp
                    all_goals with_reducible rfl
                  simp only [Act.put, List.setIfInBounds_toArray, List.set_cons_zero, List.set_cons_succ]
                  refine wpAnyH_take (i := 5) (oi := { dst := some 194, op := Op.indexAddr 101 (Operand.tmp 12) (Operand.tmp 193), type := 0, pos := "ref.go:120", after := #[{ on := 4, ground := Ground.data }], guard := none }) (v := ?_) rfl (by kernel_rfl) (by kernel_rfl) (by kernel_rfl) (fun _ _ _ h => h) (Or.inl ⟨by rfl, ?_⟩) (by assumption) ?_
                  rotate_left
                  · intro w hSw
                    clear hSw
                    go_simp
                    all_goals with_reducible rfl
                  simp only [Act.put, List.setIfInBounds_toArray, List.set_cons_zero, List.set_cons_succ]
                  refine wpAnyH_take (i := 6) (oi := { dst := some 195, op := Op.load 22 (Operand.tmp 194), type := 22, pos := "ref.go:120", after := #[{ on := 5, ground := Ground.data }], guard := none }) (v := ?_) rfl (by kernel_rfl) (by kernel_rfl) (by kernel_rfl) (fun _ _ _ h => h) (Or.inl ⟨by rfl, ?_⟩) (by assumption) ?_
                  rotate_left
                  · intro w hSw
                    have h3 := hSw
                    clear hSw
                    go_simp
                    all_goals with_reducible rfl
                  simp only [Act.put, List.setIfInBounds_toArray, List.set_cons_zero, List.set_cons_succ]
                  refine wpAnyH_ready (rs := [3]) (by kernel_rfl) (by simp) ?_
                  refine AllReadyH.cons (o := { dst := some 192, op := Op.load 22 (Operand.tmp 191), type := 22, pos := "ref.go:120", after := #[{ on := 2, ground := Ground.data }], guard := none }) rfl (fun K hK => ?_) AllReadyH.nil
                  have h3 : wr.drew.cell? ⟨gH, k, none⟩ = some (.int .u32 (xh.toNat : Int)) := cH
                  go_simp
                  refine hK.out _ _ hHeld (fun hHeld => ?_)
                  clear hK K h3
                  try simp only [Act.put, List.setIfInBounds_toArray, List.set_cons_zero, List.set_cons_succ]
                  refine wpAnyH_take (i := 7) (oi := { dst := some 196, op := Op.binOp BinOp.add 22 (Operand.tmp 192) (Operand.tmp 195) 22, type := 22, pos := "ref.go:120", after := #[{ on := 3, ground := Ground.data }, { on := 6, ground := Ground.data }], guard := none }) (v := ?_) rfl (by kernel_rfl) (by kernel_rfl) (by kernel_rfl) (fun _ _ _ h => h) (Or.inl ⟨by rfl, ?_⟩) (by assumption) ?_
                  rotate_left
                  · intro w hSw
                    clear hSw
                    go_simp
                    all_goals with_reducible rfl
                  simp only [Act.put, List.setIfInBounds_toArray, List.set_cons_zero, List.set_cons_succ]
                  refine wpAnyH_take (i := 8) (oi := { dst := some 197, op := Op.indexAddr 101 (Operand.tmp 4) (Operand.tmp 189), type := 0, pos := "ref.go:120", after := #[{ on := 0, ground := Ground.data }, { on := 0, ground := Ground.phase }, { on := 1, ground := Ground.phase }, { on := 2, ground := Ground.phase }, { on := 3, ground := Ground.phase }, { on := 4, ground := Ground.phase }, { on := 5, ground := Ground.phase }, { on := 6, ground := Ground.phase }, { on := 7, ground := Ground.phase }], guard := none }) (v := ?_) rfl (by kernel_rfl) (by kernel_rfl) (by kernel_rfl) (fun _ _ _ h => h) (Or.inl ⟨by rfl, ?_⟩) (by assumption) ?_
                  rotate_left
                  · intro w hSw
                    clear hSw
                    go_simp
                    all_goals with_reducible rfl
                  simp only [Act.put, List.setIfInBounds_toArray, List.set_cons_zero, List.set_cons_succ]
                  refine wpAnyH_ready (rs := [9]) (by kernel_rfl) (by simp) ?_
                  refine AllReadyH.cons (o := { dst := none, op := Op.store 22 (Operand.tmp 197) (Operand.tmp 196), type := 0, pos := "ref.go:120", after := #[{ on := 8, ground := Ground.data }, { on := 7, ground := Ground.data }, { on := 0, ground := Ground.phase }, { on := 1, ground := Ground.phase }, { on := 2, ground := Ground.phase }, { on := 3, ground := Ground.phase }, { on := 4, ground := Ground.phase }, { on := 5, ground := Ground.phase }, { on := 6, ground := Ground.phase }, { on := 7, ground := Ground.phase }], guard := none }) rfl (fun K hK => ?_) AllReadyH.nil
                  have h3 : wr.drew.cell? ⟨gH, k, none⟩ = some (.int .u32 (xh.toNat : Int)) := cH
                  have f3 : wr.drew.frozen? ⟨gH, k, none⟩ = false := fH
                  go_simp
                  refine hK.out _ _ ?_ (fun hHeld2 => ?_)
                  · exact (World.cell?_of_block (w := wr) (heap_setCell_other wr ⟨gH, k, none⟩ gS _ (by show gS ≠ gH; omega))).trans cS
                  clear hK K h3 f3
                  try simp only [Act.put, List.setIfInBounds_toArray, List.set_cons_zero, List.set_cons_succ]
                  refine wpAnyH_done (by kernel_rfl) ?_ _
                  refine NoPanic.normal ?_
                  go_wp2
                  go_roundw
                  case rel =>
                    rw [u32_add_cast]
                    exact ⟨k + 1, by omega, by go_num, (by rw [V5.out]; exact V.out), V2.out, V3.out, V4.out.drew⟩
                  case measure => simp [intOf]; omega
                · obtain rfl : k = 8 := by omega
                  have hcomp : S.addTo st rl 8 = S.comp st bs := by rw [HRL.out, S.comp, ← HS.out]; exact S.addTo_all st hst s HOF.out _
                  have hsz : (Tryd.prog.info? 101).map (·.size) = some (S.v32 (S.addTo st rl 8)).size := by rw [S.v32_size, hal]; exact size49
                  have hoz : (S.v32 (List.replicate 8 0)).size = (S.v32 (S.addTo st rl 8)).size := by rw [S.v32_size, S.v32_size, hal]; rfl
                  go_wp2_with (first | refine wpList_load_row rfl 101 _ rfl gH rfl 101 _ _ _ hrH Tryd.underlying101 rfl hsz ?_ | refine wpList_store_row rfl 101 _ _ rfl gR _ rfl rfl 101 _ hrR hsz hoz (S.v32_one _) ?_)
                  refine bodyPost_ret (v := .agg (S.v32 (S.addTo st rl 8))) (results_cell_row (g := gR) (t := 101) (fr := (0, 0)) Tryd.results91 _ _ _ _ rfl (setRow_heap _ _ _ _ _ _ hrR) Tryd.underlying101 rfl hsz) rfl ⟨by rw [hcomp], ?_⟩
                  exact below_setRow hnx (by omega) _
end Go.Proofs.YtlcilclhaahopaaDoor
