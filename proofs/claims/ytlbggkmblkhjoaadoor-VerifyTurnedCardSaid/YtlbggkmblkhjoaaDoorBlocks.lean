/- takeBlocks and firstState: the state behind whole blocks that lie in memory is the Lean function's; the first state is the eight words; nothing that was there changes. -/
import Derived.Test.YtlbggkmblkhjoaaDoorComp
import Derived.StillTailTactics
namespace Go.Proofs.YtlbggkmblkhjoaaDoor
open Go.RowKit
namespace S
def ofR (s : R8) : List UInt32 := [s.a, s.b, s.c, s.d, s.e, s.f, s.g, s.h]
theorem ofR_toR (l : List UInt32) (h : l.length = 8) : ofR (toR l) = l := by
  match l, h with
  | [_, _, _, _, _, _, _, _], _ => rfl
def blocks (st : List UInt32) (bs : List UInt8) : Nat → List UInt32
  | 0 => st
  | k + 1 => comp (blocks st bs k) (bs.drop (64 * k))
theorem comp_length (st : List UInt32) (bs : List UInt8) : (comp st bs).length = 8 := rfl
theorem blocks_length (st : List UInt32) (bs : List UInt8) (h : st.length = 8) (k : Nat) : (blocks st bs k).length = 8 := by
  cases k with
  | zero => exact h
  | succ k => rfl
end S
theorem compress_R (s : S.R8) (b off cap : Nat) (bs : List UInt8) (w : World) (hb : b < w.heap.size) (hK : ∀ j, j < 64 → w.cell? ⟨0, j, none⟩ = some (.int .u32 ((S.K.getD j 0).toNat : Int)))
    (hc : ∀ j, j < 64 → w.cell? ⟨b, off + j, none⟩ = some (.int .u8 ((bs.getD j 0).toNat : Int))) :
   Calls Tryd.prog 75 #[.agg #[.int .u32 (s.a.toNat : Int), .int .u32 (s.b.toNat : Int), .int .u32 (s.c.toNat : Int), .int .u32 (s.d.toNat : Int), .int .u32 (s.e.toNat : Int), .int .u32 (s.f.toNat : Int), .int .u32 (s.g.toNat : Int), .int .u32 (s.h.toNat : Int)], .slice (some ⟨b, off, none⟩) 64 cap] w fun e w' => e = .returned (.agg (S.v32 (S.comp (S.ofR s) bs))) ∧ Below w.heap.size w w' :=
  compress_any (S.ofR s) rfl b off cap bs w hb hK hc
theorem region_tail {id : Nat} {Q : Exit → Act → World → Prop} {a : Act} {w : World} {l : List Oper} (n : Nat) (hB : Region.lexTailB .any l.toArray n = true)
    (h : wpStill Tryd.prog l.toArray w.drew (fun a' => wpList Tryd.prog l.toArray Q (l.drop n) a' w.drew) (l.take n) a) : (Code.region id l.toArray true).wp Tryd.prog Q a w :=
  wp_region_still_tail n follows hB h
set_option maxHeartbeats 800000 in
set_option maxRecDepth 100000 in
theorem takeBlocks_any (st : List UInt32) (hst : st.length = 8) (b off len cap m : Nat) (bs : List UInt8) (w : World) (hlen : len = 64 * m) (hcap : len ≤ cap) (hreach : len ≤ 140737488355328) (hb : b < w.heap.size) (hK : ∀ j, j < 64 → w.cell? ⟨0, j, none⟩ = some (.int .u32 ((S.K.getD j 0).toNat : Int)))
    (hc : ∀ j, j < len → w.cell? ⟨b, off + j, none⟩ = some (.int .u8 ((bs.getD j 0).toNat : Int))) :
   Calls Tryd.prog 68 #[.agg (S.v32 st), .slice (some ⟨b, off, none⟩) len cap] w fun e w' => e = .returned (.agg (S.v32 (S.blocks st bs m))) ∧ Below w.heap.size w w' := by
  have HL := hide hlen
  have HK := hide hK
  have HC := hide hc
  have h0 : 0 < w.heap.size := block_lt_of_cell (hK 0 (by omega))
  clear hK hc hlen
  go_enter Tryd.func68, Tryd.ntmps68
  go_wp2
  go_loopw [5] (fun i wr => ∃ k p : Nat, p = 64 * k ∧ k ≤ m ∧ i = .int .i64 (p : Int) ∧ wr.heap[w.heap.size]? = some (.cells (S.v32 (S.blocks st bs k)) 87 (0, 0)) ∧ wr.heap[w.heap.size + 1]? = some (.cells (S.v32 (List.replicate 8 0)) 87 (0, 0)) ∧ Below w.heap.size w wr ∧ w.heap.size + 2 ≤ wr.heap.size)
    (fun i _ => len - (intOf i).toNat)
  case atStart => exact ⟨0, 0, by omega, by omega, rfl, heap_alloc2_old _ _ _, heap_alloc2_new _ _ _, ((Below.refl _ _).alloc (Nat.le_refl _) _).alloc (by simp) _, by simp⟩
  case round =>
    obtain ⟨k, p, hp, hk, rfl, r0, r1, hnx, hsz⟩ := hrel
    have hlen := HL.out
    by_cases hlt : k < m
    · have q0 : p + 64 ≤ len := by omega
      have q1 : (0 : Int) ≤ (p : Int) := by omega
      have q2 : (p : Int) < (len : Int) := by omega
      have q3 : (p : Int) + 64 ≤ (cap : Int) := by omega
      have q4 : (p : Int) ≤ (cap : Int) := by omega
      have q5 : IntKind.i64.wrap ((p : Int) + 64) = (p : Int) + 64 := by rw [IntKind.wrap_i64]; omega
      have q6 : (0 : Int) ≤ (p : Int) + 64 := by omega
      have q7 : ((p : Int) + 64).toNat = p + 64 := by omega
      have q8 : p + 64 ≤ cap := by omega
      have q9 : (p : Int) ≤ (p : Int) + 64 := by omega
      have qa : ¬ cap = p := by omega
      have HP := hide hp
      have hl8 := S.blocks_length st bs hst k
      obtain ⟨s, hs0⟩ : ∃ s : S.R8, s = S.toR (S.blocks st bs k) := ⟨_, rfl⟩
      have hof : S.ofR s = S.blocks st bs k := by rw [hs0]; exact S.ofR_toR _ hl8
      have c0 : wr.cell? ⟨w.heap.size, 0, none⟩ = some (.int .u32 (s.a.toNat : Int)) := by rw [hs0]; exact v32_cell r0 0 (by omega)
      have c1 : wr.cell? ⟨w.heap.size, 1, none⟩ = some (.int .u32 (s.b.toNat : Int)) := by rw [hs0]; exact v32_cell r0 1 (by omega)
      have c2 : wr.cell? ⟨w.heap.size, 2, none⟩ = some (.int .u32 (s.c.toNat : Int)) := by rw [hs0]; exact v32_cell r0 2 (by omega)
      have c3 : wr.cell? ⟨w.heap.size, 3, none⟩ = some (.int .u32 (s.d.toNat : Int)) := by rw [hs0]; exact v32_cell r0 3 (by omega)
      have c4 : wr.cell? ⟨w.heap.size, 4, none⟩ = some (.int .u32 (s.e.toNat : Int)) := by rw [hs0]; exact v32_cell r0 4 (by omega)
      have c5 : wr.cell? ⟨w.heap.size, 5, none⟩ = some (.int .u32 (s.f.toNat : Int)) := by rw [hs0]; exact v32_cell r0 5 (by omega)
      have c6 : wr.cell? ⟨w.heap.size, 6, none⟩ = some (.int .u32 (s.g.toNat : Int)) := by rw [hs0]; exact v32_cell r0 6 (by omega)
      have c7 : wr.cell? ⟨w.heap.size, 7, none⟩ = some (.int .u32 (s.h.toNat : Int)) := by rw [hs0]; exact v32_cell r0 7 (by omega)
      have G0 := hide r0
      have G1 := hide r1
      have G2 := hide hnx
      have G3 := hide hof
      clear r0 r1 hnx hof hs0 hl8 hp hlen
      go_wp2
      refine region_tail 6 (by kernel_rfl) ?_
      simp only [List.take_succ_cons, List.take_zero, List.drop_succ_cons, List.drop_zero]
      repeat still_step
      refine wpStill_nil ?_
      go_wp2_with fail
      refine (compress_R s b (off + p) (cap - p) (bs.drop p) wr.drew (by have := G2.out.size; show b < wr.heap.size; omega)
        (fun j hj => (G2.out.cell (p := ⟨0, j, none⟩) (by exact h0)).trans (HK.out j hj))
        (fun j hj => by
          have e1 : wr.cell? ⟨b, off + (p + j), none⟩ = some (.int .u8 ((bs.getD (p + j) 0).toNat : Int)) := (G2.out.cell (p := ⟨b, off + (p + j), none⟩) (by exact hb)).trans (HC.out (p + j) (by omega))
          rw [Nat.add_assoc, show (bs.drop p).getD j 0 = bs.getD (p + j) 0 from by simp [List.getD_eq_getElem?_getD]]
          exact e1)).mono ?_
      rintro e w1 ⟨rfl, hb1⟩
      have a0 : w1.heap[w.heap.size]? = some (.cells (S.v32 (S.blocks st bs k)) 87 (0, 0)) := (hb1.block _ (by show w.heap.size < wr.heap.size; omega)).trans G0.out
      have a1 : w1.heap[w.heap.size + 1]? = some (.cells (S.v32 (List.replicate 8 0)) 87 (0, 0)) := (hb1.block _ (by show w.heap.size + 1 < wr.heap.size; omega)).trans G1.out
      have hnx1 : Below w.heap.size w w1 := G2.out.drew.trans (hb1.mono (by show w.heap.size ≤ wr.heap.size; omega))
      have hz1 : w.heap.size + 2 ≤ w1.heap.size := Nat.le_trans hsz (by have := hb1.size; exact this)
      have hbk : S.comp (S.ofR s) (bs.drop p) = S.blocks st bs (k + 1) := by rw [G3.out, HP.out]; rfl
      rw [hbk]
      have hl8 : (S.v32 (S.blocks st bs k)).size = (S.v32 (S.blocks st bs (k + 1))).size := by rw [S.v32_size, S.v32_size, S.blocks_length _ _ hst, S.blocks_length _ _ hst]
      have hs : (Tryd.prog.info? 87).map (·.size) = some (S.v32 (S.blocks st bs (k + 1))).size := by rw [S.v32_size, S.blocks_length _ _ hst]; exact size49
      have J0 := hide a0
      have J1 := hide a1
      have J2 := hide hnx1
      have J3 := hide hl8
      have J4 := hide hs
      clear hb1 a0 a1 hnx1 hbk hl8 hs c0 c1 c2 c3 c4 c5 c6 c7
      go_wp2_with (refine wpList_store_row rfl 87 _ _ rfl w.heap.size (S.v32 (S.blocks st bs (k + 1))) rfl rfl 87 _ J0.out J4.out J3.out (S.v32_one _) ?_)
      go_roundw
      case rel =>
        refine ⟨k + 1, p + 64, by have := HP.out; omega, by omega, by go_num, setRow_heap _ _ _ _ _ _ J0.out, (setRow_other _ _ _ _ (by omega)).trans J1.out, below_setRow J2.out (Nat.le_refl _) _, by simp; omega⟩
      case measure => simp [intOf]; omega
    · obtain rfl : k = m := by omega
      obtain rfl : p = len := by omega
      have hl8 : (S.v32 (List.replicate 8 0)).size = (S.v32 (S.blocks st bs k)).size := by rw [S.v32_size, S.v32_size, S.blocks_length _ _ hst]; rfl
      have hs : (Tryd.prog.info? 87).map (·.size) = some (S.v32 (S.blocks st bs k)).size := by rw [S.v32_size, S.blocks_length _ _ hst]; exact size49
      have G0 := hide r0
      have G1 := hide r1
      have G2 := hide hnx
      have J3 := hide hl8
      have J4 := hide hs
      clear r0 r1 hnx hl8 hs hp hlen
      go_wp2_with (first | refine wpList_load_row rfl 87 _ rfl w.heap.size rfl 87 _ _ _ G0.out Tryd.underlying87 rfl J4.out ?_ | refine wpList_store_row rfl 87 _ _ rfl (w.heap.size + 1) (S.v32 (S.blocks st bs k)) rfl rfl 87 _ G1.out J4.out J3.out (S.v32_one _) ?_)
      refine bodyPost_ret (v := .agg (S.v32 (S.blocks st bs k))) (results_cell_row (g := w.heap.size + 1) (t := 87) (fr := (0, 0)) Tryd.results68 _ _ _ _ rfl (setRow_heap _ _ _ _ _ _ G1.out) Tryd.underlying87 rfl J4.out) rfl ⟨rfl, below_setRow G2.out (by omega) _⟩
set_option maxHeartbeats 800000 in
set_option maxRecDepth 100000 in
theorem takeBlocks_none (st : List UInt32) (hst : st.length = 8) (ao : Option Addr) (cap : Nat) (w : World) :
   Calls Tryd.prog 68 #[.agg (S.v32 st), .slice ao 0 cap] w fun e w' => e = .returned (.agg (S.v32 st)) ∧ Below w.heap.size w w' := by
  go_enter Tryd.func68, Tryd.ntmps68
  go_wp2
  refine wp_loop_rounds 1 ?_
  rw [rounds_succ]
  have hl8 : (S.v32 (List.replicate 8 0)).size = (S.v32 st).size := by rw [S.v32_size, S.v32_size, hst]; rfl
  have hs : (Tryd.prog.info? 87).map (·.size) = some (S.v32 st).size := by rw [S.v32_size, hst]; exact size49
  have G0 : Hid (((w.alloc (.cells (S.v32 st) 87)).alloc (.cells (S.v32 (List.replicate 8 0)) 87)).heap[w.heap.size]? = some (.cells (S.v32 st) 87 (0, 0))) := heap_alloc2_old _ _ _
  have G1 : Hid (((w.alloc (.cells (S.v32 st) 87)).alloc (.cells (S.v32 (List.replicate 8 0)) 87)).heap[w.heap.size + 1]? = some (.cells (S.v32 (List.replicate 8 0)) 87 (0, 0))) := heap_alloc2_new _ _ _
  have G2 : Hid (Below w.heap.size w ((w.alloc (.cells (S.v32 st) 87)).alloc (.cells (S.v32 (List.replicate 8 0)) 87))) := ((Below.refl _ _).alloc (Nat.le_refl _) _).alloc (by simp) _
  have J3 := hide hl8
  have J4 := hide hs
  clear hl8 hs
  go_wp2_with (first | refine wpList_load_row rfl 87 _ rfl w.heap.size rfl 87 _ _ _ G0.out Tryd.underlying87 rfl J4.out ?_ | refine wpList_store_row rfl 87 _ _ rfl (w.heap.size + 1) (S.v32 st) rfl rfl 87 _ G1.out J4.out J3.out (S.v32_one _) ?_)
  refine bodyPost_ret (v := .agg (S.v32 st)) (results_cell_row (g := w.heap.size + 1) (t := 87) (fr := (0, 0)) Tryd.results68 _ _ _ _ rfl (setRow_heap _ _ _ _ _ _ G1.out) Tryd.underlying87 rfl J4.out) rfl ⟨rfl, below_setRow G2.out (by omega) _⟩
def S.H0 : List UInt32 := [1779033703, 3144134277, 1013904242, 2773480762, 1359893119, 2600822924, 528734635, 1541459225]
set_option maxHeartbeats 800000 in
set_option maxRecDepth 100000 in
theorem firstState_any (w : World) : Calls Tryd.prog 55 #[] w fun e w' => e = .returned (.agg (S.v32 S.H0)) ∧ Below w.heap.size w w' := by
  have G1 : Hid ((w.alloc (.cells (S.v32 (List.replicate 8 0)) 87)).heap[w.heap.size]? = some (.cells (S.v32 (List.replicate 8 0)) 87 (0, 0))) := heap_alloc_new _ _
  have J4 : Hid ((Tryd.prog.info? 87).map (·.size) = some (S.v32 S.H0).size) := size49
  go_enter Tryd.func55, Tryd.ntmps55
  go_wp2_with (first | refine wpList_build_to rfl 87 _ rfl (S.v32 S.H0) (by kernel_rfl) ?_ | refine wpList_store_row rfl 87 _ _ rfl w.heap.size (S.v32 S.H0) rfl rfl 87 _ G1.out J4.out rfl (S.v32_one _) ?_)
  refine bodyPost_ret (v := .agg (S.v32 S.H0)) (results_cell_row (g := w.heap.size) (t := 87) (fr := (0, 0)) Tryd.results55 _ _ _ _ rfl (setRow_heap _ _ _ _ _ _ G1.out) Tryd.underlying87 rfl J4.out) rfl ⟨rfl, below_setRow ((Below.refl _ _).alloc (Nat.le_refl _) _) (Nat.le_refl _) _⟩
end Go.Proofs.YtlbggkmblkhjoaaDoor
