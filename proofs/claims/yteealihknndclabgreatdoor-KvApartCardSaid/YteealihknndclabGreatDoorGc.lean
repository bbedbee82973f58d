/- takeBlocks and firstState: the state behind whole blocks that lie in memory is the Lean function's; the first state is the eight words; nothing that was there changes. -/
/- digestOf: the 32 bytes of a state are the Lean function's, and nothing that was there changes. -/
/- ending: the last one or two blocks of a text are the Lean function's, in new memory; nothing that was there changes. -/
import Derived.Test.YteealihknndclabGreatDoorBa
import Derived.StillTailTactics
namespace Go.Proofs.YteealihknndclabGreatDoor
open Go.RowKit
namespace S
def ofR (s : R8) : List UInt32 := [s.a, s.b, s.c, s.d, s.e, s.f, s.g, s.h]
theorem lY (l : List UInt32) (h : l.length = 8) : ofR (toR l) = l := by
 match l, h with
 | [_, _, _, _, _, _, _, _], _ => rfl
def blocks (st : List UInt32) (bs : List UInt8) : Nat -> List UInt32
 | 0 => st
 | k + 1 => comp (blocks st bs k) (bs.drop (64 * k))
theorem dG (st : List UInt32) (bs : List UInt8) (h : st.length = 8) (k : Nat) : (blocks st bs k).length = 8 := by
 cases k with
 | zero => exact h
 | succ k => rfl
end S
theorem zM (s : S.R8) (b off cap : Nat) (bs : List UInt8) (w : World) (hb : b < w.heap.size) (hK : ∀ j, j < 64 -> w.cell? ⟨1, j, none⟩ = some (.int .u32 ((S.K.getD j 0).toNat : Int)))
  (hc : ∀ j, j < 64 -> w.cell? ⟨b, off + j, none⟩ = some (.int .u8 ((bs.getD j 0).toNat : Int))) :
  Calls Tryz.prog 205 #[.agg #[.int .u32 (s.a.toNat : Int), .int .u32 (s.b.toNat : Int), .int .u32 (s.c.toNat : Int), .int .u32 (s.d.toNat : Int), .int .u32 (s.e.toNat : Int), .int .u32 (s.f.toNat : Int), .int .u32 (s.g.toNat : Int), .int .u32 (s.h.toNat : Int)], .slice (some ⟨b, off, none⟩) 64 cap] w fun e w' => e = .returned (.agg (S.v32 (S.comp (S.ofR s) bs))) /\ Below w.heap.size w w' :=
 wE (S.ofR s) rfl b off cap bs w hb hK hc
theorem jw {id : Nat} {Q : Exit -> Act -> World -> Prop} {a : Act} {w : World} {l : List Oper} (n : Nat) (hB : Region.lexTailB .any l.toArray n = true)
  (h : wpStill Tryz.prog l.toArray w.drew (fun a' => wpList Tryz.prog l.toArray Q (l.drop n) a' w.drew) (l.take n) a) : (Code.region id l.toArray true).wp Tryz.prog Q a w :=
 wp_region_still_tail n follows hB h
set_option maxHeartbeats 800000 in
set_option maxRecDepth 100000 in
theorem kT (st : List UInt32) (hst : st.length = 8) (b off len cap m : Nat) (bs : List UInt8) (w : World) (hlen : len = 64 * m) (hcap : len <= cap) (hreach : len <= 140737488355328) (hb : b < w.heap.size) (hK : ∀ j, j < 64 -> w.cell? ⟨1, j, none⟩ = some (.int .u32 ((S.K.getD j 0).toNat : Int)))
  (hc : ∀ j, j < len -> w.cell? ⟨b, off + j, none⟩ = some (.int .u8 ((bs.getD j 0).toNat : Int))) :
  Calls Tryz.prog 196 #[.agg (S.v32 st), .slice (some ⟨b, off, none⟩) len cap] w fun e w' => e = .returned (.agg (S.v32 (S.blocks st bs m))) /\ Below w.heap.size w w' := by
 have HL := hide hlen
 have HK := hide hK
 have HC := hide hc
 have h0 : 1 < w.heap.size := block_lt_of_cell (hK 0 (by omega))
 clear hK hc hlen
 go_enter Tryz.func196, Tryz.ntmps196
 go_wp2
 go_loopw [5] (fun i wr => ∃ k p : Nat, p = 64 * k /\ k <= m /\ i = .int .i64 (p : Int) /\ wr.heap[w.heap.size]? = some (.cells (S.v32 (S.blocks st bs k)) 257 (0, 0)) /\ wr.heap[w.heap.size + 1]? = some (.cells (S.v32 (List.replicate 8 0)) 257 (0, 0)) /\ Below w.heap.size w wr /\ w.heap.size + 2 <= wr.heap.size)
  (fun i _ => len - (intOf i).toNat)
 case atStart => exact ⟨0, 0, by omega, by omega, rfl, heap_alloc2_old _ _ _, heap_alloc2_new _ _ _, (ba ..).alloc (by simp) _, by simp⟩
 case round =>
  obtain ⟨k, p, hp, hk, rfl, r0, r1, hnx, hsz⟩ := hrel
  have hlen := HL.out
  by_cases hlt : k < m
  ·have q0 : p + 64 <= len := by omega
   have q1 : (0 : Int) <= (p : Int) := by omega
   have q2 : (p : Int) < (len : Int) := by omega
   have q3 : (p : Int) + 64 <= (cap : Int) := by omega
   have q4 : (p : Int) <= (cap : Int) := by omega
   have q5 : IntKind.i64.wrap ((p : Int) + 64) = (p : Int) + 64 := by rw [IntKind.wrap_i64]; omega
   have q6 : (0 : Int) <= (p : Int) + 64 := by omega
   have q7 : ((p : Int) + 64).toNat = p + 64 := by omega
   have q8 : p + 64 <= cap := by omega
   have q9 : (p : Int) <= (p : Int) + 64 := by omega
   have qa : ¬ cap = p := by omega
   have HP := hide hp
   have hl8 := S.dG st bs hst k
   obtain ⟨s, hs0⟩ : ∃ s : S.R8, s = S.toR (S.blocks st bs k) := ⟨_, rfl⟩
   have hof : S.ofR s = S.blocks st bs k := by rw [hs0]; exact S.lY _ hl8
   have c0 : wr.cell? ⟨w.heap.size, 0, none⟩ = some (.int .u32 (s.a.toNat : Int)) := by rw [hs0]; exact aj r0 0 (by omega)
   have c1 : wr.cell? ⟨w.heap.size, 1, none⟩ = some (.int .u32 (s.b.toNat : Int)) := by rw [hs0]; exact aj r0 1 (by omega)
   have c2 : wr.cell? ⟨w.heap.size, 2, none⟩ = some (.int .u32 (s.c.toNat : Int)) := by rw [hs0]; exact aj r0 2 (by omega)
   have c3 : wr.cell? ⟨w.heap.size, 3, none⟩ = some (.int .u32 (s.d.toNat : Int)) := by rw [hs0]; exact aj r0 3 (by omega)
   have c4 : wr.cell? ⟨w.heap.size, 4, none⟩ = some (.int .u32 (s.e.toNat : Int)) := by rw [hs0]; exact aj r0 4 (by omega)
   have c5 : wr.cell? ⟨w.heap.size, 5, none⟩ = some (.int .u32 (s.f.toNat : Int)) := by rw [hs0]; exact aj r0 5 (by omega)
   have c6 : wr.cell? ⟨w.heap.size, 6, none⟩ = some (.int .u32 (s.g.toNat : Int)) := by rw [hs0]; exact aj r0 6 (by omega)
   have c7 : wr.cell? ⟨w.heap.size, 7, none⟩ = some (.int .u32 (s.h.toNat : Int)) := by rw [hs0]; exact aj r0 7 (by omega)
   have G0 := hide r0
   have G1 := hide r1
   have G2 := hide hnx
   have G3 := hide hof
   clear r0 r1 hnx hof hs0 hl8 hp hlen
   go_wp2
   refine jw 6 (by kernel_rfl) ?_
   simp only [List.take_succ_cons, List.take_zero, List.drop_succ_cons, List.drop_zero]
   repeat still_step
   refine wpStill_nil ?_
   go_wp2_with fail
   refine (zM s b (off + p) (cap - p) (bs.drop p) wr.drew (by have := G2.out.size; show b < wr.heap.size; omega)
    (fun j hj => (G2.out.cell (p := ⟨1, j, none⟩) (by exact h0)).trans (HK.out j hj))
    (fun j hj => by
     have e1 : wr.cell? ⟨b, off + (p + j), none⟩ = some (.int .u8 ((bs.getD (p + j) 0).toNat : Int)) := (G2.out.cell (p := ⟨b, off + (p + j), none⟩) (by exact hb)).trans (HC.out (p + j) (by omega))
     rw [Nat.add_assoc, show (bs.drop p).getD j 0 = bs.getD (p + j) 0 from by simp [List.getD_eq_getElem?_getD]]
     exact e1)).mono ?_
   rintro e w1 ⟨rfl, hb1⟩
   have a0 : w1.heap[w.heap.size]? = some (.cells (S.v32 (S.blocks st bs k)) 257 (0, 0)) := (hb1.block _ (by show w.heap.size < wr.heap.size; omega)).trans G0.out
   have a1 : w1.heap[w.heap.size + 1]? = some (.cells (S.v32 (List.replicate 8 0)) 257 (0, 0)) := (hb1.block _ (by show w.heap.size + 1 < wr.heap.size; omega)).trans G1.out
   have hnx1 : Below w.heap.size w w1 := G2.out.drew.trans (hb1.mono (by show w.heap.size <= wr.heap.size; omega))
   have hz1 : w.heap.size + 2 <= w1.heap.size := ltr hsz (by have := hb1.size; exact this)
   have hbk : S.comp (S.ofR s) (bs.drop p) = S.blocks st bs (k + 1) := by rw [G3.out, HP.out]; rfl
   rw [hbk]
   have hl8 : (S.v32 (S.blocks st bs k)).size = (S.v32 (S.blocks st bs (k + 1))).size := by rw [S.bu, S.bu, S.dG _ _ hst, S.dG _ _ hst]
   have hs : (Tryz.prog.info? 257).map (·.size) = some (S.v32 (S.blocks st bs (k + 1))).size := by rw [S.bu, S.dG _ _ hst]; exact gZ
   have J0 := hide a0
   have J1 := hide a1
   have J2 := hide hnx1
   have J3 := hide hl8
   have J4 := hide hs
   clear hb1 a0 a1 hnx1 hbk hl8 hs c0 c1 c2 c3 c4 c5 c6 c7
   go_wp2_with (refine wpList_store_row rfl 257 _ _ rfl w.heap.size (S.v32 (S.blocks st bs (k + 1))) rfl rfl 257 _ J0.out J4.out J3.out (S.iP _) ?_)
   go_roundw
   case rel =>
    refine ⟨k + 1, p + 64, by have := HP.out; omega, by omega, by go_num, setRow_heap _ _ _ _ _ _ J0.out, (setRow_other _ _ _ _ (by omega)).trans J1.out, below_setRow J2.out (lr _) _, by simp; omega⟩
   case measure => simp [intOf]; omega
  ·obtain rfl : k = m := by omega
   obtain rfl : p = len := by omega
   have hl8 : (S.v32 (List.replicate 8 0)).size = (S.v32 (S.blocks st bs k)).size := by rw [S.bu, S.bu, S.dG _ _ hst]; rfl
   have hs : (Tryz.prog.info? 257).map (·.size) = some (S.v32 (S.blocks st bs k)).size := by rw [S.bu, S.dG _ _ hst]; exact gZ
   have G0 := hide r0
   have G1 := hide r1
   have G2 := hide hnx
   have J3 := hide hl8
   have J4 := hide hs
   clear r0 r1 hnx hl8 hs hp hlen
   go_wp2_with (first | refine wpList_load_row rfl 257 _ rfl w.heap.size rfl 257 _ _ _ G0.out Tryz.underlying257 rfl J4.out ?_ | refine wpList_store_row rfl 257 _ _ rfl (w.heap.size + 1) (S.v32 (S.blocks st bs k)) rfl rfl 257 _ G1.out J4.out J3.out (S.iP _) ?_)
   refine bodyPost_ret (v := .agg (S.v32 (S.blocks st bs k))) (results_cell_row (g := w.heap.size + 1) (t := 257) (fr := (0, 0)) Tryz.results196 _ _ _ _ rfl (setRow_heap _ _ _ _ _ _ G1.out) Tryz.underlying257 rfl J4.out) rfl ⟨rfl, below_setRow G2.out (by omega) _⟩
set_option maxHeartbeats 800000 in
set_option maxRecDepth 100000 in
theorem kN (st : List UInt32) (hst : st.length = 8) (ao : Option Addr) (cap : Nat) (w : World) :
  Calls Tryz.prog 196 #[.agg (S.v32 st), .slice ao 0 cap] w fun e w' => e = .returned (.agg (S.v32 st)) /\ Below w.heap.size w w' := by
 go_enter Tryz.func196, Tryz.ntmps196
 go_wp2
 refine wp_loop_rounds 1 ?_
 rw [rounds_succ]
 have hl8 : (S.v32 (List.replicate 8 0)).size = (S.v32 st).size := by rw [S.bu, S.bu, hst]; rfl
 have hs : (Tryz.prog.info? 257).map (·.size) = some (S.v32 st).size := by rw [S.bu, hst]; exact gZ
 have G0 : Hid (((w.alloc (.cells (S.v32 st) 257)).alloc (.cells (S.v32 (List.replicate 8 0)) 257)).heap[w.heap.size]? = some (.cells (S.v32 st) 257 (0, 0))) := heap_alloc2_old _ _ _
 have G1 : Hid (((w.alloc (.cells (S.v32 st) 257)).alloc (.cells (S.v32 (List.replicate 8 0)) 257)).heap[w.heap.size + 1]? = some (.cells (S.v32 (List.replicate 8 0)) 257 (0, 0))) := heap_alloc2_new _ _ _
 have G2 : Hid (Below w.heap.size w ((w.alloc (.cells (S.v32 st) 257)).alloc (.cells (S.v32 (List.replicate 8 0)) 257))) := (ba ..).alloc (by simp) _
 have J3 := hide hl8
 have J4 := hide hs
 clear hl8 hs
 go_wp2_with (first | refine wpList_load_row rfl 257 _ rfl w.heap.size rfl 257 _ _ _ G0.out Tryz.underlying257 rfl J4.out ?_ | refine wpList_store_row rfl 257 _ _ rfl (w.heap.size + 1) (S.v32 st) rfl rfl 257 _ G1.out J4.out J3.out (S.iP _) ?_)
 refine bodyPost_ret (v := .agg (S.v32 st)) (results_cell_row (g := w.heap.size + 1) (t := 257) (fr := (0, 0)) Tryz.results196 _ _ _ _ rfl (setRow_heap _ _ _ _ _ _ G1.out) Tryz.underlying257 rfl J4.out) rfl ⟨rfl, below_setRow G2.out (by omega) _⟩
def S.H0 : List UInt32 := [1779033703, 3144134277, 1013904242, 2773480762, 1359893119, 2600822924, 528734635, 1541459225]
set_option maxHeartbeats 800000 in
set_option maxRecDepth 100000 in
theorem sK (w : World) : Calls Tryz.prog 179 #[] w fun e w' => e = .returned (.agg (S.v32 S.H0)) /\ Below w.heap.size w w' := by
 have G1 : Hid ((w.alloc (.cells (S.v32 (List.replicate 8 0)) 257)).heap[w.heap.size]? = some (.cells (S.v32 (List.replicate 8 0)) 257 (0, 0))) := heap_alloc_new _ _
 have J4 : Hid ((Tryz.prog.info? 257).map (·.size) = some (S.v32 S.H0).size) := gZ
 go_enter Tryz.func179, Tryz.ntmps179
 go_wp2_with (first | refine kM rfl 257 _ rfl (S.v32 S.H0) (by kernel_rfl) ?_ | refine wpList_store_row rfl 257 _ _ rfl w.heap.size (S.v32 S.H0) rfl rfl 257 _ G1.out J4.out rfl (S.iP _) ?_)
 refine bodyPost_ret (v := .agg (S.v32 S.H0)) (results_cell_row (g := w.heap.size) (t := 257) (fr := (0, 0)) Tryz.results179 _ _ _ _ rfl (setRow_heap _ _ _ _ _ _ G1.out) Tryz.underlying257 rfl J4.out) rfl ⟨rfl, below_setRow (ba ..) (lr _) _⟩
end Go.Proofs.YteealihknndclabGreatDoor
namespace Go.Proofs.YteealihknndclabGreatDoor
open Go.RowKit
namespace S
def dig (st : List UInt32) : Nat -> List UInt8
 | 0 => List.replicate 32 0
 | k + 1 => ((((dig st k).set (4 * k) (st.getD k 0 >>> 24).toUInt8).set (4 * k + 1) (st.getD k 0 >>> 16).toUInt8).set (4 * k + 2) (st.getD k 0 >>> 8).toUInt8).set (4 * k + 3) (st.getD k 0).toUInt8
theorem ed (st : List UInt32) (k : Nat) : (dig st k).length = 32 := by
 induction k with
 | zero => rfl
 | succ k ih => simp [dig, ih]
end S
theorem Cs (s0 s1 s2 s3 s4 s5 s6 s7 : UInt32) (w : World) : (Instr.index 257 (.agg (S.v32 [s0, s1, s2, s3, s4, s5, s6, s7])) (.int .i64 ((0 : Nat) : Int))).run Tryz.prog w = .ok (.int .u32 (s0.toNat : Int)) w := by kernel_rfl
theorem Cr (s0 s1 s2 s3 s4 s5 s6 s7 : UInt32) (w : World) : (Instr.index 257 (.agg (S.v32 [s0, s1, s2, s3, s4, s5, s6, s7])) (.int .i64 ((1 : Nat) : Int))).run Tryz.prog w = .ok (.int .u32 (s1.toNat : Int)) w := by kernel_rfl
theorem Cq (s0 s1 s2 s3 s4 s5 s6 s7 : UInt32) (w : World) : (Instr.index 257 (.agg (S.v32 [s0, s1, s2, s3, s4, s5, s6, s7])) (.int .i64 ((2 : Nat) : Int))).run Tryz.prog w = .ok (.int .u32 (s2.toNat : Int)) w := by kernel_rfl
theorem Co (s0 s1 s2 s3 s4 s5 s6 s7 : UInt32) (w : World) : (Instr.index 257 (.agg (S.v32 [s0, s1, s2, s3, s4, s5, s6, s7])) (.int .i64 ((3 : Nat) : Int))).run Tryz.prog w = .ok (.int .u32 (s3.toNat : Int)) w := by kernel_rfl
theorem Cn (s0 s1 s2 s3 s4 s5 s6 s7 : UInt32) (w : World) : (Instr.index 257 (.agg (S.v32 [s0, s1, s2, s3, s4, s5, s6, s7])) (.int .i64 ((4 : Nat) : Int))).run Tryz.prog w = .ok (.int .u32 (s4.toNat : Int)) w := by kernel_rfl
theorem Cm (s0 s1 s2 s3 s4 s5 s6 s7 : UInt32) (w : World) : (Instr.index 257 (.agg (S.v32 [s0, s1, s2, s3, s4, s5, s6, s7])) (.int .i64 ((5 : Nat) : Int))).run Tryz.prog w = .ok (.int .u32 (s5.toNat : Int)) w := by kernel_rfl
theorem Ck (s0 s1 s2 s3 s4 s5 s6 s7 : UInt32) (w : World) : (Instr.index 257 (.agg (S.v32 [s0, s1, s2, s3, s4, s5, s6, s7])) (.int .i64 ((6 : Nat) : Int))).run Tryz.prog w = .ok (.int .u32 (s6.toNat : Int)) w := by kernel_rfl
theorem Cj (s0 s1 s2 s3 s4 s5 s6 s7 : UInt32) (w : World) : (Instr.index 257 (.agg (S.v32 [s0, s1, s2, s3, s4, s5, s6, s7])) (.int .i64 ((7 : Nat) : Int))).run Tryz.prog w = .ok (.int .u32 (s7.toNat : Int)) w := by kernel_rfl
theorem Ci (st : List UInt32) (hst : st.length = 8) (k : Nat) (hk : k < 8) (w : World) : (Instr.index 257 (.agg (S.v32 st)) (.int .i64 (k : Int))).run Tryz.prog w = .ok (.int .u32 ((st.getD k 0).toNat : Int)) w := by
 match st, hst with
 | [s0, s1, s2, s3, s4, s5, s6, s7], _ =>
  rcases (by omega : k = 0 \/ k = 1 \/ k = 2 \/ k = 3 \/ k = 4 \/ k = 5 \/ k = 6 \/ k = 7) with rfl | rfl | rfl | rfl | rfl | rfl | rfl | rfl
  ·exact Cs s0 s1 s2 s3 s4 s5 s6 s7 w
  ·exact Cr s0 s1 s2 s3 s4 s5 s6 s7 w
  ·exact Cq s0 s1 s2 s3 s4 s5 s6 s7 w
  ·exact Co s0 s1 s2 s3 s4 s5 s6 s7 w
  ·exact Cn s0 s1 s2 s3 s4 s5 s6 s7 w
  ·exact Cm s0 s1 s2 s3 s4 s5 s6 s7 w
  ·exact Ck s0 s1 s2 s3 s4 s5 s6 s7 w
  ·exact Cj s0 s1 s2 s3 s4 s5 s6 s7 w
theorem qF (w : World) (A B C : Obj) : (((w.alloc A).alloc B).alloc C).heap[w.heap.size + 1 + 1]? = some C := by
 have := heap_alloc2_new (w.alloc A) B C
 have e : (w.alloc A).heap.size = w.heap.size + 1 := by show (w.heap.push A).size = _; simp
 rwa [e] at this
theorem u8_cast (x : UInt32) : (x.toNat : Int) % (256 : Int) = ((x.toUInt8).toNat : Int) := by
 rw [UInt32.toNat_toUInt8]; omega
set_option maxHeartbeats 800000 in
set_option maxRecDepth 100000 in
theorem kI (st : List UInt32) (hst : st.length = 8) (w : World) :
  Calls Tryz.prog 198 #[.agg (S.v32 st)] w fun e w' => e = .returned (.agg (S.v8 (S.dig st 8))) /\ Below w.heap.size w w' := by
 have hs49 : Hid ((Tryz.prog.info? 257).map (·.size) = some (S.v32 st).size) := by rw [S.bu, hst]; exact gZ
 have G0 : Hid ((((w.alloc (.cells (S.v32 st) 257)).alloc (.cells (S.v8 (List.replicate 32 0)) 184)).alloc (.cells (S.v8 (List.replicate 32 0)) 184)).heap[w.heap.size]? = some (.cells (S.v32 st) 257 (0, 0))) := by
  exact (heap_alloc_old _ _ (by simp; omega)).trans (heap_alloc2_old _ _ _)
 have G1 : Hid ((((w.alloc (.cells (S.v32 st) 257)).alloc (.cells (S.v8 (List.replicate 32 0)) 184)).alloc (.cells (S.v8 (List.replicate 32 0)) 184)).heap[w.heap.size + 1]? = some (.cells (S.v8 (List.replicate 32 0)) 184 (0, 0))) := by
  exact (heap_alloc_old _ _ (by simp)).trans (heap_alloc2_new _ _ _)
 have HI := hide hst
 go_enter Tryz.func198, Tryz.ntmps198
 go_wp2_with (refine wpList_load_row rfl 257 _ rfl w.heap.size rfl 257 _ _ _ G0.out Tryz.underlying257 rfl hs49.out ?_)
 go_loopw [7] (fun i wr => ∃ k : Nat, k <= 8 /\ i = .int .i64 (k : Int) /\ wr.heap[w.heap.size + 1 + 1]? = some (.cells (S.v8 (S.dig st k)) 184 (0, 0)) /\ wr.heap[w.heap.size + 1]? = some (.cells (S.v8 (List.replicate 32 0)) 184 (0, 0)) /\ Below w.heap.size w wr)
  (fun i _ => 8 - (intOf i).toNat)
 case atStart => exact ⟨0, by omega, rfl, qF _ _ _ _, G1.out, ((ba ..).alloc (by simp) _).alloc (by simp; omega) _⟩
 case round =>
  obtain ⟨k, hk, rfl, r2, r1, hnx⟩ := hrel
  by_cases hlt : k < 8
  ·have hl := S.ed st k
   have hidx := fun w => Ci st HI.out k hlt w
   obtain ⟨x, hx⟩ : ∃ x : UInt32, x = st.getD k 0 := ⟨_, rfl⟩
   rw [<- hx] at hidx
   have q1 : (0 : Int) <= (k : Int) := by omega
   have q2 : (k : Int) < 8 := by omega
   have e0 : IntKind.i64.wrap (4 * (k : Int)) = 4 * (k : Int) := by rw [IntKind.wrap_i64]; omega
   have f0 : (0 : Int) <= 4 * (k : Int) := by omega
   have g0 : 4 * (k : Int) < 32 := by omega
   have n0 : (4 * (k : Int)).toNat = 4 * k := by omega
   have c0 : wr.cell? ⟨w.heap.size + 1 + 1, 4 * k, none⟩ = some (.int .u8 (((S.dig st k).getD (4 * k) 0).toNat : Int)) := bL r2 _ (by omega)
   have d0 : wr.frozen? ⟨w.heap.size + 1 + 1, 4 * k, none⟩ = false := frozen_of_row _ _ _ _ _ r2
   have e1 : IntKind.i64.wrap (4 * (k : Int) + 1) = 4 * (k : Int) + 1 := by rw [IntKind.wrap_i64]; omega
   have f1 : (0 : Int) <= 4 * (k : Int) + 1 := by omega
   have g1 : 4 * (k : Int) + 1 < 32 := by omega
   have n1 : (4 * (k : Int) + 1).toNat = 4 * k + 1 := by omega
   have c1 : wr.cell? ⟨w.heap.size + 1 + 1, 4 * k + 1, none⟩ = some (.int .u8 (((S.dig st k).getD (4 * k + 1) 0).toNat : Int)) := bL r2 _ (by omega)
   have d1 : wr.frozen? ⟨w.heap.size + 1 + 1, 4 * k + 1, none⟩ = false := frozen_of_row _ _ _ _ _ r2
   have e2 : IntKind.i64.wrap (4 * (k : Int) + 2) = 4 * (k : Int) + 2 := by rw [IntKind.wrap_i64]; omega
   have f2 : (0 : Int) <= 4 * (k : Int) + 2 := by omega
   have g2 : 4 * (k : Int) + 2 < 32 := by omega
   have n2 : (4 * (k : Int) + 2).toNat = 4 * k + 2 := by omega
   have c2 : wr.cell? ⟨w.heap.size + 1 + 1, 4 * k + 2, none⟩ = some (.int .u8 (((S.dig st k).getD (4 * k + 2) 0).toNat : Int)) := bL r2 _ (by omega)
   have d2 : wr.frozen? ⟨w.heap.size + 1 + 1, 4 * k + 2, none⟩ = false := frozen_of_row _ _ _ _ _ r2
   have e3 : IntKind.i64.wrap (4 * (k : Int) + 3) = 4 * (k : Int) + 3 := by rw [IntKind.wrap_i64]; omega
   have f3 : (0 : Int) <= 4 * (k : Int) + 3 := by omega
   have g3 : 4 * (k : Int) + 3 < 32 := by omega
   have n3 : (4 * (k : Int) + 3).toNat = 4 * k + 3 := by omega
   have c3 : wr.cell? ⟨w.heap.size + 1 + 1, 4 * k + 3, none⟩ = some (.int .u8 (((S.dig st k).getD (4 * k + 3) 0).toNat : Int)) := bL r2 _ (by omega)
   have d3 : wr.frozen? ⟨w.heap.size + 1 + 1, 4 * k + 3, none⟩ = false := frozen_of_row _ _ _ _ _ r2
   have R2 : ((((wr.setCell ⟨w.heap.size + 1 + 1, 4 * k, none⟩ (.int .u8 ((x >>> 24).toUInt8.toNat : Int))).setCell ⟨w.heap.size + 1 + 1, 4 * k + 1, none⟩ (.int .u8 ((x >>> 16).toUInt8.toNat : Int))).setCell ⟨w.heap.size + 1 + 1, 4 * k + 2, none⟩ (.int .u8 ((x >>> 8).toUInt8.toNat : Int))).setCell ⟨w.heap.size + 1 + 1, 4 * k + 3, none⟩ (.int .u8 (x.toUInt8.toNat : Int))).heap[w.heap.size + 1 + 1]? = some (.cells (S.v8 (S.dig st (k + 1))) 184 (0, 0)) := by
    rw [hx]; exact jf (jf (jf (jf r2 _ _) _ _) _ _) _ _
   have HR2 := hide R2
   have HR1 := hide r1
   have HN := hide hnx
   clear R2 r2 r1 hnx hx hl
   go_wp2
   go_roundw
   case rel =>
    simp only [shr_24, shr_16, shr_8, u8_cast]
    exact ⟨k + 1, by omega, by go_num, HR2.out, (heap_setCell_other _ _ _ _ (by simp)).trans ((heap_setCell_other _ _ _ _ (by simp)).trans ((heap_setCell_other _ _ _ _ (by simp)).trans ((heap_setCell_other _ _ _ _ (by simp)).trans HR1.out))), (((HN.out.setCell (by simp; omega) _).setCell (by simp; omega) _).setCell (by simp; omega) _).setCell (by simp; omega) _⟩
   case measure => simp [intOf]; omega
  ·obtain rfl : k = 8 := by omega
   have hs : (Tryz.prog.info? 184).map (·.size) = some (S.v8 (S.dig st 8)).size := by rw [S.aU, S.ed]; exact rF
   have ho : (S.v8 (List.replicate 32 0)).size = (S.v8 (S.dig st 8)).size := by rw [S.aU, S.aU, S.ed]; rfl
   have HR2 := hide r2
   have HR1 := hide r1
   have HN := hide hnx
   have J3 := hide ho
   have J4 := hide hs
   clear r2 r1 hnx ho hs
   go_wp2_with (first | refine wpList_load_row rfl 184 _ rfl (w.heap.size + 1 + 1) rfl 184 _ _ _ HR2.out Tryz.underlying184 rfl J4.out ?_ | refine wpList_store_row rfl 184 _ _ rfl (w.heap.size + 1) (S.v8 (S.dig st 8)) rfl rfl 184 _ HR1.out J4.out J3.out (S.jU _) ?_)
   refine bodyPost_ret (v := .agg (S.v8 (S.dig st 8))) (results_cell_row (g := w.heap.size + 1) (t := 184) (fr := (0, 0)) Tryz.results198 _ _ _ _ rfl (setRow_heap _ _ _ _ _ _ HR1.out) Tryz.underlying184 rfl J4.out) rfl ⟨rfl, below_setRow HN.out (by omega) _⟩
end Go.Proofs.YteealihknndclabGreatDoor
namespace Go.Proofs.YteealihknndclabGreatDoor
open Go.RowKit
namespace S
def gM (l : List UInt8) (n c : Nat) : Nat -> List UInt8
 | 0 => l
 | j + 1 => (gM l n c j).set (n - 1 - j) (UInt8.ofNat (c / 256 ^ j))
theorem jD (l : List UInt8) (n c j : Nat) : (gM l n c j).length = l.length := by
 induction j with
 | zero => rfl
 | succ j ih => simp [gM, ih]
def ended (n : Nat) (bs : List UInt8) (c : Nat) : List UInt8 := gM ((splice (zeros n) 0 bs).set bs.length 128) n c 8
def ending (bs : List UInt8) (c : Nat) : List UInt8 := if bs.length + 9 <= 64 then ended 64 bs c else ended 128 bs c
theorem om (n : Nat) (bs : List UInt8) (c : Nat) (h : bs.length <= n) : (ended n bs c).length = n := by
 rw [ended, jD, List.length_set, length_splice _ _ _ (by simpa [zeros_length] using h), zeros_length]
end S
theorem make64 (w : World) : (Instr.makeSlice 22 (.int .i64 64) (.int .i64 64)).run Tryz.prog w = .ok (.slice (some ⟨w.heap.size, 0, none⟩) 64 64) (w.alloc (.cells (S.v8 (S.zeros 64)) 5)) := by kernel_rfl
set_option maxHeartbeats 800000 in
set_option maxRecDepth 100000 in
theorem FY (bs : List UInt8) (hl : bs.length < 64) (hs : bs.length + 9 <= 64) (ao : Option Addr) (len cap L : Nat) (hlen : len = bs.length) (hL : 8 * L < 18446744073709551616) (w : World) (hsrc : Src w ao bs) :
  Calls Tryz.prog 197 #[.slice ao len cap, .int .u64 (L : Int)] w fun e w' => e = .returned (.slice (some ⟨w.heap.size, 0, none⟩) 64 64) /\ w'.heap[w.heap.size]? = some (.cells (S.v8 (S.ended 64 bs (8 * L))) 5 (0, 0)) /\ Below w.heap.size w w' := by
 have hmk := make64
 have q1 : (len : Int) < 64 := by omega
 have q2 : (len : Int) + 1 + 8 <= 64 := by omega
 have hcell : Hid (∀ j v, (S.v8l bs)[j]? = some v -> 0 < (S.v8l bs).length) := fun j v h => by have := (List.getElem?_eq_some_iff.1 h).1; omega
 have HS := hide hsrc
 obtain ⟨c, hc⟩ : ∃ c : Nat, c = 8 * L := ⟨_, rfl⟩
 have hw : IntKind.u64.wrap (8 * (L : Int)) = (c : Int) := by have := fA c (by omega); rw [<- this, hc]; simp
 have HC := hide hc
 have HL := hide hlen
 have HN : Hid ((S.v8l bs).length = Nat.min len 64) := by show (S.v8l bs).length = Nat.min len 64; rw [S.ae, hlen]; show _ = min _ _; omega
 have HF : Hid (0 + (S.v8l bs).length <= (S.v8l (S.zeros 64)).length) := by show 0 + (S.v8l bs).length <= (S.v8l (S.zeros 64)).length; rw [S.ae, S.ae, S.zeros_length]; omega
 clear hsrc hL hlen hc hcell
 go_enter Tryz.func197, Tryz.ntmps197
 go_wp2_with (refine wpList_copy_splice rfl (.tmp 16) (.tmp 17) 22 22 rfl 5 Tryz.underlying22 kP _ _ _ _ _ _ rfl rfl w.heap.size 0 (S.v8l (S.zeros 64)) 5 (heap_alloc_new _ _) (S.v8l bs) HN.out (eZ _ HS.out (ba ..)) HF.out (S.df _) w.heap.size w (ba ..) (lr _) ?_; intro w2 HG2 hB2; have HG3 := Ag HG2; clear HG2; have ce := bL HG3.out len (by have := HL.out; rw [length_splice _ _ _ (by rw [S.zeros_length]; omega), S.zeros_length]; omega); have cf := frozen_of_row _ _ len _ _ HG3.out)
 clear ce cf
 have hlen := HL.out
 have hrow := jf HG3.out len 128
 have hnx := hB2.setCell (p := ⟨w.heap.size, len, none⟩) (lr _) (.int .u8 ((128 : UInt8).toNat : Int))
 rw [hlen] at hrow
 obtain ⟨l0, hl0⟩ : ∃ l0 : List UInt8, l0 = (splice (S.zeros 64) 0 bs).set bs.length 128 := ⟨_, rfl⟩
 have hll : l0.length = 64 := by rw [hl0, List.length_set, length_splice _ _ _ (by rw [S.zeros_length]; omega), S.zeros_length]
 have HL0 := hide hl0
 rw [<- hl0, <- hlen] at hrow
 have hend : S.ended 64 bs (8 * L) = S.gM l0 64 c 8 := by rw [HC.out, hl0]; rfl
 have HE := hide hend
 clear hl0 hend hlen HN HF HS
 go_loopw [7, 8] (fun ct i wr => ∃ j p : Nat, p + j + 1 = 64 /\ j <= 8 /\ i = .int .i64 (p : Int) /\ ct = .int .u64 ((c / 256 ^ j : Nat) : Int) /\ wr.heap[w.heap.size]? = some (.cells (S.v8 (S.gM l0 64 c j)) 5 (0, 0)) /\ Below w.heap.size w wr)
  (fun _ i _ => (intOf i).toNat)
 case atStart => exact ⟨0, 64 - 1, by omega, by omega, rfl, by simp, hrow, hnx⟩
 case round =>
  obtain ⟨j, p, hjp, hj, rfl, rfl, r0, hnx⟩ := hrel
  by_cases hlt : j < 8
  ·obtain ⟨x, hx⟩ : ∃ x : Nat, x = c / 256 ^ j := ⟨_, rfl⟩
   have hx2 : x / 256 = c / 256 ^ (j + 1) := by rw [hx, Nat.div_div_eq_div_mul, Nat.pow_succ]
   have R1 := jf r0 p (UInt8.ofNat x)
   have hset : (S.gM l0 64 c j).set p (UInt8.ofNat x) = S.gM l0 64 c (j + 1) := by
    rw [hx]; show _ = (S.gM l0 64 c j).set (64 - 1 - j) _; rw [show 64 - 1 - j = p from by omega]
   rw [hset] at R1
   have ce := bL r0 p (by rw [S.jD, hll]; omega)
   have cf := frozen_of_row _ _ p _ _ r0
   have HR := hide R1
   have HX := hide hx2
   have HN := hide hnx
   rw [<- hx]
   have q1 : (0 : Int) <= (p : Int) := by omega
   have q2 : (p : Int) < 64 := by omega
   have q3 : (64 - 8 : Int) <= (p : Int) := by omega
   clear R1 hset r0 hx2 hnx hx hrow
   go_wp2
   go_roundw
   case rel =>
    rw [uV]
    refine ⟨j + 1, p - 1, by omega, by omega, by go_num, ?_, HR.out, HN.out.setCell (lr _) _⟩
    rw [<- HX.out]; simp
   case measure => simp [intOf]; omega
  ·obtain rfl : j = 8 := by omega
   obtain rfl : p = 64 - 9 := by omega
   have HR := hide r0
   have HN := hide hnx
   clear r0 hnx hrow
   go_wp2
   go_ret
   exact ⟨rfl, by rw [HE.out]; exact HR.out, HN.out⟩
theorem make128 (w : World) : (Instr.makeSlice 22 (.int .i64 128) (.int .i64 128)).run Tryz.prog w = .ok (.slice (some ⟨w.heap.size, 0, none⟩) 128 128) (w.alloc (.cells (S.v8 (S.zeros 128)) 5)) := by kernel_rfl
set_option maxHeartbeats 800000 in
set_option maxRecDepth 100000 in
theorem C9 (bs : List UInt8) (hl : bs.length < 64) (hs : 64 < bs.length + 9) (ao : Option Addr) (len cap L : Nat) (hlen : len = bs.length) (hL : 8 * L < 18446744073709551616) (w : World) (hsrc : Src w ao bs) :
  Calls Tryz.prog 197 #[.slice ao len cap, .int .u64 (L : Int)] w fun e w' => e = .returned (.slice (some ⟨w.heap.size, 0, none⟩) 128 128) /\ w'.heap[w.heap.size]? = some (.cells (S.v8 (S.ended 128 bs (8 * L))) 5 (0, 0)) /\ Below w.heap.size w w' := by
 have hmk := make128
 have q1 : (len : Int) < 64 := by omega
 have q2 : (64 : Int) < (len : Int) + 1 + 8 := by omega
 have hcell : Hid (∀ j v, (S.v8l bs)[j]? = some v -> 0 < (S.v8l bs).length) := fun j v h => by have := (List.getElem?_eq_some_iff.1 h).1; omega
 have HS := hide hsrc
 obtain ⟨c, hc⟩ : ∃ c : Nat, c = 8 * L := ⟨_, rfl⟩
 have hw : IntKind.u64.wrap (8 * (L : Int)) = (c : Int) := by have := fA c (by omega); rw [<- this, hc]; simp
 have HC := hide hc
 have HL := hide hlen
 have HN : Hid ((S.v8l bs).length = Nat.min len 128) := by show (S.v8l bs).length = Nat.min len 128; rw [S.ae, hlen]; show _ = min _ _; omega
 have HF : Hid (0 + (S.v8l bs).length <= (S.v8l (S.zeros 128)).length) := by show 0 + (S.v8l bs).length <= (S.v8l (S.zeros 128)).length; rw [S.ae, S.ae, S.zeros_length]; omega
 clear hsrc hL hlen hc hcell
 go_enter Tryz.func197, Tryz.ntmps197
 go_wp2_with (refine wpList_copy_splice rfl (.tmp 16) (.tmp 17) 22 22 rfl 5 Tryz.underlying22 kP _ _ _ _ _ _ rfl rfl w.heap.size 0 (S.v8l (S.zeros 128)) 5 (heap_alloc_new _ _) (S.v8l bs) HN.out (eZ _ HS.out (ba ..)) HF.out (S.df _) w.heap.size w (ba ..) (lr _) ?_; intro w2 HG2 hB2; have HG3 := Ag HG2; clear HG2; have ce := bL HG3.out len (by have := HL.out; rw [length_splice _ _ _ (by rw [S.zeros_length]; omega), S.zeros_length]; omega); have cf := frozen_of_row _ _ len _ _ HG3.out)
 clear ce cf
 have hlen := HL.out
 have hrow := jf HG3.out len 128
 have hnx := hB2.setCell (p := ⟨w.heap.size, len, none⟩) (lr _) (.int .u8 ((128 : UInt8).toNat : Int))
 rw [hlen] at hrow
 obtain ⟨l0, hl0⟩ : ∃ l0 : List UInt8, l0 = (splice (S.zeros 128) 0 bs).set bs.length 128 := ⟨_, rfl⟩
 have hll : l0.length = 128 := by rw [hl0, List.length_set, length_splice _ _ _ (by rw [S.zeros_length]; omega), S.zeros_length]
 have HL0 := hide hl0
 rw [<- hl0, <- hlen] at hrow
 have hend : S.ended 128 bs (8 * L) = S.gM l0 128 c 8 := by rw [HC.out, hl0]; rfl
 have HE := hide hend
 clear hl0 hend hlen HN HF HS
 go_loopw [7, 8] (fun ct i wr => ∃ j p : Nat, p + j + 1 = 128 /\ j <= 8 /\ i = .int .i64 (p : Int) /\ ct = .int .u64 ((c / 256 ^ j : Nat) : Int) /\ wr.heap[w.heap.size]? = some (.cells (S.v8 (S.gM l0 128 c j)) 5 (0, 0)) /\ Below w.heap.size w wr)
  (fun _ i _ => (intOf i).toNat)
 case atStart => exact ⟨0, 128 - 1, by omega, by omega, rfl, by simp, hrow, hnx⟩
 case round =>
  obtain ⟨j, p, hjp, hj, rfl, rfl, r0, hnx⟩ := hrel
  by_cases hlt : j < 8
  ·obtain ⟨x, hx⟩ : ∃ x : Nat, x = c / 256 ^ j := ⟨_, rfl⟩
   have hx2 : x / 256 = c / 256 ^ (j + 1) := by rw [hx, Nat.div_div_eq_div_mul, Nat.pow_succ]
   have R1 := jf r0 p (UInt8.ofNat x)
   have hset : (S.gM l0 128 c j).set p (UInt8.ofNat x) = S.gM l0 128 c (j + 1) := by
    rw [hx]; show _ = (S.gM l0 128 c j).set (128 - 1 - j) _; rw [show 128 - 1 - j = p from by omega]
   rw [hset] at R1
   have ce := bL r0 p (by rw [S.jD, hll]; omega)
   have cf := frozen_of_row _ _ p _ _ r0
   have HR := hide R1
   have HX := hide hx2
   have HN := hide hnx
   rw [<- hx]
   have q1 : (0 : Int) <= (p : Int) := by omega
   have q2 : (p : Int) < 128 := by omega
   have q3 : (128 - 8 : Int) <= (p : Int) := by omega
   clear R1 hset r0 hx2 hnx hx hrow
   go_wp2
   go_roundw
   case rel =>
    rw [uV]
    refine ⟨j + 1, p - 1, by omega, by omega, by go_num, ?_, HR.out, HN.out.setCell (lr _) _⟩
    rw [<- HX.out]; simp
   case measure => simp [intOf]; omega
  ·obtain rfl : j = 8 := by omega
   obtain rfl : p = 128 - 9 := by omega
   have HR := hide r0
   have HN := hide hnx
   clear r0 hnx hrow
   go_wp2
   go_ret
   exact ⟨rfl, by rw [HE.out]; exact HR.out, HN.out⟩
end Go.Proofs.YteealihknndclabGreatDoor
