/- One block: of a state of eight words and a block of 64 bytes in memory, compress answers the state of the Lean function, and changes nothing that was there. -/
import Derived.Test.YtlbggkmblkhjoaaDoorSched
namespace Go.Proofs.YtlbggkmblkhjoaaDoor
open Go.RowKit
namespace S
structure R8 where
  a : UInt32
  b : UInt32
  c : UInt32
  d : UInt32
  e : UInt32
  f : UInt32
  g : UInt32
  h : UInt32
def K : List UInt32 := [1116352408, 1899447441, 3049323471, 3921009573, 961987163, 1508970993, 2453635748, 2870763221, 3624381080, 310598401, 607225278, 1426881987, 1925078388, 2162078206, 2614888103, 3248222580, 3835390401, 4022224774, 264347078, 604807628, 770255983, 1249150122, 1555081692, 1996064986, 2554220882, 2821834349, 2952996808, 3210313671, 3336571891, 3584528711, 113926993, 338241895, 666307205, 773529912, 1294757372, 1396182291, 1695183700, 1986661051, 2177026350, 2456956037, 2730485921, 2820302411, 3259730800, 3345764771, 3516065817, 3600352804, 4094571909, 275423344, 430227734, 506948616, 659060556, 883997877, 958139571, 1322822218, 1537002063, 1747873779, 1955562222, 2024104815, 2227730452, 2361852424, 2428436474, 2756734187, 3204031479, 3329325298]
def t1 (s : R8) (k w : UInt32) : UInt32 := s.h + bs1 s.e + ch s.e s.f s.g + k + w
def t2 (s : R8) : UInt32 := bs0 s.a + maj s.a s.b s.c
def round (s : R8) (k w : UInt32) : R8 := ⟨t1 s k w + t2 s, s.a, s.b, s.c, s.d + t1 s k w, s.e, s.f, s.g⟩
def rounds (ws : List UInt32) (s : R8) : Nat → R8
  | 0 => s
  | k + 1 => round (rounds ws s k) (K.getD k 0) (ws.getD k 0)
def toR (l : List UInt32) : R8 := ⟨l.getD 0 0, l.getD 1 0, l.getD 2 0, l.getD 3 0, l.getD 4 0, l.getD 5 0, l.getD 6 0, l.getD 7 0⟩
def addR (l s : R8) : List UInt32 := [l.a + s.a, l.b + s.b, l.c + s.c, l.d + s.d, l.e + s.e, l.f + s.f, l.g + s.g, l.h + s.h]
def comp (st : List UInt32) (bs : List UInt8) : List UInt32 := addR (toR st) (rounds (sched bs) (toR st) 64)
end S
theorem size49 : (Tryd.prog.info? 87).map (·.size) = some 8 := by kernel_rfl
theorem wpList_build_to {P : Program} {ops : Array Oper} {rest : List Oper} {o : Oper} {a : Act} {w : World} {Q : Exit → Act → World → Prop} (hg : o.guard = none) (t : TypeId) (parts : Array (Nat × Operand)) (ho : o.op = .build t parts) (cs : Array Value)
    (hf : P.built t (parts.map fun (i, x) => (i, a.eval x)).toList = some cs) (h : wpList P ops Q rest (a.put o.dst (.agg cs)) w) : wpList P ops Q (o :: rest) a w :=
  wpList_build hg t parts ho (by rw [hf]; rfl) (by rw [hf]; exact h)
theorem t1_cast (r : S.R8) (k w : UInt32) : ((r.h.toNat : Int) + ((S.bs1 r.e).toNat : Int) + ((S.ch r.e r.f r.g).toNat : Int) + (k.toNat : Int) + (w.toNat : Int)) % (4294967296 : Int) = ((S.t1 r k w).toNat : Int) := by
  simp only [S.t1, UInt32.toNat_add]; omega
theorem t2_cast (r : S.R8) : (((S.bs0 r.a).toNat : Int) + ((S.maj r.a r.b r.c).toNat : Int)) % (4294967296 : Int) = ((S.t2 r).toNat : Int) := by
  simp only [S.t2, UInt32.toNat_add]; omega
set_option maxHeartbeats 800000 in
set_option maxRecDepth 100000 in
theorem compress_any (st : List UInt32) (hst : st.length = 8) (b off cap : Nat) (bs : List UInt8) (w : World) (hb : b < w.heap.size) (hK : ∀ j, j < 64 → w.cell? ⟨0, j, none⟩ = some (.int .u32 ((S.K.getD j 0).toNat : Int)))
    (hc : ∀ j, j < 64 → w.cell? ⟨b, off + j, none⟩ = some (.int .u8 ((bs.getD j 0).toNat : Int))) :
   Calls Tryd.prog 75 #[.agg (S.v32 st), .slice (some ⟨b, off, none⟩) 64 cap] w fun e w' => e = .returned (.agg (S.v32 (S.comp st bs))) ∧ Below w.heap.size w w' := by
  go_enter Tryd.func75, Tryd.ntmps75
  go_wp2_with fail
  refine (schedule_any b off cap bs _ (by simp; omega) (fun j hj => by
    rw [World.cell?_alloc_past _ _ _ (by simp; omega), World.cell?_alloc_past _ _ _ hb]; exact hc j hj)).mono ?_
  rintro e w1 ⟨rfl, hb1⟩
  have hl := S.sched_length bs
  have hz1 : w.heap.size + 2 ≤ w1.heap.size := by have := hb1.size; simp at this; omega
  have a0 : w1.heap[w.heap.size]? = some (.cells (S.v32 st) 87 (0, 0)) := (hb1.block _ (by simp; omega)).trans (heap_alloc2_old _ _ _)
  have a1 : w1.heap[w.heap.size + 1]? = some (.cells (S.v32 (List.replicate 8 0)) 87 (0, 0)) := (hb1.block _ (by simp)).trans (heap_alloc2_new _ _ _)
  have hnx1 : Below w.heap.size w w1 := (((Below.refl _ _).alloc (Nat.le_refl _) _).alloc (by simp) _).trans (hb1.mono (by simp; omega))
  have hs : (Tryd.prog.info? 95).map (·.size) = some (S.v32 (S.sched bs)).size := by rw [S.v32_size, hl]; exact size52
  clear hb1
  go_wp2_with (refine wpList_store_row rfl 95 _ _ rfl w1.heap.size _ rfl rfl 95 _ (heap_alloc_new _ _) hs (by rw [S.v32_size, hl]; rfl) (S.v32_one _) ?_)
  simp only [Act.put]
  generalize hW2 : (w1.alloc _).setRow w1.heap.size (S.v32 (S.sched bs)) = W2
  have r2 : W2.heap[w1.heap.size]? = some (.cells (S.v32 (S.sched bs)) 95 (0, 0)) := by rw [← hW2]; exact setRow_heap _ _ _ _ _ _ (heap_alloc_new _ _)
  have r0 : W2.heap[w.heap.size]? = some (.cells (S.v32 st) 87 (0, 0)) := by rw [← hW2]; exact (setRow_other _ _ _ _ (by omega)).trans ((heap_alloc_old _ _ (by omega)).trans a0)
  have r1 : W2.heap[w.heap.size + 1]? = some (.cells (S.v32 (List.replicate 8 0)) 87 (0, 0)) := by rw [← hW2]; exact (setRow_other _ _ _ _ (by omega)).trans ((heap_alloc_old _ _ (by omega)).trans a1)
  have hnx : Below w.heap.size w W2 := by rw [← hW2]; exact below_setRow (hnx1.alloc (by omega) _) (by omega) _
  clear hW2 a0 a1 hnx1 hs
  generalize w1.heap.size = g1 at *
  clear w1
  obtain ⟨s, hs0⟩ : ∃ s : S.R8, s = S.toR st := ⟨_, rfl⟩
  have c0 : W2.cell? ⟨w.heap.size, 0, none⟩ = some (.int .u32 (s.a.toNat : Int)) := by rw [hs0]; exact v32_cell r0 0 (by omega)
  have c1 : W2.cell? ⟨w.heap.size, 1, none⟩ = some (.int .u32 (s.b.toNat : Int)) := by rw [hs0]; exact v32_cell r0 1 (by omega)
  have c2 : W2.cell? ⟨w.heap.size, 2, none⟩ = some (.int .u32 (s.c.toNat : Int)) := by rw [hs0]; exact v32_cell r0 2 (by omega)
  have c3 : W2.cell? ⟨w.heap.size, 3, none⟩ = some (.int .u32 (s.d.toNat : Int)) := by rw [hs0]; exact v32_cell r0 3 (by omega)
  have c4 : W2.cell? ⟨w.heap.size, 4, none⟩ = some (.int .u32 (s.e.toNat : Int)) := by rw [hs0]; exact v32_cell r0 4 (by omega)
  have c5 : W2.cell? ⟨w.heap.size, 5, none⟩ = some (.int .u32 (s.f.toNat : Int)) := by rw [hs0]; exact v32_cell r0 5 (by omega)
  have c6 : W2.cell? ⟨w.heap.size, 6, none⟩ = some (.int .u32 (s.g.toNat : Int)) := by rw [hs0]; exact v32_cell r0 6 (by omega)
  have c7 : W2.cell? ⟨w.heap.size, 7, none⟩ = some (.int .u32 (s.h.toNat : Int)) := by rw [hs0]; exact v32_cell r0 7 (by omega)
  have HS := hide hs0
  have H0 := hide r0
  have H1 := hide r1
  have H2 := hide r2
  have H3 := hide hnx
  have H4 := hide hK
  have h0 : 0 < w.heap.size := block_lt_of_cell (hK 0 (by omega))
  clear r0 r1 r2 hnx hc hK hs0
  go_quiet (fail)
  go_wp2
  go_quiet (fail)
  go_wp2
  clear c0 c1 c2 c3 c4 c5 c6 c7
  go_loopw [6, 7, 8, 9, 10, 11, 12, 13, 35] (fun xa xb xc xd xe xf xg xh i wr => ∃ k : Nat, k ≤ 64 ∧ i = .int .i64 k ∧ (∃ r : S.R8, r = S.rounds (S.sched bs) s k ∧ xa = .int .u32 (r.a.toNat : Int) ∧ xb = .int .u32 (r.b.toNat : Int) ∧ xc = .int .u32 (r.c.toNat : Int) ∧ xd = .int .u32 (r.d.toNat : Int) ∧ xe = .int .u32 (r.e.toNat : Int) ∧ xf = .int .u32 (r.f.toNat : Int) ∧ xg = .int .u32 (r.g.toNat : Int) ∧ xh = .int .u32 (r.h.toNat : Int)) ∧ wr.heap = W2.heap ∧ Below w.heap.size w wr)
    (fun _ _ _ _ _ _ _ _ i _ => 64 - (intOf i).toNat)
  case atStart => exact ⟨0, by omega, rfl, ⟨s, rfl, rfl, rfl, rfl, rfl, rfl, rfl, rfl, rfl⟩, rfl, (below_drewN (below_drewN H3.out _) _)⟩
  case round =>
    obtain ⟨k, hk, rfl, ⟨r, hr, rfl, rfl, rfl, rfl, rfl, rfl, rfl, rfl⟩, hheap, hnx⟩ := hrel
    by_cases hlt : k < 64
    · obtain ⟨kt, hkt⟩ : ∃ kt : UInt32, kt = S.K.getD k 0 := ⟨_, rfl⟩
      obtain ⟨wt, hwt⟩ : ∃ wt : UInt32, wt = (S.sched bs).getD k 0 := ⟨_, rfl⟩
      have cK : wr.cell? ⟨0, k, none⟩ = some (.int .u32 (kt.toNat : Int)) := by rw [hkt]; exact (hnx.cell (by exact h0)).trans (H4.out k hlt)
      have r2 : wr.heap[g1]? = some (.cells (S.v32 (S.sched bs)) 95 (0, 0)) := by rw [hheap]; exact H2.out
      have cW : wr.cell? ⟨g1, k, none⟩ = some (.int .u32 (wt.toNat : Int)) := by rw [hwt]; exact v32_cell r2 k (by omega)
      have hr1 : S.rounds (S.sched bs) s (k + 1) = S.round r kt wt := by rw [hr, hkt, hwt]; rfl
      have G0 := hide hr1
      have G1 := hide hheap
      have G2 := hide hnx
      have q1 : (0 : Int) ≤ (k : Int) := by omega
      have q2 : (k : Int) < 64 := by omega
      clear hr hkt hwt r2 hr1 hheap hnx
      go_wp2
      go_quiet ((first | (go_at_call 79; exact Calls.quiet_of_same (bs1_any _ _)) | (go_at_call 80; exact Calls.quiet_of_same (ch_any _ _ _ _))))
      go_wp2_with (first | (go_at_call 81; refine (bs0_any _ _).mono ?_; rintro e w' ⟨rfl, rfl⟩) | (go_at_call 82; refine (maj_any _ _ _ _).mono ?_; rintro e w' ⟨rfl, rfl⟩))
      go_roundw
      case rel =>
        rw [t1_cast, t2_cast, u32_add_cast, u32_add_cast]
        exact ⟨k + 1, by omega, by go_num, ⟨_, G0.out.symm, rfl, rfl, rfl, rfl, rfl, rfl, rfl, rfl⟩, G1.out, below_drewN G2.out _⟩
      case measure => simp [intOf]; omega
    · obtain rfl : k = 64 := by omega
      have r0 : wr.heap[w.heap.size]? = some (.cells (S.v32 st) 87 (0, 0)) := by rw [hheap]; exact H0.out
      have r1 : wr.heap[w.heap.size + 1]? = some (.cells (S.v32 (List.replicate 8 0)) 87 (0, 0)) := by rw [hheap]; exact H1.out
      have hs0 := HS.out
      have c0 : wr.cell? ⟨w.heap.size, 0, none⟩ = some (.int .u32 (s.a.toNat : Int)) := by rw [hs0]; exact v32_cell r0 0 (by omega)
      have c1 : wr.cell? ⟨w.heap.size, 1, none⟩ = some (.int .u32 (s.b.toNat : Int)) := by rw [hs0]; exact v32_cell r0 1 (by omega)
      have c2 : wr.cell? ⟨w.heap.size, 2, none⟩ = some (.int .u32 (s.c.toNat : Int)) := by rw [hs0]; exact v32_cell r0 2 (by omega)
      have c3 : wr.cell? ⟨w.heap.size, 3, none⟩ = some (.int .u32 (s.d.toNat : Int)) := by rw [hs0]; exact v32_cell r0 3 (by omega)
      have c4 : wr.cell? ⟨w.heap.size, 4, none⟩ = some (.int .u32 (s.e.toNat : Int)) := by rw [hs0]; exact v32_cell r0 4 (by omega)
      have c5 : wr.cell? ⟨w.heap.size, 5, none⟩ = some (.int .u32 (s.f.toNat : Int)) := by rw [hs0]; exact v32_cell r0 5 (by omega)
      have c6 : wr.cell? ⟨w.heap.size, 6, none⟩ = some (.int .u32 (s.g.toNat : Int)) := by rw [hs0]; exact v32_cell r0 6 (by omega)
      have c7 : wr.cell? ⟨w.heap.size, 7, none⟩ = some (.int .u32 (s.h.toNat : Int)) := by rw [hs0]; exact v32_cell r0 7 (by omega)
      have hcomp : S.comp st bs = S.addR s r := by rw [hr, hs0]; rfl
      have G1 := hide r1
      have G2 := hide hnx
      have G3 := hide hcomp
      clear r0 r1 hs0 hheap hnx hcomp hr
      have b1 : (#[.int .u32 (((s.a.toNat : Int) + (r.a.toNat : Int)) % (4294967296 : Int)), .int .u32 (((s.b.toNat : Int) + (r.b.toNat : Int)) % (4294967296 : Int)), .int .u32 (((s.c.toNat : Int) + (r.c.toNat : Int)) % (4294967296 : Int)), .int .u32 (((s.d.toNat : Int) + (r.d.toNat : Int)) % (4294967296 : Int)), .int .u32 (((s.e.toNat : Int) + (r.e.toNat : Int)) % (4294967296 : Int)), .int .u32 (((s.f.toNat : Int) + (r.f.toNat : Int)) % (4294967296 : Int)), .int .u32 (((s.g.toNat : Int) + (r.g.toNat : Int)) % (4294967296 : Int)), .int .u32 (((s.h.toNat : Int) + (r.h.toNat : Int)) % (4294967296 : Int))] : Array Value).all (·.oneCell') = true := by simp [Value.oneCell']
      have b2 : (S.v32 (List.replicate 8 0)).size = (#[.int .u32 (((s.a.toNat : Int) + (r.a.toNat : Int)) % (4294967296 : Int)), .int .u32 (((s.b.toNat : Int) + (r.b.toNat : Int)) % (4294967296 : Int)), .int .u32 (((s.c.toNat : Int) + (r.c.toNat : Int)) % (4294967296 : Int)), .int .u32 (((s.d.toNat : Int) + (r.d.toNat : Int)) % (4294967296 : Int)), .int .u32 (((s.e.toNat : Int) + (r.e.toNat : Int)) % (4294967296 : Int)), .int .u32 (((s.f.toNat : Int) + (r.f.toNat : Int)) % (4294967296 : Int)), .int .u32 (((s.g.toNat : Int) + (r.g.toNat : Int)) % (4294967296 : Int)), .int .u32 (((s.h.toNat : Int) + (r.h.toNat : Int)) % (4294967296 : Int))] : Array Value).size := by simp [S.v32]
      have b3 : (Tryd.prog.info? 87).map (·.size) = some (#[.int .u32 (((s.a.toNat : Int) + (r.a.toNat : Int)) % (4294967296 : Int)), .int .u32 (((s.b.toNat : Int) + (r.b.toNat : Int)) % (4294967296 : Int)), .int .u32 (((s.c.toNat : Int) + (r.c.toNat : Int)) % (4294967296 : Int)), .int .u32 (((s.d.toNat : Int) + (r.d.toNat : Int)) % (4294967296 : Int)), .int .u32 (((s.e.toNat : Int) + (r.e.toNat : Int)) % (4294967296 : Int)), .int .u32 (((s.f.toNat : Int) + (r.f.toNat : Int)) % (4294967296 : Int)), .int .u32 (((s.g.toNat : Int) + (r.g.toNat : Int)) % (4294967296 : Int)), .int .u32 (((s.h.toNat : Int) + (r.h.toNat : Int)) % (4294967296 : Int))] : Array Value).size := by rw [size49]; rfl
      have B1 := hide b1
      have B2 := hide b2
      have B3 := hide b3
      clear b1 b2 b3
      go_wp2_with (first | refine wpList_build_to rfl 87 _ rfl (#[.int .u32 (((s.a.toNat : Int) + (r.a.toNat : Int)) % (4294967296 : Int)), .int .u32 (((s.b.toNat : Int) + (r.b.toNat : Int)) % (4294967296 : Int)), .int .u32 (((s.c.toNat : Int) + (r.c.toNat : Int)) % (4294967296 : Int)), .int .u32 (((s.d.toNat : Int) + (r.d.toNat : Int)) % (4294967296 : Int)), .int .u32 (((s.e.toNat : Int) + (r.e.toNat : Int)) % (4294967296 : Int)), .int .u32 (((s.f.toNat : Int) + (r.f.toNat : Int)) % (4294967296 : Int)), .int .u32 (((s.g.toNat : Int) + (r.g.toNat : Int)) % (4294967296 : Int)), .int .u32 (((s.h.toNat : Int) + (r.h.toNat : Int)) % (4294967296 : Int))]) (by kernel_rfl) ?_ | refine wpList_store_row rfl 87 _ _ rfl (w.heap.size + 1) (#[.int .u32 (((s.a.toNat : Int) + (r.a.toNat : Int)) % (4294967296 : Int)), .int .u32 (((s.b.toNat : Int) + (r.b.toNat : Int)) % (4294967296 : Int)), .int .u32 (((s.c.toNat : Int) + (r.c.toNat : Int)) % (4294967296 : Int)), .int .u32 (((s.d.toNat : Int) + (r.d.toNat : Int)) % (4294967296 : Int)), .int .u32 (((s.e.toNat : Int) + (r.e.toNat : Int)) % (4294967296 : Int)), .int .u32 (((s.f.toNat : Int) + (r.f.toNat : Int)) % (4294967296 : Int)), .int .u32 (((s.g.toNat : Int) + (r.g.toNat : Int)) % (4294967296 : Int)), .int .u32 (((s.h.toNat : Int) + (r.h.toNat : Int)) % (4294967296 : Int))]) rfl rfl 87 _ G1.out B3.out B2.out B1.out ?_)
      refine bodyPost_ret (v := .agg (#[.int .u32 (((s.a.toNat : Int) + (r.a.toNat : Int)) % (4294967296 : Int)), .int .u32 (((s.b.toNat : Int) + (r.b.toNat : Int)) % (4294967296 : Int)), .int .u32 (((s.c.toNat : Int) + (r.c.toNat : Int)) % (4294967296 : Int)), .int .u32 (((s.d.toNat : Int) + (r.d.toNat : Int)) % (4294967296 : Int)), .int .u32 (((s.e.toNat : Int) + (r.e.toNat : Int)) % (4294967296 : Int)), .int .u32 (((s.f.toNat : Int) + (r.f.toNat : Int)) % (4294967296 : Int)), .int .u32 (((s.g.toNat : Int) + (r.g.toNat : Int)) % (4294967296 : Int)), .int .u32 (((s.h.toNat : Int) + (r.h.toNat : Int)) % (4294967296 : Int))])) (results_cell_row (g := w.heap.size + 1) (t := 87) (fr := (0, 0)) Tryd.results75 _ _ _ _ rfl (setRow_heap _ _ _ _ _ _ G1.out) Tryd.underlying87 rfl B3.out) rfl ⟨?_, below_setRow G2.out (by omega) _⟩
      rw [G3.out]
      simp only [u32_add_cast]
      rfl
end Go.Proofs.YtlbggkmblkhjoaaDoor
