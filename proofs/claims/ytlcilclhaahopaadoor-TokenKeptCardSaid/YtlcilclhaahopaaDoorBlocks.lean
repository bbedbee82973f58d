/- One block: of a state of eight words and a block of 64 bytes in memory, compress answers the state of the Lean function, and changes nothing that was there. -/
import Derived.Test.YtlcilclhaahopaaDoorSched
import Derived.StillTailTactics
namespace Go.Proofs.YtlcilclhaahopaaDoor
open Go.RowKit
namespace S
structure R8 where
  a : UInt32
  b : UInt32
  c : UInt32
  d : UInt32
  e : UInt32
  f : UInt32
  g : UInt32
  h : UInt32
def K : List UInt32 := [1116352408, 1899447441, 3049323471, 3921009573, 961987163, 1508970993, 2453635748, 2870763221, 3624381080, 310598401, 607225278, 1426881987, 1925078388, 2162078206, 2614888103, 3248222580, 3835390401, 4022224774, 264347078, 604807628, 770255983, 1249150122, 1555081692, 1996064986, 2554220882, 2821834349, 2952996808, 3210313671, 3336571891, 3584528711, 113926993, 338241895, 666307205, 773529912, 1294757372, 1396182291, 1695183700, 1986661051, 2177026350, 2456956037, 2730485921, 2820302411, 3259730800, 3345764771, 3516065817, 3600352804, 4094571909, 275423344, 430227734, 506948616, 659060556, 883997877, 958139571, 1322822218, 1537002063, 1747873779, 1955562222, 2024104815, 2227730452, 2361852424, 2428436474, 2756734187, 3204031479, 3329325298]
def t1 (s : R8) (k w : UInt32) : UInt32 := s.h + bs1 s.e + ch s.e s.f s.g + k + w
def t2 (s : R8) : UInt32 := bs0 s.a + maj s.a s.b s.c
def round (s : R8) (k w : UInt32) : R8 := ⟨t1 s k w + t2 s, s.a, s.b, s.c, s.d + t1 s k w, s.e, s.f, s.g⟩
def rounds (ws : List UInt32) (s : R8) : Nat → R8
  | 0 => s
  | k + 1 => round (rounds ws s k) (K.getD k 0) (ws.getD k 0)
def toR (l : List UInt32) : R8 := ⟨l.getD 0 0, l.getD 1 0, l.getD 2 0, l.getD 3 0, l.getD 4 0, l.getD 5 0, l.getD 6 0, l.getD 7 0⟩
def addR (l s : R8) : List UInt32 := [l.a + s.a, l.b + s.b, l.c + s.c, l.d + s.d, l.e + s.e, l.f + s.f, l.g + s.g, l.h + s.h]
def comp (st : List UInt32) (bs : List UInt8) : List UInt32 := addR (toR st) (rounds (sched bs) (toR st) 64)
end S
theorem size49 : (Tryd.prog.info? 101).map (·.size) = some 8 := by kernel_rfl
theorem wpList_build_to {P : Program} {ops : Array Oper} {rest : List Oper} {o : Oper} {a : Act} {w : World} {Q : Exit → Act → World → Prop} (hg : o.guard = none) (t : TypeId) (parts : Array (Nat × Operand)) (ho : o.op = .build t parts) (cs : Array Value)
    (hf : P.built t (parts.map fun (i, x) => (i, a.eval x)).toList = some cs) (h : wpList P ops Q rest (a.put o.dst (.agg cs)) w) : wpList P ops Q (o :: rest) a w :=
  wpList_build hg t parts ho (by rw [hf]; rfl) (by rw [hf]; exact h)
theorem t1_cast (r : S.R8) (k w : UInt32) : ((r.h.toNat : Int) + ((S.bs1 r.e).toNat : Int) + ((S.ch r.e r.f r.g).toNat : Int) + (k.toNat : Int) + (w.toNat : Int)) % (4294967296 : Int) = ((S.t1 r k w).toNat : Int) := by
  simp only [S.t1, UInt32.toNat_add]; omega
theorem t2_cast (r : S.R8) : (((S.bs0 r.a).toNat : Int) + ((S.maj r.a r.b r.c).toNat : Int)) % (4294967296 : Int) = ((S.t2 r).toNat : Int) := by
  simp only [S.t2, UInt32.toNat_add]; omega
set_option maxHeartbeats 800000 in
set_option maxRecDepth 100000 in
theorem compress_any (st : List UInt32) (hst : st.length = 8) (b off cap : Nat) (bs : List UInt8) (w : World) (hb : b < w.heap.size) (hK : ∀ j, j < 64 → w.cell? ⟨0, j, none⟩ = some (.int .u32 ((S.K.getD j 0).toNat : Int)))
    (hc : ∀ j, j < 64 → w.cell? ⟨b, off + j, none⟩ = some (.int .u8 ((bs.getD j 0).toNat : Int))) :
   Calls Tryd.prog 86 #[.agg (S.v32 st), .slice (some ⟨b, off, none⟩) 64 cap] w fun e w' => e = .returned (.agg (S.v32 (S.comp st bs))) ∧ Below w.heap.size w w' := by
  go_enter Tryd.func86, Tryd.ntmps86
  go_wp2_with fail
  refine (schedule_any b off cap bs _ (by simp; omega) (fun j hj => by
    rw [World.cell?_alloc_past _ _ _ (by simp; omega), World.cell?_alloc_past _ _ _ hb]; exact hc j hj)).mono ?_
  rintro e w1 ⟨rfl, hb1⟩
  have hl := S.sched_length bs
  have hz1 : w.heap.size + 2 ≤ w1.heap.size := by have := hb1.size; simp at this; omega
  have a0 : w1.heap[w.heap.size]? = some (.cells (S.v32 st) 101 (0, 0)) := (hb1.block _ (by simp; omega)).trans (heap_alloc2_old _ _ _)
  have a1 : w1.heap[w.heap.size + 1]? = some (.cells (S.v32 (List.replicate 8 0)) 101 (0, 0)) := (hb1.block _ (by simp)).trans (heap_alloc2_new _ _ _)
  have hnx1 : Below w.heap.size w w1 := (((Below.refl _ _).alloc (Nat.le_refl _) _).alloc (by simp) _).trans (hb1.mono (by simp; omega))
  have hs : (Tryd.prog.info? 100).map (·.size) = some (S.v32 (S.sched bs)).size := by rw [S.v32_size, hl]; exact size52
  clear hb1
  go_wp2_with (refine wpList_store_row rfl 100 _ _ rfl w1.heap.size _ rfl rfl 100 _ (heap_alloc_new _ _) hs (by rw [S.v32_size, hl]; rfl) (S.v32_one _) ?_)
  simp only [Act.put]
  generalize hW2 : (w1.alloc _).setRow w1.heap.size (S.v32 (S.sched bs)) = W2
  have r2 : W2.heap[w1.heap.size]? = some (.cells (S.v32 (S.sched bs)) 100 (0, 0)) := by rw [← hW2]; exact setRow_heap _ _ _ _ _ _ (heap_alloc_new _ _)
  have r0 : W2.heap[w.heap.size]? = some (.cells (S.v32 st) 101 (0, 0)) := by rw [← hW2]; exact (setRow_other _ _ _ _ (by omega)).trans ((heap_alloc_old _ _ (by omega)).trans a0)
  have r1 : W2.heap[w.heap.size + 1]? = some (.cells (S.v32 (List.replicate 8 0)) 101 (0, 0)) := by rw [← hW2]; exact (setRow_other _ _ _ _ (by omega)).trans ((heap_alloc_old _ _ (by omega)).trans a1)
  have hnx : Below w.heap.size w W2 := by rw [← hW2]; exact below_setRow (hnx1.alloc (by omega) _) (by omega) _
  clear hW2 a0 a1 hnx1 hs
  generalize w1.heap.size = g1 at *
  clear w1
  obtain ⟨s, hs0⟩ : ∃ s : S.R8, s = S.toR st := ⟨_, rfl⟩
  have c0 : W2.cell? ⟨w.heap.size, 0, none⟩ = some (.int .u32 (s.a.toNat : Int)) := by rw [hs0]; exact v32_cell r0 0 (by omega)
  have c1 : W2.cell? ⟨w.heap.size, 1, none⟩ = some (.int .u32 (s.b.toNat : Int)) := by rw [hs0]; exact v32_cell r0 1 (by omega)
  have c2 : W2.cell? ⟨w.heap.size, 2, none⟩ = some (.int .u32 (s.c.toNat : Int)) := by rw [hs0]; exact v32_cell r0 2 (by omega)
  have c3 : W2.cell? ⟨w.heap.size, 3, none⟩ = some (.int .u32 (s.d.toNat : Int)) := by rw [hs0]; exact v32_cell r0 3 (by omega)
  have c4 : W2.cell? ⟨w.heap.size, 4, none⟩ = some (.int .u32 (s.e.toNat : Int)) := by rw [hs0]; exact v32_cell r0 4 (by omega)
  have c5 : W2.cell? ⟨w.heap.size, 5, none⟩ = some (.int .u32 (s.f.toNat : Int)) := by rw [hs0]; exact v32_cell r0 5 (by omega)
  have c6 : W2.cell? ⟨w.heap.size, 6, none⟩ = some (.int .u32 (s.g.toNat : Int)) := by rw [hs0]; exact v32_cell r0 6 (by omega)
  have c7 : W2.cell? ⟨w.heap.size, 7, none⟩ = some (.int .u32 (s.h.toNat : Int)) := by rw [hs0]; exact v32_cell r0 7 (by omega)
  have HS := hide hs0
  have H0 := hide r0
  have H1 := hide r1
  have H2 := hide r2
  have H3 := hide hnx
  have H4 := hide hK
  have h0 : 0 < w.heap.size := block_lt_of_cell (hK 0 (by omega))
  clear r0 r1 r2 hnx hc hK hs0
  go_quiet (fail)
  go_wp2
  go_quiet (fail)
  go_wp2
  clear c0 c1 c2 c3 c4 c5 c6 c7
  go_loopw [6, 7, 8, 9, 10, 11, 12, 13, 35] (fun xa xb xc xd xe xf xg xh i wr => ∃ k : Nat, k ≤ 64 ∧ i = .int .i64 k ∧ (∃ r : S.R8, r = S.rounds (S.sched bs) s k ∧ xa = .int .u32 (r.a.toNat : Int) ∧ xb = .int .u32 (r.b.toNat : Int) ∧ xc = .int .u32 (r.c.toNat : Int) ∧ xd = .int .u32 (r.d.toNat : Int) ∧ xe = .int .u32 (r.e.toNat : Int) ∧ xf = .int .u32 (r.f.toNat : Int) ∧ xg = .int .u32 (r.g.toNat : Int) ∧ xh = .int .u32 (r.h.toNat : Int)) ∧ wr.heap = W2.heap ∧ Below w.heap.size w wr)
    (fun _ _ _ _ _ _ _ _ i _ => 64 - (intOf i).toNat)
  case atStart => exact ⟨0, by omega, rfl, ⟨s, rfl, rfl, rfl, rfl, rfl, rfl, rfl, rfl, rfl⟩, rfl, (below_drewN (below_drewN H3.out _) _)⟩
  case round =>
    obtain ⟨k, hk, rfl, ⟨r, hr, rfl, rfl, rfl, rfl, rfl, rfl, rfl, rfl⟩, hheap, hnx⟩ := hrel
    by_cases hlt : k < 64
    · obtain ⟨kt, hkt⟩ : ∃ kt : UInt32, kt = S.K.getD k 0 := ⟨_, rfl⟩
      obtain ⟨wt, hwt⟩ : ∃ wt : UInt32, wt = (S.sched bs).getD k 0 := ⟨_, rfl⟩
      have cK : wr.cell? ⟨0, k, none⟩ = some (.int .u32 (kt.toNat : Int)) := by rw [hkt]; exact (hnx.cell (by exact h0)).trans (H4.out k hlt)
      have r2 : wr.heap[g1]? = some (.cells (S.v32 (S.sched bs)) 100 (0, 0)) := by rw [hheap]; exact H2.out
      have cW : wr.cell? ⟨g1, k, none⟩ = some (.int .u32 (wt.toNat : Int)) := by rw [hwt]; exact v32_cell r2 k (by omega)
      have hr1 : S.rounds (S.sched bs) s (k + 1) = S.round r kt wt := by rw [hr, hkt, hwt]; rfl
      have G0 := hide hr1
      have G1 := hide hheap
      have G2 := hide hnx
      have q1 : (0 : Int) ≤ (k : Int) := by omega
      have q2 : (k : Int) < 64 := by omega
      clear hr hkt hwt r2 hr1 hheap hnx
      go_wp2
      go_quiet ((first | (go_at_call 94; exact Calls.quiet_of_same (bs1_any _ _)) | (go_at_call 95; exact Calls.quiet_of_same (ch_any _ _ _ _))))
      go_wp2_with (first | (go_at_call 96; refine (bs0_any _ _).mono ?_; rintro e w' ⟨rfl, rfl⟩) | (go_at_call 97; refine (maj_any _ _ _ _).mono ?_; rintro e w' ⟨rfl, rfl⟩))
      go_roundw
      case rel =>
        rw [t1_cast, t2_cast, u32_add_cast, u32_add_cast]
        exact ⟨k + 1, by omega, by go_num, ⟨_, G0.out.symm, rfl, rfl, rfl, rfl, rfl, rfl, rfl, rfl⟩, G1.out, below_drewN G2.out _⟩
      case measure => simp [intOf]; omega
    · obtain rfl : k = 64 := by omega
      have r0 : wr.heap[w.heap.size]? = some (.cells (S.v32 st) 101 (0, 0)) := by rw [hheap]; exact H0.out
      have r1 : wr.heap[w.heap.size + 1]? = some (.cells (S.v32 (List.replicate 8 0)) 101 (0, 0)) := by rw [hheap]; exact H1.out
      have hs0 := HS.out
      have c0 : wr.cell? ⟨w.heap.size, 0, none⟩ = some (.int .u32 (s.a.toNat : Int)) := by rw [hs0]; exact v32_cell r0 0 (by omega)
      have c1 : wr.cell? ⟨w.heap.size, 1, none⟩ = some (.int .u32 (s.b.toNat : Int)) := by rw [hs0]; exact v32_cell r0 1 (by omega)
      have c2 : wr.cell? ⟨w.heap.size, 2, none⟩ = some (.int .u32 (s.c.toNat : Int)) := by rw [hs0]; exact v32_cell r0 2 (by omega)
      have c3 : wr.cell? ⟨w.heap.size, 3, none⟩ = some (.int .u32 (s.d.toNat : Int)) := by rw [hs0]; exact v32_cell r0 3 (by omega)
      have c4 : wr.cell? ⟨w.heap.size, 4, none⟩ = some (.int .u32 (s.e.toNat : Int)) := by rw [hs0]; exact v32_cell r0 4 (by omega)
      have c5 : wr.cell? ⟨w.heap.size, 5, none⟩ = some (.int .u32 (s.f.toNat : Int)) := by rw [hs0]; exact v32_cell r0 5 (by omega)
      have c6 : wr.cell? ⟨w.heap.size, 6, none⟩ = some (.int .u32 (s.g.toNat : Int)) := by rw [hs0]; exact v32_cell r0 6 (by omega)
      have c7 : wr.cell? ⟨w.heap.size, 7, none⟩ = some (.int .u32 (s.h.toNat : Int)) := by rw [hs0]; exact v32_cell r0 7 (by omega)
      have hcomp : S.comp st bs = S.addR s r := by rw [hr, hs0]; rfl
      have G1 := hide r1
      have G2 := hide hnx
      have G3 := hide hcomp
      clear r0 r1 hs0 hheap hnx hcomp hr
      have b1 : (#[.int .u32 (((s.a.toNat : Int) + (r.a.toNat : Int)) % (4294967296 : Int)), .int .u32 (((s.b.toNat : Int) + (r.b.toNat : Int)) % (4294967296 : Int)), .int .u32 (((s.c.toNat : Int) + (r.c.toNat : Int)) % (4294967296 : Int)), .int .u32 (((s.d.toNat : Int) + (r.d.toNat : Int)) % (4294967296 : Int)), .int .u32 (((s.e.toNat : Int) + (r.e.toNat : Int)) % (4294967296 : Int)), .int .u32 (((s.f.toNat : Int) + (r.f.toNat : Int)) % (4294967296 : Int)), .int .u32 (((s.g.toNat : Int) + (r.g.toNat : Int)) % (4294967296 : Int)), .int .u32 (((s.h.toNat : Int) + (r.h.toNat : Int)) % (4294967296 : Int))] : Array Value).all (·.oneCell') = true := by simp [Value.oneCell']
      have b2 : (S.v32 (List.replicate 8 0)).size = (#[.int .u32 (((s.a.toNat : Int) + (r.a.toNat : Int)) % (4294967296 : Int)), .int .u32 (((s.b.toNat : Int) + (r.b.toNat : Int)) % (4294967296 : Int)), .int .u32 (((s.c.toNat : Int) + (r.c.toNat : Int)) % (4294967296 : Int)), .int .u32 (((s.d.toNat : Int) + (r.d.toNat : Int)) % (4294967296 : Int)), .int .u32 (((s.e.toNat : Int) + (r.e.toNat : Int)) % (4294967296 : Int)), .int .u32 (((s.f.toNat : Int) + (r.f.toNat : Int)) % (4294967296 : Int)), .int .u32 (((s.g.toNat : Int) + (r.g.toNat : Int)) % (4294967296 : Int)), .int .u32 (((s.h.toNat : Int) + (r.h.toNat : Int)) % (4294967296 : Int))] : Array Value).size := by simp [S.v32]
      have b3 : (Tryd.prog.info? 101).map (·.size) = some (#[.int .u32 (((s.a.toNat : Int) + (r.a.toNat : Int)) % (4294967296 : Int)), .int .u32 (((s.b.toNat : Int) + (r.b.toNat : Int)) % (4294967296 : Int)), .int .u32 (((s.c.toNat : Int) + (r.c.toNat : Int)) % (4294967296 : Int)), .int .u32 (((s.d.toNat : Int) + (r.d.toNat : Int)) % (4294967296 : Int)), .int .u32 (((s.e.toNat : Int) + (r.e.toNat : Int)) % (4294967296 : Int)), .int .u32 (((s.f.toNat : Int) + (r.f.toNat : Int)) % (4294967296 : Int)), .int .u32 (((s.g.toNat : Int) + (r.g.toNat : Int)) % (4294967296 : Int)), .int .u32 (((s.h.toNat : Int) + (r.h.toNat : Int)) % (4294967296 : Int))] : Array Value).size := by rw [size49]; rfl
      have B1 := hide b1
      have B2 := hide b2
      have B3 := hide b3
      clear b1 b2 b3
      go_wp2_with (first | refine wpList_build_to rfl 101 _ rfl (#[.int .u32 (((s.a.toNat : Int) + (r.a.toNat : Int)) % (4294967296 : Int)), .int .u32 (((s.b.toNat : Int) + (r.b.toNat : Int)) % (4294967296 : Int)), .int .u32 (((s.c.toNat : Int) + (r.c.toNat : Int)) % (4294967296 : Int)), .int .u32 (((s.d.toNat : Int) + (r.d.toNat : Int)) % (4294967296 : Int)), .int .u32 (((s.e.toNat : Int) + (r.e.toNat : Int)) % (4294967296 : Int)), .int .u32 (((s.f.toNat : Int) + (r.f.toNat : Int)) % (4294967296 : Int)), .int .u32 (((s.g.toNat : Int) + (r.g.toNat : Int)) % (4294967296 : Int)), .int .u32 (((s.h.toNat : Int) + (r.h.toNat : Int)) % (4294967296 : Int))]) (by kernel_rfl) ?_ | refine wpList_store_row rfl 101 _ _ rfl (w.heap.size + 1) (#[.int .u32 (((s.a.toNat : Int) + (r.a.toNat : Int)) % (4294967296 : Int)), .int .u32 (((s.b.toNat : Int) + (r.b.toNat : Int)) % (4294967296 : Int)), .int .u32 (((s.c.toNat : Int) + (r.c.toNat : Int)) % (4294967296 : Int)), .int .u32 (((s.d.toNat : Int) + (r.d.toNat : Int)) % (4294967296 : Int)), .int .u32 (((s.e.toNat : Int) + (r.e.toNat : Int)) % (4294967296 : Int)), .int .u32 (((s.f.toNat : Int) + (r.f.toNat : Int)) % (4294967296 : Int)), .int .u32 (((s.g.toNat : Int) + (r.g.toNat : Int)) % (4294967296 : Int)), .int .u32 (((s.h.toNat : Int) + (r.h.toNat : Int)) % (4294967296 : Int))]) rfl rfl 101 _ G1.out B3.out B2.out B1.out ?_)
      refine bodyPost_ret (v := .agg (#[.int .u32 (((s.a.toNat : Int) + (r.a.toNat : Int)) % (4294967296 : Int)), .int .u32 (((s.b.toNat : Int) + (r.b.toNat : Int)) % (4294967296 : Int)), .int .u32 (((s.c.toNat : Int) + (r.c.toNat : Int)) % (4294967296 : Int)), .int .u32 (((s.d.toNat : Int) + (r.d.toNat : Int)) % (4294967296 : Int)), .int .u32 (((s.e.toNat : Int) + (r.e.toNat : Int)) % (4294967296 : Int)), .int .u32 (((s.f.toNat : Int) + (r.f.toNat : Int)) % (4294967296 : Int)), .int .u32 (((s.g.toNat : Int) + (r.g.toNat : Int)) % (4294967296 : Int)), .int .u32 (((s.h.toNat : Int) + (r.h.toNat : Int)) % (4294967296 : Int))])) (results_cell_row (g := w.heap.size + 1) (t := 101) (fr := (0, 0)) Tryd.results86 _ _ _ _ rfl (setRow_heap _ _ _ _ _ _ G1.out) Tryd.underlying101 rfl B3.out) rfl ⟨?_, below_setRow G2.out (by omega) _⟩
      rw [G3.out]
      simp only [u32_add_cast]
      rfl
end Go.Proofs.YtlcilclhaahopaaDoor
namespace Go.Proofs.YtlcilclhaahopaaDoor
open Go.RowKit
namespace S
def ofR (s : R8) : List UInt32 := [s.a, s.b, s.c, s.d, s.e, s.f, s.g, s.h]
theorem ofR_toR (l : List UInt32) (h : l.length = 8) : ofR (toR l) = l := by
  match l, h with
  | [_, _, _, _, _, _, _, _], _ => rfl
def blocks (st : List UInt32) (bs : List UInt8) : Nat → List UInt32
  | 0 => st
  | k + 1 => comp (blocks st bs k) (bs.drop (64 * k))
theorem comp_length (st : List UInt32) (bs : List UInt8) : (comp st bs).length = 8 := rfl
theorem blocks_length (st : List UInt32) (bs : List UInt8) (h : st.length = 8) (k : Nat) : (blocks st bs k).length = 8 := by
  cases k with
  | zero => exact h
  | succ k => rfl
end S
theorem compress_R (s : S.R8) (b off cap : Nat) (bs : List UInt8) (w : World) (hb : b < w.heap.size) (hK : ∀ j, j < 64 → w.cell? ⟨0, j, none⟩ = some (.int .u32 ((S.K.getD j 0).toNat : Int)))
    (hc : ∀ j, j < 64 → w.cell? ⟨b, off + j, none⟩ = some (.int .u8 ((bs.getD j 0).toNat : Int))) :
   Calls Tryd.prog 86 #[.agg #[.int .u32 (s.a.toNat : Int), .int .u32 (s.b.toNat : Int), .int .u32 (s.c.toNat : Int), .int .u32 (s.d.toNat : Int), .int .u32 (s.e.toNat : Int), .int .u32 (s.f.toNat : Int), .int .u32 (s.g.toNat : Int), .int .u32 (s.h.toNat : Int)], .slice (some ⟨b, off, none⟩) 64 cap] w fun e w' => e = .returned (.agg (S.v32 (S.comp (S.ofR s) bs))) ∧ Below w.heap.size w w' :=
  compress_any (S.ofR s) rfl b off cap bs w hb hK hc
theorem region_tail {id : Nat} {Q : Exit → Act → World → Prop} {a : Act} {w : World} {l : List Oper} (n : Nat) (hB : Region.lexTailB .any l.toArray n = true)
    (h : wpStill Tryd.prog l.toArray w.drew (fun a' => wpList Tryd.prog l.toArray Q (l.drop n) a' w.drew) (l.take n) a) : (Code.region id l.toArray true).wp Tryd.prog Q a w :=
  wp_region_still_tail n follows hB h
set_option maxHeartbeats 800000 in
set_option maxRecDepth 100000 in
theorem takeBlocks_any (st : List UInt32) (hst : st.length = 8) (b off len cap m : Nat) (bs : List UInt8) (w : World) (hlen : len = 64 * m) (hcap : len ≤ cap) (hreach : len ≤ 140737488355328) (hb : b < w.heap.size) (hK : ∀ j, j < 64 → w.cell? ⟨0, j, none⟩ = some (.int .u32 ((S.K.getD j 0).toNat : Int)))
    (hc : ∀ j, j < len → w.cell? ⟨b, off + j, none⟩ = some (.int .u8 ((bs.getD j 0).toNat : Int))) :
   Calls Tryd.prog 82 #[.agg (S.v32 st), .slice (some ⟨b, off, none⟩) len cap] w fun e w' => e = .returned (.agg (S.v32 (S.blocks st bs m))) ∧ Below w.heap.size w w' := by
  have HL := hide hlen
  have HK := hide hK
  have HC := hide hc
  have h0 : 0 < w.heap.size := block_lt_of_cell (hK 0 (by omega))
  clear hK hc hlen
  go_enter Tryd.func82, Tryd.ntmps82
  go_wp2
  go_loopw [5] (fun i wr => ∃ k p : Nat, p = 64 * k ∧ k ≤ m ∧ i = .int .i64 (p : Int) ∧ wr.heap[w.heap.size]? = some (.cells (S.v32 (S.blocks st bs k)) 101 (0, 0)) ∧ wr.heap[w.heap.size + 1]? = some (.cells (S.v32 (List.replicate 8 0)) 101 (0, 0)) ∧ Below w.heap.size w wr ∧ w.heap.size + 2 ≤ wr.heap.size)
    (fun i _ => len - (intOf i).toNat)
  case atStart => exact ⟨0, 0, by omega, by omega, rfl, heap_alloc2_old _ _ _, heap_alloc2_new _ _ _, ((Below.refl _ _).alloc (Nat.le_refl _) _).alloc (by simp) _, by simp⟩
  case round =>
    obtain ⟨k, p, hp, hk, rfl, r0, r1, hnx, hsz⟩ := hrel
    have hlen := HL.out
    by_cases hlt : k < m
    · have q0 : p + 64 ≤ len := by omega
      have q1 : (0 : Int) ≤ (p : Int) := by omega
      have q2 : (p : Int) < (len : Int) := by omega
      have q3 : (p : Int) + 64 ≤ (cap : Int) := by omega
      have q4 : (p : Int) ≤ (cap : Int) := by omega
      have q5 : IntKind.i64.wrap ((p : Int) + 64) = (p : Int) + 64 := by rw [IntKind.wrap_i64]; omega
      have q6 : (0 : Int) ≤ (p : Int) + 64 := by omega
      have q7 : ((p : Int) + 64).toNat = p + 64 := by omega
      have q8 : p + 64 ≤ cap := by omega
      have q9 : (p : Int) ≤ (p : Int) + 64 := by omega
      have qa : ¬ cap = p := by omega
      have HP := hide hp
      have hl8 := S.blocks_length st bs hst k
      obtain ⟨s, hs0⟩ : ∃ s : S.R8, s = S.toR (S.blocks st bs k) := ⟨_, rfl⟩
      have hof : S.ofR s = S.blocks st bs k := by rw [hs0]; exact S.ofR_toR _ hl8
      have c0 : wr.cell? ⟨w.heap.size, 0, none⟩ = some (.int .u32 (s.a.toNat : Int)) := by rw [hs0]; exact v32_cell r0 0 (by omega)
      have c1 : wr.cell? ⟨w.heap.size, 1, none⟩ = some (.int .u32 (s.b.toNat : Int)) := by rw [hs0]; exact v32_cell r0 1 (by omega)
      have c2 : wr.cell? ⟨w.heap.size, 2, none⟩ = some (.int .u32 (s.c.toNat : Int)) := by rw [hs0]; exact v32_cell r0 2 (by omega)
      have c3 : wr.cell? ⟨w.heap.size, 3, none⟩ = some (.int .u32 (s.d.toNat : Int)) := by rw [hs0]; exact v32_cell r0 3 (by omega)
      have c4 : wr.cell? ⟨w.heap.size, 4, none⟩ = some (.int .u32 (s.e.toNat : Int)) := by rw [hs0]; exact v32_cell r0 4 (by omega)
      have c5 : wr.cell? ⟨w.heap.size, 5, none⟩ = some (.int .u32 (s.f.toNat : Int)) := by rw [hs0]; exact v32_cell r0 5 (by omega)
      have c6 : wr.cell? ⟨w.heap.size, 6, none⟩ = some (.int .u32 (s.g.toNat : Int)) := by rw [hs0]; exact v32_cell r0 6 (by omega)
      have c7 : wr.cell? ⟨w.heap.size, 7, none⟩ = some (.int .u32 (s.h.toNat : Int)) := by rw [hs0]; exact v32_cell r0 7 (by omega)
      have G0 := hide r0
      have G1 := hide r1
      have G2 := hide hnx
      have G3 := hide hof
      clear r0 r1 hnx hof hs0 hl8 hp hlen
      go_wp2
      refine region_tail 6 (by kernel_rfl) ?_
      simp only [List.take_succ_cons, List.take_zero, List.drop_succ_cons, List.drop_zero]
      repeat still_step
      refine wpStill_nil ?_
      go_wp2_with fail
      refine (compress_R s b (off + p) (cap - p) (bs.drop p) wr.drew (by have := G2.out.size; show b < wr.heap.size; omega)
        (fun j hj => (G2.out.cell (p := ⟨0, j, none⟩) (by exact h0)).trans (HK.out j hj))
        (fun j hj => by
          have e1 : wr.cell? ⟨b, off + (p + j), none⟩ = some (.int .u8 ((bs.getD (p + j) 0).toNat : Int)) := (G2.out.cell (p := ⟨b, off + (p + j), none⟩) (by exact hb)).trans (HC.out (p + j) (by omega))
          rw [Nat.add_assoc, show (bs.drop p).getD j 0 = bs.getD (p + j) 0 from by simp [List.getD_eq_getElem?_getD]]
          exact e1)).mono ?_
      rintro e w1 ⟨rfl, hb1⟩
      have a0 : w1.heap[w.heap.size]? = some (.cells (S.v32 (S.blocks st bs k)) 101 (0, 0)) := (hb1.block _ (by show w.heap.size < wr.heap.size; omega)).trans G0.out
      have a1 : w1.heap[w.heap.size + 1]? = some (.cells (S.v32 (List.replicate 8 0)) 101 (0, 0)) := (hb1.block _ (by show w.heap.size + 1 < wr.heap.size; omega)).trans G1.out
      have hnx1 : Below w.heap.size w w1 := G2.out.drew.trans (hb1.mono (by show w.heap.size ≤ wr.heap.size; omega))
      have hz1 : w.heap.size + 2 ≤ w1.heap.size := Nat.le_trans hsz (by have := hb1.size; exact this)
      have hbk : S.comp (S.ofR s) (bs.drop p) = S.blocks st bs (k + 1) := by rw [G3.out, HP.out]; rfl
      rw [hbk]
      have hl8 : (S.v32 (S.blocks st bs k)).size = (S.v32 (S.blocks st bs (k + 1))).size := by rw [S.v32_size, S.v32_size, S.blocks_length _ _ hst, S.blocks_length _ _ hst]
      have hs : (Tryd.prog.info? 101).map (·.size) = some (S.v32 (S.blocks st bs (k + 1))).size := by rw [S.v32_size, S.blocks_length _ _ hst]; exact size49
      have J0 := hide a0
      have J1 := hide a1
      have J2 := hide hnx1
      have J3 := hide hl8
      have J4 := hide hs
      clear hb1 a0 a1 hnx1 hbk hl8 hs c0 c1 c2 c3 c4 c5 c6 c7
      go_wp2_with (refine wpList_store_row rfl 101 _ _ rfl w.heap.size (S.v32 (S.blocks st bs (k + 1))) rfl rfl 101 _ J0.out J4.out J3.out (S.v32_one _) ?_)
      go_roundw
      case rel =>
        refine ⟨k + 1, p + 64, by have := HP.out; omega, by omega, by go_num, setRow_heap _ _ _ _ _ _ J0.out, (setRow_other _ _ _ _ (by omega)).trans J1.out, below_setRow J2.out (Nat.le_refl _) _, by simp; omega⟩
      case measure => simp [intOf]; omega
    · obtain rfl : k = m := by omega
      obtain rfl : p = len := by omega
      have hl8 : (S.v32 (List.replicate 8 0)).size = (S.v32 (S.blocks st bs k)).size := by rw [S.v32_size, S.v32_size, S.blocks_length _ _ hst]; rfl
      have hs : (Tryd.prog.info? 101).map (·.size) = some (S.v32 (S.blocks st bs k)).size := by rw [S.v32_size, S.blocks_length _ _ hst]; exact size49
      have G0 := hide r0
      have G1 := hide r1
      have G2 := hide hnx
      have J3 := hide hl8
      have J4 := hide hs
      clear r0 r1 hnx hl8 hs hp hlen
      go_wp2_with (first | refine wpList_load_row rfl 101 _ rfl w.heap.size rfl 101 _ _ _ G0.out Tryd.underlying101 rfl J4.out ?_ | refine wpList_store_row rfl 101 _ _ rfl (w.heap.size + 1) (S.v32 (S.blocks st bs k)) rfl rfl 101 _ G1.out J4.out J3.out (S.v32_one _) ?_)
      refine bodyPost_ret (v := .agg (S.v32 (S.blocks st bs k))) (results_cell_row (g := w.heap.size + 1) (t := 101) (fr := (0, 0)) Tryd.results82 _ _ _ _ rfl (setRow_heap _ _ _ _ _ _ G1.out) Tryd.underlying101 rfl J4.out) rfl ⟨rfl, below_setRow G2.out (by omega) _⟩
set_option maxHeartbeats 800000 in
set_option maxRecDepth 100000 in
theorem takeBlocks_none (st : List UInt32) (hst : st.length = 8) (ao : Option Addr) (cap : Nat) (w : World) :
   Calls Tryd.prog 82 #[.agg (S.v32 st), .slice ao 0 cap] w fun e w' => e = .returned (.agg (S.v32 st)) ∧ Below w.heap.size w w' := by
  go_enter Tryd.func82, Tryd.ntmps82
  go_wp2
  refine wp_loop_rounds 1 ?_
  rw [rounds_succ]
  have hl8 : (S.v32 (List.replicate 8 0)).size = (S.v32 st).size := by rw [S.v32_size, S.v32_size, hst]; rfl
  have hs : (Tryd.prog.info? 101).map (·.size) = some (S.v32 st).size := by rw [S.v32_size, hst]; exact size49
  have G0 : Hid (((w.alloc (.cells (S.v32 st) 101)).alloc (.cells (S.v32 (List.replicate 8 0)) 101)).heap[w.heap.size]? = some (.cells (S.v32 st) 101 (0, 0))) := heap_alloc2_old _ _ _
  have G1 : Hid (((w.alloc (.cells (S.v32 st) 101)).alloc (.cells (S.v32 (List.replicate 8 0)) 101)).heap[w.heap.size + 1]? = some (.cells (S.v32 (List.replicate 8 0)) 101 (0, 0))) := heap_alloc2_new _ _ _
  have G2 : Hid (Below w.heap.size w ((w.alloc (.cells (S.v32 st) 101)).alloc (.cells (S.v32 (List.replicate 8 0)) 101))) := ((Below.refl _ _).alloc (Nat.le_refl _) _).alloc (by simp) _
  have J3 := hide hl8
  have J4 := hide hs
  clear hl8 hs
  go_wp2_with (first | refine wpList_load_row rfl 101 _ rfl w.heap.size rfl 101 _ _ _ G0.out Tryd.underlying101 rfl J4.out ?_ | refine wpList_store_row rfl 101 _ _ rfl (w.heap.size + 1) (S.v32 st) rfl rfl 101 _ G1.out J4.out J3.out (S.v32_one _) ?_)
  refine bodyPost_ret (v := .agg (S.v32 st)) (results_cell_row (g := w.heap.size + 1) (t := 101) (fr := (0, 0)) Tryd.results82 _ _ _ _ rfl (setRow_heap _ _ _ _ _ _ G1.out) Tryd.underlying101 rfl J4.out) rfl ⟨rfl, below_setRow G2.out (by omega) _⟩
def S.H0 : List UInt32 := [1779033703, 3144134277, 1013904242, 2773480762, 1359893119, 2600822924, 528734635, 1541459225]
set_option maxHeartbeats 800000 in
set_option maxRecDepth 100000 in
theorem firstState_any (w : World) : Calls Tryd.prog 87 #[] w fun e w' => e = .returned (.agg (S.v32 S.H0)) ∧ Below w.heap.size w w' := by
  have G1 : Hid ((w.alloc (.cells (S.v32 (List.replicate 8 0)) 101)).heap[w.heap.size]? = some (.cells (S.v32 (List.replicate 8 0)) 101 (0, 0))) := heap_alloc_new _ _
  have J4 : Hid ((Tryd.prog.info? 101).map (·.size) = some (S.v32 S.H0).size) := size49
  go_enter Tryd.func87, Tryd.ntmps87
  go_wp2_with (first | refine wpList_build_to rfl 101 _ rfl (S.v32 S.H0) (by kernel_rfl) ?_ | refine wpList_store_row rfl 101 _ _ rfl w.heap.size (S.v32 S.H0) rfl rfl 101 _ G1.out J4.out rfl (S.v32_one _) ?_)
  refine bodyPost_ret (v := .agg (S.v32 S.H0)) (results_cell_row (g := w.heap.size) (t := 101) (fr := (0, 0)) Tryd.results87 _ _ _ _ rfl (setRow_heap _ _ _ _ _ _ G1.out) Tryd.underlying101 rfl J4.out) rfl ⟨rfl, below_setRow ((Below.refl _ _).alloc (Nat.le_refl _) _) (Nat.le_refl _) _⟩
end Go.Proofs.YtlcilclhaahopaaDoor
