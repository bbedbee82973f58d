/- The schedule: of a block of 64 bytes that lies in memory, schedule answers the 64 words of the Lean function, and changes nothing that was there. -/
import Derived.Test.YtlcilclhaahopaaDoorLeaf
import Derived.Laws.CopyOwn
namespace Go.Proofs.YtlcilclhaahopaaDoor
open Go.RowKit
namespace S
def v32 (l : List UInt32) : Array Value := (l.map (fun x => Value.int .u32 (x.toNat : Int))).toArray
def word (bs : List UInt8) (t : Nat) : UInt32 := (bs.getD (4 * t) 0).toUInt32 <<< 24 ||| (bs.getD (4 * t + 1) 0).toUInt32 <<< 16 ||| (bs.getD (4 * t + 2) 0).toUInt32 <<< 8 ||| (bs.getD (4 * t + 3) 0).toUInt32
def fill (bs : List UInt8) : Nat → List UInt32
  | 0 => List.replicate 64 0
  | k + 1 => (fill bs k).set k (word bs k)
def next (ws : List UInt32) (t : Nat) : UInt32 := ss1 (ws.getD (t - 2) 0) + ws.getD (t - 7) 0 + ss0 (ws.getD (t - 15) 0) + ws.getD (t - 16) 0
def ext (ws : List UInt32) : Nat → List UInt32
  | 0 => ws
  | k + 1 => (ext ws k).set (16 + k) (next (ext ws k) (16 + k))
def sched (bs : List UInt8) : List UInt32 := ext (fill bs 16) 48
theorem fill_length (bs : List UInt8) (k : Nat) : (fill bs k).length = 64 := by
  induction k with
  | zero => rfl
  | succ k ih => simp [fill, ih]
theorem ext_length (ws : List UInt32) (k : Nat) : (ext ws k).length = ws.length := by
  induction k with
  | zero => rfl
  | succ k ih => simp [ext, ih]
theorem sched_length (bs : List UInt8) : (sched bs).length = 64 := by rw [sched, ext_length, fill_length]
theorem v32_size (l : List UInt32) : (v32 l).size = l.length := by simp [v32]
theorem v32_one (l : List UInt32) : (v32 l).all (·.oneCell') = true := by simp [v32, Value.oneCell']
end S
theorem v32_cell {w : World} {g : Nat} {l : List UInt32} {t : TypeId} (h : w.heap[g]? = some (.cells (S.v32 l) t (0, 0))) (j : Nat) (hj : j < l.length) : w.cell? ⟨g, j, none⟩ = some (.int .u32 ((l.getD j 0).toNat : Int)) := by
  rw [cell_of_row w g j _ t _ h]; simp [S.v32, hj]
theorem v32_set {w : World} {g : Nat} {l : List UInt32} {t : TypeId} (h : w.heap[g]? = some (.cells (S.v32 l) t (0, 0))) (j : Nat) (x : UInt32) :
    (w.setCell ⟨g, j, none⟩ (.int .u32 (x.toNat : Int))).heap[g]? = some (.cells (S.v32 (l.set j x)) t (0, 0)) := by
  rw [heap_setCell_same w g j _ t _ h]
  congr 2
  apply Array.ext'
  simp [S.v32, List.map_set]
theorem u8_word (x : UInt8) : ((x.toNat : Int) % (4294967296 : Int)) = ((x.toUInt32).toNat : Int) := by
  have := x.toNat_lt; rw [UInt8.toNat_toUInt32]; omega
theorem shl_8 (x : UInt32) : (x.toNat : Int) * (256 : Int) % (4294967296 : Int) = ((x <<< 8).toNat : Int) := by
  rw [UInt32.toNat_shiftLeft, show (8 : UInt32).toNat % 32 = 8 from by decide, Nat.shiftLeft_eq]; simp
theorem shl_16 (x : UInt32) : (x.toNat : Int) * (65536 : Int) % (4294967296 : Int) = ((x <<< 16).toNat : Int) := by
  rw [UInt32.toNat_shiftLeft, show (16 : UInt32).toNat % 32 = 16 from by decide, Nat.shiftLeft_eq]; simp
theorem shl_24 (x : UInt32) : (x.toNat : Int) * (16777216 : Int) % (4294967296 : Int) = ((x <<< 24).toNat : Int) := by
  rw [UInt32.toNat_shiftLeft, show (24 : UInt32).toNat % 32 = 24 from by decide, Nat.shiftLeft_eq]; simp
theorem word_cast (bs : List UInt8) (k : Nat) : bits .or .u32 (bits .or .u32 (bits .or .u32 (((bs[4 * k]?.getD 0).toNat : Int) % (4294967296 : Int) * (16777216 : Int) % (4294967296 : Int)) (((bs[4 * k + 1]?.getD 0).toNat : Int) % (4294967296 : Int) * (65536 : Int) % (4294967296 : Int))) (((bs[4 * k + 2]?.getD 0).toNat : Int) % (4294967296 : Int) * (256 : Int) % (4294967296 : Int))) (((bs[4 * k + 3]?.getD 0).toNat : Int) % (4294967296 : Int)) = ((S.word bs k).toNat : Int) := by
  rw [u8_word, u8_word, u8_word, u8_word, shl_24, shl_16, shl_8, u32_or_cast, u32_or_cast, u32_or_cast]
  simp [S.word]
theorem next_cast (ws : List UInt32) (k : Nat) : (((((S.ss1 (ws[k - 2]?.getD 0)).toNat : Int) + ((ws[k - 7]?.getD 0).toNat : Int)) % (4294967296 : Int) + ((S.ss0 (ws[k - 15]?.getD 0)).toNat : Int)) % (4294967296 : Int) + ((ws[k - 16]?.getD 0).toNat : Int)) % (4294967296 : Int) = ((S.next ws k).toNat : Int) := by
  rw [u32_add_cast, u32_add_cast, u32_add_cast]
  simp [S.next]
theorem int_u32 {a b : Int} (h : a = b) : Value.int .u32 a = .int .u32 b := by rw [h]

theorem size52 : (Tryd.prog.info? 100).map (·.size) = some 64 := by kernel_rfl
set_option maxHeartbeats 1600000 in
set_option maxRecDepth 100000 in
theorem schedule_any (b off cap : Nat) (bs : List UInt8) (w : World) (hb : b < w.heap.size) (hc : ∀ j, j < 64 → w.cell? ⟨b, off + j, none⟩ = some (.int .u8 ((bs.getD j 0).toNat : Int))) :
   Calls Tryd.prog 93 #[.slice (some ⟨b, off, none⟩) 64 cap] w fun e w' => e = .returned (.agg (S.v32 (S.sched bs))) ∧ Below w.heap.size w w' := by
  go_enter Tryd.func93, Tryd.ntmps93
  go_wp2
  go_loopw [6] (fun i wr => ∃ k : Nat, k ≤ 16 ∧ i = .int .i64 k ∧ wr.heap[w.heap.size + 1]? = some (.cells (S.v32 (S.fill bs k)) 100 (0, 0)) ∧ wr.heap[w.heap.size]? = some (.cells (S.v32 (List.replicate 64 0)) 100 (0, 0)) ∧ Below w.heap.size w wr)
    (fun i _ => 16 - (intOf i).toNat)
  case atStart => exact ⟨0, by omega, rfl, heap_alloc2_new _ _ _, heap_alloc2_old _ _ _, ((Below.refl _ _).alloc (Nat.le_refl _) _).alloc (by simp) _⟩
  case round =>
    obtain ⟨k, hk, rfl, hrow, hres, hnx⟩ := hrel
    have hlen := S.fill_length bs k
    by_cases hlt : k < 16
    · have cw : wr.cell? ⟨w.heap.size + 1, k, none⟩ = some (.int .u32 (((S.fill bs k).getD k 0).toNat : Int)) := v32_cell hrow k (by omega)
      have cf : wr.frozen? ⟨w.heap.size + 1, k, none⟩ = false := frozen_of_row _ _ _ _ _ hrow
      have c0 : wr.cell? ⟨b, off + (4 * k), none⟩ = some (.int .u8 ((bs.getD (4 * k) 0).toNat : Int)) := (hnx.cell (by exact hb)).trans (hc _ (by omega))
      have c1 : wr.cell? ⟨b, off + (4 * k + 1), none⟩ = some (.int .u8 ((bs.getD (4 * k + 1) 0).toNat : Int)) := (hnx.cell (by exact hb)).trans (hc _ (by omega))
      have c2 : wr.cell? ⟨b, off + (4 * k + 2), none⟩ = some (.int .u8 ((bs.getD (4 * k + 2) 0).toNat : Int)) := (hnx.cell (by exact hb)).trans (hc _ (by omega))
      have c3 : wr.cell? ⟨b, off + (4 * k + 3), none⟩ = some (.int .u8 ((bs.getD (4 * k + 3) 0).toNat : Int)) := (hnx.cell (by exact hb)).trans (hc _ (by omega))
      have R1 := v32_set hrow k (S.word bs k)
      have R2 : (wr.setCell ⟨w.heap.size + 1, k, none⟩ (.int .u32 ((S.word bs k).toNat : Int))).heap[w.heap.size]? = some (.cells (S.v32 (List.replicate 64 0)) 100 (0, 0)) := (heap_setCell_other _ _ _ _ (by simp)).trans hres
      have R3 : Below w.heap.size w (wr.setCell ⟨w.heap.size + 1, k, none⟩ (.int .u32 ((S.word bs k).toNat : Int))) := hnx.setCell (by simp) _
      have H1 := hide R1
      have H2 := hide R2
      have H3 := hide R3
      clear R1 R2 R3 hrow hres hnx hc hlen
      have q1 : (0 : Int) ≤ (k : Int) := by omega
      have q2 : (k : Int) < 64 := by omega
      have q3 : (k : Int) < 16 := by omega
      have hne : ¬ b = w.heap.size + 1 := by omega
      have hne2 : ¬ w.heap.size + 1 = b := by omega
      have e0 : IntKind.i64.wrap (4 * (k : Int)) = 4 * (k : Int) := by rw [IntKind.wrap_i64]; omega
      have f0 : (0 : Int) ≤ 4 * (k : Int) := by omega
      have g0 : 4 * (k : Int) < 64 := by omega
      have n0 : (4 * (k : Int)).toNat = 4 * k := by omega
      have e1 : IntKind.i64.wrap (4 * (k : Int) + 1) = 4 * (k : Int) + 1 := by rw [IntKind.wrap_i64]; omega
      have f1 : (0 : Int) ≤ 4 * (k : Int) + 1 := by omega
      have g1 : 4 * (k : Int) + 1 < 64 := by omega
      have n1 : (4 * (k : Int) + 1).toNat = 4 * k + 1 := by omega
      have e2 : IntKind.i64.wrap (4 * (k : Int) + 2) = 4 * (k : Int) + 2 := by rw [IntKind.wrap_i64]; omega
      have f2 : (0 : Int) ≤ 4 * (k : Int) + 2 := by omega
      have g2 : 4 * (k : Int) + 2 < 64 := by omega
      have n2 : (4 * (k : Int) + 2).toNat = 4 * k + 2 := by omega
      have e3 : IntKind.i64.wrap (4 * (k : Int) + 3) = 4 * (k : Int) + 3 := by rw [IntKind.wrap_i64]; omega
      have f3 : (0 : Int) ≤ 4 * (k : Int) + 3 := by omega
      have g3 : 4 * (k : Int) + 3 < 64 := by omega
      have n3 : (4 * (k : Int) + 3).toNat = 4 * k + 3 := by omega
      go_wp2
      go_region_held3 (fun w' => w'.cell? ⟨b, off + 4 * k, none⟩ = some (.int .u8 ((bs.getD (4 * k) 0).toNat : Int)) ∧ w'.cell? ⟨b, off + (4 * k + 1), none⟩ = some (.int .u8 ((bs.getD (4 * k + 1) 0).toNat : Int)) ∧ w'.cell? ⟨b, off + (4 * k + 2), none⟩ = some (.int .u8 ((bs.getD (4 * k + 2) 0).toNat : Int)) ∧ w'.cell? ⟨b, off + (4 * k + 3), none⟩ = some (.int .u8 ((bs.getD (4 * k + 3) 0).toNat : Int))) (go_keep) (fail)
      go_wp2
      go_roundw
      case rel =>
        rw [word_cast]
        exact ⟨k + 1, by omega, by go_num, H1.out, H2.out, H3.out.drew⟩
      case measure => simp [intOf]; omega
    · obtain rfl : k = 16 := by omega
      rw [show ((16 : Nat) : Int) = 16 from rfl]
      go_wp2
      go_loopw [5] (fun i wr => ∃ k : Nat, 16 ≤ k ∧ k ≤ 64 ∧ i = .int .i64 k ∧ wr.heap[w.heap.size + 1]? = some (.cells (S.v32 (S.ext (S.fill bs 16) (k - 16))) 100 (0, 0)) ∧ wr.heap[w.heap.size]? = some (.cells (S.v32 (List.replicate 64 0)) 100 (0, 0)) ∧ Below w.heap.size w wr)
        (fun i _ => 64 - (intOf i).toNat)
      case atStart => exact ⟨16, by omega, by omega, rfl, hrow, hres, hnx⟩
      case round =>
        obtain ⟨k, hk0, hk, rfl, hrow, hres, hnx⟩ := hrel
        by_cases hlt : k < 64
        · have hlen : (S.ext (S.fill bs 16) (k - 16)).length = 64 := by rw [S.ext_length, S.fill_length]
          have hnext : S.ext (S.fill bs 16) (k + 1 - 16) = (S.ext (S.fill bs 16) (k - 16)).set k (S.next (S.ext (S.fill bs 16) (k - 16)) k) := by
            obtain ⟨j, rfl⟩ : ∃ j, k = 16 + j := ⟨k - 16, by omega⟩
            rw [show 16 + j + 1 - 16 = j + 1 from by omega, show 16 + j - 16 = j from by omega]; rfl
          generalize S.ext (S.fill bs 16) (k - 16) = ws at *
          have cw : wr.cell? ⟨w.heap.size + 1, k, none⟩ = some (.int .u32 ((ws.getD k 0).toNat : Int)) := v32_cell hrow k (by omega)
          have cf : wr.frozen? ⟨w.heap.size + 1, k, none⟩ = false := frozen_of_row _ _ _ _ _ hrow
          have R1 := v32_set hrow k (S.next ws k)
          have R2 : (wr.setCell ⟨w.heap.size + 1, k, none⟩ (.int .u32 ((S.next ws k).toNat : Int))).heap[w.heap.size]? = some (.cells (S.v32 (List.replicate 64 0)) 100 (0, 0)) := (heap_setCell_other _ _ _ _ (by simp)).trans hres
          have R3 : Below w.heap.size w (wr.setCell ⟨w.heap.size + 1, k, none⟩ (.int .u32 ((S.next ws k).toNat : Int))) := hnx.setCell (by simp) _
          rw [← hnext] at R1
          have H1 := hide R1
          have H2 := hide R2
          have H3 := hide R3
          have e2 : IntKind.i64.wrap ((k : Int) - 2) = (k : Int) - 2 := by rw [IntKind.wrap_i64]; omega
          have f2 : (0 : Int) ≤ (k : Int) - 2 := by omega
          have g2 : (k : Int) - 2 < 64 := by omega
          have p2 : (2 : Int) ≤ (k : Int) := by omega
          have r2 : (k : Int) < 66 := by omega
          have n2 : ((k : Int) - 2).toNat = k - 2 := by omega
          have m2 : ¬ k = k - 2 := by omega
          have o2 : ¬ k - 2 = k := by omega
          have c2 : wr.cell? ⟨w.heap.size + 1, k - 2, none⟩ = some (.int .u32 ((ws.getD (k - 2) 0).toNat : Int)) := v32_cell hrow _ (by omega)
          have s2 : ∀ v, (wr.setCell ⟨w.heap.size + 1, k, none⟩ v).cell? ⟨w.heap.size + 1, k - 2, none⟩ = some (.int .u32 ((ws.getD (k - 2) 0).toNat : Int)) := fun v => (World.cell?_setCell_other wr _ _ v (by simp)).trans c2
          have e7 : IntKind.i64.wrap ((k : Int) - 7) = (k : Int) - 7 := by rw [IntKind.wrap_i64]; omega
          have f7 : (0 : Int) ≤ (k : Int) - 7 := by omega
          have g7 : (k : Int) - 7 < 64 := by omega
          have p7 : (7 : Int) ≤ (k : Int) := by omega
          have r7 : (k : Int) < 71 := by omega
          have n7 : ((k : Int) - 7).toNat = k - 7 := by omega
          have m7 : ¬ k = k - 7 := by omega
          have o7 : ¬ k - 7 = k := by omega
          have c7 : wr.cell? ⟨w.heap.size + 1, k - 7, none⟩ = some (.int .u32 ((ws.getD (k - 7) 0).toNat : Int)) := v32_cell hrow _ (by omega)
          have s7 : ∀ v, (wr.setCell ⟨w.heap.size + 1, k, none⟩ v).cell? ⟨w.heap.size + 1, k - 7, none⟩ = some (.int .u32 ((ws.getD (k - 7) 0).toNat : Int)) := fun v => (World.cell?_setCell_other wr _ _ v (by simp)).trans c7
          have e15 : IntKind.i64.wrap ((k : Int) - 15) = (k : Int) - 15 := by rw [IntKind.wrap_i64]; omega
          have f15 : (0 : Int) ≤ (k : Int) - 15 := by omega
          have g15 : (k : Int) - 15 < 64 := by omega
          have p15 : (15 : Int) ≤ (k : Int) := by omega
          have r15 : (k : Int) < 79 := by omega
          have n15 : ((k : Int) - 15).toNat = k - 15 := by omega
          have m15 : ¬ k = k - 15 := by omega
          have o15 : ¬ k - 15 = k := by omega
          have c15 : wr.cell? ⟨w.heap.size + 1, k - 15, none⟩ = some (.int .u32 ((ws.getD (k - 15) 0).toNat : Int)) := v32_cell hrow _ (by omega)
          have s15 : ∀ v, (wr.setCell ⟨w.heap.size + 1, k, none⟩ v).cell? ⟨w.heap.size + 1, k - 15, none⟩ = some (.int .u32 ((ws.getD (k - 15) 0).toNat : Int)) := fun v => (World.cell?_setCell_other wr _ _ v (by simp)).trans c15
          have e16 : IntKind.i64.wrap ((k : Int) - 16) = (k : Int) - 16 := by rw [IntKind.wrap_i64]; omega
          have f16 : (0 : Int) ≤ (k : Int) - 16 := by omega
          have g16 : (k : Int) - 16 < 64 := by omega
          have p16 : (16 : Int) ≤ (k : Int) := by omega
          have r16 : (k : Int) < 80 := by omega
          have n16 : ((k : Int) - 16).toNat = k - 16 := by omega
          have m16 : ¬ k = k - 16 := by omega
          have o16 : ¬ k - 16 = k := by omega
          have c16 : wr.cell? ⟨w.heap.size + 1, k - 16, none⟩ = some (.int .u32 ((ws.getD (k - 16) 0).toNat : Int)) := v32_cell hrow _ (by omega)
          have s16 : ∀ v, (wr.setCell ⟨w.heap.size + 1, k, none⟩ v).cell? ⟨w.heap.size + 1, k - 16, none⟩ = some (.int .u32 ((ws.getD (k - 16) 0).toNat : Int)) := fun v => (World.cell?_setCell_other wr _ _ v (by simp)).trans c16
          clear R1 R2 R3 hrow hres hnx hc hlen hnext
          have q1 : (0 : Int) ≤ (k : Int) := by omega
          have q2 : (k : Int) < 64 := by omega
          go_wp2
          go_region_held3 (fun w' => w'.cell? ⟨w.heap.size + 1, k - 2, none⟩ = some (.int .u32 ((ws.getD (k - 2) 0).toNat : Int)) ∧ w'.cell? ⟨w.heap.size + 1, k - 7, none⟩ = some (.int .u32 ((ws.getD (k - 7) 0).toNat : Int)) ∧ w'.cell? ⟨w.heap.size + 1, k - 15, none⟩ = some (.int .u32 ((ws.getD (k - 15) 0).toNat : Int)) ∧ w'.cell? ⟨w.heap.size + 1, k - 16, none⟩ = some (.int .u32 ((ws.getD (k - 16) 0).toNat : Int))) (go_keep) (first | (go_at_call 99; refine (ss1_any _ _).mono ?_; rintro e w' ⟨rfl, rfl⟩) | (go_at_call 100; refine (ss0_any _ _).mono ?_; rintro e w' ⟨rfl, rfl⟩))
          go_wp2
          go_roundw
          case rel =>
            rw [next_cast]
            exact ⟨k + 1, by omega, by omega, by go_num, H1.out, H2.out, H3.out.drew⟩
          case measure => simp [intOf]; omega
        · obtain rfl : k = 64 := by omega
          have hl : (S.ext (S.fill bs 16) (64 - 16)).length = 64 := by rw [S.ext_length, S.fill_length]
          have hs : (Tryd.prog.info? 100).map (·.size) = some (S.v32 (S.ext (S.fill bs 16) (64 - 16))).size := by rw [S.v32_size, hl]; exact size52
          have ho : (S.v32 (List.replicate 64 0)).size = (S.v32 (S.ext (S.fill bs 16) (64 - 16))).size := by rw [S.v32_size, S.v32_size, hl]; rfl
          go_wp2_with (first | refine wpList_load_row rfl 100 _ rfl (w.heap.size + 1) rfl 100 _ _ _ hrow Tryd.underlying100 rfl hs ?_ | refine wpList_store_row rfl 100 _ _ rfl w.heap.size _ rfl rfl 100 _ hres hs ho (S.v32_one _) ?_)
          refine bodyPost_ret (v := .agg (S.v32 (S.sched bs))) (results_cell_row (g := w.heap.size) (t := 100) (fr := (0, 0)) Tryd.results93 _ _ _ _ rfl (setRow_heap _ _ _ _ _ _ hres) Tryd.underlying100 rfl hs) rfl ⟨rfl, ?_⟩
          exact below_setRow hnx (Nat.le_refl _) _
end Go.Proofs.YtlcilclhaahopaaDoor
