/- Widths that count, and the greatest power of two below a number (both ways of reckoning it). -/
import Derived.Test.YtkljajfgdelfgaaDoorJoin
import Derived.Test.YtkljajfgdelfgaaDoorCutx
namespace Go.Proofs.YtkljajfgdelfgaaDoor
open Go.RowKit

namespace S
/-- How many bytes of a hash count. -/
def cw (a : Int) : Nat := if a < 1 ∨ a > 32 then 32 else a.toNat
theorem cw_le (a : Int) : cw a ≤ 32 := by unfold cw; split <;> omega
theorem cw_pos (a : Int) : 1 ≤ cw a := by unfold cw; split <;> omega
/-- The greatest power of two below n. -/
def half (n : Nat) : Nat := 2 ^ Nat.log2 (n - 1)
theorem half_small : ∀ n, n < 257 → 2 ≤ n → half n < n ∧ 0 < half n := by decide +kernel
theorem half_lt {n : Nat} (h : n ≤ 256) (h2 : 2 ≤ n) : half n < n := (half_small n (by omega) h2).1
theorem half_pos (n : Nat) : 0 < half n := Nat.pow_pos (by omega)
theorem half_is : ∀ n, n < 257 → 2 ≤ n → ∀ j, j < 9 → (2 ^ j < n → n ≤ 2 * 2 ^ j → 2 ^ j = half n) := by decide +kernel
def lenArr : ByteArray := { data := #[0, 1, 2, 2, 3, 3, 3, 3, 4, 4, 4, 4, 4, 4, 4, 4, 5, 5, 5, 5, 5, 5, 5, 5, 5, 5, 5, 5, 5, 5, 5, 5, 6, 6, 6, 6, 6, 6, 6, 6, 6, 6, 6, 6, 6, 6, 6, 6, 6, 6, 6, 6, 6, 6, 6, 6, 6, 6, 6, 6, 6, 6, 6, 6, 7, 7, 7, 7, 7, 7, 7, 7, 7, 7, 7, 7, 7, 7, 7, 7, 7, 7, 7, 7, 7, 7, 7, 7, 7, 7, 7, 7, 7, 7, 7, 7, 7, 7, 7, 7, 7, 7, 7, 7, 7, 7, 7, 7, 7, 7, 7, 7, 7, 7, 7, 7, 7, 7, 7, 7, 7, 7, 7, 7, 7, 7, 7, 7, 8, 8, 8, 8, 8, 8, 8, 8, 8, 8, 8, 8, 8, 8, 8, 8, 8, 8, 8, 8, 8, 8, 8, 8, 8, 8, 8, 8, 8, 8, 8, 8, 8, 8, 8, 8, 8, 8, 8, 8, 8, 8, 8, 8, 8, 8, 8, 8, 8, 8, 8, 8, 8, 8, 8, 8, 8, 8, 8, 8, 8, 8, 8, 8, 8, 8, 8, 8, 8, 8, 8, 8, 8, 8, 8, 8, 8, 8, 8, 8, 8, 8, 8, 8, 8, 8, 8, 8, 8, 8, 8, 8, 8, 8, 8, 8, 8, 8, 8, 8, 8, 8, 8, 8, 8, 8, 8, 8, 8, 8, 8, 8, 8, 8, 8, 8, 8, 8, 8, 8, 8, 8, 8, 8, 8, 8, 8, 8] }
theorem lenArr_size : lenArr.size = 256 := by decide +kernel
theorem lenArr_log : ∀ y : Fin 256, 1 ≤ y.val → wrap64 (wrap64 ((lenArr[y.val]'(by rw [lenArr_size]; exact y.isLt)).toNat : Int)) = ((Nat.log2 y.val + 1 : Nat) : Int) := by decide +kernel
end S
set_option maxHeartbeats 400000 in
theorem counted_any (a : Int) (w : World) :
   Calls Tryd.prog 51 #[.int .i64 a] w fun e w' => e = .returned (.int .i64 (S.cw a : Int)) ∧ w = w' := by
  go_enter Tryd.func51, Tryd.ntmps51
  by_cases h1 : a < 1
  · have q : S.cw a = 32 := by unfold S.cw; rw [if_pos (by omega)]
    rw [q]
    go_wp2
    go_ret
    exact ⟨rfl, rfl⟩
  · by_cases h2 : a > 32
    · have q : S.cw a = 32 := by unfold S.cw; rw [if_pos (by omega)]
      have h3 : ¬ a ≤ 32 := by omega
      have h4 : (32 : Int) < a := by omega
      rw [q]
      go_wp2
      go_ret
      exact ⟨rfl, rfl⟩
    · have q : S.cw a = a.toNat := by unfold S.cw; rw [if_neg (by omega)]
      have h3 : a ≤ 32 := by omega
      have h4 : ¬ (32 : Int) < a := by omega
      have q2 : ((a.toNat : Nat) : Int) = a := by omega
      rw [q, q2]
      clear q q2
      go_wp2
      go_ret
      exact ⟨rfl, rfl⟩
set_option maxHeartbeats 800000 in
theorem halfr_any (n : Nat) (hn : 2 ≤ n) (hn2 : n ≤ 256) (w : World) :
   Calls Tryd.prog 60 #[.int .i64 (n : Int)] w fun e w' => e = .returned (.int .i64 (S.half n : Int)) ∧ w = w' := by
  go_enter Tryd.func60, Tryd.ntmps60
  go_wp2
  go_loopw [3] (fun i wr => ∃ j : Nat, j < 9 ∧ 2 ^ j < n ∧ i = .int .i64 ((2 ^ j : Nat) : Int) ∧ w = wr) (fun i _ => n - (intOf i).toNat)
  case atStart => exact ⟨0, by omega, by simp; omega, rfl, rfl⟩
  case round =>
    obtain ⟨j, hj, hl, rfl, rfl⟩ := hrel
    obtain ⟨k, hk⟩ : ∃ k, k = 2 ^ j := ⟨_, rfl⟩
    rw [← hk] at hl ⊢
    have hp : 0 < k := by rw [hk]; exact Nat.pow_pos (by omega)
    have q4 : IntKind.i64.wrap (2 * (k : Int)) = 2 * (k : Int) := by rw [IntKind.wrap_i64]; omega
    by_cases hlt : 2 * k < n
    · have q1 : 2 * (k : Int) < (n : Int) := by omega
      have K := hide hk
      clear hk
      go_wp2
      have hs : 2 ^ (j + 1) = 2 * k := by rw [Nat.pow_succ, ← K.out]; omega
      have hj9 : j + 1 < 9 := by
        by_cases h : j = 8
        · subst h; have := K.out; omega
        · omega
      exact ⟨⟨j + 1, hj9, by rw [hs]; exact hlt, by rw [hs]; simp, trivial⟩, by simp [intOf]; omega⟩
    · have q1 : ¬ 2 * (k : Int) < (n : Int) := by omega
      have q2 : (n : Int) ≤ 2 * (k : Int) := by omega
      have e : S.half n = k := by rw [hk]; exact (S.half_is n (by omega) hn j hj (by rw [← hk]; exact hl) (by rw [← hk]; omega)).symm
      have E := hide e
      clear hk e
      go_wp2
      go_ret
      exact ⟨by rw [E.out]; rfl, rfl⟩
set_option maxHeartbeats 800000 in
set_option maxRecDepth 10000 in
theorem len64_any (x : Nat) (hx : x ≤ 255) (hx1 : 1 ≤ x) (w : World) :
   Calls Tryd.prog 74 #[.int .u64 (x : Int)] w fun e w' => e = .returned (.int .i64 ((Nat.log2 x + 1 : Nat) : Int)) ∧ w = w' := by
  have q1 : ¬ (4294967296 : Int) ≤ (x : Int) := by omega
  have q2 : ¬ (65536 : Int) ≤ (x : Int) := by omega
  have q3 : ¬ (256 : Int) ≤ (x : Int) := by omega
  have q4 : (0 : Int) ≤ (x : Int) := by omega
  have q5 : (x : Int) < 256 := by omega
  go_enter Tryd.func74, Tryd.ntmps74
  go_wp2
  go_ret
  refine ⟨?_, rfl⟩
  have h := S.lenArr_log ⟨x, by omega⟩ hx1
  exact congrArg (fun z => Ending.returned (Value.int .i64 z)) h
set_option maxHeartbeats 400000 in
theorem len_any (x : Nat) (hx : x ≤ 255) (hx1 : 1 ≤ x) (w : World) :
   Calls Tryd.prog 65 #[.int .u64 (x : Int)] w fun e w' => e = .returned (.int .i64 ((Nat.log2 x + 1 : Nat) : Int)) ∧ w = w' := by
  go_enter Tryd.func65, Tryd.ntmps65
  go_wp2_with fail
  refine (len64_any x hx hx1 w).mono ?_
  rintro e w' ⟨rfl, rfl⟩
  go_wp2_with fail
  go_ret
  exact ⟨rfl, rfl⟩
set_option maxHeartbeats 800000 in
theorem parting_any (n : Nat) (hn : 2 ≤ n) (hn2 : n ≤ 256) (w : World) :
   Calls Tryd.prog 48 #[.int .i64 (n : Int)] w fun e w' => e = .returned (.int .i64 (S.half n : Int)) ∧ w = w' := by
  obtain ⟨x, hx⟩ : ∃ x, x = n - 1 := ⟨_, rfl⟩
  have hxn : n = x + 1 := by omega
  have hl : x.log2 < 8 := by
    have : ∀ y : Fin 256, y.val.log2 < 8 := by decide +kernel
    exact this ⟨x, by omega⟩
  have hh : S.half n = 2 ^ x.log2 := by rw [S.half, ← hx]
  subst hxn
  have q1 : IntKind.i64.wrap (((x + 1 : Nat) : Int) - 1) = (x : Int) := by rw [IntKind.wrap_i64]; omega
  have q2 : IntKind.u64.wrap (x : Int) = (x : Int) := by rw [IntKind.wrap_u64]; omega
  have HH := hide hh
  clear hh hx
  go_enter Tryd.func48, Tryd.ntmps48
  go_wp2_with fail
  refine (len_any x (by omega) (by omega) w).mono ?_
  rintro e w' ⟨rfl, rfl⟩
  obtain ⟨l, hl2⟩ : ∃ l, l = x.log2 := ⟨_, rfl⟩
  rw [← hl2] at hl HH ⊢
  clear hl2
  have q3 : IntKind.i64.wrap (((l + 1 : Nat) : Int) - 1) = (l : Int) := by rw [IntKind.wrap_i64]; omega
  have q4 : (0 : Int) ≤ (l : Int) := by omega
  go_wp2_with fail
  go_ret
  refine ⟨?_, rfl⟩
  have h2 : wrap64 ((2 : Int) ^ l) = ((2 ^ l : Nat) : Int) := by
    have : ∀ y : Fin 8, wrap64 ((2 : Int) ^ y.val) = ((2 ^ y.val : Nat) : Int) := by decide +kernel
    exact this ⟨l, hl⟩
  rw [HH.out, ← h2]
  rfl
end Go.Proofs.YtkljajfgdelfgaaDoor
namespace Go.Proofs.YtkljajfgdelfgaaDoor
open Go.RowKit

namespace S
def hsh (a : Int) (bs : List UInt8) : List UInt8 := cut (sum bs) (cw a)
theorem hsh_length (a : Int) (bs : List UInt8) : (hsh a bs).length = 32 := by rw [hsh, cut_length, sum_length]
def leaf (a : Int) (b : List UInt8) : List UInt8 := hsh a (0 :: b)
def node (a : Int) (d e : List UInt8) : List UInt8 := hsh a (1 :: (d.take (cw a) ++ e.take (cw a)))
theorem leaf_length (a : Int) (b : List UInt8) : (leaf a b).length = 32 := hsh_length _ _
theorem node_length (a : Int) (d e : List UInt8) : (node a d e).length = 32 := hsh_length _ _
end S
theorem size_dig (d : List UInt8) (hd : d.length = 32) : (Tryd.prog.info? 23).map (·.size) = some (S.v8 d).size := by rw [S.v8_size, hd]; exact size23
theorem zeros_dig (d : List UInt8) (hd : d.length = 32) : (S.v8 (S.zeros 32)).size = (S.v8 d).size := by rw [S.v8_size, S.v8_size, hd]; rfl
set_option maxHeartbeats 800000 in
set_option maxRecDepth 10000 in
theorem join_nil (w : World) : Calls Tryd.prog 64 #[.slice none 0 0] w fun e w' => ∃ g', e = .returned (.slice (some ⟨g', 0, none⟩) 0 0) ∧ Below w.heap.size w w' := by
  have hmk : ∀ w, (Instr.makeSlice 60 (.int .i64 0) (.int .i64 0)).run Tryd.prog w = .ok (.slice (some ⟨w.heap.size, 0, none⟩) 0 0) (w.alloc (.cells (madeCells #[.int .u8 0] 0) 5)) := fun w => make_room 0 (by omega) w
  go_enter Tryd.func64, Tryd.ntmps64
  go_wp2
  go_loopw [3, 11] (fun s i wr => i = .int .i64 0 ∧ s = .int .i64 0 ∧ w = wr) (fun _ _ _ => 0)
  case atStart => exact ⟨rfl, rfl, rfl⟩
  case round =>
    obtain ⟨rfl, rfl, rfl⟩ := hrel
    go_wp2
    generalize hW0 : w.alloc _ = W0
    have B0 : Below w.heap.size w W0 := by rw [← hW0]; exact (Below.refl _ _).alloc (Nat.le_refl _) _
    have BH := hide B0
    clear hW0 B0
    go_loopw [6, 24] (fun s i wr => i = .int .i64 0 ∧ s = .slice (some ⟨w.heap.size, 0, none⟩) 0 0 ∧ W0 = wr) (fun _ _ _ => 0)
    case atStart => exact ⟨rfl, rfl, rfl⟩
    case round =>
      obtain ⟨rfl, rfl, rfl⟩ := hrel
      go_wp2
      go_ret
      exact ⟨_, rfl, BH.out⟩
set_option maxHeartbeats 800000 in
set_option maxRecDepth 10000 in
theorem hash_of (a : Int) (x : Value) (bs : List UInt8) (w : World) (hK : KAt w)
   (hj : ∀ W, Below w.heap.size w W → Calls Tryd.prog 64 #[x] W fun e w' => ∃ v, e = .returned v ∧ SliceAt w' v bs ∧ Below W.heap.size W w') :
   Calls Tryd.prog 46 #[.int .i64 a, x] w fun e w' => e = .returned (.agg (S.v8 (S.hsh a bs))) ∧ Below w.heap.size w w' := by
  have HK := hide hK
  have h0 := hK.pos
  have HJ := hide hj
  clear hK hj
  go_enter Tryd.func46, Tryd.ntmps46
  go_wp2_with fail
  generalize hW0 : w.alloc _ = W0
  have R0 : Hid (W0.heap[w.heap.size]? = some (.cells (S.v8 (S.zeros 32)) 23 (0, 0))) := by rw [← hW0]; exact heap_alloc_new _ _
  have B0 : Hid (Below w.heap.size w W0) := by rw [← hW0]; exact (Below.refl _ _).alloc (Nat.le_refl _) _
  clear hW0
  refine (HJ.out W0 B0.out).mono ?_
  rintro e w1 ⟨v, rfl, hs1, hb1⟩
  have hz0 := block_lt_of_row R0.out
  have B1 : Hid (Below w.heap.size w w1) := B0.out.trans (hb1.mono (by omega))
  have R1 : Hid (w1.heap[w.heap.size]? = some (.cells (S.v8 (S.zeros 32)) 23 (0, 0))) := (hb1.block w.heap.size hz0).trans R0.out
  have S1 := hide hs1
  clear hs1 hb1 hz0 R0 B0
  go_wp2_with fail
  refine (Sum_any v bs w1 S1.out (HK.out.below B1.out h0)).mono ?_
  rintro e w2 ⟨rfl, hb2⟩
  have hz0 := block_lt_of_row R1.out
  have B2 : Hid (Below w.heap.size w w2) := B1.out.trans (hb2.mono (by omega))
  have R2 : Hid (w2.heap[w.heap.size]? = some (.cells (S.v8 (S.zeros 32)) 23 (0, 0))) := (hb2.block w.heap.size hz0).trans R1.out
  clear hb2 hz0 R1 B1 S1
  go_wp2_with fail
  refine (counted_any a w2).mono ?_
  rintro e w3 ⟨rfl, rfl⟩
  go_wp2_with fail
  have hc := S.cw_le a
  refine (cut_any (S.sum bs) (S.sum_length bs) (S.cw a) (by omega) w2).mono ?_
  rintro e w4 ⟨rfl, hb4⟩
  have hz0 := block_lt_of_row R2.out
  have B4 : Hid (Below w.heap.size w w4) := B2.out.trans (hb4.mono (by omega))
  have R4 : Hid (w4.heap[w.heap.size]? = some (.cells (S.v8 (S.zeros 32)) 23 (0, 0))) := (hb4.block w.heap.size hz0).trans R2.out
  clear hb4 hz0 R2 B2 hc
  have e : S.cut (S.sum bs) (S.cw a) = S.hsh a bs := rfl
  rw [e]
  obtain ⟨D, hD⟩ : ∃ D, D = S.hsh a bs := ⟨_, rfl⟩
  have hl : D.length = 32 := by rw [hD, S.hsh_length]
  rw [← hD]
  have HL := hide hl
  have HD := hide hD
  clear hD hl e
  go_wp2_with (refine wpList_store_row rfl 23 _ _ rfl w.heap.size (S.v8 D) rfl rfl 23 _ R4.out (size_dig D HL.out) (zeros_dig D HL.out) (S.v8_one _) ?_)
  exact bodyPost_ret (v := .agg (S.v8 D)) (results_cell_row (g := w.heap.size) (t := 23) (fr := (0, 0)) Tryd.results46 _ _ _ _ rfl (setRow_heap _ _ _ _ _ _ R4.out) Tryd.underlying23 rfl (size_dig D HL.out)) rfl ⟨by rw [HD.out], below_setRow B4.out (Nat.le_refl _) _⟩
theorem hash_any (a : Int) (g n c : Nat) (bss : List (List UInt8)) (w : World) (hn : n = bss.length) (hn8 : n ≤ 1000000) (hnc : n ≤ c) (hl : ListAt w g bss) (hT : bss.flatten.length ≤ 140737488355328) (hK : KAt w) :
   Calls Tryd.prog 46 #[.int .i64 a, .slice (some ⟨g, 0, none⟩) n c] w fun e w' => e = .returned (.agg (S.v8 (S.hsh a bss.flatten))) ∧ Below w.heap.size w w' :=
  hash_of a _ _ w hK fun W hW => (join_any g n c bss W hn hn8 hnc (hl.below hW (Nat.le_refl _)) hT).mono (by
    rintro e w' ⟨g', rfl, _, h2, h3⟩
    exact ⟨_, rfl, h2.sliceAt hT, h3⟩)
theorem hash_nil (a : Int) (w : World) (hK : KAt w) :
   Calls Tryd.prog 46 #[.int .i64 a, .slice none 0 0] w fun e w' => e = .returned (.agg (S.v8 (S.hsh a []))) ∧ Below w.heap.size w w' :=
  hash_of a _ _ w hK fun W _ => (join_nil W).mono (by
    rintro e w' ⟨g', rfl, h3⟩
    exact ⟨_, rfl, Or.inr (Or.inl ⟨_, _, rfl, Nat.zero_le _, rfl⟩), h3⟩)
theorem one8_at {w : World} {g : Nat} {x : UInt8} {c : Int} (hc : c = (x.toNat : Int)) (h : w.heap[g]? = some (.cells #[.int .u8 c] 5 (0, 0))) : SliceAt w (.slice (some ⟨g, 0, none⟩) 1 1) [x] :=
  Or.inr (Or.inr ⟨g, 0, 1, rfl, Nat.le_refl _, by simp, block_lt_of_row h, fun j hj => by
    obtain rfl : j = 0 := by simp at hj; exact hj
    rw [cell_of_row w g (0 + 0) _ _ _ h, hc]; rfl⟩)
set_option maxHeartbeats 800000 in
set_option maxRecDepth 10000 in
theorem leaf_any (a : Int) (v : Value) (bs : List UInt8) (w : World) (hv : SliceAt w v bs) (hl : bs.length + 1 ≤ 140737488355328) (hK : KAt w) :
   Calls Tryd.prog 30 #[.int .i64 a, v] w fun e w' => e = .returned (.agg (S.v8 (S.leaf a bs))) ∧ Below w.heap.size w w' := by
  obtain ⟨ao, len, cap, rfl, hlen, _⟩ := hv.form
  have HV := hide hv
  have HK := hide hK
  have h0 := hK.pos
  have HLn := hide hl
  clear hv hK hl hlen
  go_enter Tryd.func30, Tryd.ntmps30
  go_wp2_with fail
  generalize hW0 : w.alloc (.cells _ 23) = W0
  generalize hW1 : W0.alloc _ = W1
  generalize hW2 : W1.alloc _ = W2
  have B0 : Below w.heap.size w W0 := by rw [← hW0]; exact (Below.refl _ _).alloc (Nat.le_refl _) _
  have B1 : Below W0.heap.size W0 W1 := by rw [← hW1]; exact (Below.refl _ _).alloc (Nat.le_refl _) _
  have B2 : Below W1.heap.size W1 W2 := by rw [← hW2]; exact (Below.refl _ _).alloc (Nat.le_refl _) _
  have r0 : W0.heap[w.heap.size]? = some (.cells (S.v8 (S.zeros 32)) 23 (0, 0)) := by rw [← hW0]; exact heap_alloc_new _ _
  have s0 : W0.heap.size = w.heap.size + 1 := by rw [← hW0]; simp
  have s1 : W1.heap.size = w.heap.size + 2 := by rw [← hW1]; simp [s0]
  have r1 : W1.heap[w.heap.size + 1]? = some (.cells #[.int .u8 0] 5 (0, 0)) := by rw [← hW1, ← s0]; exact heap_alloc_new _ _
  have r2 : W2.heap[w.heap.size + 2]? = some (.cells #[.slice (some ⟨w.heap.size + 1, 0, none⟩) 1 1, .slice ao len cap] 60 (0, 0)) := by rw [← hW2, ← s1]; exact heap_alloc_new _ _
  have B02 : Below w.heap.size w W2 := (B0.trans (B1.mono (by omega))).trans (B2.mono (by omega))
  have R02 : Hid (W2.heap[w.heap.size]? = some (.cells (S.v8 (S.zeros 32)) 23 (0, 0))) := (B2.block _ (by omega)).trans ((B1.block _ (by omega)).trans r0)
  have L2 : Hid (ListAt W2 (w.heap.size + 2) [[0], bs]) := ⟨block_lt_of_row r2, fun j hj => by
    rcases (by simp at hj; omega : j = 0 ∨ j = 1) with rfl | rfl
    · exact ⟨_, (cell_of_row W2 _ 0 _ _ _ r2).trans rfl, one8_at (x := 0) rfl ((B2.block _ (by omega)).trans r1)⟩
    · exact ⟨_, (cell_of_row W2 _ 1 _ _ _ r2).trans rfl, HV.out.below B02 (Nat.le_refl _)⟩⟩
  have B2H := hide B02
  clear hW0 hW1 hW2 B0 B1 B2 r0 r1 r2 s0 s1 B02
  refine (hash_any a (w.heap.size + 2) 2 2 [[0], bs] W2 rfl (by omega) (by omega) L2.out (by have := HLn.out; simp; omega) (HK.out.below B2H.out h0)).mono ?_
  rintro e w3 ⟨rfl, hb3⟩
  have hz0 := block_lt_of_row R02.out
  have B4 : Hid (Below w.heap.size w w3) := B2H.out.trans (hb3.mono (by omega))
  have R4 : Hid (w3.heap[w.heap.size]? = some (.cells (S.v8 (S.zeros 32)) 23 (0, 0))) := (hb3.block w.heap.size hz0).trans R02.out
  have e : S.hsh a [[0], bs].flatten = S.leaf a bs := by simp [S.leaf]
  rw [e]
  obtain ⟨D, hD⟩ : ∃ D, D = S.leaf a bs := ⟨_, rfl⟩
  have hl : D.length = 32 := by rw [hD, S.leaf_length]
  rw [← hD]
  have HL := hide hl
  have HD := hide hD
  clear hD hb3 hz0 R02 B2H L2 e hl
  go_wp2_with (refine wpList_store_row rfl 23 _ _ rfl w.heap.size (S.v8 D) rfl rfl 23 _ R4.out (size_dig D HL.out) (zeros_dig D HL.out) (S.v8_one _) ?_)
  exact bodyPost_ret (v := .agg (S.v8 D)) (results_cell_row (g := w.heap.size) (t := 23) (fr := (0, 0)) Tryd.results30 _ _ _ _ rfl (setRow_heap _ _ _ _ _ _ R4.out) Tryd.underlying23 rfl (size_dig D HL.out)) rfl ⟨by rw [HD.out], below_setRow B4.out (Nat.le_refl _) _⟩
end Go.Proofs.YtkljajfgdelfgaaDoor
namespace Go.Proofs.YtkljajfgdelfgaaDoor
open Go.RowKit
theorem wpList_build_known {w : World} {ops : Array Oper} {rest : List Oper} {o : Oper} {a : Act} {Q : Exit → Act → World → Prop} (hgd : o.guard = none) (t : TypeId) (parts : List (Nat × Operand)) (ho : o.op = .build t parts.toArray) (v : Value)
    (hr : (Instr.build t (parts.map fun p => (p.1, a.eval p.2)).toArray).run Tryd.prog w = .ok v w) (h : wpList Tryd.prog ops Q rest (a.put o.dst v) w) : wpList Tryd.prog ops Q (o :: rest) a w :=
  wpList_plain hgd fun _ hK => by
    unfold Oper.wp execOp
    simp only [ho, Sem.run_bind, List.map_toArray, hr, Result.andThen_ok]
    exact hK _ _ h
theorem wpList_alloc_known {w : World} {ops : Array Oper} {rest : List Oper} {o : Oper} {a : Act} {Q : Exit → Act → World → Prop} (hgd : o.guard = none) (t : TypeId) (ho : o.op = .alloc t) (v : Value) (w' : World)
    (hr : (Instr.alloc t true (.tuple #[])).run Tryd.prog w = .ok v w') (h : wpList Tryd.prog ops Q rest (a.put o.dst v) w') : wpList Tryd.prog ops Q (o :: rest) a w :=
  wpList_plain hgd fun _ hK => by
    unfold Oper.wp execOp
    simp only [ho, Sem.run_bind, hr, Result.andThen_ok]
    exact hK _ _ h
theorem wpList_store_known {w : World} {ops : Array Oper} {rest : List Oper} {o : Oper} {a : Act} {Q : Exit → Act → World → Prop} (hgd : o.guard = none) (t : TypeId) (x y : Operand) (ho : o.op = .store t x y) (w' : World)
    (hr : (Instr.storeAt t (a.eval x) (a.eval y)).run Tryd.prog w = .ok () w') (h : wpList Tryd.prog ops Q rest (a.put o.dst undef) w') : wpList Tryd.prog ops Q (o :: rest) a w :=
  wpList_plain hgd fun _ hK => by
    unfold Oper.wp execOp
    simp only [ho, Sem.run_bind, hr, Result.andThen_ok, Sem.run_pure]
    exact hK _ _ h
theorem wpList_load_known {w : World} {ops : Array Oper} {rest : List Oper} {o : Oper} {a : Act} {Q : Exit → Act → World → Prop} (hgd : o.guard = none) (t : TypeId) (x : Operand) (ho : o.op = .load t x) (v : Value)
    (hr : (Instr.loadAt t (a.eval x)).run Tryd.prog w = .ok v w) (h : wpList Tryd.prog ops Q rest (a.put o.dst v) w) : wpList Tryd.prog ops Q (o :: rest) a w :=
  wpList_plain hgd fun _ hK => by
    unfold Oper.wp execOp
    simp only [ho, Sem.run_bind, hr, Result.andThen_ok]
    exact hK _ _ h
theorem wpList_assign_known {w : World} {ops : Array Oper} {rest : List Oper} {o : Oper} {a : Act} {Q : Exit → Act → World → Prop} (hgd : o.guard = none) (x : Operand) (ho : o.op = .assign x) (h : wpList Tryd.prog ops Q rest (a.put o.dst (a.eval x)) w) : wpList Tryd.prog ops Q (o :: rest) a w :=
  wpList_plain hgd fun _ hK => by
    unfold Oper.wp execOp
    simp only [ho, Sem.run_pure]
    exact hK _ _ h
/-- Steps of a drawn region whose runs are known. -/
theorem step_buildSlice {md : Region.Mode} {ops : Array Oper} {Q : Exit → Act → World → Prop} {S : World → Prop} {fuel : Nat} {listed : Array Bool} {a : Act} {w : World} {i : Nat} {o : Oper} {rs : List Nat} (ho : ops[i]? = some o) (hgd : o.guard = none) (t : TypeId) (n : Nat) (parts : List (Nat × Operand))
    (hop : o.op = .buildSlice t n parts.toArray) (v' : Value) (w' : World) (hr : (Instr.buildSlice t n (parts.map fun p => (p.1, a.eval p.2)).toArray).run Tryd.prog w = .ok v' w') (hrest : AllReadyH Tryd.prog md ops Q S fuel listed a w rs)
    (h : S w' ∧ (S w' → wpAnyH Tryd.prog md ops Q S fuel (listed.setIfInBounds i true) (a.put o.dst v') w')) : AllReadyH Tryd.prog md ops Q S fuel listed a w (i :: rs) := by
  refine AllReadyH.cons ho (fun K hK => ?_) hrest
  rw [if_pos (by simp [Region.wanted, hgd])]
  unfold Oper.wp execOp
  simp only [hop, Sem.run_bind, List.map_toArray, hr, Result.andThen_ok]
  exact hK.out _ _ h.1 h.2
theorem step_store {md : Region.Mode} {ops : Array Oper} {Q : Exit → Act → World → Prop} {S : World → Prop} {fuel : Nat} {listed : Array Bool} {a : Act} {w : World} {i : Nat} {o : Oper} {rs : List Nat} (ho : ops[i]? = some o) (hgd : o.guard = none) (t : TypeId) (x y : Operand)
    (hop : o.op = .store t x y) (w' : World) (hr : (Instr.storeAt t (a.eval x) (a.eval y)).run Tryd.prog w = .ok () w') (hrest : AllReadyH Tryd.prog md ops Q S fuel listed a w rs)
    (h : S w' ∧ (S w' → wpAnyH Tryd.prog md ops Q S fuel (listed.setIfInBounds i true) (a.put o.dst undef) w')) : AllReadyH Tryd.prog md ops Q S fuel listed a w (i :: rs) := by
  refine AllReadyH.cons ho (fun K hK => ?_) hrest
  rw [if_pos (by simp [Region.wanted, hgd])]
  unfold Oper.wp execOp
  simp only [hop, Sem.run_bind, hr, Result.andThen_ok, Sem.run_pure]
  exact hK.out _ _ h.1 h.2
theorem step_load {md : Region.Mode} {ops : Array Oper} {Q : Exit → Act → World → Prop} {S : World → Prop} {fuel : Nat} {listed : Array Bool} {a : Act} {w : World} {i : Nat} {o : Oper} {rs : List Nat} (ho : ops[i]? = some o) (hgd : o.guard = none) (t : TypeId) (x : Operand)
    (hop : o.op = .load t x) (v' : Value) (hr : (Instr.loadAt t (a.eval x)).run Tryd.prog w = .ok v' w) (hrest : AllReadyH Tryd.prog md ops Q S fuel listed a w rs)
    (h : S w ∧ (S w → wpAnyH Tryd.prog md ops Q S fuel (listed.setIfInBounds i true) (a.put o.dst v') w)) : AllReadyH Tryd.prog md ops Q S fuel listed a w (i :: rs) := by
  refine AllReadyH.cons ho (fun K hK => ?_) hrest
  rw [if_pos (by simp [Region.wanted, hgd])]
  unfold Oper.wp execOp
  simp only [hop, Sem.run_bind, hr, Result.andThen_ok]
  exact hK.out _ _ h.1 h.2
theorem rangeAt_row {w : World} {g : Nat} {cs : List Value} {t : TypeId} (h : w.heap[g]? = some (.cells cs.toArray t (0, 0))) : w.rangeAt g 0 cs := fun j v hv => by
  rw [Nat.zero_add, cell_of_row w g j _ t (0, 0) h]; simpa using hv

theorem wpList_build_as {w : World} {ops : Array Oper} {rest : List Oper} {o : Oper} {a : Act} {Q : Exit → Act → World → Prop} (hgd : o.guard = none) (t : TypeId) (parts : List (Nat × Operand)) (ho : o.op = .build t parts.toArray) (vs : List (Nat × Value)) (hvs : (parts.map fun p => (p.1, a.eval p.2)) = vs) (v : Value)
    (hr : (Instr.build t vs.toArray).run Tryd.prog w = .ok v w) (h : wpList Tryd.prog ops Q rest (a.put o.dst v) w) : wpList Tryd.prog ops Q (o :: rest) a w := by
  subst hvs
  exact wpList_build_known hgd t parts ho v hr h
theorem wpList_store_as {w : World} {ops : Array Oper} {rest : List Oper} {o : Oper} {a : Act} {Q : Exit → Act → World → Prop} (hgd : o.guard = none) (t : TypeId) (x y : Operand) (ho : o.op = .store t x y) (vx vy : Value) (hx : a.eval x = vx) (hy : a.eval y = vy) (w' : World)
    (hr : (Instr.storeAt t vx vy).run Tryd.prog w = .ok () w') (h : wpList Tryd.prog ops Q rest (a.put o.dst undef) w') : wpList Tryd.prog ops Q (o :: rest) a w := by
  subst hx; subst hy
  exact wpList_store_known hgd t x y ho w' hr h
theorem wpList_load_as {w : World} {ops : Array Oper} {rest : List Oper} {o : Oper} {a : Act} {Q : Exit → Act → World → Prop} (hgd : o.guard = none) (t : TypeId) (x : Operand) (ho : o.op = .load t x) (vx : Value) (hx : a.eval x = vx) (v : Value)
    (hr : (Instr.loadAt t vx).run Tryd.prog w = .ok v w) (h : wpList Tryd.prog ops Q rest (a.put o.dst v) w) : wpList Tryd.prog ops Q (o :: rest) a w := by
  subst hx
  exact wpList_load_known hgd t x ho v hr h
theorem wpList_buildSlice_as {w : World} {ops : Array Oper} {rest : List Oper} {o : Oper} {a : Act} {Q : Exit → Act → World → Prop} (hgd : o.guard = none) (t : TypeId) (n : Nat) (parts : List (Nat × Operand)) (ho : o.op = .buildSlice t n parts.toArray) (vs : List (Nat × Value)) (hvs : (parts.map fun p => (p.1, a.eval p.2)) = vs) (v : Value) (w' : World)
    (hr : (Instr.buildSlice t n vs.toArray).run Tryd.prog w = .ok v w') (h : wpList Tryd.prog ops Q rest (a.put o.dst v) w') : wpList Tryd.prog ops Q (o :: rest) a w := by
  subst hvs
  exact wpList_plain hgd fun _ hK => by
    unfold Oper.wp execOp
    simp only [ho, Sem.run_bind, List.map_toArray, hr, Result.andThen_ok]
    exact hK _ _ h
/-- The same operation: a guard ahead of a law for one operation. -/
theorem at_op (o : Oper) {ops : Array Oper} {rest : List Oper} {a : Act} {Q : Exit → Act → World → Prop} {w : World} (h : wpList Tryd.prog ops Q (o :: rest) a w) : wpList Tryd.prog ops Q (o :: rest) a w := h
theorem step_buildSlice_as {md : Region.Mode} {ops : Array Oper} {Q : Exit → Act → World → Prop} {S : World → Prop} {fuel : Nat} {listed : Array Bool} {a : Act} {w : World} {i : Nat} {o : Oper} {rs : List Nat} (ho : ops[i]? = some o) (hgd : o.guard = none) (t : TypeId) (n : Nat) (parts : List (Nat × Operand))
    (hop : o.op = .buildSlice t n parts.toArray) (vs : List (Nat × Value)) (hvs : (parts.map fun p => (p.1, a.eval p.2)) = vs) (v' : Value) (w' : World) (hr : (Instr.buildSlice t n vs.toArray).run Tryd.prog w = .ok v' w') (hrest : AllReadyH Tryd.prog md ops Q S fuel listed a w rs)
    (h : S w' ∧ (S w' → wpAnyH Tryd.prog md ops Q S fuel (listed.setIfInBounds i true) (a.put o.dst v') w')) : AllReadyH Tryd.prog md ops Q S fuel listed a w (i :: rs) := by
  subst hvs
  exact step_buildSlice ho hgd t n parts hop v' w' hr hrest h
theorem step_store_as {md : Region.Mode} {ops : Array Oper} {Q : Exit → Act → World → Prop} {S : World → Prop} {fuel : Nat} {listed : Array Bool} {a : Act} {w : World} {i : Nat} {o : Oper} {rs : List Nat} (ho : ops[i]? = some o) (hgd : o.guard = none) (t : TypeId) (x y : Operand)
    (hop : o.op = .store t x y) (vx vy : Value) (hx : a.eval x = vx) (hy : a.eval y = vy) (w' : World) (hr : (Instr.storeAt t vx vy).run Tryd.prog w = .ok () w') (hrest : AllReadyH Tryd.prog md ops Q S fuel listed a w rs)
    (h : S w' ∧ (S w' → wpAnyH Tryd.prog md ops Q S fuel (listed.setIfInBounds i true) (a.put o.dst undef) w')) : AllReadyH Tryd.prog md ops Q S fuel listed a w (i :: rs) := by
  subst hx; subst hy
  exact step_store ho hgd t x y hop w' hr hrest h
/-- An append of a drawn region whose run is known. -/
theorem step_append_as {md : Region.Mode} {ops : Array Oper} {Q : Exit → Act → World → Prop} {S : World → Prop} {fuel : Nat} {listed : Array Bool} {a : Act} {w : World} {i : Nat} {o : Oper} {rs : List Nat} (ho : ops[i]? = some o) (hgd : o.guard = none) (x y : Operand) (t tn : TypeId)
    (hop : o.op = .call { callee := .builtin .append, args := #[x, y], argTypes := #[t, tn] }) (vx vy : Value) (hx : a.eval x = vx) (hy : a.eval y = vy) (v' : Value) (w' : World) (hr : (Builtin.append_ #[t, tn] o.type #[vx, vy]).run Tryd.prog w = .ok v' w') (hrest : AllReadyH Tryd.prog md ops Q S fuel listed a w rs)
    (h : S w' ∧ (S w' → wpAnyH Tryd.prog md ops Q S fuel (listed.setIfInBounds i true) (a.put o.dst v') w')) : AllReadyH Tryd.prog md ops Q S fuel listed a w (i :: rs) := by
  refine AllReadyH.cons ho (fun K hK => ?_) hrest
  rw [if_pos (by simp [Region.wanted, hgd])]
  exact Lib.wp_append_run w x y t tn hop vx vy hx hy v' w' hr (hK.out _ _ h.1 h.2)
/-- A digest is stored where noughts (or another digest) lay. -/
theorem store_dig {w : World} {g : Nat} {c D : List UInt8} (h : w.heap[g]? = some (.cells (S.v8 c) 23 (0, 0))) (hc : c.length = 32) (hD : D.length = 32) :
    ∃ w', (Instr.storeAt 23 (.pointer (some ⟨g, 0, none⟩)) (.agg (S.v8 D))).run Tryd.prog w = .ok () w' ∧ w'.heap[g]? = some (.cells (S.v8 D) 23 (0, 0)) ∧ Chg (fun k => k = g) w w' ∧ w'.heap.size = w.heap.size := by
  have hr := run_storeVar_row (P := Tryd.prog) w g 23 23 (S.v8 c) (S.v8 D) h (size_dig D hD) (by rw [S.v8_size, S.v8_size, hc, hD]) (S.v8_one _)
  refine ⟨w.setRow g (S.v8 D), ?_, setRow_heap _ _ _ _ _ _ h, ?_, ?_⟩
  · simp only [Instr.storeAt, Instr.sureAddr, Sem.run_bind, Sem.run_pure, Result.andThen_ok, hr]
  · exact ⟨rfl, rfl, rfl, by simp, fun k _ hk => setRow_other _ _ _ _ hk⟩
  · simp
/-- The first bytes of a digest that lies in memory, as a slice. -/
theorem dig_part {w : World} {g : Nat} {d : List UInt8} (h : w.heap[g]? = some (.cells (S.v8 d) 23 (0, 0))) (hd : d.length = 32) (n : Nat) (hn : n ≤ 32) : SliceAt w (.slice (some ⟨g, 0, none⟩) n 32) (d.take n) := by
  have hl : (d.take n).length = n := by rw [List.length_take]; omega
  refine Or.inr (Or.inr ⟨g, 0, 32, by rw [hl], by omega, by omega, block_lt_of_row h, fun j hj => ?_⟩)
  rw [hl] at hj
  rw [Nat.zero_add, v8_cell h j (by omega)]
  congr 3
  rw [List.getD_eq_getElem?_getD, List.getD_eq_getElem?_getD, List.getElem?_take, if_pos hj]
end Go.Proofs.YtkljajfgdelfgaaDoor
namespace Go.Proofs.YtkljajfgdelfgaaDoor
open Go.RowKit

theorem bs34one (W : World) (c : Int) : (Instr.buildSlice 60 1 #[(0, .int .u8 c)]).run Tryd.prog W = .ok (.slice (some ⟨W.heap.size, 0, none⟩) 1 1) (W.alloc (.cells #[.int .u8 c] 5)) := by
  go_simp
theorem bs22three (W : World) (a b c : Option Addr) (i j k l m n : Nat) : (Instr.buildSlice 53 3 #[(0, .slice a i j), (1, .slice b k l), (2, .slice c m n)]).run Tryd.prog W = .ok (.slice (some ⟨W.heap.size, 0, none⟩) 3 3) (W.alloc (.cells #[.slice a i j, .slice b k l, .slice c m n] 60)) := by
  go_simp
set_option maxHeartbeats 4000000 in
set_option maxRecDepth 10000 in
theorem node_any (a : Int) (d e : List UInt8) (hd : d.length = 32) (he : e.length = 32) (w : World) (hK : KAt w) :
   Calls Tryd.prog 37 #[.int .i64 a, .agg (S.v8 d), .agg (S.v8 e)] w fun r w' => r = .returned (.agg (S.v8 (S.node a d e))) ∧ Below w.heap.size w w' := by
  have HK := hide hK
  have h0 := hK.pos
  have HD := hide hd
  have HE := hide he
  clear hK hd he
  go_enter Tryd.func37, Tryd.ntmps37
  go_wp2_with fail
  generalize hW0 : w.alloc (.cells (S.v8 d) 23) = W0
  generalize hW1 : W0.alloc (.cells (S.v8 e) 23) = W1
  generalize hW2 : W1.alloc _ = W2
  have B0 : Below w.heap.size w W0 := by rw [← hW0]; exact (Below.refl _ _).alloc (Nat.le_refl _) _
  have B1 : Below W0.heap.size W0 W1 := by rw [← hW1]; exact (Below.refl _ _).alloc (Nat.le_refl _) _
  have B2 : Below W1.heap.size W1 W2 := by rw [← hW2]; exact (Below.refl _ _).alloc (Nat.le_refl _) _
  have r0 : W0.heap[w.heap.size]? = some (.cells (S.v8 d) 23 (0, 0)) := by rw [← hW0]; exact heap_alloc_new _ _
  have s0 : W0.heap.size = w.heap.size + 1 := by rw [← hW0]; simp
  have s1 : W1.heap.size = w.heap.size + 2 := by rw [← hW1]; simp [s0]
  have r1 : W1.heap[w.heap.size + 1]? = some (.cells (S.v8 e) 23 (0, 0)) := by rw [← hW1, ← s0]; exact heap_alloc_new _ _
  have r2 : W2.heap[w.heap.size + 2]? = some (.cells (S.v8 (S.zeros 32)) 23 (0, 0)) := by rw [← hW2, ← s1]; exact heap_alloc_new _ _
  have BB : Hid (Below w.heap.size w W2) := (B0.trans (B1.mono (by omega))).trans (B2.mono (by omega))
  have RA : Hid (W2.heap[w.heap.size]? = some (.cells (S.v8 d) 23 (0, 0))) := (B2.block _ (by omega)).trans ((B1.block _ (by omega)).trans r0)
  have RB : Hid (W2.heap[w.heap.size + 1]? = some (.cells (S.v8 e) 23 (0, 0))) := (B2.block _ (by omega)).trans r1
  have RC := hide r2
  clear hW0 hW1 hW2 B0 B1 B2 r0 r1 r2 s0 s1
  refine (counted_any a W2).mono ?_
  rintro e w3 ⟨rfl, rfl⟩
  obtain ⟨n, hn⟩ : ∃ n, n = S.cw a := ⟨_, rfl⟩
  have hn32 : n ≤ 32 := by rw [hn]; exact S.cw_le a
  rw [← hn]
  have HN := hide hn
  clear hn
  have q1 : (0 : Int) ≤ (n : Int) := by omega
  have q2 : (n : Int) ≤ 32 := by omega
  go_wp2_with fail
  refine wp_region_noPanic ?_
  refine wp_region_held_drew (S := (fun _ => True)) follows trivial (fun hHeld => ?_)
  have hz0 := block_lt_of_row RC.out
  have BZ : Hid (Below w.heap.size w W2.drew) := BB.out.drew
  have RA2 : Hid (W2.drew.heap[w.heap.size]? = some (.cells (S.v8 d) 23 (0, 0))) := RA.out
  have RB2 : Hid (W2.drew.heap[w.heap.size + 1]? = some (.cells (S.v8 e) 23 (0, 0))) := RB.out
  have RC2 : Hid (W2.drew.heap[w.heap.size + 2]? = some (.cells (S.v8 (S.zeros 32)) 23 (0, 0))) := RC.out
  clear BB RA RB RC hz0
  generalize W2.drew = Z at BZ RA2 RB2 RC2 ⊢
  refine wpAnyH_take (i := 0) (oi := { dst := some 10, op := Op.move (Operand.tmp 0), type := 3, pos := "merkle.go:27", after := #[], guard := none }) (v := ?_) rfl (by kernel_rfl) (by kernel_rfl) (by kernel_rfl) (fun _ _ _ h => h) (Or.inl ⟨by rfl, ?_⟩) (by assumption) ?_
  rotate_left
  · intro w hSw
    clear hSw
    go_simp
    all_goals with_reducible rfl
  simp only [Act.put, List.setIfInBounds_toArray, List.set_cons_zero, List.set_cons_succ]
  refine wpAnyH_take (i := 2) (oi := { dst := some 12, op := Op.move (Operand.tmp 7), type := 3, pos := "merkle.go:27", after := #[], guard := none }) (v := ?_) rfl (by kernel_rfl) (by kernel_rfl) (by kernel_rfl) (fun _ _ _ h => h) (Or.inl ⟨by rfl, ?_⟩) (by assumption) ?_
  rotate_left
  · intro w hSw
    clear hSw
    go_simp
    all_goals with_reducible rfl
  simp only [Act.put, List.setIfInBounds_toArray, List.set_cons_zero, List.set_cons_succ]
  refine wpAnyH_take (i := 3) (oi := { dst := some 13, op := Op.slice 23 (Operand.tmp 4) none (some (Operand.tmp 12)) none, type := 60, pos := "merkle.go:27", after := #[{ on := 2, ground := Ground.data }], guard := none }) (v := ?_) rfl (by kernel_rfl) (by kernel_rfl) (by kernel_rfl) (fun _ _ _ h => h) (Or.inl ⟨by rfl, ?_⟩) (by assumption) ?_
  rotate_left
  · intro w hSw
    clear hSw
    go_simp
    all_goals with_reducible rfl
  simp only [Act.put, List.setIfInBounds_toArray, List.set_cons_zero, List.set_cons_succ]
  refine wpAnyH_take (i := 4) (oi := { dst := some 14, op := Op.move (Operand.tmp 7), type := 3, pos := "merkle.go:27", after := #[], guard := none }) (v := ?_) rfl (by kernel_rfl) (by kernel_rfl) (by kernel_rfl) (fun _ _ _ h => h) (Or.inl ⟨by rfl, ?_⟩) (by assumption) ?_
  rotate_left
  · intro w hSw
    clear hSw
    go_simp
    all_goals with_reducible rfl
  simp only [Act.put, List.setIfInBounds_toArray, List.set_cons_zero, List.set_cons_succ]
  refine wpAnyH_take (i := 5) (oi := { dst := some 15, op := Op.slice 23 (Operand.tmp 5) none (some (Operand.tmp 14)) none, type := 60, pos := "merkle.go:27", after := #[{ on := 4, ground := Ground.data }], guard := none }) (v := ?_) rfl (by kernel_rfl) (by kernel_rfl) (by kernel_rfl) (fun _ _ _ h => h) (Or.inl ⟨by rfl, ?_⟩) (by assumption) ?_
  rotate_left
  · intro w hSw
    clear hSw
    go_simp
    all_goals with_reducible rfl
  simp only [Act.put, List.setIfInBounds_toArray, List.set_cons_zero, List.set_cons_succ]
  refine wpAnyH_ready (rs := [1]) (by kernel_rfl) (by simp) ?_
  refine step_buildSlice_as (o := { dst := some 11, op := Op.buildSlice 60 1 #[(0, Operand.const (Value.int IntKind.u8 1))], type := 60, pos := "merkle.go:27", after := #[], guard := none }) rfl rfl 60 1 [(0, .const (.int .u8 1))] rfl [(0, .int .u8 1)] rfl _ _ (bs34one Z 1) AllReadyH.nil ⟨trivial, fun hHeld => ?_⟩
  clear hHeld
  simp only [Act.put, List.setIfInBounds_toArray, List.set_cons_zero, List.set_cons_succ]
  have hz0 := block_lt_of_row RC2.out
  obtain ⟨g1, hg1⟩ : ∃ g1, g1 = Z.heap.size := ⟨_, rfl⟩
  generalize hZ1 : Z.alloc (.cells #[.int .u8 1] 5) = Z1
  have C1 : Below Z.heap.size Z Z1 := by rw [← hZ1]; exact (Below.refl _ _).alloc (Nat.le_refl _) _
  have R1 : Hid (Z1.heap[g1]? = some (.cells #[.int .u8 1] 5 (0, 0))) := by rw [← hZ1, hg1]; exact heap_alloc_new _ _
  have B1 : Hid (Below w.heap.size w Z1) := BZ.out.trans (C1.mono (by omega))
  have RA3 : Hid (Z1.heap[w.heap.size]? = some (.cells (S.v8 d) 23 (0, 0))) := (C1.block _ (by omega)).trans RA2.out
  have RB3 : Hid (Z1.heap[w.heap.size + 1]? = some (.cells (S.v8 e) 23 (0, 0))) := (C1.block _ (by omega)).trans RB2.out
  have RC3 : Hid (Z1.heap[w.heap.size + 2]? = some (.cells (S.v8 (S.zeros 32)) 23 (0, 0))) := (C1.block _ (by omega)).trans RC2.out
  rw [← hg1]
  clear hZ1 C1 BZ RA2 RB2 RC2 hz0 hg1
  refine wpAnyH_ready (rs := [6]) (by kernel_rfl) (by simp) ?_
  refine step_buildSlice_as (o := { dst := some 16, op := Op.buildSlice 53 3 #[(0, Operand.tmp 11), (1, Operand.tmp 13), (2, Operand.tmp 15)], type := 53, pos := "merkle.go:27", after := #[{ on := 1, ground := Ground.data }, { on := 3, ground := Ground.data }, { on := 5, ground := Ground.data }], guard := none }) rfl rfl 53 3 [(0, .tmp 11), (1, .tmp 13), (2, .tmp 15)] rfl [(0, .slice (some ⟨g1, 0, none⟩) 1 1), (1, .slice (some ⟨w.heap.size, 0, none⟩) n 32), (2, .slice (some ⟨w.heap.size + 1, 0, none⟩) n 32)] rfl _ _ (bs22three Z1 _ _ _ _ _ _ _ _ _) AllReadyH.nil ⟨trivial, fun hHeld => ?_⟩
  clear hHeld
  simp only [Act.put, List.setIfInBounds_toArray, List.set_cons_zero, List.set_cons_succ]
  have hz0 := block_lt_of_row RC3.out
  have hz1 := block_lt_of_row R1.out
  obtain ⟨g2, hg2⟩ : ∃ g2, g2 = Z1.heap.size := ⟨_, rfl⟩
  rw [← hg2]
  generalize hZ2 : Z1.alloc _ = Z2
  have C2 : Below Z1.heap.size Z1 Z2 := by rw [← hZ2]; exact (Below.refl _ _).alloc (Nat.le_refl _) _
  have r6 : Z2.heap[g2]? = some (.cells #[.slice (some ⟨g1, 0, none⟩) 1 1, .slice (some ⟨w.heap.size, 0, none⟩) n 32, .slice (some ⟨w.heap.size + 1, 0, none⟩) n 32] 60 (0, 0)) := by rw [← hZ2, hg2]; exact heap_alloc_new _ _
  have B2 : Hid (Below w.heap.size w Z2) := B1.out.trans (C2.mono (by omega))
  have RC4 : Hid (Z2.heap[w.heap.size + 2]? = some (.cells (S.v8 (S.zeros 32)) 23 (0, 0))) := (C2.block _ (by omega)).trans RC3.out
  have LZ : Hid (ListAt Z2 g2 [[1], d.take n, e.take n]) := ⟨block_lt_of_row r6, fun j hj => by
    rcases (by simp at hj; omega : j = 0 ∨ j = 1 ∨ j = 2) with rfl | rfl | rfl
    · exact ⟨_, (cell_of_row Z2 _ 0 _ _ _ r6).trans rfl, one8_at (x := 1) rfl ((C2.block _ hz1).trans R1.out)⟩
    · exact ⟨_, (cell_of_row Z2 _ 1 _ _ _ r6).trans rfl, dig_part ((C2.block _ (by omega)).trans RA3.out) HD.out n hn32⟩
    · exact ⟨_, (cell_of_row Z2 _ 2 _ _ _ r6).trans rfl, dig_part ((C2.block _ (by omega)).trans RB3.out) HE.out n hn32⟩⟩
  clear hZ2 C2 r6 hz0 hz1 hg2 R1 B1 RA3 RB3 RC3
  refine wpAnyH_ready (rs := [7]) (by kernel_rfl) (by simp) ?_
  refine AllReadyH.cons (o := { dst := some 17, op := Op.call { callee := Callee.value (Operand.func 46), args := #[Operand.tmp 10, Operand.tmp 16], argTypes := #[3, 53] }, type := 23, pos := "merkle.go:27", after := #[{ on := 0, ground := Ground.data }, { on := 6, ground := Ground.data }], guard := none }) rfl (fun K hK => ?_) AllReadyH.nil
  go_simp
  refine (hash_any a g2 3 3 [[1], d.take n, e.take n] Z2 rfl (by omega) (by omega) LZ.out (by simp; omega) (HK.out.below B2.out h0)).mono ?_
  rintro r Z3 ⟨rfl, hb3⟩
  have hz0 := block_lt_of_row RC4.out
  have B3 : Hid (Below w.heap.size w Z3) := B2.out.trans (hb3.mono B2.out.size)
  have RC5 : Hid (Z3.heap[w.heap.size + 2]? = some (.cells (S.v8 (S.zeros 32)) 23 (0, 0))) := (hb3.block _ hz0).trans RC4.out
  have ee : S.hsh a [[1], d.take n, e.take n].flatten = S.node a d e := by rw [S.node, ← HN.out]; simp
  rw [ee]
  obtain ⟨D, hD⟩ : ∃ D, D = S.node a d e := ⟨_, rfl⟩
  have hl : D.length = 32 := by rw [hD, S.node_length]
  rw [← hD]
  have HL := hide hl
  have HDD := hide hD
  clear hb3 hz0 B2 RC4 LZ ee hl hD
  refine hK.out _ _ trivial (fun hHeld => ?_)
  clear hK K
  try simp only [Act.put, List.setIfInBounds_toArray, List.set_cons_zero, List.set_cons_succ]
  obtain ⟨Z4, hst, R6, C6, s6⟩ := store_dig RC5.out (S.zeros_length _) HL.out
  refine wpAnyH_ready (rs := [8]) (by kernel_rfl) (by simp) ?_
  refine step_store_as (o := { dst := none, op := Op.store 23 (Operand.tmp 6) (Operand.tmp 17), type := 0, pos := "merkle.go:27", after := #[{ on := 7, ground := Ground.data }, { on := 7, ground := Ground.chain }, { on := 0, ground := Ground.phase }, { on := 1, ground := Ground.phase }, { on := 2, ground := Ground.phase }, { on := 3, ground := Ground.phase }, { on := 4, ground := Ground.phase }, { on := 5, ground := Ground.phase }, { on := 6, ground := Ground.phase }, { on := 7, ground := Ground.phase }], guard := none }) rfl rfl 23 (.tmp 6) (.tmp 17) rfl _ _ rfl rfl Z4 hst AllReadyH.nil ⟨trivial, fun hHeld => ?_⟩
  clear hHeld hst
  simp only [Act.put]
  have B6 : Below w.heap.size w Z4 := B3.out.trans (C6.below _ B3.out.size (fun k hk e => by omega))
  refine wpAnyH_done (by kernel_rfl) ?_ _
  refine NoPanic.normal ?_
  go_wp2_with fail
  exact bodyPost_ret (v := .agg (S.v8 D)) (results_cell_row (g := w.heap.size + 2) (t := 23) (fr := (0, 0)) Tryd.results37 _ _ _ _ rfl R6 Tryd.underlying23 rfl (size_dig D HL.out)) rfl ⟨by rw [HDD.out], B6⟩
end Go.Proofs.YtkljajfgdelfgaaDoor
