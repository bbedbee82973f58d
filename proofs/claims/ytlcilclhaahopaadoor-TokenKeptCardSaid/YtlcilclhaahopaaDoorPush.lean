/- append of noughts (append behind make) onto a []byte of the call's own: within the room it writes there, else it makes a new row. -/
import Derived.Test.YtlcilclhaahopaaDoorMac
import Derived.Test.YtlcilclhaahopaaDoorJoin
import Derived.Laws.OwnMore
import Derived.Lib.AppendZeros
import Derived.Test.YtlcilclhaahopaaDoorSum
namespace Go.Proofs.YtlcilclhaahopaaDoor
open Go.RowKit
theorem zero5 (w : World) : (zeroValue 5).run Tryd.prog w = .ok (.int .u8 0) w := by kernel_rfl
theorem zeroCells_byte (m : Nat) : (Builtin.zeroCells (Value.int .u8 0).cells m).toList = List.replicate m (Value.int .u8 0) := by
  apply List.ext_getElem
  · simp [Builtin.zeroCells, Value.cells]
  · intro j h1 h2
    simp [Builtin.zeroCells, Value.cells, Nat.mod_one]
theorem zeroCells_arr (m : Nat) : Builtin.zeroCells (Value.int .u8 0).cells m = Array.replicate m (Value.int .u8 0) := by
  apply Array.ext'
  rw [zeroCells_byte]; simp
theorem asInt_i64 (w : World) (m : Nat) : (asInt (.int .i64 (m : Int))).run Tryd.prog w = .ok (m : Int) w := rfl
theorem append_zeros_room (w : World) (g n cap m : Nat) (cur : Array Value) (hg : w.heap[g]? = some (.cells cur 5 (0, 0))) (ty : TypeId) (hm : m ≤ 65) (hm0 : ¬ m = 0) (hroom : n + m ≤ cap) (hfit : n + m ≤ cur.size) :
    (Builtin.append_ #[30, 3] ty #[.slice (some ⟨g, 0, none⟩) n cap, .int .i64 (m : Int)]).run Tryd.prog w =
      .ok (.slice (some ⟨g, 0, none⟩) (n + m) cap) (w.setRow g (cur.toList.take n ++ List.replicate m (Value.int .u8 0) ++ cur.toList.drop (n + m)).toArray) := by
  have hw : IntKind.i64.wrap (m : Int) = (m : Int) := by rw [IntKind.wrap_i64]; omega
  have h1 : ¬ (m : Int) < 0 := by omega
  have h2 : ¬ 281474976710656 < (m : Int) := by omega
  obtain ⟨i, hi, hz0, hz1, hz2⟩ := info_parts info5
  have hst := run_storeCells_at Tryd.prog g n 5 (List.replicate m (Value.int .u8 0)) 0 cur w hg (by simpa using hfit) (by intro v hv; rw [List.eq_of_mem_replicate hv]; rfl)
  simp only [Nat.add_zero, List.length_replicate] at hst
  have ha := asInt_i64 w m
  simp [Builtin.append_, run_underlying Tryd.underlying30, run_underlying Tryd.underlying3, sizeOf, typeInfo, hi, hz1, hz2, ha, hw, h1, h2, hroom, hm0, zeroCells_byte, Addr.add_lit, hst]
theorem append_zeros_none (w : World) (ao : Option Addr) (n cap : Nat) (ty : TypeId) (hroom : n ≤ cap) :
    (Builtin.append_ #[30, 3] ty #[.slice ao n cap, .int .i64 0]).run Tryd.prog w = .ok (.slice ao n cap) w := by
  have ha : (asInt (.int .i64 0)).run Tryd.prog w = .ok 0 w := rfl
  have hw : IntKind.i64.wrap 0 = 0 := by decide
  have hs : ∀ a, (storeCells a []).run Tryd.prog w = .ok () w := fun _ => rfl
  obtain ⟨i, hi, hz0, hz1, hz2⟩ := info_parts info5
  cases ao with
  | none => simp [Builtin.append_, run_underlying Tryd.underlying30, run_underlying Tryd.underlying3, sizeOf, typeInfo, hi, hz1, hz2, ha, hw, hroom]
  | some a => simp [Builtin.append_, run_underlying Tryd.underlying30, run_underlying Tryd.underlying3, sizeOf, typeInfo, hi, hz1, hz2, ha, hw, hroom, hs]
theorem append_zeros_grow (w : World) (b : Addr) (n cap m : Nat) (olds : List Value) (hlo : olds.length = n) (holds : ∀ j v, olds[j]? = some v → w.cell? (b.add j) = some v) (ty : TypeId) (hm : m ≤ 65) (hm0 : ¬ m = 0) (hg : cap < n + m) (hb : n + m ≤ 140737488355328) :
    (Builtin.append_ #[30, 3] ty #[.slice (some b) n cap, .int .i64 (m : Int)]).run Tryd.prog w =
      .ok (.slice (some ⟨w.heap.size, 0, none⟩) (n + m) (grownCap w (n + m) cap 5))
        (w.drew.alloc (.cells (olds.toArray ++ (List.replicate m (Value.int .u8 0)).toArray ++ Builtin.zeroCells (Value.int .u8 0).cells (grownCap w (n + m) cap 5 - (n + m))) 5)) := by
  have hw : IntKind.i64.wrap (m : Int) = (m : Int) := by rw [IntKind.wrap_i64]; omega
  have h1 : ¬ (m : Int) < 0 := by omega
  have h2 : ¬ 281474976710656 < (m : Int) := by omega
  obtain ⟨i, hi, hz0, hz1, hz2⟩ := info_parts info5
  have ha := asInt_i64 w m
  have hn : ¬ (n + m ≤ cap) := by omega
  have h63' : ¬ (9223372036854775807 < ((n : Int) + (m : Int))) := by omega
  have h48 := growslice_fits (need := n + m) (old := cap) (bytes := 1) hg (by omega)
  have h48' : ¬ (281474976710656 < Builtin.nextslicecap (n + m) cap) := by omega
  have hfo := run_firstCells_some (P := Tryd.prog) w.drew 1 n b n cap olds (by omega) (by simpa using holds)
  simp [Builtin.append_, run_underlying Tryd.underlying30, run_underlying Tryd.underlying3, sizeOf, typeInfo, hi, hz1, hz2, ha, hw, h1, h2, hm0, hn, h63', h48', Question.forced, hfo, newRow, grownCap]
  rw [zeroCells_arr]
end Go.Proofs.YtlcilclhaahopaaDoor
namespace Go.Proofs.YtlcilclhaahopaaDoor
open Go.RowKit
theorem run_append_zeros (w : World) (base : Nat) (v : Value) (bs : List UInt8) (m : Nat) (ty : TypeId) (hown : Own w base v bs) (hm : m ≤ 65) (hb : bs.length + 65 ≤ 140737488355328) (hbase : base ≤ w.heap.size) :
    ∃ v' w', (Builtin.append_ #[30, 3] ty #[v, .int .i64 (m : Int)]).run Tryd.prog w = .ok v' w' ∧ Own w' base v' (bs ++ S.zeros m) ∧ Below base w w' := by
  obtain ⟨h1, g, cap, rfl⟩ := hown
  have hlt := h1.lt g rfl
  have hcells := h1.cells (g := g) rfl
  obtain ⟨cur, hg0, hn, hcm, hcs, ht⟩ : ∃ cur, w.heap[g]? = some (.cells cur 5 (0, 0)) ∧ bs.length ≤ cap ∧ cap ≤ maxLen ∧ cur.size = cap * 1 ∧ cur.toList.take (bs.length * 1) = S.v8l bs := by
    rcases h1.2 with ⟨h2, _⟩ | ⟨g', cap', cur, h2, _, h3, h4⟩
    · simp at h2
    · simp only [Value.slice.injEq, Option.some.injEq, Addr.mk.injEq, and_true, true_and] at h2
      obtain ⟨rfl, rfl⟩ := h2
      exact ⟨cur, h3, h4⟩
  have hlen : (S.v8l bs ++ S.v8l (S.zeros m)).length = (bs ++ S.zeros m).length * 1 := by rw [List.length_append, List.length_append, S.v8l_length, S.v8l_length]; omega
  have hbl : (bs ++ S.zeros m).length = bs.length + m := by rw [List.length_append, S.zeros_length]
  by_cases hm0 : m = 0
  · subst hm0
    refine ⟨_, w, append_zeros_none w (some ⟨g, 0, none⟩) bs.length cap ty hn, ?_, Below.refl _ _⟩
    have e : bs ++ S.zeros 0 = bs := by simp [S.zeros]
    rw [e]
    exact ⟨h1, g, cap, rfl⟩
  · by_cases hroom : bs.length + m ≤ cap
    · refine ⟨_, _, append_zeros_room w g bs.length cap m cur hg0 ty hm hm0 hroom (by omega), ⟨⟨by rw [v8l_append]; exact hlen, Or.inr ⟨g, cap, _, by rw [hbl], hlt.1, setRow_heap w g cur _ 5 _ hg0, by omega, hcm, ?_, ?_⟩⟩, g, cap, by rw [hbl]⟩, below_setRow (Below.refl _ _) hlt.1 _⟩
      · simp only [List.size_toArray, List.length_append, List.length_take, List.length_drop, Array.length_toList, List.length_replicate]
        omega
      · have e : cur.toList.take bs.length = S.v8l bs := by rw [← ht, Nat.mul_one]
        rw [e, v8l_append, v8l_zeros, hbl]
        have hl : (S.v8l bs ++ List.replicate m (Value.int IntKind.u8 0)).length = (bs.length + m) * 1 := by rw [List.length_append, S.v8l_length, List.length_replicate]; omega
        rw [← hl]
        exact List.take_left
    · have hge := grownCap_ge w (bs.length + m) cap 5
      have hcm' : grownCap w (bs.length + m) cap 5 ≤ maxLen := grownCap_le_maxLen w (bs.length + m) cap 5 (by simp only [maxLen]; omega)
      refine ⟨_, _, append_zeros_grow w ⟨g, 0, none⟩ bs.length cap m (S.v8l bs) (S.v8l_length _) hcells ty hm hm0 (by omega) (by omega), ⟨⟨by rw [v8l_append]; exact hlen, Or.inr ⟨w.heap.size, _, _, by rw [hbl], hbase, heap_alloc_new w.drew _, by rw [hbl]; exact hge, hcm', ?_, ?_⟩⟩, w.heap.size, _, by rw [hbl]⟩, ((Below.refl _ _).drew).alloc hbase _⟩
      · simp only [Array.size_append, List.size_toArray, size_zeroCells, S.v8l_length, List.length_replicate]
        have : (Value.int IntKind.u8 0).cells.size = 1 := rfl
        rw [this]
        omega
      · rw [v8l_append, v8l_zeros, hbl]
        have hl : (S.v8l bs ++ List.replicate m (Value.int IntKind.u8 0)).length = (bs.length + m) * 1 := by rw [List.length_append, S.v8l_length, List.length_replicate]; omega
        rw [← hl]
        simp only [Array.toList_append]
        exact List.take_left
end Go.Proofs.YtlcilclhaahopaaDoor
namespace Go.Proofs.YtlcilclhaahopaaDoor
open Go.RowKit
namespace S
theorem word_congr {a b : List UInt8} (h : ∀ j, j < 64 → a.getD j 0 = b.getD j 0) (t : Nat) (ht : t < 16) : word a t = word b t := by
  simp only [word]
  rw [h (4 * t) (by omega), h (4 * t + 1) (by omega), h (4 * t + 2) (by omega), h (4 * t + 3) (by omega)]
theorem fill_congr {a b : List UInt8} (h : ∀ j, j < 64 → a.getD j 0 = b.getD j 0) (k : Nat) (hk : k ≤ 16) : fill a k = fill b k := by
  induction k with
  | zero => rfl
  | succ k ih => rw [fill, fill, ih (by omega), word_congr h k (by omega)]
theorem comp_congr {a b : List UInt8} (st : List UInt32) (h : ∀ j, j < 64 → a.getD j 0 = b.getD j 0) : comp st a = comp st b := by
  simp only [comp, sched]
  rw [fill_congr h 16 (Nat.le_refl _)]
theorem blocks_congr {a b : List UInt8} (st : List UInt32) (m : Nat) (h : ∀ j, j < 64 * m → a.getD j 0 = b.getD j 0) (k : Nat) (hk : k ≤ m) : blocks st a k = blocks st b k := by
  induction k with
  | zero => rfl
  | succ k ih =>
    rw [blocks, blocks, ih (by omega)]
    refine comp_congr _ (fun j hj => ?_)
    have := h (64 * k + j) (by omega)
    rw [List.getD_eq_getElem?_getD, List.getD_eq_getElem?_getD] at this ⊢
    rw [List.getElem?_drop, List.getElem?_drop]
    exact this
theorem blocks_add (st : List UInt32) (l : List UInt8) (q e : Nat) : blocks st l (q + e) = blocks (blocks st l q) (l.drop (64 * q)) e := by
  induction e with
  | zero => rfl
  | succ e ih =>
    rw [← Nat.add_assoc, blocks, blocks, ih, List.drop_drop]
    congr 2
    omega
/-- A number in eight bytes, the highest first. -/
def be8 (c : Nat) : List UInt8 := [UInt8.ofNat (c / 256 ^ 7), UInt8.ofNat (c / 256 ^ 6), UInt8.ofNat (c / 256 ^ 5), UInt8.ofNat (c / 256 ^ 4), UInt8.ofNat (c / 256 ^ 3), UInt8.ofNat (c / 256 ^ 2), UInt8.ofNat (c / 256 ^ 1), UInt8.ofNat (c / 256 ^ 0)]
theorem set_right (A B : List UInt8) (i : Nat) (x : UInt8) : (A ++ B).set (A.length + i) x = A ++ B.set i x := by
  rw [List.set_append_right _ _ (Nat.le_add_right _ _), Nat.add_sub_cancel_left]
theorem putLen_be (A : List UInt8) (c : Nat) : putLen (A ++ [0, 0, 0, 0, 0, 0, 0, 0]) (A.length + 8) c 8 = A ++ be8 c := by
  simp only [putLen]
  rw [show A.length + 8 - 1 - 0 = A.length + 7 from rfl, show A.length + 8 - 1 - 1 = A.length + 6 from rfl, show A.length + 8 - 1 - 2 = A.length + 5 from rfl, show A.length + 8 - 1 - 3 = A.length + 4 from rfl, show A.length + 8 - 1 - 4 = A.length + 3 from rfl, show A.length + 8 - 1 - 5 = A.length + 2 from rfl, show A.length + 8 - 1 - 6 = A.length + 1 from rfl, show A.length + 8 - 1 - 7 = A.length + 0 from rfl]
  rw [set_right, set_right, set_right, set_right, set_right, set_right, set_right, set_right]
  rfl
theorem ended_is (N : Nat) (r : List UInt8) (c : Nat) (h : r.length + 9 ≤ N) : ended N r c = r ++ 128 :: (zeros (N - 9 - r.length) ++ be8 c) := by
  have h1 : (splice (zeros N) 0 r).set r.length 128 = (r ++ 128 :: zeros (N - 9 - r.length)) ++ [0, 0, 0, 0, 0, 0, 0, 0] := by
    have e : splice (zeros N) 0 r = r ++ 0 :: (zeros (N - 9 - r.length) ++ [0, 0, 0, 0, 0, 0, 0, 0]) := by
      simp only [splice, List.take_zero, List.nil_append, Nat.zero_add]
      congr 1
      have e2 : (zeros N).drop r.length = zeros (N - r.length) := by simp [zeros]
      rw [e2, show N - r.length = 1 + (N - 9 - r.length) + 8 by omega]
      simp only [zeros, ← List.replicate_append_replicate]
      rfl
    rw [e]
    have := set_right r (0 :: (zeros (N - 9 - r.length) ++ [0, 0, 0, 0, 0, 0, 0, 0])) 0 128
    rw [Nat.add_zero] at this
    rw [this]
    simp
  have h2 : (r ++ 128 :: zeros (N - 9 - r.length)).length + 8 = N := by
    rw [List.length_append, List.length_cons, zeros_length]
    omega
  have key := putLen_be (r ++ 128 :: zeros (N - 9 - r.length)) c
  rw [h2] at key
  rw [ended, h1, key]
  simp
/-- How many noughts stand behind the bit. -/
def padZ (n : Nat) : Nat := (119 - n % 64) % 64
/-- The text, one bit, noughts, and the length in bits. -/
def pad (bs : List UInt8) : List UInt8 := bs ++ 128 :: (zeros (padZ bs.length) ++ be8 (8 * bs.length))
theorem be8_length (c : Nat) : (be8 c).length = 8 := rfl
theorem pad_length (bs : List UInt8) : (pad bs).length = 64 * (bs.length / 64 + endM (bs.drop (64 * (bs.length / 64)))) := by
  rw [pad, List.length_append, List.length_cons, List.length_append, zeros_length, be8_length]
  unfold endM padZ
  rw [List.length_drop]
  split <;> omega
theorem pad_drop (bs : List UInt8) : (pad bs).drop (64 * (bs.length / 64)) = ending (bs.drop (64 * (bs.length / 64))) (8 * (0 + bs.length)) := by
  have hl : 64 * (bs.length / 64) ≤ bs.length := by omega
  have hd : (bs.drop (64 * (bs.length / 64))).length = bs.length % 64 := by rw [List.length_drop]; omega
  rw [pad, List.drop_append_of_le_length hl, Nat.zero_add]
  unfold ending
  split
  · rename_i h
    rw [ended_is _ _ _ h]
    congr 4
    rw [hd] at h ⊢
    unfold padZ
    omega
  · rename_i h
    rw [ended_is 128 _ _ (by rw [hd]; omega)]
    congr 4
    rw [hd] at h ⊢
    unfold padZ
    omega
theorem sum_pad (bs : List UInt8) : sum bs = dig (blocks H0 (pad bs) ((pad bs).length / 64)) 8 := by
  have e : (pad bs).length / 64 = bs.length / 64 + endM (bs.drop (64 * (bs.length / 64))) := by rw [pad_length]; omega
  rw [e, blocks_add, pad_drop, sum, fin]
  congr 2
  refine blocks_congr _ (bs.length / 64) (fun j hj => ?_) _ (Nat.le_refl _)
  rw [pad, List.getD_eq_getElem?_getD, List.getD_eq_getElem?_getD, List.getElem?_append_left (by omega)]
end S
end Go.Proofs.YtlcilclhaahopaaDoor
namespace Go.Proofs.YtlcilclhaahopaaDoor
open Go.RowKit
theorem one_at {w : World} {g : Nat} {x : UInt8} {t : TypeId} (h : w.heap[g]? = some (.cells #[.int .u8 (x.toNat : Int)] t (0, 0))) : SliceAt w (.slice (some ⟨g, 0, none⟩) 1 1) [x] :=
  Or.inr (Or.inr ⟨g, 0, 1, rfl, Nat.le_refl _, by simp, block_lt_of_row h, fun j hj => by
    obtain rfl : j = 0 := by simpa using hj
    rw [Nat.zero_add, cell_of_row w g 0 _ t _ h]
    rfl⟩)
theorem run_push (w : World) (base : Nat) (v : Value) (bs : List UInt8) (x : UInt8) (c : Int) (hc : c = (x.toNat : Int)) (ty : TypeId) (hown : Own w base v bs) (hb : bs.length + 1 ≤ 140737488355328) (hbase : base ≤ w.heap.size) :
    ∃ v' w', (Builtin.append_ #[30, 30] ty #[v, .slice (some ⟨w.heap.size, 0, none⟩) 1 1]).run Tryd.prog (w.alloc (.cells #[.int .u8 c] 5)) = .ok v' w' ∧ (Own w' base v' (bs ++ [x]) ∧ Below base w w') := by
  have hA : Below w.heap.size w (w.alloc (.cells #[.int .u8 c] 5)) := (Below.refl _ _).alloc (Nat.le_refl _) _
  have hrow : (w.alloc (.cells #[.int .u8 c] 5)).heap[w.heap.size]? = some (.cells #[.int .u8 (x.toNat : Int)] 5 (0, 0)) := by rw [← hc]; exact heap_alloc_new _ _
  obtain ⟨v', w', h1, h2, h3⟩ := run_append_bytes (w.alloc (.cells #[.int .u8 c] 5)) base v _ bs [x] ty (hown.below hA (Nat.le_refl _)) (one_at hrow) (by simpa using hb) (Nat.le_trans hbase hA.size)
  exact ⟨v', w', h1, h2, (hA.mono hbase).trans h3⟩
theorem own_empty (w : World) (B : Nat) (hB : B ≤ w.heap.size) : Own (w.alloc (.cells #[] 5)) B (.slice (some ⟨w.heap.size, 0, none⟩) 0 0) [] :=
  ⟨World.ownsRow_lit w #[] 0 hB (Nat.zero_le _) rfl, _, _, rfl⟩
/-- append([]byte{}, x...): a copy of x, in a block that is not below base. -/
theorem run_dup (W : World) (base : Nat) (u : Value) (xs : List UInt8) (ty : TypeId) (hu : SliceAt W u xs) (hb : xs.length ≤ 140737488355328) (hbase : base ≤ W.heap.size) :
    ∃ v' w', (Builtin.append_ #[30, 30] ty #[.slice (some ⟨W.heap.size, 0, none⟩) 0 0, u]).run Tryd.prog (W.alloc (.cells #[] 5)) = .ok v' w' ∧ (Own w' base v' xs ∧ Below base W w') := by
  have hA : Below W.heap.size W (W.alloc (.cells #[] 5)) := (Below.refl _ _).alloc (Nat.le_refl _) _
  obtain ⟨v', w', h1, h2, h3⟩ := run_append_bytes (W.alloc (.cells #[] 5)) base _ u [] xs ty (own_empty W _ hbase) (hu.below hA (Nat.le_refl _)) (by simpa using hb) (Nat.le_trans hbase hA.size)
  exact ⟨v', w', h1, h2, (hA.mono hbase).trans h3⟩
def vlen : Value → Nat
  | .slice _ n _ => n
  | _ => 0
theorem Own.form {w : World} {base : Nat} {v : Value} {bs : List UInt8} (h : Own w base v bs) : ∃ g cap, v = .slice (some ⟨g, 0, none⟩) bs.length cap := h.2
end Go.Proofs.YtlcilclhaahopaaDoor
