/- append of noughts (append behind make) onto a []byte of the call's own: within the room it writes there, else it makes a new row. -/
import Derived.Test.YtdfjbajehcedaaaDoorKeyb
namespace Go.Proofs.YtdfjbajehcedaaaDoor
open Go.RowKit
theorem info5 : (Tryd.prog.info? 5).map (fun i => (i.zero, i.size, i.bytes)) = some (some (.int .u8 0), 1, 1) := by kernel_rfl
theorem zero5 (w : World) : (zeroValue 5).run Tryd.prog w = .ok (.int .u8 0) w := by kernel_rfl
theorem zeroCells_byte (m : Nat) : (Builtin.zeroCells (Value.int .u8 0).cells m).toList = List.replicate m (Value.int .u8 0) := by
  apply List.ext_getElem
  · simp [Builtin.zeroCells, Value.cells]
  · intro j h1 h2
    simp [Builtin.zeroCells, Value.cells, Nat.mod_one]
theorem zeroCells_arr (m : Nat) : Builtin.zeroCells (Value.int .u8 0).cells m = Array.replicate m (Value.int .u8 0) := by
  apply Array.ext'
  rw [zeroCells_byte]; simp
theorem asInt_i64 (w : World) (m : Nat) : (asInt (.int .i64 (m : Int))).run Tryd.prog w = .ok (m : Int) w := rfl
theorem append_zeros_room (w : World) (g n cap m : Nat) (cur : Array Value) (hg : w.heap[g]? = some (.cells cur 5 (0, 0))) (ty : TypeId) (hm : m ≤ 65) (hm0 : ¬ m = 0) (hroom : n + m ≤ cap) (hfit : n + m ≤ cur.size) :
    (Builtin.append_ #[26, 3] ty #[.slice (some ⟨g, 0, none⟩) n cap, .int .i64 (m : Int)]).run Tryd.prog w =
      .ok (.slice (some ⟨g, 0, none⟩) (n + m) cap) (w.setRow g (cur.toList.take n ++ List.replicate m (Value.int .u8 0) ++ cur.toList.drop (n + m)).toArray) := by
  have hw : IntKind.i64.wrap (m : Int) = (m : Int) := by rw [IntKind.wrap_i64]; omega
  have h1 : ¬ (m : Int) < 0 := by omega
  have h2 : ¬ 281474976710656 < (m : Int) := by omega
  obtain ⟨i, hi, hz0, hz1, hz2⟩ := info_parts info5
  have hst := run_storeCells_at Tryd.prog g n 5 (List.replicate m (Value.int .u8 0)) 0 cur w hg (by simpa using hfit) (by intro v hv; rw [List.eq_of_mem_replicate hv]; rfl)
  simp only [Nat.add_zero, List.length_replicate] at hst
  have ha := asInt_i64 w m
  simp [Builtin.append_, run_underlying Tryd.underlying26, run_underlying Tryd.underlying3, sizeOf, typeInfo, hi, hz1, hz2, ha, hw, h1, h2, hroom, hm0, zeroCells_byte, Addr.add_lit, hst]
theorem append_zeros_none (w : World) (ao : Option Addr) (n cap : Nat) (ty : TypeId) (hroom : n ≤ cap) :
    (Builtin.append_ #[26, 3] ty #[.slice ao n cap, .int .i64 0]).run Tryd.prog w = .ok (.slice ao n cap) w := by
  have ha : (asInt (.int .i64 0)).run Tryd.prog w = .ok 0 w := rfl
  have hw : IntKind.i64.wrap 0 = 0 := by decide
  have hs : ∀ a, (storeCells a []).run Tryd.prog w = .ok () w := fun _ => rfl
  obtain ⟨i, hi, hz0, hz1, hz2⟩ := info_parts info5
  cases ao with
  | none => simp [Builtin.append_, run_underlying Tryd.underlying26, run_underlying Tryd.underlying3, sizeOf, typeInfo, hi, hz1, hz2, ha, hw, hroom]
  | some a => simp [Builtin.append_, run_underlying Tryd.underlying26, run_underlying Tryd.underlying3, sizeOf, typeInfo, hi, hz1, hz2, ha, hw, hroom, hs]
theorem append_zeros_grow (w : World) (b : Addr) (n cap m : Nat) (olds : List Value) (hlo : olds.length = n) (holds : ∀ j v, olds[j]? = some v → w.cell? (b.add j) = some v) (ty : TypeId) (hm : m ≤ 65) (hm0 : ¬ m = 0) (hg : cap < n + m) (hb : n + m ≤ 140737488355328) :
    (Builtin.append_ #[26, 3] ty #[.slice (some b) n cap, .int .i64 (m : Int)]).run Tryd.prog w =
      .ok (.slice (some ⟨w.heap.size, 0, none⟩) (n + m) (grownCap w (n + m) cap 5))
        (w.drew.alloc (.cells (olds.toArray ++ (List.replicate m (Value.int .u8 0)).toArray ++ Builtin.zeroCells (Value.int .u8 0).cells (grownCap w (n + m) cap 5 - (n + m))) 5)) := by
  have hw : IntKind.i64.wrap (m : Int) = (m : Int) := by rw [IntKind.wrap_i64]; omega
  have h1 : ¬ (m : Int) < 0 := by omega
  have h2 : ¬ 281474976710656 < (m : Int) := by omega
  obtain ⟨i, hi, hz0, hz1, hz2⟩ := info_parts info5
  have ha := asInt_i64 w m
  have hn : ¬ (n + m ≤ cap) := by omega
  have h63' : ¬ (9223372036854775807 < ((n : Int) + (m : Int))) := by omega
  have h48 := growslice_fits (need := n + m) (old := cap) (bytes := 1) hg (by omega)
  have h48' : ¬ (281474976710656 < Builtin.nextslicecap (n + m) cap) := by omega
  have hfo := run_firstCells_some (P := Tryd.prog) w.drew 1 n b n cap olds (by omega) (by simpa using holds)
  simp [Builtin.append_, run_underlying Tryd.underlying26, run_underlying Tryd.underlying3, sizeOf, typeInfo, hi, hz1, hz2, ha, hw, h1, h2, hm0, hn, h63', h48', Question.forced, hfo, newRow, grownCap]
  rw [zeroCells_arr]
end Go.Proofs.YtdfjbajehcedaaaDoor
