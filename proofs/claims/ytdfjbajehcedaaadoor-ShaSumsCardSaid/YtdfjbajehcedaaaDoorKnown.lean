/- known: the two runs that every statement asks besides come out as the document says; nothing that was there changes. -/
import Derived.Test.YtdfjbajehcedaaaDoorHex
import Derived.Lib.SlBytesConst
namespace Go.Proofs.YtdfjbajehcedaaaDoor
open Go.RowKit
set_option maxRecDepth 1000000 in
theorem hex_nil : (S.hexS (S.sum []) 32).data.toList = [101, 51, 98, 48, 99, 52, 52, 50, 57, 56, 102, 99, 49, 99, 49, 52, 57, 97, 102, 98, 102, 52, 99, 56, 57, 57, 54, 102, 98, 57, 50, 52, 50, 55, 97, 101, 52, 49, 101, 52, 54, 52, 57, 98, 57, 51, 52, 99, 97, 52, 57, 53, 57, 57, 49, 98, 55, 56, 53, 50, 98, 56, 53, 53] := by decide +kernel
set_option maxRecDepth 1000000 in
theorem hex_abc : (S.hexS (S.sum [97, 98, 99]) 32).data.toList = [98, 97, 55, 56, 49, 54, 98, 102, 56, 102, 48, 49, 99, 102, 101, 97, 52, 49, 52, 49, 52, 48, 100, 101, 53, 100, 97, 101, 50, 50, 50, 51, 98, 48, 48, 51, 54, 49, 97, 51, 57, 54, 49, 55, 55, 97, 57, 99, 98, 52, 49, 48, 102, 102, 54, 49, 102, 50, 48, 48, 49, 53, 97, 100] := by decide +kernel
set_option maxHeartbeats 800000 in
set_option maxRecDepth 100000 in
theorem known_any (w : World) (hK : KAt w) :
   Calls Tryd.prog 13 #[] w fun e w' => e = .returned (.bool true) ∧ Below w.heap.size w w' := by
  have HK := hide hK
  have h0 := hK.pos
  clear hK
  have kc := fun (w : World) (C : Array Value) (n c : Nat) => Lib.run_convert_bytes_const (P := Tryd.prog) w 26 5 C n c Tryd.underlying26 Tryd.underlying5
  have x1 := (ByteArray.toList_eq _).trans hex_nil
  have x2 := (ByteArray.toList_eq _).trans hex_abc
  go_enter Tryd.func13, Tryd.ntmps13
  go_wp2_with fail
  refine (Sum_any _ [] w (Or.inl ⟨rfl, rfl⟩) HK.out).mono ?_
  rintro e w1 ⟨rfl, hb1⟩
  go_wp2_with fail
  refine (hex_any (S.sum []) (S.sum_length _) w1).mono ?_
  rintro e w2 ⟨rfl, hb2⟩
  have hn2 : Below w.heap.size w w2 := hb1.trans (hb2.mono hb1.size)
  clear hb1 hb2
  go_wp2_with fail
  have sl : ∀ W, Below (w2.heap.size + 1) (w2.alloc (.cells #[.int .u8 97, .int .u8 98, .int .u8 99] 5 (3, 4))) W → SliceAt W (.slice (some ⟨w2.heap.size, 0, none⟩) 3 3) [97, 98, 99] := fun W hW => by
    refine Or.inr (Or.inr ⟨w2.heap.size, 0, 3, rfl, by decide, by decide, Nat.lt_of_lt_of_le (by simp) hW.size, fun j hj => ?_⟩)
    rw [hW.cell (p := ⟨w2.heap.size, 0 + j, none⟩) (by show w2.heap.size < _; omega)]
    have hj3 : j < 3 := hj
    rw [World.cell?_alloc_mark]
    match j, hj3 with
    | 0, _ => rfl
    | 1, _ => rfl
    | 2, _ => rfl
  have hn3 : Below w.heap.size w (w2.alloc (.cells #[.int .u8 97, .int .u8 98, .int .u8 99] 5 (3, 4))) := hn2.alloc hn2.size _
  refine (Sum_any _ [97, 98, 99] _ (sl _ (Below.refl _ _)) (HK.out.below hn3 h0)).mono ?_
  rintro e w3 ⟨rfl, hb3⟩
  have hn4 : Below w.heap.size w w3 := hn3.trans (hb3.mono (by have := hn2.size; simp; omega))
  clear hb3 sl hn2 hn3
  go_wp2_with fail
  refine (hex_any (S.sum [97, 98, 99]) (S.sum_length _) w3).mono ?_
  rintro e w4 ⟨rfl, hb4⟩
  have hn5 : Below w.heap.size w w4 := hn4.trans (hb4.mono hn4.size)
  clear hb4 hn4
  go_wp2
  go_ret
  exact ⟨rfl, hn5⟩
end Go.Proofs.YtdfjbajehcedaaaDoor
