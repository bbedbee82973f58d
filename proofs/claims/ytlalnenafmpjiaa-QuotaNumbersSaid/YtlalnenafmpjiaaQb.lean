/- The runs that are known: with numbers given. -/
import Derived.Test.YtlalnenafmpjiaaQa
import Derived.Laws.StructEq
namespace Go.Proofs.Ytlalnenafmpjiaa
open Go.RowKit
theorem follows : Try.prog.follows .mixedOrders = true := by kernel_rfl
/-- Three cells of a variable. -/
structure Cel (w : World) (g : Nat) (x y z : Value) : Prop where
  lt : g < w.heap.size
  c0 : w.cell? ⟨g, 0, none⟩ = some x
  c1 : w.cell? ⟨g, 1, none⟩ = some y
  c2 : w.cell? ⟨g, 2, none⟩ = some z
theorem Cel.up {w w1 : World} {g : Nat} {x y z : Value} (h : Cel w g x y z) (hb : Below w.heap.size w w1) : Cel w1 g x y z :=
  ⟨Nat.lt_of_lt_of_le h.lt hb.size, (hb.cell (p := ⟨g, 0, none⟩) (by exact h.lt)).trans h.c0, (hb.cell (p := ⟨g, 1, none⟩) (by exact h.lt)).trans h.c1, (hb.cell (p := ⟨g, 2, none⟩) (by exact h.lt)).trans h.c2⟩
theorem Cel.new (w : World) (x y z : Value) (t : TypeId) : Cel (w.alloc (.cells #[x, y, z] t)) w.heap.size x y z :=
  ⟨by simp, by rw [cell_of_row _ w.heap.size 0 _ t _ (heap_alloc_new _ _)]; rfl, by rw [cell_of_row _ w.heap.size 1 _ t _ (heap_alloc_new _ _)]; rfl, by rw [cell_of_row _ w.heap.size 2 _ t _ (heap_alloc_new _ _)]; rfl⟩
theorem new_is {x y a b c k : Int} (r s : Nat) (hx : x = r) (hy : y = s) (h1 : encB (S.new r s).1 = #[.int .u32 a, .int .u32 b, .int .u32 c]) (h2 : (S.new r s).2 = k) (w : World) :
   Calls Try.prog 7 #[.int .u32 x, .int .u32 y] w fun e w' => e = .returned (.tuple #[.agg #[.int .u32 a, .int .u32 b, .int .u32 c], .int .i64 k]) ∧ Below w.heap.size w w' := by
  subst hx hy
  rw [← h1, ← h2]
  exact new_any r s w
theorem take_is {x y z n a b c : Int} {k : Bool} (r s t m : Nat) (ht : t < 4294967296) (hx : x = r) (hy : y = s) (hz : z = t) (hn : n = m) (h1 : encB (S.take ⟨r, s, t⟩ m).1 = #[.int .u32 a, .int .u32 b, .int .u32 c]) (h2 : (S.take ⟨r, s, t⟩ m).2 = k) (w : World) :
   Calls Try.prog 8 #[.agg #[.int .u32 x, .int .u32 y, .int .u32 z], .int .u32 n] w fun e w' => e = .returned (.tuple #[.agg #[.int .u32 a, .int .u32 b, .int .u32 c], .bool k]) ∧ Below w.heap.size w w' := by
  subst hx hy hz hn
  rw [← h1, ← h2]
  exact take_any r s t m ht w
theorem tick_is {x y z n a b c : Int} (r s t m : Nat) (hr : r < 4294967296) (hs : s < 4294967296) (ht : t < 4294967296) (hx : x = r) (hy : y = s) (hz : z = t) (hn : n = m) (h1 : encB (S.tick ⟨r, s, t⟩ m) = #[.int .u32 a, .int .u32 b, .int .u32 c]) (w : World) :
   Calls Try.prog 9 #[.agg #[.int .u32 x, .int .u32 y, .int .u32 z], .int .u64 n] w fun e w' => e = .returned (.agg #[.int .u32 a, .int .u32 b, .int .u32 c]) ∧ Below w.heap.size w w' := by
  subst hx hy hz hn
  rw [← h1]
  exact tick_any r s t m hr hs ht w
theorem cost_is {x y a : Int} (h : (S.cost x y : Int) = a) (w : World) :
   Calls Try.prog 10 #[.int .i64 x, .int .i64 y] w fun e w' => e = .returned (.int .u32 a) ∧ Below w.heap.size w w' := by
  subst h
  exact cost_any x y w
theorem sum_is {x y a : Int} (m n : Nat) (hx : x = m) (hy : y = n) (hm : m < 18446744073709551616) (hn : n < 18446744073709551616) (h : (S.sum m n : Int) = a) (w : World) :
   Calls Try.prog 11 #[.int .u64 x, .int .u64 y] w fun e w' => e = .returned (.int .u64 a) ∧ Below w.heap.size w w' := by
  subst hx hy h
  exact sum_any m n hm hn w
theorem below_up {w w1 w2 : World} (h : Below w.heap.size w w1) (h2 : Below w1.heap.size w1 w2) : Below w.heap.size w w2 := h.trans (h2.mono h.size)
theorem below_new {w w1 : World} (h : Below w.heap.size w w1) (x : Obj) : Below w.heap.size w (w1.alloc x) := below_up h (one_below _ _)
theorem field24_2 (x y : Value) (z : Int) (w : World) : (Instr.field 24 (.agg #[x, y, .int .u32 z]) 2).run Try.prog w = .ok (.int .u32 z) w := by
  simp [Instr.field, part, asAgg]
set_option maxHeartbeats 4000000 in
theorem known_any (w : World) : Calls Try.prog 12 #[] w fun e w' => e = .returned (.bool true) ∧ Below w.heap.size w w' := by
  go_enter Try.func12, Try.ntmps12
  go_wp2_with fail
  refine (new_is 2 5 rfl rfl (a := 2) (b := 5) (c := 5) (k := 0) rfl rfl _).mono ?_
  rintro e w1 ⟨rfl, b1⟩
  have B1 := hide (below_new b1 (.cells #[.int .u32 2, .int .u32 5, .int .u32 5] 24))
  clear b1
  go_wp2_with fail
  refine (take_is 2 5 5 4 (by omega) rfl rfl rfl rfl (a := 2) (b := 5) (c := 1) (k := true) rfl rfl _).mono ?_
  rintro e w2 ⟨rfl, b2⟩
  have B2 := hide (below_new (below_up B1.out b2) (.cells #[.int .u32 2, .int .u32 5, .int .u32 1] 24))
  clear b2 B1
  go_wp2_with fail
  refine (tick_is 2 5 1 1 (by omega) (by omega) (by omega) rfl rfl rfl rfl (a := 2) (b := 5) (c := 3) rfl _).mono ?_
  rintro e w3 ⟨rfl, b3⟩
  have B3 := hide (below_up B2.out b3)
  clear b3 B2
  have kf := field24_2 (.int .u32 2) (.int .u32 5) 3
  go_wp2_with fail
  refine (cost_is (x := 1) (y := 64) (a := 2) (by decide) _).mono ?_
  rintro e w4 ⟨rfl, b4⟩
  have B4 := hide (below_up B3.out b4)
  clear b4 B3
  go_wp2_with fail
  go_ret
  exact ⟨rfl, B4.out⟩
end Go.Proofs.Ytlalnenafmpjiaa
