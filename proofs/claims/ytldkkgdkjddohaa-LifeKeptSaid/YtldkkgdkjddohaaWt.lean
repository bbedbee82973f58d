/- Wraps of sums. -/
import Derived.Test.YtldkkgdkjddohaaWbkb
namespace Go.Proofs.Ytldkkgdkjddohaa
theorem wrap_more (x y : Int) : IntKind.i64.wrap (IntKind.i64.wrap (IntKind.i64.wrap x + y) + 1) = IntKind.i64.wrap (x + (y + 1)) := by
  simp only [IntKind.wrap_i64]
  omega
theorem wrap_less (x y : Int) : IntKind.i64.wrap (IntKind.i64.wrap (IntKind.i64.wrap (y + 1 + x) - y) - 1) = IntKind.i64.wrap x := by
  simp only [IntKind.wrap_i64]
  omega
theorem hw_more (es : List Entry) (e : Entry) : hw (es ++ [e]) = IntKind.i64.wrap (IntKind.i64.wrap (hw es + (e.cap : Int)) + 1) := by
  unfold hw
  rw [wrap_more, heldOf_append]
  congr 1
theorem hw_less (es : List Entry) (e : Entry) : hw es = IntKind.i64.wrap (IntKind.i64.wrap (hw (e :: es) - (e.cap : Int)) - 1) := by
  unfold hw
  have h : ((heldOf (e :: es) : Nat) : Int) = (e.cap : Int) + 1 + (heldOf es : Int) := by rw [heldOf_cons]; omega
  rw [h, wrap_less]
end Go.Proofs.Ytldkkgdkjddohaa
