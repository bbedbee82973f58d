/- The statements' own test of a refusal; equal lists of caveats, equal tokens. -/
import Derived.Test.YtlcilclhaahopaaDoorTn
import Derived.LaidEql
import Derived.Stop.Asserts
import Derived.RowKitTokens
namespace Go.Proofs.YtlcilclhaahopaaDoor
open Go.RowKit

open Go.Extern.Stop Go.Stop Go.Extern
/-- The refusal in block q: at a, why y. -/
def RefAt (w : World) (q : Nat) (a y : Int) : Prop := w.heap[q]? = some (.cells #[.int .i64 a, .int .i64 y] 96 (0, 0))
theorem cells2 {w : World} {g : Nat} {a b : Value} {t : TypeId} (h : w.heap[g]? = some (.cells #[a, b] t (0, 0))) : w.cell? ⟨g, 0, none⟩ = some a ∧ w.cell? ⟨g, 1, none⟩ = some b :=
  ⟨by rw [cell_of_row w g 0 _ _ _ h]; rfl, by rw [cell_of_row w g 1 _ _ _ h]; rfl⟩
theorem RefAt.below {w w' : World} {q : Nat} {a y : Int} (h : RefAt w q a y) (hb : Below w.heap.size w w') : RefAt w' q a y := (hb.block q (block_lt_of_row h)).trans h
theorem unwrap_any (q : Nat) (a y : Int) (w : World) (h : RefAt w q a y) :
   Calls Tryd.prog 120 #[.pointer (some ⟨q, 0, none⟩)] w fun e w' => e = .returned (.iface 31 (.int .i64 y)) ∧ w = w' := by
  obtain ⟨c0, c1⟩ := cells2 h
  go_enter Tryd.func120, Tryd.ntmps120
  go_wp2
  go_ret
  exact ⟨rfl, rfl⟩
theorem run_equalIn_iface_int {P : Program} (w : World) (d : Nat) {ti tn : TypeId} {ms : Array (String × TypeId)} {i : TypeInfo} {k : IntKind} (a b : Int)
    (hi : P.underlying ti = some (.interface ms)) (hn : P.underlying tn = some (.int k)) (hinfo : P.info? tn = some i) (hcomp : i.comparable = true) :
    (Op.equalIn (d + 2) ti (.iface tn (.int k a)) (.iface tn (.int k b))).run P w = .ok (a == b) w := by
  simp [Op.equalIn, run_underlying hi, run_underlying hn, typeInfo, hinfo, hcomp]
theorem compErr : (Tryd.prog.info? 31).map (·.comparable) = some true := by kernel_rfl
theorem eql_err (a b : Int) (w : World) : (binOp .eql 35 (.iface 31 (.int .i64 a)) (.iface 31 (.int .i64 b))).run Tryd.prog w = .ok (.bool (a == b)) w := by
  obtain ⟨i, hi, hc⟩ := Option.map_eq_some_iff.1 compErr
  simp only [binOp]
  simp [Op.equal, Op.maxDepth, run_equalIn_iface_int w 9998 a b Tryd.underlying35 Tryd.underlying31 hi hc]
theorem no_is (v : Value) (xT : TypeId) (w : World) : (Instr.typeAssert (.iface 93 v) xT 150 true).run Tryd.prog w = .ok (.tuple #[.nilIface, .bool false]) w := run_typeAssert_lacksB Tryd.underlying150 (by kernel_rfl) (by kernel_rfl) v xT w
theorem has_unwrap (v : Value) (xT : TypeId) (w : World) : (Instr.typeAssert (.iface 93 v) xT 153 true).run Tryd.prog w = .ok (.tuple #[.iface 93 v, .bool true]) w := run_typeAssert_hasB Tryd.underlying153 (by kernel_rfl) v xT w
theorem method_unwrap (v : Value) (w : World) : (Go.method 297 93 v "Unwrap").run Tryd.prog w = .ok (120, v) w := by kernel_rfl
def isLeft : Value → Nat
  | .iface 93 _ => 1
  | _ => 0
set_option maxHeartbeats 800000 in
set_option maxRecDepth 1000000 in
theorem is_any (q : Nat) (a y : Int) (w : World) (h : RefAt w q a y) :
   Calls Tryd.prog 75 #[.iface 93 (.pointer (some ⟨q, 0, none⟩)), .iface 31 (.int .i64 y), .bool true] w fun e w' => e = .returned (.bool true) ∧ w = w' := by
  have nI := no_is
  have uW := has_unwrap
  have mU := method_unwrap
  have hty := run_eql_iface_types (P := Tryd.prog) 93 31 (.pointer (some ⟨q, 0, none⟩)) (.int .i64 y) Tryd.underlying35 (by decide) w
  have heq := eql_err y y w
  rw [beq_self_eq_true] at heq
  have HR := hide h
  clear h
  go_enter Tryd.func75, Tryd.ntmps75
  go_wp2_with fail
  go_loopw [0] (fun E wl => w = wl ∧ (E = .iface 93 (.pointer (some ⟨q, 0, none⟩)) ∨ E = .iface 31 (.int .i64 y))) (fun E _ => isLeft E)
  case atStart => exact ⟨rfl, Or.inl rfl⟩
  case round =>
    obtain ⟨rfl, rfl | rfl⟩ := hrel
    · go_wp2_with fail
      refine (unwrap_any q a y w HR.out).mono ?_
      rintro e w1 ⟨rfl, rfl⟩
      go_wp2_with fail
      go_roundw
      case rel => exact ⟨trivial, Or.inr rfl⟩
      case measure => exact Nat.lt_succ_self 0
    · go_wp2_with fail
      go_ret
      exact ⟨rfl, rfl⟩
theorem typeOf_err (v : Value) (w : World) : (Extern.ReflectliteType.typeOf #[.iface 31 v]).run Tryd.prog w = .ok (.iface 148 (.agg #[.pointer (some ⟨1, 31, none⟩)])) w := by kernel_rfl
theorem cmp_err : ∃ F, Extern.find Tryd.f124 = some F ∧ ∀ w : World, (F #[.agg #[.pointer (some ⟨1, 31, none⟩)]]).run Tryd.prog w = .ok (.bool true) w :=
  ⟨(Extern.find Tryd.f124).getD (fun _ => pure (.bool false)), by kernel_rfl, fun w => by kernel_rfl⟩
theorem method_comparable (v : Value) (w : World) : (Go.method 297 148 v "Comparable").run Tryd.prog w = .ok (124, v) w := by kernel_rfl
set_option maxHeartbeats 800000 in
set_option maxRecDepth 1000000 in
theorem Is_any (q : Nat) (a y : Int) (w : World) (h : RefAt w q a y) :
   Calls Tryd.prog 50 #[.iface 93 (.pointer (some ⟨q, 0, none⟩)), .iface 31 (.int .i64 y)] w fun e w' => e = .returned (.bool true) ∧ w = w' := by
  have h50 := @run_callFunc_extern Tryd.prog 74 _ Extern.ReflectliteType.typeOf Tryd.func74 (by kernel_rfl) (by kernel_rfl) (by kernel_rfl) (by kernel_rfl)
  obtain ⟨F, hF, t2⟩ := cmp_err
  have h83 := @run_callFunc_extern Tryd.prog 124 _ F Tryd.func124 (by kernel_rfl) (by kernel_rfl) (by kernel_rfl) hF
  clear hF
  have t1 := typeOf_err
  have t3 := method_comparable
  have HR := hide h
  clear h
  go_enter Tryd.func50, Tryd.ntmps50
  go_wp2_with fail
  refine (is_any q a y w HR.out).mono ?_
  rintro e w1 ⟨rfl, rfl⟩
  go_wp2_with fail
  go_ret
  exact ⟨rfl, rfl⟩
theorem refused_nil (a : Int) (w : World) :
   Calls Tryd.prog 15 #[.nilIface, .int .i64 a, .int .i64 0] w fun e w' => e = .returned (.bool true) ∧ w = w' := by
  go_enter Tryd.func15, Tryd.ntmps15
  go_wp2_with fail
  go_ret
  exact ⟨rfl, rfl⟩
theorem assert_ref (p : Option Addr) (w : World) : (Instr.typeAssert (.iface 93 (.pointer p)) 35 93 true).run Tryd.prog w = .ok (.tuple #[.pointer p, .bool true]) w := by kernel_rfl
set_option maxHeartbeats 1600000 in
set_option maxRecDepth 100000 in
theorem refused_yes (q : Nat) (a y : Int) (w : World) (h : RefAt w q a y) (hy0 : y ≠ 0) :
   Calls Tryd.prog 15 #[.iface 93 (.pointer (some ⟨q, 0, none⟩)), .int .i64 a, .int .i64 y] w fun e w' => e = .returned (.bool true) ∧ w = w' := by
  have b0 : (y == 0) = false := by simp [hy0]
  have HR := hide h
  obtain ⟨c0, c1⟩ := cells2 h
  have e2 := assert_ref
  have bb : (y == y) = true := beq_self_eq_true y
  have bc : (a == a) = true := beq_self_eq_true a
  clear h hy0
  go_enter Tryd.func15, Tryd.ntmps15
  go_wp2_with fail
  refine (Is_any q a y w HR.out).mono ?_
  rintro e w1 ⟨rfl, rfl⟩
  go_wp2_with fail
  go_ret
  exact ⟨rfl, rfl⟩
end Go.Proofs.YtlcilclhaahopaaDoor
