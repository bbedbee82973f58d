/- A refusal in memory: its text is not empty, it unwraps to its number; errors.Is finds that number and no other; errors.As finds it. -/
import Derived.Test.YtkdpdkfhhpekaaaDoorSame
import Derived.LaidEql
import Derived.Stop.Asserts
import Derived.RowKitTokens
namespace Go.Proofs.YtkdpdkfhhpekaaaDoor
open Go.RowKit Go.Extern.Stop Go.Stop Go.Extern
/-- The refusal in block q: operation o, role r, denied. -/
def RefAt (w : World) (q : Nat) (o r : Int) : Prop := w.heap[q]? = some (.cells #[.int .i64 o, .int .i64 r, .int .i64 21] 44 (0, 0))
theorem RefAt.below {w w' : World} {q : Nat} {o r : Int} (h : RefAt w q o r) (hb : Below w.heap.size w w') : RefAt w' q o r := (hb.block q (block_lt_of_row h)).trans h
theorem unwrap_any (q : Nat) (o r : Int) (w : World) (h : RefAt w q o r) :
   Calls Tryd.prog 86 #[.pointer (some ⟨q, 0, none⟩)] w fun e w' => e = .returned (.iface 42 (.int .i64 21)) ∧ w = w' := by
  obtain ⟨c0, c1, c2⟩ := cells3 h
  go_enter Tryd.func86, Tryd.ntmps86
  go_wp2
  go_ret
  exact ⟨rfl, rfl⟩
set_option maxRecDepth 100000 in
theorem errno_den (w : World) : Calls Tryd.prog 30 #[.int .i64 21] w fun e w' => e = .returned (.string ⟨#[100, 101, 110, 105, 101, 100]⟩) ∧ w = w' := by
  go_enter Tryd.func30, Tryd.ntmps30
  go_wp2
  go_ret
  exact ⟨rfl, rfl⟩
theorem run_equalIn_iface_int {P : Program} (w : World) (d : Nat) {ti tn : TypeId} {ms : Array (String × TypeId)} {i : TypeInfo} {k : IntKind} (a b : Int)
    (hi : P.underlying ti = some (.interface ms)) (hn : P.underlying tn = some (.int k)) (hinfo : P.info? tn = some i) (hcomp : i.comparable = true) :
    (Op.equalIn (d + 2) ti (.iface tn (.int k a)) (.iface tn (.int k b))).run P w = .ok (a == b) w := by
  simp [Op.equalIn, run_underlying hi, run_underlying hn, typeInfo, hinfo, hcomp]
theorem compErr : (Tryd.prog.info? 42).map (·.comparable) = some true := by kernel_rfl
theorem eql_err (a b : Int) (w : World) : (binOp .eql 26 (.iface 42 (.int .i64 a)) (.iface 42 (.int .i64 b))).run Tryd.prog w = .ok (.bool (a == b)) w := by
  obtain ⟨i, hi, hc⟩ := Option.map_eq_some_iff.1 compErr
  simp only [binOp]
  simp [Op.equal, Op.maxDepth, run_equalIn_iface_int w 9998 a b Tryd.underlying26 Tryd.underlying42 hi hc]
theorem no_is (v : Value) (xT : TypeId) (w : World) : (Instr.typeAssert (.iface 41 v) xT 86 true).run Tryd.prog w = .ok (.tuple #[.nilIface, .bool false]) w := run_typeAssert_lacksB Tryd.underlying86 (by kernel_rfl) (by kernel_rfl) v xT w
theorem has_unwrap (v : Value) (xT : TypeId) (w : World) : (Instr.typeAssert (.iface 41 v) xT 89 true).run Tryd.prog w = .ok (.tuple #[.iface 41 v, .bool true]) w := run_typeAssert_hasB Tryd.underlying89 (by kernel_rfl) v xT w
theorem no_is2 (v : Value) (xT : TypeId) (w : World) : (Instr.typeAssert (.iface 42 v) xT 86 true).run Tryd.prog w = .ok (.tuple #[.nilIface, .bool false]) w := run_typeAssert_lacksB Tryd.underlying86 (by kernel_rfl) (by kernel_rfl) v xT w
theorem no_unwrap2 (v : Value) (xT : TypeId) (w : World) : (Instr.typeAssert (.iface 42 v) xT 89 true).run Tryd.prog w = .ok (.tuple #[.nilIface, .bool false]) w := run_typeAssert_lacksB Tryd.underlying89 (by kernel_rfl) (by kernel_rfl) v xT w
theorem no_unwraps2 (v : Value) (xT : TypeId) (w : World) : (Instr.typeAssert (.iface 42 v) xT 91 true).run Tryd.prog w = .ok (.tuple #[.nilIface, .bool false]) w := run_typeAssert_lacksB Tryd.underlying91 (by kernel_rfl) (by kernel_rfl) v xT w
theorem method_unwrap (v : Value) (w : World) : (Go.method 247 41 v "Unwrap").run Tryd.prog w = .ok (86, v) w := by kernel_rfl
def isLeft : Value → Nat
  | .iface 41 _ => 1
  | _ => 0
set_option maxHeartbeats 800000 in
set_option maxRecDepth 1000000 in
theorem is_any (q : Nat) (o r y : Int) (w : World) (h : RefAt w q o r) :
   Calls Tryd.prog 32 #[.iface 41 (.pointer (some ⟨q, 0, none⟩)), .iface 42 (.int .i64 y), .bool true] w fun e w' => e = .returned (.bool (21 == y)) ∧ w = w' := by
  have nI := no_is
  have nI2 := no_is2
  have nU2 := no_unwrap2
  have nV2 := no_unwraps2
  have uW := has_unwrap
  have mU := method_unwrap
  have hty := run_eql_iface_types (P := Tryd.prog) 41 42 (.pointer (some ⟨q, 0, none⟩)) (.int .i64 y) Tryd.underlying26 (by decide) w
  have heq := eql_err 21 y w
  have HR := hide h
  clear h
  obtain ⟨b, hb⟩ : ∃ b, b = ((21 : Int) == y) := ⟨_, rfl⟩
  rw [← hb] at heq ⊢
  clear hb
  go_enter Tryd.func32, Tryd.ntmps32
  go_wp2_with fail
  go_loopw [0] (fun E wl => w = wl ∧ (E = .iface 41 (.pointer (some ⟨q, 0, none⟩)) ∨ E = .iface 42 (.int .i64 21))) (fun E _ => isLeft E)
  case atStart => exact ⟨rfl, Or.inl rfl⟩
  case round =>
    obtain ⟨rfl, rfl | rfl⟩ := hrel
    · go_wp2_with fail
      refine (unwrap_any q o r w HR.out).mono ?_
      rintro e w1 ⟨rfl, rfl⟩
      go_wp2_with fail
      go_roundw
      case rel => exact ⟨trivial, Or.inr rfl⟩
      case measure => exact Nat.lt_succ_self 0
    · cases b
      · go_wp2_with fail
        go_ret
        exact ⟨rfl, rfl⟩
      · go_wp2_with fail
        go_ret
        exact ⟨rfl, rfl⟩
theorem typeOf_err (v : Value) (w : World) : (Extern.ReflectliteType.typeOf #[.iface 42 v]).run Tryd.prog w = .ok (.iface 84 (.agg #[.pointer (some ⟨4, 42, none⟩)])) w := by kernel_rfl
theorem cmp_err : ∃ F, Extern.find Tryd.f92 = some F ∧ ∀ w : World, (F #[.agg #[.pointer (some ⟨4, 42, none⟩)]]).run Tryd.prog w = .ok (.bool true) w :=
  ⟨(Extern.find Tryd.f92).getD (fun _ => pure (.bool false)), by kernel_rfl, fun w => by kernel_rfl⟩
theorem method_comparable (v : Value) (w : World) : (Go.method 247 84 v "Comparable").run Tryd.prog w = .ok (92, v) w := by kernel_rfl
set_option maxHeartbeats 800000 in
set_option maxRecDepth 1000000 in
theorem Is_any (q : Nat) (o r y : Int) (w : World) (h : RefAt w q o r) :
   Calls Tryd.prog 23 #[.iface 41 (.pointer (some ⟨q, 0, none⟩)), .iface 42 (.int .i64 y)] w fun e w' => e = .returned (.bool (21 == y)) ∧ w = w' := by
  have h50 := @run_callFunc_extern Tryd.prog 31 _ Extern.ReflectliteType.typeOf Tryd.func31 (by kernel_rfl) (by kernel_rfl) (by kernel_rfl) (by kernel_rfl)
  obtain ⟨F, hF, t2⟩ := cmp_err
  have h83 := @run_callFunc_extern Tryd.prog 92 _ F Tryd.func92 (by kernel_rfl) (by kernel_rfl) (by kernel_rfl) hF
  clear hF
  have t1 := typeOf_err
  have t3 := method_comparable
  have HR := hide h
  clear h
  go_enter Tryd.func23, Tryd.ntmps23
  go_wp2_with fail
  refine (is_any q o r y w HR.out).mono ?_
  rintro e w1 ⟨rfl, rfl⟩
  go_wp2_with fail
  go_ret
  exact ⟨rfl, rfl⟩
end Go.Proofs.YtkdpdkfhhpekaaaDoor
