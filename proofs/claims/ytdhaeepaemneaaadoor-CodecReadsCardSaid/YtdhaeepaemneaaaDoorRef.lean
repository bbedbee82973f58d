/- A refusal in memory: its text is not empty, it unwraps to its number, errors.Is finds it, and the statements' own test finds it; only new memory. -/
import Derived.Test.YtdhaeepaemneaaaDoorErr
import Derived.Test.YtdhaeepaemneaaaDoorItoa
import Derived.LaidEql
import Derived.Stop.Asserts
import Derived.RowKitTokens
namespace Go.Proofs.YtdhaeepaemneaaaDoor
open Go.RowKit Go.Extern.Stop Go.Stop Go.Extern
/-- The refusal in block q: at a, why y. -/
def RefAt (w : World) (q : Nat) (a y : Int) : Prop := w.heap[q]? = some (.cells #[.int .i64 a, .int .i64 y] 74 (0, 0))
theorem cells2 {w : World} {g : Nat} {a b : Value} {t : TypeId} (h : w.heap[g]? = some (.cells #[a, b] t (0, 0))) : w.cell? ⟨g, 0, none⟩ = some a ∧ w.cell? ⟨g, 1, none⟩ = some b :=
  ⟨by rw [cell_of_row w g 0 _ _ _ h]; rfl, by rw [cell_of_row w g 1 _ _ _ h]; rfl⟩
theorem RefAt.below {w w' : World} {q : Nat} {a y : Int} (h : RefAt w q a y) (hb : Below w.heap.size w w') : RefAt w' q a y := (hb.block q (block_lt_of_row h)).trans h
theorem unwrap_any (q : Nat) (a y : Int) (w : World) (h : RefAt w q a y) :
   Calls Tryd.prog 41 #[.pointer (some ⟨q, 0, none⟩)] w fun e w' => e = .returned (.iface 30 (.int .i64 y)) ∧ w = w' := by
  obtain ⟨c0, c1⟩ := cells2 h
  go_enter Tryd.func41, Tryd.ntmps41
  go_wp2
  go_ret
  exact ⟨rfl, rfl⟩
def inWord (y : Int) : Prop := -9223372036854775808 ≤ y ∧ y ≤ 9223372036854775807
set_option maxHeartbeats 800000 in
set_option maxRecDepth 100000 in
theorem rerror_any (q : Nat) (a y : Int) (w : World) (h : RefAt w q a y) (hp : PowAt w) (ha : inWord a) (hy : inWord y) :
   Calls Tryd.prog 40 #[.pointer (some ⟨q, 0, none⟩)] w fun e w' => ∃ s : ByteArray, e = .returned (.string s) ∧ 0 < s.size ∧ Below w.heap.size w w' := by
  obtain ⟨c0, c1⟩ := cells2 h
  have hq := block_lt_of_row h
  have C0 := hide c0
  have C1 := hide c1
  have HP := hide hp
  clear h c0 c1 hp
  go_enter Tryd.func40, Tryd.ntmps40
  go_wp2_with fail
  refine wp_region_noPanic ?_
  refine wp_region_held_drew (S := (fun w' => Below w.heap.size w w')) follows ((Below.refl _ _).drew) (fun hHeld => ?_)
  refine wpAnyH_take (i := 0) (oi := { dst := some 3, op := Op.move (Operand.tmp 0), type := 81, pos := "codec.go:23", after := #[], guard := none }) (v := ?_) rfl (by kernel_rfl) (by kernel_rfl) (by kernel_rfl) (fun _ _ _ h => h) (Or.inl ⟨by rfl, ?_⟩) (by assumption) ?_
  rotate_left
  · intro w hSw
    clear hSw
    go_simp
    all_goals with_reducible rfl
  simp only [Act.put, List.setIfInBounds_toArray, List.set_cons_zero, List.set_cons_succ]
  refine wpAnyH_take (i := 1) (oi := { dst := some 4, op := Op.nilCheck (Operand.tmp 3), type := 0, pos := "codec.go:23", after := #[{ on := 0, ground := Ground.data }], guard := none }) (v := ?_) rfl (by kernel_rfl) (by kernel_rfl) (by kernel_rfl) (fun _ _ _ h => h) (Or.inl ⟨by rfl, ?_⟩) (by assumption) ?_
  rotate_left
  · intro w hSw
    clear hSw
    go_simp
    all_goals with_reducible rfl
  simp only [Act.put, List.setIfInBounds_toArray, List.set_cons_zero, List.set_cons_succ]
  refine wpAnyH_take (i := 2) (oi := { dst := some 5, op := Op.fieldAddr 74 (Operand.tmp 4) 0, type := 0, pos := "codec.go:23", after := #[{ on := 1, ground := Ground.data }], guard := none }) (v := ?_) rfl (by kernel_rfl) (by kernel_rfl) (by kernel_rfl) (fun _ _ _ h => h) (Or.inl ⟨by rfl, ?_⟩) (by assumption) ?_
  rotate_left
  · intro w hSw
    clear hSw
    go_simp
    all_goals with_reducible rfl
  simp only [Act.put, List.setIfInBounds_toArray, List.set_cons_zero, List.set_cons_succ]
  refine wpAnyH_take (i := 3) (oi := { dst := some 6, op := Op.load 3 (Operand.tmp 5), type := 3, pos := "codec.go:23", after := #[{ on := 2, ground := Ground.data }], guard := none }) (v := ?_) rfl (by kernel_rfl) (by kernel_rfl) (by kernel_rfl) (fun _ _ _ h => h) (Or.inl ⟨by rfl, ?_⟩) (by assumption) ?_
  rotate_left
  · intro w hSw
    have c0 := (hSw.cell (p := ⟨q, 0, none⟩) (by exact hq)).trans C0.out
    clear hSw
    go_simp
    all_goals with_reducible rfl
  simp only [Act.put, List.setIfInBounds_toArray, List.set_cons_zero, List.set_cons_succ]
  refine wpAnyH_take (i := 7) (oi := { dst := some 10, op := Op.move (Operand.tmp 0), type := 81, pos := "codec.go:23", after := #[], guard := none }) (v := ?_) rfl (by kernel_rfl) (by kernel_rfl) (by kernel_rfl) (fun _ _ _ h => h) (Or.inl ⟨by rfl, ?_⟩) (by assumption) ?_
  rotate_left
  · intro w hSw
    clear hSw
    go_simp
    all_goals with_reducible rfl
  simp only [Act.put, List.setIfInBounds_toArray, List.set_cons_zero, List.set_cons_succ]
  refine wpAnyH_take (i := 8) (oi := { dst := some 11, op := Op.nilCheck (Operand.tmp 10), type := 0, pos := "codec.go:23", after := #[{ on := 7, ground := Ground.data }], guard := none }) (v := ?_) rfl (by kernel_rfl) (by kernel_rfl) (by kernel_rfl) (fun _ _ _ h => h) (Or.inl ⟨by rfl, ?_⟩) (by assumption) ?_
  rotate_left
  · intro w hSw
    clear hSw
    go_simp
    all_goals with_reducible rfl
  simp only [Act.put, List.setIfInBounds_toArray, List.set_cons_zero, List.set_cons_succ]
  refine wpAnyH_take (i := 9) (oi := { dst := some 12, op := Op.fieldAddr 74 (Operand.tmp 11) 1, type := 0, pos := "codec.go:23", after := #[{ on := 8, ground := Ground.data }], guard := none }) (v := ?_) rfl (by kernel_rfl) (by kernel_rfl) (by kernel_rfl) (fun _ _ _ h => h) (Or.inl ⟨by rfl, ?_⟩) (by assumption) ?_
  rotate_left
  · intro w hSw
    clear hSw
    go_simp
    all_goals with_reducible rfl
  simp only [Act.put, List.setIfInBounds_toArray, List.set_cons_zero, List.set_cons_succ]
  refine wpAnyH_take (i := 10) (oi := { dst := some 13, op := Op.load 30 (Operand.tmp 12), type := 30, pos := "codec.go:23", after := #[{ on := 9, ground := Ground.data }], guard := none }) (v := ?_) rfl (by kernel_rfl) (by kernel_rfl) (by kernel_rfl) (fun _ _ _ h => h) (Or.inl ⟨by rfl, ?_⟩) (by assumption) ?_
  rotate_left
  · intro w hSw
    have c1 := (hSw.cell (p := ⟨q, 1, none⟩) (by exact hq)).trans C1.out
    clear hSw
    go_simp
    all_goals with_reducible rfl
  simp only [Act.put, List.setIfInBounds_toArray, List.set_cons_zero, List.set_cons_succ]
  refine wpAnyH_ready (rs := [4]) (by kernel_rfl) (by simp) ?_
  refine AllReadyH.cons (o := { dst := some 7, op := Op.call { callee := Callee.value (Operand.func 48), args := #[Operand.tmp 6], argTypes := #[3] }, type := 9, pos := "codec.go:23", after := #[{ on := 3, ground := Ground.data }], guard := none }) rfl (fun K hK => ?_) AllReadyH.nil
  go_simp
  refine (itoa_any a ha.1 ha.2 _ (Joins.tab_stays gPow HP.out hHeld (Nat.le_refl _))).mono ?_
  rintro e w1 ⟨s1, rfl, hs1, hb1⟩
  have hk := Below.trans hHeld (hb1.mono hHeld.size)
  clear hb1 hHeld
  go_wp2_with fail
  refine hK.out _ _ hk (fun hHeld => ?_)
  clear hK K 
  try simp only [Act.put, List.setIfInBounds_toArray, List.set_cons_zero, List.set_cons_succ]
  have f1 : ¬ 9223372036854775807 < 16 + s1.size := by omega
  have f2 : ¬ 9223372036854775807 < 16 + s1.size + 2 := by omega
  refine wpAnyH_take (i := 5) (oi := { dst := some 8, op := Op.binOp BinOp.add 9 (Operand.const (Value.string { data := #[114, 101, 102, 117, 115, 101, 100, 32, 97, 116, 32, 98, 121, 116, 101, 32] })) (Operand.tmp 7) 9, type := 9, pos := "codec.go:23", after := #[{ on := 4, ground := Ground.data }], guard := none }) (v := ?_) rfl (by kernel_rfl) (by kernel_rfl) (by kernel_rfl) (fun _ _ _ h => h) (Or.inl ⟨by rfl, ?_⟩) (by assumption) ?_
  rotate_left
  · intro w hSw
    clear hSw
    go_simp
    all_goals with_reducible rfl
  simp only [Act.put, List.setIfInBounds_toArray, List.set_cons_zero, List.set_cons_succ]
  refine wpAnyH_take (i := 6) (oi := { dst := some 9, op := Op.binOp BinOp.add 9 (Operand.tmp 8) (Operand.const (Value.string { data := #[58, 32] })) 9, type := 9, pos := "codec.go:23", after := #[{ on := 5, ground := Ground.data }], guard := none }) (v := ?_) rfl (by kernel_rfl) (by kernel_rfl) (by kernel_rfl) (fun _ _ _ h => h) (Or.inl ⟨by rfl, ?_⟩) (by assumption) ?_
  rotate_left
  · intro w hSw
    clear hSw
    go_simp
    all_goals with_reducible rfl
  simp only [Act.put, List.setIfInBounds_toArray, List.set_cons_zero, List.set_cons_succ]
  refine wpAnyH_ready (rs := [11]) (by kernel_rfl) (by simp) ?_
  refine AllReadyH.cons (o := { dst := some 14, op := Op.call { callee := Callee.value (Operand.func 49), args := #[Operand.tmp 13], argTypes := #[30] }, type := 9, pos := "codec.go:23", after := #[{ on := 10, ground := Ground.data }, { on := 4, ground := Ground.chain }], guard := none }) rfl (fun K hK => ?_) AllReadyH.nil
  go_simp
  refine (errno_any y hy.1 hy.2 _).mono ?_
  rintro e w2 ⟨s2, rfl, hp2, hs2, hb2⟩
  have hk := Below.trans hHeld (hb2.mono hHeld.size)
  clear hb2 hHeld
  go_wp2_with fail
  refine hK.out _ _ hk (fun hHeld => ?_)
  clear hK K 
  try simp only [Act.put, List.setIfInBounds_toArray, List.set_cons_zero, List.set_cons_succ]
  have f3 : ¬ 9223372036854775807 < 16 + s1.size + 2 + s2.size := by omega
  refine wpAnyH_take (i := 12) (oi := { dst := some 15, op := Op.binOp BinOp.add 9 (Operand.tmp 9) (Operand.tmp 14) 9, type := 9, pos := "codec.go:23", after := #[{ on := 6, ground := Ground.data }, { on := 11, ground := Ground.data }], guard := none }) (v := ?_) rfl (by kernel_rfl) (by kernel_rfl) (by kernel_rfl) (fun _ _ _ h => h) (Or.inl ⟨by rfl, ?_⟩) (by assumption) ?_
  rotate_left
  · intro w hSw
    clear hSw
    go_simp
    all_goals with_reducible rfl
  simp only [Act.put, List.setIfInBounds_toArray, List.set_cons_zero, List.set_cons_succ]
  refine wpAnyH_take (i := 13) (oi := { dst := some 2, op := Op.assign (Operand.tmp 15), type := 9, pos := "codec.go:23", after := #[{ on := 12, ground := Ground.data }, { on := 11, ground := Ground.chain }, { on := 0, ground := Ground.phase }, { on := 1, ground := Ground.phase }, { on := 2, ground := Ground.phase }, { on := 3, ground := Ground.phase }, { on := 4, ground := Ground.phase }, { on := 5, ground := Ground.phase }, { on := 6, ground := Ground.phase }, { on := 7, ground := Ground.phase }, { on := 8, ground := Ground.phase }, { on := 9, ground := Ground.phase }, { on := 10, ground := Ground.phase }, { on := 11, ground := Ground.phase }, { on := 12, ground := Ground.phase }], guard := none }) (v := ?_) rfl (by kernel_rfl) (by kernel_rfl) (by kernel_rfl) (fun _ _ _ h => h) (Or.inl ⟨by rfl, ?_⟩) (by assumption) ?_
  rotate_left
  · intro w hSw
    clear hSw
    go_simp
    all_goals with_reducible rfl
  simp only [Act.put, List.setIfInBounds_toArray, List.set_cons_zero, List.set_cons_succ]
  refine wpAnyH_done (by kernel_rfl) ?_ _
  refine NoPanic.normal ?_
  go_wp2_with fail
  go_ret
  exact ⟨_, rfl, by rw [ByteArray.size_append]; omega, hHeld⟩
theorem run_equalIn_iface_int {P : Program} (w : World) (d : Nat) {ti tn : TypeId} {ms : Array (String × TypeId)} {i : TypeInfo} {k : IntKind} (a b : Int)
    (hi : P.underlying ti = some (.interface ms)) (hn : P.underlying tn = some (.int k)) (hinfo : P.info? tn = some i) (hcomp : i.comparable = true) :
    (Op.equalIn (d + 2) ti (.iface tn (.int k a)) (.iface tn (.int k b))).run P w = .ok (a == b) w := by
  simp [Op.equalIn, run_underlying hi, run_underlying hn, typeInfo, hinfo, hcomp]
theorem compErr : (Tryd.prog.info? 30).map (·.comparable) = some true := by kernel_rfl
theorem eql_err (a b : Int) (w : World) : (binOp .eql 34 (.iface 30 (.int .i64 a)) (.iface 30 (.int .i64 b))).run Tryd.prog w = .ok (.bool (a == b)) w := by
  obtain ⟨i, hi, hc⟩ := Option.map_eq_some_iff.1 compErr
  simp only [binOp]
  simp [Op.equal, Op.maxDepth, run_equalIn_iface_int w 9998 a b Tryd.underlying34 Tryd.underlying30 hi hc]
theorem no_is (v : Value) (xT : TypeId) (w : World) : (Instr.typeAssert (.iface 81 v) xT 95 true).run Tryd.prog w = .ok (.tuple #[.nilIface, .bool false]) w := run_typeAssert_lacksB Tryd.underlying95 (by kernel_rfl) (by kernel_rfl) v xT w
theorem has_unwrap (v : Value) (xT : TypeId) (w : World) : (Instr.typeAssert (.iface 81 v) xT 98 true).run Tryd.prog w = .ok (.tuple #[.iface 81 v, .bool true]) w := run_typeAssert_hasB Tryd.underlying98 (by kernel_rfl) v xT w
theorem method_unwrap (v : Value) (w : World) : (Go.method 248 81 v "Unwrap").run Tryd.prog w = .ok (41, v) w := by kernel_rfl
def isLeft : Value → Nat
  | .iface 81 _ => 1
  | _ => 0
set_option maxHeartbeats 800000 in
set_option maxRecDepth 1000000 in
theorem is_any (q : Nat) (a y : Int) (w : World) (h : RefAt w q a y) :
   Calls Tryd.prog 51 #[.iface 81 (.pointer (some ⟨q, 0, none⟩)), .iface 30 (.int .i64 y), .bool true] w fun e w' => e = .returned (.bool true) ∧ w = w' := by
  have nI := no_is
  have uW := has_unwrap
  have mU := method_unwrap
  have hty := run_eql_iface_types (P := Tryd.prog) 81 30 (.pointer (some ⟨q, 0, none⟩)) (.int .i64 y) Tryd.underlying34 (by decide) w
  have heq := eql_err y y w
  have HR := hide h
  clear h
  go_enter Tryd.func51, Tryd.ntmps51
  go_wp2_with fail
  go_loopw [0] (fun E wl => w = wl ∧ (E = .iface 81 (.pointer (some ⟨q, 0, none⟩)) ∨ E = .iface 30 (.int .i64 y))) (fun E _ => isLeft E)
  case atStart => exact ⟨rfl, Or.inl rfl⟩
  case round =>
    obtain ⟨rfl, rfl | rfl⟩ := hrel
    · go_wp2_with fail
      refine (unwrap_any q a y w HR.out).mono ?_
      rintro e w1 ⟨rfl, rfl⟩
      go_wp2_with fail
      go_roundw
      case rel => exact ⟨trivial, Or.inr rfl⟩
      case measure => exact Nat.lt_succ_self 0
    · go_wp2_with fail
      go_ret
      exact ⟨rfl, rfl⟩
theorem typeOf_err (v : Value) (w : World) : (Extern.ReflectliteType.typeOf #[.iface 30 v]).run Tryd.prog w = .ok (.iface 93 (.agg #[.pointer (some ⟨3, 30, none⟩)])) w := by kernel_rfl
theorem cmp_err : ∃ F, Extern.find Tryd.f83 = some F ∧ ∀ w : World, (F #[.agg #[.pointer (some ⟨3, 30, none⟩)]]).run Tryd.prog w = .ok (.bool true) w :=
  ⟨(Extern.find Tryd.f83).getD (fun _ => pure (.bool false)), by kernel_rfl, fun w => by kernel_rfl⟩
theorem method_comparable (v : Value) (w : World) : (Go.method 248 93 v "Comparable").run Tryd.prog w = .ok (83, v) w := by kernel_rfl
set_option maxHeartbeats 800000 in
set_option maxRecDepth 1000000 in
theorem Is_any (q : Nat) (a y : Int) (w : World) (h : RefAt w q a y) :
   Calls Tryd.prog 42 #[.iface 81 (.pointer (some ⟨q, 0, none⟩)), .iface 30 (.int .i64 y)] w fun e w' => e = .returned (.bool true) ∧ w = w' := by
  have h50 := @run_callFunc_extern Tryd.prog 50 _ Extern.ReflectliteType.typeOf Tryd.func50 (by kernel_rfl) (by kernel_rfl) (by kernel_rfl) (by kernel_rfl)
  obtain ⟨F, hF, t2⟩ := cmp_err
  have h83 := @run_callFunc_extern Tryd.prog 83 _ F Tryd.func83 (by kernel_rfl) (by kernel_rfl) (by kernel_rfl) hF
  clear hF
  have t1 := typeOf_err
  have t3 := method_comparable
  have HR := hide h
  clear h
  go_enter Tryd.func42, Tryd.ntmps42
  go_wp2_with fail
  refine (is_any q a y w HR.out).mono ?_
  rintro e w1 ⟨rfl, rfl⟩
  go_wp2_with fail
  go_ret
  exact ⟨rfl, rfl⟩
end Go.Proofs.YtdhaeepaemneaaaDoor
