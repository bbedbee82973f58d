/- What a tree does in a state; the document's own answers; chapter 17's runs. -/
import Derived.Test.YtldkkgdkjddohaaLa
import Derived.Deep.CutBlock
namespace Go.Proofs.Ytldkkgdkjddohaa
open Go.RowKit
/-- A variable of three cells. -/
structure Cel (w : World) (g : Nat) (t : TypeId) (x y z : Value) : Prop where
  row : w.heap[g]? = some (.cells #[x, y, z] t (0, 0))
section
variable {w W : World} {g : Nat} {t : TypeId} {x y z : Value}
theorem Cel.lt (h : Cel w g t x y z) : g < w.heap.size := block_lt_of_row h.row
theorem Cel.c (h : Cel w g t x y z) : w.cell? ⟨g, 0, none⟩ = some x ∧ w.cell? ⟨g, 1, none⟩ = some y ∧ w.cell? ⟨g, 2, none⟩ = some z := cells3 h.row
theorem Cel.fz (h : Cel w g t x y z) (j : Nat) : w.frozen? ⟨g, j, none⟩ = false := frozen_of_row w g j _ _ h.row
theorem Cel.set0 (h : Cel w g t x y z) (u : Value) : Cel (w.setCell ⟨g, 0, none⟩ u) g t u y z := ⟨by rw [heap_setCell_same w g 0 _ t _ h.row]; rfl⟩
theorem Cel.set1 (h : Cel w g t x y z) (u : Value) : Cel (w.setCell ⟨g, 1, none⟩ u) g t x u z := ⟨by rw [heap_setCell_same w g 1 _ t _ h.row]; rfl⟩
theorem Cel.set2 (h : Cel w g t x y z) (u : Value) : Cel (w.setCell ⟨g, 2, none⟩ u) g t x y u := ⟨by rw [heap_setCell_same w g 2 _ t _ h.row]; rfl⟩
end
theorem size38 : (Try.prog.info? 38).map (·.size) = some 3 := by kernel_rfl
theorem var38 {w : World} {g : Nat} {x y z : Value} (h : w.heap[g]? = some (.cells #[x, y, z] 38 (0, 0))) : (loadVar 38 ⟨g, 0, none⟩).run Try.prog w = .ok (.agg #[x, y, z]) w := run_loadVar_row w g 38 38 _ (0, 0) _ h Try.underlying38 rfl size38
theorem results_c {fn : Func} {p : Tmp} {ty : TypeId} (h : fn.results = #[.cell p ty]) (tmps : Array Value) (w : World) (g : Nat) (cs : Array Value)
    (hp : tmps.getD p undef = .pointer (some ⟨g, 0, none⟩)) (hl : (loadVar ty ⟨g, 0, none⟩).run Try.prog w = .ok (.agg cs) w) :
    (results fn tmps).run Try.prog w = .ok (.agg cs) w := by
  have hp' : tmps[p]?.getD undef = .pointer (some ⟨g, 0, none⟩) := by simpa using hp
  simp [results, h, hp', asAddr, hl]
/-- The answer's variable, and the one that is filled, side by side. -/
structure Dv (w W : World) (x y z : Value) : Prop where
  b : Cel W w.heap.size 38 (.bool false) (.bool false) (.bool false)
  a : Cel W (w.heap.size + 1) 38 x y z
  u : Below w.heap.size w W
theorem Dv.new (w : World) : Dv w ((w.alloc (.cells #[.bool false, .bool false, .bool false] 38)).alloc (.cells #[.bool false, .bool false, .bool false] 38)) (.bool false) (.bool false) (.bool false) :=
  ⟨⟨two_fst _ _ _⟩, ⟨two_top _ _ _⟩, two_below _ _ _⟩
theorem Dv.keep {w W : World} {x y z : Value} (h : Dv w W x y z) (j : Nat) (v : Value) : Cel (W.setCell ⟨w.heap.size + 1, j, none⟩ v) w.heap.size 38 (.bool false) (.bool false) (.bool false) :=
  ⟨(heap_setCell_other _ _ _ _ (show w.heap.size ≠ w.heap.size + 1 by omega)).trans h.b.row⟩
theorem Dv.set0 {w W : World} {x y z : Value} (h : Dv w W x y z) (v : Value) : Dv w (W.setCell ⟨w.heap.size + 1, 0, none⟩ v) v y z := ⟨h.keep 0 v, h.a.set0 v, h.u.setCell (p := ⟨w.heap.size + 1, 0, none⟩) (by simp) v⟩
theorem Dv.set1 {w W : World} {x y z : Value} (h : Dv w W x y z) (v : Value) : Dv w (W.setCell ⟨w.heap.size + 1, 1, none⟩ v) x v z := ⟨h.keep 1 v, h.a.set1 v, h.u.setCell (p := ⟨w.heap.size + 1, 1, none⟩) (by simp) v⟩
theorem Dv.set2 {w W : World} {x y z : Value} (h : Dv w W x y z) (v : Value) : Dv w (W.setCell ⟨w.heap.size + 1, 2, none⟩ v) x y v := ⟨h.keep 2 v, h.a.set2 v, h.u.setCell (p := ⟨w.heap.size + 1, 2, none⟩) (by simp) v⟩

set_option maxHeartbeats 1600000 in
/-- What a tree does in a state, for any number. -/
theorem deeds_any (a : Int) (w : World) :
   Calls Try.prog 22 #[.int .i64 a] w fun e w' => e = .returned (.agg #[.bool (S.adds a), .bool (S.runs a), .bool (S.serves a)]) ∧ Below w.heap.size w w' := by
  by_cases ha1 : a = 1
  · subst ha1
    have HE : Hid (S.adds 1 = true ∧ S.runs 1 = true ∧ S.serves 1 = true) := by show _ ∧ _; simp [S.adds, S.runs, S.serves]
    go_enter Try.func22, Try.ntmps22
    go_upto_region 2 with fail
    have S0 := hide (Dv.new w)
    generalize World.alloc _ _ = W0 at S0 ⊢
    have f0 := S0.out.a.fz 0
    have g0 := S0.out.a.c.1
    go_upto_region 7 with fail
    have S1 := hide (S0.out.set0 (.bool true))
    generalize World.setCell W0 _ _ = W1 at S1 ⊢
    clear f0 g0 S0
    have f1 := S1.out.a.fz 1
    have g1 := S1.out.a.c.2.1
    go_upto_region 8 with fail
    have S2 := hide (S1.out.set1 (.bool true))
    generalize World.setCell W1 _ _ = W2 at S2 ⊢
    clear f1 g1 S1
    have f2 := S2.out.a.fz 2
    have g2 := S2.out.a.c.2.2
    go_upto_region 9 with fail
    have S3 := hide (S2.out.set2 (.bool true))
    generalize World.setCell W2 _ _ = W3 at S3 ⊢
    clear f2 g2 S2
    obtain ⟨c0, c1, c2⟩ := S3.out.a.c
    obtain ⟨d0, d1, d2⟩ := S3.out.b.c
    have e0 := S3.out.b.fz 0
    have e1 := S3.out.b.fz 1
    have e2 := S3.out.b.fz 2
    have K5 := hide (((S3.out.b.set0 (.bool (true))).set1 (.bool (true))).set2 (.bool (true)))
    have B5 := hide (((S3.out.u.setCell (p := ⟨w.heap.size, 0, none⟩) (Nat.le_refl _) (.bool (true))).setCell (p := ⟨w.heap.size, 1, none⟩) (Nat.le_refl _) (.bool (true))).setCell (p := ⟨w.heap.size, 2, none⟩) (Nat.le_refl _) (.bool (true)))
    go_wp2
    refine bodyPost_ret (results_c Try.results22 _ _ w.heap.size _ rfl (var38 K5.out.row)) rfl ?_
    exact ⟨by rw [HE.out.1, HE.out.2.1, HE.out.2.2], B5.out⟩
  by_cases ha3 : a = 3
  · subst ha3
    have HE : Hid (S.adds 3 = false ∧ S.runs 3 = true ∧ S.serves 3 = true) := by show _ ∧ _; simp [S.adds, S.runs, S.serves]
    go_enter Try.func22, Try.ntmps22
    go_upto_region 2 with fail
    have S0 := hide (Dv.new w)
    generalize World.alloc _ _ = W0 at S0 ⊢
    have f0 := S0.out.a.fz 1
    have g0 := S0.out.a.c.2.1
    go_upto_region 8 with fail
    have S1 := hide (S0.out.set1 (.bool true))
    generalize World.setCell W0 _ _ = W1 at S1 ⊢
    clear f0 g0 S0
    have f1 := S1.out.a.fz 2
    have g1 := S1.out.a.c.2.2
    go_upto_region 9 with fail
    have S2 := hide (S1.out.set2 (.bool true))
    generalize World.setCell W1 _ _ = W2 at S2 ⊢
    clear f1 g1 S1
    obtain ⟨c0, c1, c2⟩ := S2.out.a.c
    obtain ⟨d0, d1, d2⟩ := S2.out.b.c
    have e0 := S2.out.b.fz 0
    have e1 := S2.out.b.fz 1
    have e2 := S2.out.b.fz 2
    have K5 := hide (((S2.out.b.set0 (.bool (false))).set1 (.bool (true))).set2 (.bool (true)))
    have B5 := hide (((S2.out.u.setCell (p := ⟨w.heap.size, 0, none⟩) (Nat.le_refl _) (.bool (false))).setCell (p := ⟨w.heap.size, 1, none⟩) (Nat.le_refl _) (.bool (true))).setCell (p := ⟨w.heap.size, 2, none⟩) (Nat.le_refl _) (.bool (true)))
    go_wp2
    refine bodyPost_ret (results_c Try.results22 _ _ w.heap.size _ rfl (var38 K5.out.row)) rfl ?_
    exact ⟨by rw [HE.out.1, HE.out.2.1, HE.out.2.2], B5.out⟩
  by_cases ha2 : a = 2
  · subst ha2
    have HE : Hid (S.adds 2 = false ∧ S.runs 2 = false ∧ S.serves 2 = true) := by show _ ∧ _; simp [S.adds, S.runs, S.serves]
    go_enter Try.func22, Try.ntmps22
    go_upto_region 2 with fail
    have S0 := hide (Dv.new w)
    generalize World.alloc _ _ = W0 at S0 ⊢
    have f0 := S0.out.a.fz 2
    have g0 := S0.out.a.c.2.2
    go_upto_region 9 with fail
    have S1 := hide (S0.out.set2 (.bool true))
    generalize World.setCell W0 _ _ = W1 at S1 ⊢
    clear f0 g0 S0
    obtain ⟨c0, c1, c2⟩ := S1.out.a.c
    obtain ⟨d0, d1, d2⟩ := S1.out.b.c
    have e0 := S1.out.b.fz 0
    have e1 := S1.out.b.fz 1
    have e2 := S1.out.b.fz 2
    have K5 := hide (((S1.out.b.set0 (.bool (false))).set1 (.bool (false))).set2 (.bool (true)))
    have B5 := hide (((S1.out.u.setCell (p := ⟨w.heap.size, 0, none⟩) (Nat.le_refl _) (.bool (false))).setCell (p := ⟨w.heap.size, 1, none⟩) (Nat.le_refl _) (.bool (false))).setCell (p := ⟨w.heap.size, 2, none⟩) (Nat.le_refl _) (.bool (true)))
    go_wp2
    refine bodyPost_ret (results_c Try.results22 _ _ w.heap.size _ rfl (var38 K5.out.row)) rfl ?_
    exact ⟨by rw [HE.out.1, HE.out.2.1, HE.out.2.2], B5.out⟩
  · have e1 : (a == 1) = false := by simpa using ha1
    have e2 : (a == 2) = false := by simpa using ha2
    have e3 : (a == 3) = false := by simpa using ha3
    have HE : Hid (S.adds a = false ∧ S.runs a = false ∧ S.serves a = false) := by show _ ∧ _; simp [S.adds, S.runs, S.serves, ha1, ha2, ha3]
    go_enter Try.func22, Try.ntmps22
    go_upto_region 2 with fail
    have S0 := hide (Dv.new w)
    generalize World.alloc _ _ = W0 at S0 ⊢
    obtain ⟨c0, c1, c2⟩ := S0.out.a.c
    obtain ⟨d0, d1, d2⟩ := S0.out.b.c
    have e0 := S0.out.b.fz 0
    have e1 := S0.out.b.fz 1
    have e2 := S0.out.b.fz 2
    have K5 := hide (((S0.out.b.set0 (.bool (false))).set1 (.bool (false))).set2 (.bool (false)))
    have B5 := hide (((S0.out.u.setCell (p := ⟨w.heap.size, 0, none⟩) (Nat.le_refl _) (.bool (false))).setCell (p := ⟨w.heap.size, 1, none⟩) (Nat.le_refl _) (.bool (false))).setCell (p := ⟨w.heap.size, 2, none⟩) (Nat.le_refl _) (.bool (false)))
    go_wp2
    refine bodyPost_ret (results_c Try.results22 _ _ w.heap.size _ rfl (var38 K5.out.row)) rfl ?_
    exact ⟨by rw [HE.out.1, HE.out.2.1, HE.out.2.2], B5.out⟩
theorem field38_0 (x y z : Bool) (w : World) : (Instr.field 38 (.agg #[.bool x, .bool y, .bool z]) 0).run Try.prog w = .ok (.bool x) w := by kernel_rfl
theorem field38_1 (x y z : Bool) (w : World) : (Instr.field 38 (.agg #[.bool x, .bool y, .bool z]) 1).run Try.prog w = .ok (.bool y) w := by kernel_rfl
theorem field38_2 (x y z : Bool) (w : World) : (Instr.field 38 (.agg #[.bool x, .bool y, .bool z]) 2).run Try.prog w = .ok (.bool z) w := by kernel_rfl

set_option maxHeartbeats 800000 in
theorem adds_any (a : Int) (w : World) : Calls Try.prog 15 #[.int .i64 a] w fun e w' => e = .returned (.bool (S.adds a)) ∧ Below w.heap.size w w' := by
  go_enter Try.func15, Try.ntmps15
  go_wp2_with fail
  go_at_call 22
  refine (deeds_any a w).mono ?_
  rintro e w1 ⟨rfl, hb⟩
  have HB := hide hb
  have f0 := field38_0 (S.adds a) (S.runs a) (S.serves a)
  have f1 := field38_1 (S.adds a) (S.runs a) (S.serves a)
  have f2 := field38_2 (S.adds a) (S.runs a) (S.serves a)
  clear hb
  go_wp2
  go_ret
  exact ⟨rfl, HB.out⟩

set_option maxHeartbeats 800000 in
theorem runs_any (a : Int) (w : World) : Calls Try.prog 13 #[.int .i64 a] w fun e w' => e = .returned (.bool (S.runs a)) ∧ Below w.heap.size w w' := by
  go_enter Try.func13, Try.ntmps13
  go_wp2_with fail
  go_at_call 22
  refine (deeds_any a w).mono ?_
  rintro e w1 ⟨rfl, hb⟩
  have HB := hide hb
  have f0 := field38_0 (S.adds a) (S.runs a) (S.serves a)
  have f1 := field38_1 (S.adds a) (S.runs a) (S.serves a)
  have f2 := field38_2 (S.adds a) (S.runs a) (S.serves a)
  clear hb
  go_wp2
  go_ret
  exact ⟨rfl, HB.out⟩

set_option maxHeartbeats 800000 in
theorem serves_any (a : Int) (w : World) : Calls Try.prog 11 #[.int .i64 a] w fun e w' => e = .returned (.bool (S.serves a)) ∧ Below w.heap.size w w' := by
  go_enter Try.func11, Try.ntmps11
  go_wp2_with fail
  go_at_call 22
  refine (deeds_any a w).mono ?_
  rintro e w1 ⟨rfl, hb⟩
  have HB := hide hb
  have f0 := field38_0 (S.adds a) (S.runs a) (S.serves a)
  have f1 := field38_1 (S.adds a) (S.runs a) (S.serves a)
  have f2 := field38_2 (S.adds a) (S.runs a) (S.serves a)
  clear hb
  go_wp2
  go_ret
  exact ⟨rfl, HB.out⟩
end Go.Proofs.Ytldkkgdkjddohaa
