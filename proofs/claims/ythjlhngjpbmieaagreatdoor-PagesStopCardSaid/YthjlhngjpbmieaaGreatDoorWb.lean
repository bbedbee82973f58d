/- The set that one record tells. -/
import Derived.Test.YthjlhngjpbmieaaGreatDoorWa
import Derived.Test.YthjlhngjpbmieaaGreatDoorJa
import Derived.Test.YthjlhngjpbmieaaGreatDoorJb
namespace Go.Proofs.YthjlhngjpbmieaaGreatDoor
open Go.RowKit

theorem wpList_index_as {w : World} {ops : Array Oper} {rest : List Oper} {o : Oper} {a : Act} {Q : Exit → Act → World → Prop} (hgd : o.guard = none) (t : TypeId) (x y : Operand) (ho : o.op = .index t x y) (vx vy : Value) (hx : a.eval x = vx) (hy : a.eval y = vy) (v : Value)
    (hr : (Instr.index t vx vy).run Tryz.prog w = .ok v w) (h : wpList Tryz.prog ops Q rest (a.put o.dst v) w) : wpList Tryz.prog ops Q (o :: rest) a w := by
  subst hx hy
  exact wpList_plain hgd fun _ hK => by
    unfold Oper.wp execOp
    simp only [ho, Sem.run_bind, hr, Result.andThen_ok]
    exact hK _ _ h
namespace S
theorem ones_le (x : UInt8) : ones x ≤ 8 := by
  have h : ∀ b : Bool, (if b = true then 1 else 0) ≤ 1 := by decide
  unfold ones
  have h0 := h (x.toNat.testBit 0)
  have h1 := h (x.toNat.testBit 1)
  have h2 := h (x.toNat.testBit 2)
  have h3 := h (x.toNat.testBit 3)
  have h4 := h (x.toNat.testBit 4)
  have h5 := h (x.toNat.testBit 5)
  have h6 := h (x.toNat.testBit 6)
  have h7 := h (x.toNat.testBit 7)
  omega
def onesTab : ByteArray := { data := (([0, 1, 1, 2, 1, 2, 2, 3, 1, 2, 2, 3, 2, 3, 3, 4, 1, 2, 2, 3, 2, 3, 3, 4, 2, 3, 3, 4, 3, 4, 4, 5, 1, 2, 2, 3, 2, 3, 3, 4, 2, 3, 3, 4, 3, 4, 4, 5, 2, 3, 3, 4, 3, 4, 4, 5, 3, 4, 4, 5, 4, 5, 5, 6].append [1, 2, 2, 3, 2, 3, 3, 4, 2, 3, 3, 4, 3, 4, 4, 5, 2, 3, 3, 4, 3, 4, 4, 5, 3, 4, 4, 5, 4, 5, 5, 6, 2, 3, 3, 4, 3, 4, 4, 5, 3, 4, 4, 5, 4, 5, 5, 6, 3, 4, 4, 5, 4, 5, 5, 6, 4, 5, 5, 6, 5, 6, 6, 7]).append ([1, 2, 2, 3, 2, 3, 3, 4, 2, 3, 3, 4, 3, 4, 4, 5, 2, 3, 3, 4, 3, 4, 4, 5, 3, 4, 4, 5, 4, 5, 5, 6, 2, 3, 3, 4, 3, 4, 4, 5, 3, 4, 4, 5, 4, 5, 5, 6, 3, 4, 4, 5, 4, 5, 5, 6, 4, 5, 5, 6, 5, 6, 6, 7].append [2, 3, 3, 4, 3, 4, 4, 5, 3, 4, 4, 5, 4, 5, 5, 6, 3, 4, 4, 5, 4, 5, 5, 6, 4, 5, 5, 6, 5, 6, 6, 7, 3, 4, 4, 5, 4, 5, 5, 6, 4, 5, 5, 6, 5, 6, 6, 7, 4, 5, 5, 6, 5, 6, 6, 7, 5, 6, 6, 7, 6, 7, 7, 8])).toArray }
theorem onesTab_at : ∀ n : Fin 256, (onesTab.get! n.val).toNat = ones (UInt8.ofNat n.val) := by decide +kernel
theorem onesTab_size : onesTab.size = 256 := by decide +kernel
end S
set_option maxRecDepth 10000 in
theorem ones_index (x : UInt8) (W : World) : (Instr.index 9 (.string S.onesTab) (.int .u8 (x.toNat : Int))).run Tryz.prog W = .ok (.int .u8 (S.ones x : Int)) W := by
  rw [run_index_string (P := Tryz.prog) (w := W) 9 S.onesTab .u8 (x.toNat : Int) Tryz.underlying9]
  have hx := x.toNat_lt
  have hs := S.onesTab_size
  have h0 : 0 ≤ (x.toNat : Int) ∧ (x.toNat : Int) < S.onesTab.size := ⟨by omega, by omega⟩
  rw [dif_pos h0]
  have h := S.onesTab_at ⟨x.toNat, hx⟩
  simp only [UInt8.ofNat_toNat] at h
  congr 2
  rw [← h]
  have hl : x.toNat < S.onesTab.size := by omega
  simp [ByteArray.get!, getElem!_pos, hl]
  rfl
set_option maxRecDepth 10000 in
theorem ones_any (x : UInt8) (w : World) : Calls Tryz.prog 92 #[.int .u8 (x.toNat : Int)] w fun e w' => e = .returned (.int .i64 (S.ones x : Int)) ∧ w = w' := by
  have hi := ones_index x w
  obtain ⟨m, hm⟩ : ∃ m : Nat, m = S.ones x := ⟨_, rfl⟩
  have hb : m ≤ 8 := by rw [hm]; exact S.ones_le x
  rw [← hm] at hi ⊢
  have q1 : IntKind.i64.wrap (m : Int) = (m : Int) := by rw [IntKind.wrap_i64]; omega
  clear hm
  go_enter Tryz.func92, Tryz.ntmps92
  go_wp2_with (with_reducible refine at_op { dst := some 4, op := Op.index 9 (Operand.const (Value.string { data := (([0, 1, 1, 2, 1, 2, 2, 3, 1, 2, 2, 3, 2, 3, 3, 4, 1, 2, 2, 3, 2, 3, 3, 4, 2, 3, 3, 4, 3, 4, 4, 5, 1, 2, 2, 3, 2, 3, 3, 4, 2, 3, 3, 4, 3, 4, 4, 5, 2, 3, 3, 4, 3, 4, 4, 5, 3, 4, 4, 5, 4, 5, 5, 6].append [1, 2, 2, 3, 2, 3, 3, 4, 2, 3, 3, 4, 3, 4, 4, 5, 2, 3, 3, 4, 3, 4, 4, 5, 3, 4, 4, 5, 4, 5, 5, 6, 2, 3, 3, 4, 3, 4, 4, 5, 3, 4, 4, 5, 4, 5, 5, 6, 3, 4, 4, 5, 4, 5, 5, 6, 4, 5, 5, 6, 5, 6, 6, 7]).append ([1, 2, 2, 3, 2, 3, 3, 4, 2, 3, 3, 4, 3, 4, 4, 5, 2, 3, 3, 4, 3, 4, 4, 5, 3, 4, 4, 5, 4, 5, 5, 6, 2, 3, 3, 4, 3, 4, 4, 5, 3, 4, 4, 5, 4, 5, 5, 6, 3, 4, 4, 5, 4, 5, 5, 6, 4, 5, 5, 6, 5, 6, 6, 7].append [2, 3, 3, 4, 3, 4, 4, 5, 3, 4, 4, 5, 4, 5, 5, 6, 3, 4, 4, 5, 4, 5, 5, 6, 4, 5, 5, 6, 5, 6, 6, 7, 3, 4, 4, 5, 4, 5, 5, 6, 4, 5, 5, 6, 5, 6, 6, 7, 4, 5, 5, 6, 5, 6, 6, 7, 5, 6, 6, 7, 6, 7, 7, 8])).toArray })) (Operand.tmp 3), type := 5, pos := "bits.go:126", after := #[⟨0, .data⟩], guard := none } ?_; refine wpList_index_as rfl 9 _ (.tmp 3) rfl (.string S.onesTab) (.int .u8 (x.toNat : Int)) rfl rfl (.int .u8 (m : Int)) hi ?_)
  go_ret
  exact ⟨rfl, rfl⟩
theorem index57 (s : List UInt8) (k : Nat) (W : World) (hs : s.length = 64) (hk : k < 64) : (Instr.index 65 (.agg (S.v8 s)) (.int .i64 (k : Int))).run Tryz.prog W = .ok (.int .u8 ((s.getD k 0).toNat : Int)) W := by
  have h0 : (S.v8 s)[k]? = some (.int .u8 ((s.getD k 0).toNat : Int)) := by
    unfold S.v8
    rw [List.getElem?_toArray, List.getElem?_map, List.getD_eq_getElem?_getD, List.getElem?_eq_getElem (by omega)]
    rfl
  have h1 : (0 : Int) ≤ (k : Int) ∧ (k : Int) < (64 : Nat) := ⟨by omega, by omega⟩
  have ha : (isAgg 5).run Tryz.prog W = .ok false W := by kernel_rfl
  have hp : (part 5 (S.v8 s) k).run Tryz.prog W = .ok (.int .u8 ((s.getD k 0).toNat : Int)) W := by
    unfold part
    simp only [Sem.run_bind, ha, Result.andThen_ok, h0]
    rfl
  rw [List.getD_eq_getElem?_getD] at hp
  simp [Instr.index, asIntOf, run_underlying Tryz.underlying65, hk, hp]
namespace S
theorem cnt_take (s : List UInt8) (k : Nat) (h : k < s.length) : cnt (s.take (k + 1)) = cnt (s.take k) + ones (s.getD k 0) := by
  unfold cnt
  rw [List.take_add_one, List.map_append, List.sum_append, List.getD_eq_getElem?_getD, List.getElem?_eq_getElem h]
  simp
theorem cnt_le (s : List UInt8) : cnt s ≤ s.length * 8 := by
  induction s with
  | nil => simp [cnt]
  | cons x s ih =>
    have := ones_le x
    unfold cnt at ih ⊢
    rw [List.map_cons, List.sum_cons, List.length_cons]
    omega
end S
set_option maxHeartbeats 1000000 in
set_option maxRecDepth 10000 in
theorem size_any (s : List UInt8) (Z : Array Value) (w : World) (hZ : Z = S.v8 s) (hs : s.length = 64) : Calls Tryz.prog 68 #[.agg Z] w fun e w' => e = .returned (.int .i64 (S.cnt s : Int)) ∧ Below w.heap.size w w' := by
  obtain ⟨w1, hw1⟩ : ∃ w1, w1 = w.alloc (.cells Z 65) := ⟨_, rfl⟩
  have B1 : Hid (Below w.heap.size w w1) := by rw [hw1]; exact (Below.refl _ _).alloc (Nat.le_refl _) _
  have r1 : w1.heap[w.heap.size]? = some (.cells (S.v8 s) 65 (0, 0)) := by rw [hw1, hZ]; exact heap_alloc_new _ _
  have ld := load57 r1 hs
  rw [← hZ] at ld
  have HZ := hide hZ
  have HS := hide hs
  have HW := hide hw1
  obtain ⟨g1, hg1⟩ : ∃ g1, g1 = w.heap.size := ⟨_, rfl⟩
  rw [← hg1] at ld
  have HG := hide hg1
  clear r1 hZ hs hw1 hg1
  go_enter Tryz.func68, Tryz.ntmps68
  go_wp2_with (rw [← HW.out, ← HG.out]; with_reducible refine at_op { dst := some 6, op := Op.load 65 (Operand.tmp 1), type := 65, pos := "set.go:38", after := #[], guard := none } ?_; refine wpList_load_as rfl 65 (.tmp 1) rfl (.pointer (some ⟨g1, 0, none⟩)) rfl (.agg Z) ld ?_)
  clear ld
  go_loopw [3, 7] (fun n i wr => ∃ k : Nat, k ≤ 64 ∧ i = .int .i64 (k : Int) ∧ n = .int .i64 (S.cnt (s.take k) : Int) ∧ w1 = wr) (fun _ i _ => 64 - (intOf i).toNat)
  case atStart => exact ⟨0, by omega, rfl, rfl, rfl⟩
  case round =>
  obtain ⟨k, hk, rfl, rfl, rfl⟩ := hrel
  by_cases hlt : k < 64
  · have q1 : (k : Int) < 64 := by omega
    have q2 : IntKind.i64.wrap ((k : Int) + 1) = (k : Int) + 1 := by rw [IntKind.wrap_i64]; omega
    have hi := index57 s k w1 HS.out hlt
    rw [← HZ.out] at hi
    have CT := hide (S.cnt_take s k (by rw [HS.out]; exact hlt))
    obtain ⟨x, hx⟩ : ∃ x, x = s.getD k 0 := ⟨_, rfl⟩
    rw [← hx] at hi CT
    have hb := S.cnt_le (s.take k)
    have hb2 : (s.take k).length ≤ 64 := by rw [List.length_take]; omega
    obtain ⟨a, ha⟩ : ∃ a, a = S.cnt (s.take k) := ⟨_, rfl⟩
    rw [← ha] at CT hb ⊢
    have hox := S.ones_le x
    have q3 : IntKind.i64.wrap ((a : Int) + (S.ones x : Int)) = (a : Int) + (S.ones x : Int) := by rw [IntKind.wrap_i64]; omega
    clear hx ha hb2
    go_wp2_with (with_reducible refine at_op { dst := some 9, op := Op.index 65 (Operand.tmp 6) (Operand.tmp 7), type := 5, pos := "set.go:38", after := #[], guard := none } ?_; refine wpList_index_as rfl 65 (.tmp 6) (.tmp 7) rfl (.agg Z) (.int .i64 (k : Int)) rfl rfl (.int .u8 (x.toNat : Int)) hi ?_)
    clear hi
    refine (ones_any x w1).mono ?_
    rintro e w2 ⟨rfl, rfl⟩
    go_wp2_with fail
    go_roundw
    case rel => exact ⟨k + 1, by omega, by go_num, by rw [CT.out]; go_num, trivial⟩
    case measure => simp [intOf]; omega
  · obtain rfl : k = 64 := by omega
    have e : s.take 64 = s := List.take_of_length_le (by rw [HS.out]; exact Nat.le_refl _)
    rw [e]
    have q1 : ¬ ((64 : Int) < 64) := by omega
    go_wp2_with fail
    go_ret
    exact ⟨rfl, B1.out⟩
set_option maxHeartbeats 4000000 in
set_option maxRecDepth 10000 in
theorem setIn_one (gl off cl gz oz cz : Nat) (z : List UInt8) (w : World) (hc : w.cell? ⟨gl, off, none⟩ = some (.slice (some ⟨gz, oz, none⟩) 64 cz)) (hv : SliceAt w (.slice (some ⟨gz, oz, none⟩) 64 cz) z) (h1 : 0 < S.cnt z) (h2 : S.cnt z ≤ 256) :
   Calls Tryz.prog 45 #[.slice (some ⟨gl, off, none⟩) 1 cl] w fun e w' => e = .returned (.tuple #[.agg (S.v8 z), .bool true]) ∧ Below w.heap.size w w' := by
  have hal1 := alloc57 w
  obtain ⟨w1, hw1⟩ : ∃ w1, w1 = w.alloc (.cells (S.v8 (S.zeros 64)) 65) := ⟨_, rfl⟩
  have hal2 := alloc57 w1
  obtain ⟨w2, hw2⟩ : ∃ w2, w2 = w1.alloc (.cells (S.v8 (S.zeros 64)) 65) := ⟨_, rfl⟩
  have b1 : Below w.heap.size w w1 := by rw [hw1]; exact (Below.refl _ _).alloc (Nat.le_refl _) _
  have b2 : Below w1.heap.size w1 w2 := by rw [hw2]; exact (Below.refl _ _).alloc (Nat.le_refl _) _
  have r1 : w1.heap[w.heap.size]? = some (.cells (S.v8 (S.zeros 64)) 65 (0, 0)) := by rw [hw1]; exact heap_alloc_new _ _
  have r2 : w2.heap[w1.heap.size]? = some (.cells (S.v8 (S.zeros 64)) 65 (0, 0)) := by rw [hw2]; exact heap_alloc_new _ _
  have R2 := hide r2
  have R12 : Hid (w2.heap[w.heap.size]? = some (.cells (S.v8 (S.zeros 64)) 65 (0, 0))) := (b2.block _ (block_lt_of_row r1)).trans r1
  have b12 := b1.trans (b2.mono b1.size)
  have B2 := hide b12
  have hgl : gl < w.heap.size := World.block_lt_of_cell? w _ hc
  have C2 : Hid (w2.cell? ⟨gl, off, none⟩ = some (.slice (some ⟨gz, oz, none⟩) 64 cz)) := (b12.cell (p := ⟨gl, off, none⟩) hgl).trans hc
  have V2 := hide (hv.below b12 (Nat.le_refl _))
  have HZL : Hid (z.length = 64) := by obtain ⟨_, _, _, e, e2, _⟩ := hv.form; simp only [Value.slice.injEq] at e; show z.length = 64; omega
  rw [← hw1] at hal1
  rw [← hw2] at hal2
  obtain ⟨g1, hg1⟩ : ∃ g1, g1 = w.heap.size := ⟨_, rfl⟩
  obtain ⟨g2, hg2⟩ : ∃ g2, g2 = w1.heap.size := ⟨_, rfl⟩
  have hs1 := block_lt_of_row r1
  have HG12 : Hid (g1 < g2) := by show g1 < g2; omega
  have HG2 : Hid (w.heap.size ≤ g2) := by show w.heap.size ≤ g2; omega
  have HGL : Hid (gl < g2) := by show gl < g2; omega
  have HG1 : Hid (w.heap.size ≤ g1) := by show w.heap.size ≤ g1; omega
  rw [← hg1] at hal1 R12
  rw [← hg2] at hal2 R2
  obtain ⟨n, hn⟩ : ∃ n : Nat, n = S.cnt z := ⟨_, rfl⟩
  have HNN := hide hn
  have q1 : (0 : Int) < (n : Int) := by omega
  have q2 : (n : Int) ≤ 256 := by omega
  have c2 := C2.out
  clear b1 b2 r1 r2 b12 hw1 hw2 hg1 hg2 hgl hs1 hc hv h1 h2 hn
  go_enter Tryz.func45, Tryz.ntmps45
  go_upto_region 6 with (first | (with_reducible refine at_op { dst := some 2, op := Op.alloc 65, type := 0, pos := "set.go:23", after := #[], guard := none } ?_; refine wpList_alloc_known rfl 65 rfl (.pointer (some ⟨g1, 0, none⟩)) w1 hal1 ?_) | (with_reducible refine at_op { dst := some 4, op := Op.alloc 65, type := 0, pos := "set.go:24", after := #[], guard := none } ?_; refine wpList_alloc_known rfl 65 rfl (.pointer (some ⟨g2, 0, none⟩)) w2 hal2 ?_))
  clear hal1 hal2 c2
  refine wp_region_noPanic ?_
  refine wp_region_held_drew (S := (fun W => W.cell? ⟨gl, off, none⟩ = some (.slice (some ⟨gz, oz, none⟩) 64 cz))) follows C2.out (fun hHeld => ?_)
  have R1d : Hid (w2.drew.heap[g1]? = some (.cells (S.v8 (S.zeros 64)) 65 (0, 0))) := R12.out
  have R2d : Hid (w2.drew.heap[g2]? = some (.cells (S.v8 (S.zeros 64)) 65 (0, 0))) := R2.out
  have V2d := hide (V2.out.below (Below.refl w2.heap.size w2).drew (Nat.le_refl _))
  have B2d : Hid (Below w.heap.size w w2.drew) := B2.out.drew
  have HS2 : Hid (g2 < w2.drew.heap.size) := block_lt_of_row R2d.out
  clear R12 R2 V2 B2 C2
  generalize w2.drew = Z1 at R1d R2d V2d B2d HS2 hHeld ⊢
  refine wpAnyH_take (i := 0) (oi := { dst := some 23, op := Op.slice 65 (Operand.tmp 4) none none none, type := 31, pos := "set.go:31", after := #[], guard := none }) (v := ?_) rfl (by kernel_rfl) (by kernel_rfl) (by kernel_rfl) (fun _ _ _ h => h) (Or.inl ⟨by rfl, ?_⟩) (by assumption) ?_
  rotate_left
  · intro w hSw
    clear hSw
    go_simp
    all_goals with_reducible rfl
  simp only [Act.put, List.setIfInBounds_toArray, List.set_cons_zero, List.set_cons_succ]
  refine wpAnyH_take (i := 1) (oi := { dst := some 24, op := Op.move (Operand.tmp 0), type := 92, pos := "set.go:31", after := #[], guard := none }) (v := ?_) rfl (by kernel_rfl) (by kernel_rfl) (by kernel_rfl) (fun _ _ _ h => h) (Or.inl ⟨by rfl, ?_⟩) (by assumption) ?_
  rotate_left
  · intro w hSw
    clear hSw
    go_simp
    all_goals with_reducible rfl
  simp only [Act.put, List.setIfInBounds_toArray, List.set_cons_zero, List.set_cons_succ]
  refine wpAnyH_take (i := 2) (oi := { dst := some 25, op := Op.indexAddr 92 (Operand.tmp 24) (Operand.const (Value.int IntKind.i64 0)), type := 0, pos := "set.go:31", after := #[⟨1, .data⟩], guard := none }) (v := ?_) rfl (by kernel_rfl) (by kernel_rfl) (by kernel_rfl) (fun _ _ _ h => h) (Or.inl ⟨by rfl, ?_⟩) (by assumption) ?_
  rotate_left
  · intro w hSw
    clear hSw
    go_simp
    all_goals with_reducible rfl
  simp only [Act.put, List.setIfInBounds_toArray, List.set_cons_zero, List.set_cons_succ]
  refine wpAnyH_take (i := 3) (oi := { dst := some 26, op := Op.load 31 (Operand.tmp 25), type := 31, pos := "set.go:31", after := #[⟨2, .data⟩], guard := none }) (v := ?_) rfl (by kernel_rfl) (by kernel_rfl) (by kernel_rfl) (fun _ _ _ h => h) (Or.inl ⟨by rfl, ?_⟩) (by assumption) ?_
  rotate_left
  · intro w hSw
    have c0 := hSw
    clear hSw
    go_simp
    all_goals with_reducible rfl
  simp only [Act.put, List.setIfInBounds_toArray, List.set_cons_zero, List.set_cons_succ]
  obtain ⟨ao, ln, cp, hve, hzl, hmx, hsrc⟩ := V2d.out.shape
  simp only [Value.slice.injEq] at hve
  obtain ⟨rfl, rfl, rfl⟩ := hve
  have HS := hide hsrc
  have HN : Hid ((S.v8l z).length = Nat.min 64 64) := by show (S.v8l z).length = Nat.min 64 64; rw [S.v8l_length, HZL.out]; rfl
  have HF : Hid (0 + (S.v8l z).length ≤ (S.v8l (S.zeros 64)).length) := by show 0 + (S.v8l z).length ≤ (S.v8l (S.zeros 64)).length; rw [S.v8l_length, S.v8l_length, S.zeros_length, HZL.out]; exact Nat.le_refl _
  clear hzl hmx hsrc V2d
  refine wpAnyH_ready (rs := [4]) (by kernel_rfl) (by simp) ?_
  refine AllReadyH.cons (o := { dst := some 27, op := Op.call { callee := Callee.builtin Builtin.copy, args := #[Operand.tmp 23, Operand.tmp 26], argTypes := #[31, 31] }, type := 3, pos := "set.go:31", after := #[⟨0, .data⟩, ⟨3, .data⟩], guard := none }) rfl (fun K hK => ?_) AllReadyH.nil
  refine step_copy_splice rfl (.tmp 23) (.tmp 26) 31 31 rfl 5 Tryz.underlying31 size5 _ _ _ _ _ _ rfl rfl g2 0 (S.v8l (S.zeros 64)) 65 (by rw [← S.v8_eq]; exact R2d.out) (S.v8l z) HN.out (copy_src _ HS.out (Below.refl _ _)) HF.out (S.v8l_one _) g2 Z1 (Below.refl _ _) (Nat.le_refl _) ?_
  intro w4 HG4 hB4
  have R4 := hide (spl_rowT HG4)
  have EZ : splice (S.zeros 64) 0 z = z := by unfold splice; simp [S.zeros, HZL.out]
  rw [EZ] at R4
  have R14 : Hid (w4.heap[g1]? = some (.cells (S.v8 (S.zeros 64)) 65 (0, 0))) := (hB4.block g1 HG12.out).trans R1d.out
  have B4 : Hid (Below w.heap.size w w4) := B2d.out.trans (hB4.mono HG2.out)
  have a4 : w4.cell? ⟨gl, off, none⟩ = some (.slice (some ⟨gz, oz, none⟩) 64 cz) := (hB4.cell (p := ⟨gl, off, none⟩) HGL.out).trans hHeld
  clear HG4 hB4 EZ hHeld R1d R2d B2d HS HN HF HS2
  refine hK.out _ _ a4 (fun hHeld => ?_)
  clear hK K
  try simp only [Act.put, List.setIfInBounds_toArray, List.set_cons_zero, List.set_cons_succ]
  clear a4
  refine wpAnyH_done (by kernel_rfl) ?_ _
  refine NoPanic.normal ?_
  clear hHeld
  have ld := load57 R4.out HZL.out
  obtain ⟨Z, hZ⟩ : ∃ Z, Z = S.v8 z := ⟨_, rfl⟩
  rw [← hZ] at ld
  have HZ := hide hZ
  clear hZ
  go_wp2_with (with_reducible refine at_op { dst := some 28, op := Op.load 65 (Operand.tmp 4), type := 65, pos := "set.go:32", after := #[], guard := none } ?_; refine wpList_load_as rfl 65 (.tmp 4) rfl (.pointer (some ⟨g2, 0, none⟩)) rfl (.agg Z) ld ?_)
  clear ld
  refine (size_any z Z w4 HZ.out HZL.out).mono ?_
  rintro e w5 ⟨rfl, b5⟩
  rw [← HNN.out]
  have R5 : w5.heap[g2]? = some (.cells (S.v8 z) 65 (0, 0)) := (b5.block g2 (block_lt_of_row R4.out)).trans R4.out
  have R15 : w5.heap[g1]? = some (.cells (S.v8 (S.zeros 64)) 65 (0, 0)) := (b5.block g1 (block_lt_of_row R14.out)).trans R14.out
  have b15 := B4.out.trans (b5.mono B4.out.size)
  have ld := load57 R5 HZL.out
  rw [← HZ.out] at ld
  obtain ⟨w6, hst, r6, c6⟩ := store57 (ys := z) R15 (S.zeros_length _) HZL.out
  have R6 := hide r6
  have B6 : Hid (Below w.heap.size w w6) := b15.trans (c6.base b15.size HG1.out)
  rw [← HZ.out] at hst
  clear b5 R5 R15 b15 r6 c6 R4 R14 B4
  go_wp2_with (first | (with_reducible refine at_op { dst := some 30, op := Op.load 65 (Operand.tmp 4), type := 65, pos := "set.go:33", after := #[], guard := none } ?_; refine wpList_load_as rfl 65 (.tmp 4) rfl (.pointer (some ⟨g2, 0, none⟩)) rfl (.agg Z) ld ?_) | (with_reducible refine at_op { dst := none, op := Op.store 65 (Operand.tmp 2) (Operand.tmp 30), type := 0, pos := "set.go:33", after := #[⟨0, .data⟩, ⟨3, .chain⟩, ⟨0, .phase⟩, ⟨1, .textOnly .lateStores⟩, ⟨2, .textOnly .lateStores⟩, ⟨3, .textOnly .lateStores⟩, ⟨4, .textOnly .lateStores⟩, ⟨5, .textOnly .lateStores⟩, ⟨6, .textOnly .lateStores⟩], guard := none } ?_; refine wpList_store_as rfl 65 (.tmp 2) (.tmp 30) rfl (.pointer (some ⟨g1, 0, none⟩)) (.agg Z) rfl rfl w6 hst ?_))
  rw [HZ.out]
  refine bodyPost_ret (results_row_tmp Tryz.results45 _ _ g1 (.agg (S.v8 z)) rfl (loadVar57 R6.out HZL.out)) rfl ⟨rfl, B6.out⟩
end Go.Proofs.YthjlhngjpbmieaaGreatDoor
