/- The set that one record tells. -/
import Derived.Test.YthjlhngjpbmieaaGreatDoorWa
import Derived.Test.YthjlhngjpbmieaaGreatDoorJa
namespace Go.Proofs.YthjlhngjpbmieaaGreatDoor
open Go.RowKit

theorem wpList_index_as {w : World} {ops : Array Oper} {rest : List Oper} {o : Oper} {a : Act} {Q : Exit → Act → World → Prop} (hgd : o.guard = none) (t : TypeId) (x y : Operand) (ho : o.op = .index t x y) (vx vy : Value) (hx : a.eval x = vx) (hy : a.eval y = vy) (v : Value)
    (hr : (Instr.index t vx vy).run Tryz.prog w = .ok v w) (h : wpList Tryz.prog ops Q rest (a.put o.dst v) w) : wpList Tryz.prog ops Q (o :: rest) a w := by
  subst hx hy
  exact wpList_plain hgd fun _ hK => by
    unfold Oper.wp execOp
    simp only [ho, Sem.run_bind, hr, Result.andThen_ok]
    exact hK _ _ h
namespace S
theorem ones_le (x : UInt8) : ones x ≤ 8 := by
  have h : ∀ b : Bool, (if b = true then 1 else 0) ≤ 1 := by decide
  unfold ones
  have h0 := h (x.toNat.testBit 0)
  have h1 := h (x.toNat.testBit 1)
  have h2 := h (x.toNat.testBit 2)
  have h3 := h (x.toNat.testBit 3)
  have h4 := h (x.toNat.testBit 4)
  have h5 := h (x.toNat.testBit 5)
  have h6 := h (x.toNat.testBit 6)
  have h7 := h (x.toNat.testBit 7)
  omega
def onesTab : ByteArray := { data := (([0, 1, 1, 2, 1, 2, 2, 3, 1, 2, 2, 3, 2, 3, 3, 4, 1, 2, 2, 3, 2, 3, 3, 4, 2, 3, 3, 4, 3, 4, 4, 5, 1, 2, 2, 3, 2, 3, 3, 4, 2, 3, 3, 4, 3, 4, 4, 5, 2, 3, 3, 4, 3, 4, 4, 5, 3, 4, 4, 5, 4, 5, 5, 6].append [1, 2, 2, 3, 2, 3, 3, 4, 2, 3, 3, 4, 3, 4, 4, 5, 2, 3, 3, 4, 3, 4, 4, 5, 3, 4, 4, 5, 4, 5, 5, 6, 2, 3, 3, 4, 3, 4, 4, 5, 3, 4, 4, 5, 4, 5, 5, 6, 3, 4, 4, 5, 4, 5, 5, 6, 4, 5, 5, 6, 5, 6, 6, 7]).append ([1, 2, 2, 3, 2, 3, 3, 4, 2, 3, 3, 4, 3, 4, 4, 5, 2, 3, 3, 4, 3, 4, 4, 5, 3, 4, 4, 5, 4, 5, 5, 6, 2, 3, 3, 4, 3, 4, 4, 5, 3, 4, 4, 5, 4, 5, 5, 6, 3, 4, 4, 5, 4, 5, 5, 6, 4, 5, 5, 6, 5, 6, 6, 7].append [2, 3, 3, 4, 3, 4, 4, 5, 3, 4, 4, 5, 4, 5, 5, 6, 3, 4, 4, 5, 4, 5, 5, 6, 4, 5, 5, 6, 5, 6, 6, 7, 3, 4, 4, 5, 4, 5, 5, 6, 4, 5, 5, 6, 5, 6, 6, 7, 4, 5, 5, 6, 5, 6, 6, 7, 5, 6, 6, 7, 6, 7, 7, 8])).toArray }
theorem onesTab_at : ∀ n : Fin 256, (onesTab.get! n.val).toNat = ones (UInt8.ofNat n.val) := by decide +kernel
theorem onesTab_size : onesTab.size = 256 := by decide +kernel
end S
set_option maxRecDepth 10000 in
theorem ones_index (x : UInt8) (W : World) : (Instr.index 9 (.string S.onesTab) (.int .u8 (x.toNat : Int))).run Tryz.prog W = .ok (.int .u8 (S.ones x : Int)) W := by
  rw [run_index_string (P := Tryz.prog) (w := W) 9 S.onesTab .u8 (x.toNat : Int) Tryz.underlying9]
  have hx := x.toNat_lt
  have hs := S.onesTab_size
  have h0 : 0 ≤ (x.toNat : Int) ∧ (x.toNat : Int) < S.onesTab.size := ⟨by omega, by omega⟩
  rw [dif_pos h0]
  have h := S.onesTab_at ⟨x.toNat, hx⟩
  simp only [UInt8.ofNat_toNat] at h
  congr 2
  rw [← h]
  have hl : x.toNat < S.onesTab.size := by omega
  simp [ByteArray.get!, getElem!_pos, hl]
  rfl
set_option maxRecDepth 10000 in
theorem ones_any (x : UInt8) (w : World) : Calls Tryz.prog 92 #[.int .u8 (x.toNat : Int)] w fun e w' => e = .returned (.int .i64 (S.ones x : Int)) ∧ w = w' := by
  have hi := ones_index x w
  obtain ⟨m, hm⟩ : ∃ m : Nat, m = S.ones x := ⟨_, rfl⟩
  have hb : m ≤ 8 := by rw [hm]; exact S.ones_le x
  rw [← hm] at hi ⊢
  have q1 : IntKind.i64.wrap (m : Int) = (m : Int) := by rw [IntKind.wrap_i64]; omega
  clear hm
  go_enter Tryz.func92, Tryz.ntmps92
  go_wp2_with (with_reducible refine at_op { dst := some 4, op := Op.index 9 (Operand.const (Value.string { data := (([0, 1, 1, 2, 1, 2, 2, 3, 1, 2, 2, 3, 2, 3, 3, 4, 1, 2, 2, 3, 2, 3, 3, 4, 2, 3, 3, 4, 3, 4, 4, 5, 1, 2, 2, 3, 2, 3, 3, 4, 2, 3, 3, 4, 3, 4, 4, 5, 2, 3, 3, 4, 3, 4, 4, 5, 3, 4, 4, 5, 4, 5, 5, 6].append [1, 2, 2, 3, 2, 3, 3, 4, 2, 3, 3, 4, 3, 4, 4, 5, 2, 3, 3, 4, 3, 4, 4, 5, 3, 4, 4, 5, 4, 5, 5, 6, 2, 3, 3, 4, 3, 4, 4, 5, 3, 4, 4, 5, 4, 5, 5, 6, 3, 4, 4, 5, 4, 5, 5, 6, 4, 5, 5, 6, 5, 6, 6, 7]).append ([1, 2, 2, 3, 2, 3, 3, 4, 2, 3, 3, 4, 3, 4, 4, 5, 2, 3, 3, 4, 3, 4, 4, 5, 3, 4, 4, 5, 4, 5, 5, 6, 2, 3, 3, 4, 3, 4, 4, 5, 3, 4, 4, 5, 4, 5, 5, 6, 3, 4, 4, 5, 4, 5, 5, 6, 4, 5, 5, 6, 5, 6, 6, 7].append [2, 3, 3, 4, 3, 4, 4, 5, 3, 4, 4, 5, 4, 5, 5, 6, 3, 4, 4, 5, 4, 5, 5, 6, 4, 5, 5, 6, 5, 6, 6, 7, 3, 4, 4, 5, 4, 5, 5, 6, 4, 5, 5, 6, 5, 6, 6, 7, 4, 5, 5, 6, 5, 6, 6, 7, 5, 6, 6, 7, 6, 7, 7, 8])).toArray })) (Operand.tmp 3), type := 5, pos := "bits.go:126", after := #[⟨0, .data⟩], guard := none } ?_; refine wpList_index_as rfl 9 _ (.tmp 3) rfl (.string S.onesTab) (.int .u8 (x.toNat : Int)) rfl rfl (.int .u8 (m : Int)) hi ?_)
  go_ret
  exact ⟨rfl, rfl⟩
theorem index57 (s : List UInt8) (k : Nat) (W : World) (hs : s.length = 64) (hk : k < 64) : (Instr.index 65 (.agg (S.v8 s)) (.int .i64 (k : Int))).run Tryz.prog W = .ok (.int .u8 ((s.getD k 0).toNat : Int)) W := by
  have h0 : (S.v8 s)[k]? = some (.int .u8 ((s.getD k 0).toNat : Int)) := by
    unfold S.v8
    rw [List.getElem?_toArray, List.getElem?_map, List.getD_eq_getElem?_getD, List.getElem?_eq_getElem (by omega)]
    rfl
  have h1 : (0 : Int) ≤ (k : Int) ∧ (k : Int) < (64 : Nat) := ⟨by omega, by omega⟩
  have ha : (isAgg 5).run Tryz.prog W = .ok false W := by kernel_rfl
  have hp : (part 5 (S.v8 s) k).run Tryz.prog W = .ok (.int .u8 ((s.getD k 0).toNat : Int)) W := by
    unfold part
    simp only [Sem.run_bind, ha, Result.andThen_ok, h0]
    rfl
  rw [List.getD_eq_getElem?_getD] at hp
  simp [Instr.index, asIntOf, run_underlying Tryz.underlying65, hk, hp]
namespace S
theorem cnt_take (s : List UInt8) (k : Nat) (h : k < s.length) : cnt (s.take (k + 1)) = cnt (s.take k) + ones (s.getD k 0) := by
  unfold cnt
  rw [List.take_add_one, List.map_append, List.sum_append, List.getD_eq_getElem?_getD, List.getElem?_eq_getElem h]
  simp
theorem cnt_le (s : List UInt8) : cnt s ≤ s.length * 8 := by
  induction s with
  | nil => simp [cnt]
  | cons x s ih =>
    have := ones_le x
    unfold cnt at ih ⊢
    rw [List.map_cons, List.sum_cons, List.length_cons]
    omega
end S
set_option maxHeartbeats 1000000 in
set_option maxRecDepth 10000 in
theorem size_any (s : List UInt8) (Z : Array Value) (w : World) (hZ : Z = S.v8 s) (hs : s.length = 64) : Calls Tryz.prog 68 #[.agg Z] w fun e w' => e = .returned (.int .i64 (S.cnt s : Int)) ∧ Below w.heap.size w w' := by
  obtain ⟨w1, hw1⟩ : ∃ w1, w1 = w.alloc (.cells Z 65) := ⟨_, rfl⟩
  have B1 : Hid (Below w.heap.size w w1) := by rw [hw1]; exact (Below.refl _ _).alloc (Nat.le_refl _) _
  have r1 : w1.heap[w.heap.size]? = some (.cells (S.v8 s) 65 (0, 0)) := by rw [hw1, hZ]; exact heap_alloc_new _ _
  have ld := load57 r1 hs
  rw [← hZ] at ld
  have HZ := hide hZ
  have HS := hide hs
  have HW := hide hw1
  obtain ⟨g1, hg1⟩ : ∃ g1, g1 = w.heap.size := ⟨_, rfl⟩
  rw [← hg1] at ld
  have HG := hide hg1
  clear r1 hZ hs hw1 hg1
  go_enter Tryz.func68, Tryz.ntmps68
  go_wp2_with (rw [← HW.out, ← HG.out]; with_reducible refine at_op ⟨some 6, .load 65 (.tmp 1), 65, "set.go:38", #[], none⟩ ?_; refine wpList_load_as rfl 65 (.tmp 1) rfl (.pointer (some ⟨g1, 0, none⟩)) rfl (.agg Z) ld ?_)
  clear ld
  go_loopw [3, 7] (fun n i wr => ∃ k : Nat, k ≤ 64 ∧ i = .int .i64 (k : Int) ∧ n = .int .i64 (S.cnt (s.take k) : Int) ∧ w1 = wr) (fun _ i _ => 64 - (intOf i).toNat)
  case atStart => exact ⟨0, by omega, rfl, rfl, rfl⟩
  case round =>
  obtain ⟨k, hk, rfl, rfl, rfl⟩ := hrel
  by_cases hlt : k < 64
  · have q1 : (k : Int) < 64 := by omega
    have q2 : IntKind.i64.wrap ((k : Int) + 1) = (k : Int) + 1 := by rw [IntKind.wrap_i64]; omega
    have hi := index57 s k w1 HS.out hlt
    rw [← HZ.out] at hi
    have CT := hide (S.cnt_take s k (by rw [HS.out]; exact hlt))
    obtain ⟨x, hx⟩ : ∃ x, x = s.getD k 0 := ⟨_, rfl⟩
    rw [← hx] at hi CT
    have hb := S.cnt_le (s.take k)
    have hb2 : (s.take k).length ≤ 64 := by rw [List.length_take]; omega
    obtain ⟨a, ha⟩ : ∃ a, a = S.cnt (s.take k) := ⟨_, rfl⟩
    rw [← ha] at CT hb ⊢
    have hox := S.ones_le x
    have q3 : IntKind.i64.wrap ((a : Int) + (S.ones x : Int)) = (a : Int) + (S.ones x : Int) := by rw [IntKind.wrap_i64]; omega
    clear hx ha hb2
    go_wp2_with (with_reducible refine at_op ⟨some 9, .index 65 (.tmp 6) (.tmp 7), 5, "set.go:38", #[], none⟩ ?_; refine wpList_index_as rfl 65 (.tmp 6) (.tmp 7) rfl (.agg Z) (.int .i64 (k : Int)) rfl rfl (.int .u8 (x.toNat : Int)) hi ?_)
    clear hi
    refine (ones_any x w1).mono ?_
    rintro e w2 ⟨rfl, rfl⟩
    go_wp2_with fail
    go_roundw
    case rel => exact ⟨k + 1, by omega, by go_num, by rw [CT.out]; go_num, trivial⟩
    case measure => simp [intOf]; omega
  · obtain rfl : k = 64 := by omega
    have e : s.take 64 = s := List.take_of_length_le (by rw [HS.out]; exact Nat.le_refl _)
    rw [e]
    have q1 : ¬ ((64 : Int) < 64) := by omega
    go_wp2_with fail
    go_ret
    exact ⟨rfl, B1.out⟩
set_option maxHeartbeats 4000000 in
set_option maxRecDepth 10000 in
theorem setIn_one (gl off cl gz oz cz : Nat) (z : List UInt8) (w : World) (hc : w.cell? ⟨gl, off, none⟩ = some (.slice (some ⟨gz, oz, none⟩) 64 cz)) (hv : SliceAt w (.slice (some ⟨gz, oz, none⟩) 64 cz) z) (h1 : 0 < S.cnt z) (h2 : S.cnt z ≤ 256) :
   Calls Tryz.prog 45 #[.slice (some ⟨gl, off, none⟩) 1 cl] w fun e w' => e = .returned (.tuple #[.agg (S.v8 z), .bool true]) ∧ Below w.heap.size w w' := by
  have hal1 := alloc57 w
  obtain ⟨w1, hw1⟩ : ∃ w1, w1 = w.alloc (.cells (S.v8 (S.zeros 64)) 65) := ⟨_, rfl⟩
  have hal2 := alloc57 w1
  obtain ⟨w2, hw2⟩ : ∃ w2, w2 = w1.alloc (.cells (S.v8 (S.zeros 64)) 65) := ⟨_, rfl⟩
  have b1 : Below w.heap.size w w1 := by rw [hw1]; exact (Below.refl _ _).alloc (Nat.le_refl _) _
  have b2 : Below w1.heap.size w1 w2 := by rw [hw2]; exact (Below.refl _ _).alloc (Nat.le_refl _) _
  have r1 : w1.heap[w.heap.size]? = some (.cells (S.v8 (S.zeros 64)) 65 (0, 0)) := by rw [hw1]; exact heap_alloc_new _ _
  have r2 : w2.heap[w1.heap.size]? = some (.cells (S.v8 (S.zeros 64)) 65 (0, 0)) := by rw [hw2]; exact heap_alloc_new _ _
  have R2 := hide r2
  have R12 : Hid (w2.heap[w.heap.size]? = some (.cells (S.v8 (S.zeros 64)) 65 (0, 0))) := (b2.block _ (block_lt_of_row r1)).trans r1
  have b12 := b1.trans (b2.mono b1.size)
  have B2 := hide b12
  have hgl : gl < w.heap.size := World.block_lt_of_cell? w _ hc
  have C2 : Hid (w2.cell? ⟨gl, off, none⟩ = some (.slice (some ⟨gz, oz, none⟩) 64 cz)) := (b12.cell (p := ⟨gl, off, none⟩) hgl).trans hc
  have V2 := hide (hv.below b12 (Nat.le_refl _))
  have HZL : Hid (z.length = 64) := by obtain ⟨_, _, _, e, e2, _⟩ := hv.form; simp only [Value.slice.injEq] at e; show z.length = 64; omega
  rw [← hw1] at hal1
  rw [← hw2] at hal2
  obtain ⟨g1, hg1⟩ : ∃ g1, g1 = w.heap.size := ⟨_, rfl⟩
  obtain ⟨g2, hg2⟩ : ∃ g2, g2 = w1.heap.size := ⟨_, rfl⟩
  have hs1 := block_lt_of_row r1
  have HG12 : Hid (g1 < g2) := by show g1 < g2; omega
  have HG2 : Hid (w.heap.size ≤ g2) := by show w.heap.size ≤ g2; omega
  have HGL : Hid (gl < g2) := by show gl < g2; omega
  have HG1 : Hid (w.heap.size ≤ g1) := by show w.heap.size ≤ g1; omega
  rw [← hg1] at hal1 R12
  rw [← hg2] at hal2 R2
  obtain ⟨n, hn⟩ : ∃ n : Nat, n = S.cnt z := ⟨_, rfl⟩
  have HNN := hide hn
  have q1 : (0 : Int) < (n : Int) := by omega
  have q2 : (n : Int) ≤ 256 := by omega
  have c2 := C2.out
  clear b1 b2 r1 r2 b12 hw1 hw2 hg1 hg2 hgl hs1 hc hv h1 h2 hn
  go_enter Tryz.func45, Tryz.ntmps45
  go_upto_region 6 with (first | (with_reducible refine at_op ⟨some 2, .alloc 65, 0, "set.go:23", #[], none⟩ ?_; refine wpList_alloc_known rfl 65 rfl (.pointer (some ⟨g1, 0, none⟩)) w1 hal1 ?_) | (with_reducible refine at_op ⟨some 4, .alloc 65, 0, "set.go:24", #[], none⟩ ?_; refine wpList_alloc_known rfl 65 rfl (.pointer (some ⟨g2, 0, none⟩)) w2 hal2 ?_))
  clear hal1 hal2 c2
  refine wp_region_noPanic ?_
  refine wp_region_held_drew (S := (fun W => W.cell? ⟨gl, off, none⟩ = some (.slice (some ⟨gz, oz, none⟩) 64 cz))) follows C2.out (fun hHeld => ?_)
  have R1d : Hid (w2.drew.heap[g1]? = some (.cells (S.v8 (S.zeros 64)) 65 (0, 0))) := R12.out
  have R2d : Hid (w2.drew.heap[g2]? = some (.cells (S.v8 (S.zeros 64)) 65 (0, 0))) := R2.out
  have V2d := hide (V2.out.below (Below.refl w2.heap.size w2).drew (Nat.le_refl _))
  have B2d : Hid (Below w.heap.size w w2.drew) := B2.out.drew
  have HS2 : Hid (g2 < w2.drew.heap.size) := block_lt_of_row R2d.out
  clear R12 R2 V2 B2 C2
  generalize w2.drew = Z1 at R1d R2d V2d B2d HS2 hHeld ⊢
  refine tk 0 ?_ rfl (Or.inl ⟨by rfl, ?_⟩) ?_
  rotate_left
  · intro w hSw
    clear hSw
    go_simp
    all_goals with_reducible rfl
  simp only [Act.put, List.setIfInBounds_toArray, List.set_cons_zero, List.set_cons_succ]
  refine tk 1 ?_ rfl (Or.inl ⟨by rfl, ?_⟩) ?_
  rotate_left
  · intro w hSw
    clear hSw
    go_simp
    all_goals with_reducible rfl
  simp only [Act.put, List.setIfInBounds_toArray, List.set_cons_zero, List.set_cons_succ]
  refine tk 2 ?_ rfl (Or.inl ⟨by rfl, ?_⟩) ?_
  rotate_left
  · intro w hSw
    clear hSw
    go_simp
    all_goals with_reducible rfl
  simp only [Act.put, List.setIfInBounds_toArray, List.set_cons_zero, List.set_cons_succ]
  refine tk 3 ?_ rfl (Or.inl ⟨by rfl, ?_⟩) ?_
  rotate_left
  · intro w hSw
    have c0 := hSw
    clear hSw
    go_simp
    all_goals with_reducible rfl
  simp only [Act.put, List.setIfInBounds_toArray, List.set_cons_zero, List.set_cons_succ]
  obtain ⟨ao, ln, cp, hve, hzl, hmx, hsrc⟩ := V2d.out.shape
  simp only [Value.slice.injEq] at hve
  obtain ⟨rfl, rfl, rfl⟩ := hve
  have HS := hide hsrc
  have HN : Hid ((S.v8l z).length = Nat.min 64 64) := by show (S.v8l z).length = Nat.min 64 64; rw [S.v8l_length, HZL.out]; rfl
  have HF : Hid (0 + (S.v8l z).length ≤ (S.v8l (S.zeros 64)).length) := by show 0 + (S.v8l z).length ≤ (S.v8l (S.zeros 64)).length; rw [S.v8l_length, S.v8l_length, S.zeros_length, HZL.out]; exact Nat.le_refl _
  clear hzl hmx hsrc V2d
  refine wpAnyH_ready (rs := [4]) (by kernel_rfl) (by simp) ?_
  refine AllReadyH.cons (o := { dst := some 27, op := Op.call { callee := Callee.builtin Builtin.copy, args := #[Operand.tmp 23, Operand.tmp 26], argTypes := #[31, 31] }, type := 3, pos := "set.go:31", after := #[⟨0, .data⟩, ⟨3, .data⟩], guard := none }) rfl (fun K hK => ?_) AllReadyH.nil
  refine step_copy_splice rfl (.tmp 23) (.tmp 26) 31 31 rfl 5 Tryz.underlying31 size5 _ _ _ _ _ _ rfl rfl g2 0 (S.v8l (S.zeros 64)) 65 (by rw [← S.v8_eq]; exact R2d.out) (S.v8l z) HN.out (copy_src _ HS.out (Below.refl _ _)) HF.out (S.v8l_one _) g2 Z1 (Below.refl _ _) (Nat.le_refl _) ?_
  intro w4 HG4 hB4
  have R4 := hide (spl_rowT HG4)
  have EZ : splice (S.zeros 64) 0 z = z := by unfold splice; simp [S.zeros, HZL.out]
  rw [EZ] at R4
  have R14 : Hid (w4.heap[g1]? = some (.cells (S.v8 (S.zeros 64)) 65 (0, 0))) := (hB4.block g1 HG12.out).trans R1d.out
  have B4 : Hid (Below w.heap.size w w4) := B2d.out.trans (hB4.mono HG2.out)
  have a4 : w4.cell? ⟨gl, off, none⟩ = some (.slice (some ⟨gz, oz, none⟩) 64 cz) := (hB4.cell (p := ⟨gl, off, none⟩) HGL.out).trans hHeld
  clear HG4 hB4 EZ hHeld R1d R2d B2d HS HN HF HS2
  refine hK.out _ _ a4 (fun hHeld => ?_)
  clear hK K
  try simp only [Act.put, List.setIfInBounds_toArray, List.set_cons_zero, List.set_cons_succ]
  clear a4
  refine wpAnyH_done (by kernel_rfl) ?_ _
  refine NoPanic.normal ?_
  clear hHeld
  have ld := load57 R4.out HZL.out
  obtain ⟨Z, hZ⟩ : ∃ Z, Z = S.v8 z := ⟨_, rfl⟩
  rw [← hZ] at ld
  have HZ := hide hZ
  clear hZ
  go_wp2_with (with_reducible refine at_op ⟨some 28, .load 65 (.tmp 4), 65, "set.go:32", #[], none⟩ ?_; refine wpList_load_as rfl 65 (.tmp 4) rfl (.pointer (some ⟨g2, 0, none⟩)) rfl (.agg Z) ld ?_)
  clear ld
  refine (size_any z Z w4 HZ.out HZL.out).mono ?_
  rintro e w5 ⟨rfl, b5⟩
  rw [← HNN.out]
  have R5 : w5.heap[g2]? = some (.cells (S.v8 z) 65 (0, 0)) := (b5.block g2 (block_lt_of_row R4.out)).trans R4.out
  have R15 : w5.heap[g1]? = some (.cells (S.v8 (S.zeros 64)) 65 (0, 0)) := (b5.block g1 (block_lt_of_row R14.out)).trans R14.out
  have b15 := B4.out.trans (b5.mono B4.out.size)
  have ld := load57 R5 HZL.out
  rw [← HZ.out] at ld
  obtain ⟨w6, hst, r6, c6⟩ := store57 (ys := z) R15 (S.zeros_length _) HZL.out
  have R6 := hide r6
  have B6 : Hid (Below w.heap.size w w6) := b15.trans (c6.base b15.size HG1.out)
  rw [← HZ.out] at hst
  clear b5 R5 R15 b15 r6 c6 R4 R14 B4
  go_wp2_with (first | (with_reducible refine at_op ⟨some 30, .load 65 (.tmp 4), 65, "set.go:33", #[], none⟩ ?_; refine wpList_load_as rfl 65 (.tmp 4) rfl (.pointer (some ⟨g2, 0, none⟩)) rfl (.agg Z) ld ?_) | (with_reducible refine at_op ⟨none, .store 65 (.tmp 2) (.tmp 30), 0, "set.go:33", #[⟨0, .data⟩, ⟨3, .chain⟩, ⟨0, .phase⟩, ⟨1, .textOnly .lateStores⟩, ⟨2, .textOnly .lateStores⟩, ⟨3, .textOnly .lateStores⟩, ⟨4, .textOnly .lateStores⟩, ⟨5, .textOnly .lateStores⟩, ⟨6, .textOnly .lateStores⟩], none⟩ ?_; refine wpList_store_as rfl 65 (.tmp 2) (.tmp 30) rfl (.pointer (some ⟨g1, 0, none⟩)) (.agg Z) rfl rfl w6 hst ?_))
  rw [HZ.out]
  refine bodyPost_ret (results_row_tmp Tryz.results45 _ _ g1 (.agg (S.v8 z)) rfl (loadVar57 R6.out HZL.out)) rfl ⟨rfl, B6.out⟩
end Go.Proofs.YthjlhngjpbmieaaGreatDoor
namespace Go.Proofs.YthjlhngjpbmieaaGreatDoor
open Go.RowKit

theorem Recs.one {w0 w : World} {lv : Value} {us : List Value} {z : List UInt8} (h : Recs w0 w lv us [z]) (hz : z.length = 64) : ∃ gl off c gz cz, lv = .slice (some ⟨gl, off, none⟩) 1 c ∧ w.cell? ⟨gl, off, none⟩ = some (.slice (some ⟨gz, 0, none⟩) 64 cz) ∧ SliceAt w (.slice (some ⟨gz, 0, none⟩) 64 cz) z := by
  have hl : us.length = 1 := h.copies.len
  obtain ⟨gz, cz, e, hr, _⟩ := h.copies.new 0 (by simp)
  have e' : us.getD 0 default = .slice (some ⟨gz, 0, none⟩) 64 cz := by rw [e]; show Value.slice _ z.length cz = _; rw [hz]
  rcases h.lists with ⟨_, h2⟩ | ⟨g, off, c, cur, h1, h2, h3, h4, h5⟩
  · rw [h2] at hl; simp at hl
  · refine ⟨g, off, c, gz, cz, by rw [h1, hl], ?_, ?_⟩
    · have h0 : us[0]? = some (.slice (some ⟨gz, 0, none⟩) 64 cz) := by
        rw [List.getElem?_eq_getElem (by omega), ← e', List.getD_eq_getElem?_getD, List.getElem?_eq_getElem (by omega)]
        rfl
      rw [cell_of_row w g off _ 31 _ h2]
      have := h5 0 _ h0
      rw [Nat.add_zero] at this
      exact this
    · have h6 := hr.sliceAt (by show z.length ≤ _; omega)
      have e6 : ([z].getD 0 []).length = 64 := hz
      rw [e6] at h6
      exact h6
/-- Pages of which the log tells sheets that lie beside them. -/
structure Pm (w0 w : World) (o : Ow) (d : S.Dk) (p t : Nat) (ns : List Nat) (xs : List (List UInt8)) (pg : Nat → List UInt8) : Prop where
  dk : Dsk w o d
  pend : d.pend = []
  len : 7680 ≤ d.safe.length
  mark : d.safe.getD 0 [] = S.pmark
  log : S.Good d.safe 1 4 p t [S.setL ns]
  spare : ∀ i, i < ns.length → S.pageAt d.safe (4101 + i * 8) = xs.getD i []
  home : ∀ n, n < 512 → n ∉ ns → S.pageAt d.safe (5 + n * 8) = pg n
  ob : ∀ k, o.has k → w0.heap.size ≤ k
  below : Below w0.heap.size w0 w
  pos : 0 < w0.heap.size
  nb : ∀ n ∈ ns, n < 512
  up : ns.Pairwise (· < ·)
  ne : ns ≠ []
  le : ns.length ≤ 256
theorem Pm.then {w0 w W : World} {o : Ow} {d : S.Dk} {p t : Nat} {ns : List Nat} {xs : List (List UInt8)} {pg : Nat → List UInt8} (h : Pm w0 w o d p t ns xs pg) (hb : Below w.heap.size w W) : Pm w0 W o d p t ns xs pg :=
  ⟨h.dk.below hb, h.pend, h.len, h.mark, h.log, h.spare, h.home, h.ob, h.below.trans (hb.mono h.below.size), h.pos, h.nb, h.up, h.ne, h.le⟩
theorem Pm.seen {w0 w : World} {o : Ow} {d : S.Dk} {p t : Nat} {ns : List Nat} {xs : List (List UInt8)} {pg : Nat → List UInt8} (h : Pm w0 w o d p t ns xs pg) : d.seen = d.safe := S.Dk.seen_flushed d h.pend
set_option maxHeartbeats 4000000 in
set_option maxRecDepth 10000 in
theorem look_mid (w0 w : World) (o : Ow) (d : S.Dk) (p t : Nat) (ns : List Nat) (xs : List (List UInt8)) (pg : Nat → List UInt8) (h : Pm w0 w o d p t ns xs pg) :
   Calls Tryz.prog 23 #[o.ptr] w fun e w' => ∃ g tv, e = .returned (.tuple #[.pointer (some ⟨g, 0, none⟩), .agg (S.v8 (S.setL ns)), .int .i64 0]) ∧ Lo w0 w' o d g 1 4 p t [S.setL ns] tv ∧ w.heap.size ≤ g ∧ (∀ k, tv.ownBlock = some k → w.heap.size ≤ k) ∧ Below w.heap.size w w' := by
  have hal1 := alloc57 w
  obtain ⟨w1, hw1⟩ : ∃ w1, w1 = w.alloc (.cells (S.v8 (S.zeros 64)) 65) := ⟨_, rfl⟩
  have b1 : Below w.heap.size w w1 := by rw [hw1]; exact (Below.refl _ _).alloc (Nat.le_refl _) _
  have r1 : w1.heap[w.heap.size]? = some (.cells (S.v8 (S.zeros 64)) 65 (0, 0)) := by rw [hw1]; exact heap_alloc_new _ _
  rw [← hw1] at hal1
  obtain ⟨g3, hg3⟩ : ∃ g3, g3 = w.heap.size := ⟨_, rfl⟩
  rw [← hg3] at hal1 r1
  have R1 := hide r1
  have B1 := hide b1
  have P1 := hide (h.then b1)
  have HLT : Hid (∀ k, o.has k → k < g3) := fun k hk => by rw [hg3]; exact h.dk.dk.lt k hk
  have HG3 : Hid (w.heap.size ≤ g3) := by rw [hg3]; exact Nat.le_refl _
  have HG3e : Hid (g3 = w.heap.size) := hg3
  have HNE : Hid (∀ r ∈ [S.setL ns], r ≠ []) := fun r hr e => by simp at hr; rw [hr] at e; have := S.setL_length ns; rw [e] at this; simp at this
  have CN : Hid (0 < S.cnt (S.setL ns) ∧ S.cnt (S.setL ns) ≤ 256) := by
    rw [S.cnt_setL ns h.nb h.up]
    exact ⟨List.length_pos_iff.2 h.ne, h.le⟩
  have HW0 : Hid (w0.heap.size ≤ w.heap.size) := h.below.size
  clear b1 r1 hw1 hg3 h
  go_enter Tryz.func23, Tryz.ntmps23
  go_wp2_with (with_reducible refine at_op ⟨some 3, .alloc 65, 0, "place.go:70", #[], none⟩ ?_; refine wpList_alloc_known rfl 65 rfl (.pointer (some ⟨g3, 0, none⟩)) w1 hal1 ?_)
  clear hal1
  refine (read_yes o d 0 w1 P1.out.dk.dk (by have := P1.out.len; omega)).mono ?_
  rintro e w2 ⟨rfl, hr2, b2⟩
  rw [P1.out.seen, P1.out.mark] at hr2
  have cv := conv_slice (slice_row (n := 128) hr2 S.pmark_length.symm (by rw [S.pmark_length]; omega))
  have P2 := hide (P1.out.then b2)
  have R2 : Hid (w2.heap[g3]? = some (.cells (S.v8 (S.zeros 64)) 65 (0, 0))) := (b2.block g3 (block_lt_of_row R1.out)).trans R1.out
  have B2 := hide (B1.out.trans (b2.mono B1.out.size))
  have hq : S.pmark = [112, 97, 103, 101, 115, 32, 116, 104, 97, 116, 32, 97, 114, 101, 32, 112, 117, 116, 32, 116, 111, 103, 101, 116, 104, 101, 114, 32, 46, 46, 46, 32, 112, 97, 103, 101, 115, 32, 116, 104, 97, 116, 32, 97, 114, 101, 32, 112, 117, 116, 32, 116, 111, 103, 101, 116, 104, 101, 114, 32, 46, 46, 46, 32].append [112, 97, 103, 101, 115, 32, 116, 104, 97, 116, 32, 97, 114, 101, 32, 112, 117, 116, 32, 116, 111, 103, 101, 116, 104, 101, 114, 32, 46, 46, 46, 32, 112, 97, 103, 101, 115, 32, 116, 104, 97, 116, 32, 97, 114, 101, 32, 112, 117, 116, 32, 116, 111, 103, 101, 116, 104, 101, 114, 32, 46, 46, 46, 32] := rfl
  clear hr2 b2 R1 B1 P1
  go_wp2_with fail
  clear cv hq
  refine (open_go w0 w2 o d 1 4 p t [S.setL ns] P2.out.dk P2.out.pend P2.out.log P2.out.ob P2.out.below P2.out.pos).mono ?_
  rintro e w4 ⟨g, tv, rfl, hlo, hgb, htb, b4⟩
  have LO4 := hide hlo
  have G4 : Hid (g3 < g ∧ w.heap.size ≤ g ∧ (∀ k, tv.ownBlock = some k → g3 < k ∧ w.heap.size ≤ k)) := by
    have h1 := block_lt_of_row R2.out
    have h2 := HG3e.out
    exact ⟨by omega, by omega, fun k hk => by have := htb k hk; exact ⟨by omega, by omega⟩⟩
  have R4 : Hid (w4.heap[g3]? = some (.cells (S.v8 (S.zeros 64)) 65 (0, 0))) := (b4.block g3 (block_lt_of_row R2.out)).trans R2.out
  have B4 := hide (B2.out.trans (b4.mono B2.out.size))
  clear hlo hgb htb b4 R2 B2 P2
  go_wp2_with fail
  refine (records_go w0 w4 o d g 1 4 p t [S.setL ns] tv LO4.out HNE.out).mono ?_
  rintro e w5 ⟨lv, us, rfl, hrec, b5⟩
  obtain ⟨gl, ofl, cl, gz, cz, rfl, hcell, hsl⟩ := hrec.one (S.setL_length ns)
  have CE := hide hcell
  have SL := hide hsl
  have LO5 := hide (LO4.out.then b5)
  have R5 : Hid (w5.heap[g3]? = some (.cells (S.v8 (S.zeros 64)) 65 (0, 0))) := (b5.block g3 (block_lt_of_row R4.out)).trans R4.out
  have B5 := hide (B4.out.trans (b5.mono B4.out.size))
  clear hrec b5 hcell hsl LO4 R4 B4
  go_wp2_with fail
  refine (setIn_one gl ofl cl gz 0 cz (S.setL ns) w5 CE.out SL.out CN.out.1 CN.out.2).mono ?_
  rintro e w6 ⟨rfl, b6⟩
  have LO6 := hide (LO5.out.then b6)
  have R6 : Hid (w6.heap[g3]? = some (.cells (S.v8 (S.zeros 64)) 65 (0, 0))) := (b6.block g3 (block_lt_of_row R5.out)).trans R5.out
  have B6 := hide (B5.out.trans (b6.mono B5.out.size))
  clear b6 LO5 R5 B5
  have hal2 := alloc57 w6
  obtain ⟨w9, hst2, r9, b9⟩ := made57 w6 (S.setL ns) (S.setL_length ns)
  have R9 := hide r9
  have LO9 := hide (LO6.out.then b9)
  have R39 : Hid (w9.heap[g3]? = some (.cells (S.v8 (S.zeros 64)) 65 (0, 0))) := (b9.block g3 (block_lt_of_row R6.out)).trans R6.out
  have B9 := hide (B6.out.trans (b9.mono B6.out.size))
  have h36 := block_lt_of_row R6.out
  have N93 : Hid (¬ w6.heap.size = g3) := fun e => by omega
  have NG3 : Hid (∀ k, (o.has k ∨ k = g ∨ tv.ownBlock = some k ∨ k < w0.heap.size) → ¬ k = g3) := fun k hk e => by
    subst e
    rcases hk with hk | hk | hk | hk
    · exact absurd (HLT.out _ hk) (Nat.lt_irrefl _)
    · have := G4.out.1; omega
    · have := (G4.out.2.2 _ hk).1; omega
    · have := HW0.out; have := HG3.out; omega
  obtain ⟨w7, hw7⟩ : ∃ w7, w7 = w6.alloc (.cells (S.v8 (S.zeros 64)) 65) := ⟨_, rfl⟩
  rw [← hw7] at hal2 hst2
  obtain ⟨g9, hg9⟩ : ∃ g9, g9 = w6.heap.size := ⟨_, rfl⟩
  rw [← hg9] at hal2 hst2 R9 N93
  clear r9 b9 h36 LO6 R6 B6 hg9 hw7
  go_upto_region 10 with (first | (with_reducible refine at_op ⟨some 9, .alloc 65, 0, "place.go:78", #[], none⟩ ?_; refine wpList_alloc_known rfl 65 rfl (.pointer (some ⟨g9, 0, none⟩)) w7 hal2 ?_) | (with_reducible refine at_op ⟨none, .store 65 (.tmp 9) (.tmp 33), 0, "place.go:78", #[⟨6, .data⟩, ⟨4, .data⟩, ⟨2, .chain⟩, ⟨0, .phase⟩, ⟨1, .phase⟩, ⟨2, .phase⟩, ⟨3, .phase⟩, ⟨4, .phase⟩, ⟨5, .textOnly .lateStores⟩, ⟨6, .phase⟩], none⟩ ?_; refine wpList_store_as rfl 65 (.tmp 9) (.tmp 33) rfl (.pointer (some ⟨g9, 0, none⟩)) (.agg (S.v8 (S.setL ns))) rfl rfl w9 hst2 ?_))
  clear hal2 hst2
  refine wp_region_noPanic ?_
  refine wp_region_held_drew (S := (fun W => W.heap[g9]? = some (.cells (S.v8 (S.setL ns)) 65 (0, 0)))) follows R9.out (fun hHeld => ?_)
  have LOd := hide (LO9.out.then (Below.refl w9.heap.size w9).drew)
  have B9d : Hid (Below w.heap.size w w9.drew) := B9.out.drew
  have R3d : Hid (w9.drew.heap[g3]? = some (.cells (S.v8 (S.zeros 64)) 65 (0, 0))) := R39.out
  clear LO9 B9 R9 R39
  generalize w9.drew = Z1 at LOd B9d R3d hHeld ⊢
  refine tk 0 ?_ rfl (Or.inl ⟨by rfl, ?_⟩) ?_
  rotate_left
  · intro w hSw
    clear hSw
    go_simp
    all_goals with_reducible rfl
  simp only [Act.put, List.setIfInBounds_toArray, List.set_cons_zero, List.set_cons_succ]
  refine wpAnyH_take (i := 1) (oi := ⟨_, _, _, _, _, _⟩) (v := .agg (S.v8 (S.setL ns))) rfl (by kernel_rfl) (by kernel_rfl) (by kernel_rfl) (fun _ _ _ h => h) (yieldsIf_load57 (by kernel_rfl) (.tmp 9) rfl g9 rfl (S.setL_length ns) (fun W hW => hW)) (by assumption) ?_
  simp only [Act.put, List.setIfInBounds_toArray, List.set_cons_zero, List.set_cons_succ]
  refine tk 2 ?_ rfl (Or.inl ⟨by rfl, ?_⟩) ?_
  rotate_left
  · intro w hSw
    clear hSw
    go_simp
    all_goals with_reducible rfl
  simp only [Act.put, List.setIfInBounds_toArray, List.set_cons_zero, List.set_cons_succ]
  obtain ⟨Z2, hst, r3, c3⟩ := store57 (ys := S.setL ns) R3d.out (S.zeros_length _) (S.setL_length ns)
  have R3 := hide r3
  have LO2 : Hid (Lo w0 Z2 o d g 1 4 p t [S.setL ns] tv) := LOd.out.chg c3 NG3.out
  have B2 : Hid (Below w.heap.size w Z2) := B9d.out.trans (c3.base B9d.out.size HG3.out)
  have a2 : Z2.heap[g9]? = some (.cells (S.v8 (S.setL ns)) 65 (0, 0)) := c3.row hHeld N93.out
  refine wpAnyH_ready (rs := [3]) (by kernel_rfl) (by simp) ?_
  refine step_store (o := { dst := none, op := Op.store 65 (Operand.tmp 3) (Operand.tmp 39), type := 0, pos := "place.go:82", after := #[⟨1, .data⟩, ⟨2, .chain⟩, ⟨0, .phase⟩, ⟨1, .phase⟩, ⟨2, .phase⟩], guard := none }) rfl rfl 65 (.tmp 3) (.tmp 39) rfl Z2 hst AllReadyH.nil ⟨a2, fun hHeld => ?_⟩
  simp only [Act.put]
  clear hst r3 c3 LOd B9d R3d a2
  refine tk 4 ?_ rfl (Or.inl ⟨by rfl, ?_⟩) ?_
  rotate_left
  · intro w hSw
    clear hSw
    go_simp
    all_goals with_reducible rfl
  simp only [Act.put, List.setIfInBounds_toArray, List.set_cons_zero, List.set_cons_succ]
  refine wpAnyH_done (by kernel_rfl) ?_ _
  refine NoPanic.normal ?_
  clear hHeld
  go_wp2_with fail
  refine bodyPost_ret (results_mid Tryz.results23 _ _ g3 (.agg (S.v8 (S.setL ns))) rfl (loadVar57 R3.out (S.setL_length ns))) rfl ⟨g, tv, rfl, LO2.out, G4.out.2.1, fun k hk => (G4.out.2.2 k hk).2, B2.out⟩
set_option maxHeartbeats 4000000 in
set_option maxRecDepth 10000 in
theorem popen_mid (w0 w : World) (o : Ow) (d : S.Dk) (p t : Nat) (ns : List Nat) (xs : List (List UInt8)) (pg : Nat → List UInt8) (h : Pm w0 w o d p t ns xs pg) :
   Calls Tryz.prog 10 #[o.ptr] w fun e w' => ∃ gs, e = .returned (.tuple #[.pointer (some ⟨gs, 0, none⟩), .int .i64 0]) ∧ StAt w' gs o ∧ w.heap.size ≤ gs ∧ Pm w0 w' o d p t ns xs pg ∧ Below w.heap.size w w' := by
  have P0 := hide h
  clear h
  go_enter Tryz.func10, Tryz.ntmps10
  go_wp2_with fail
  refine (fits_yes o d w P0.out.dk.dk P0.out.len).mono ?_
  rintro e w1 ⟨rfl, rfl⟩
  go_wp2_with fail
  refine (settle_none o d w P0.out.dk.dk P0.out.pend).mono ?_
  rintro e w1 ⟨rfl, rfl⟩
  go_wp2_with fail
  refine (look_mid w0 w o d p t ns xs pg P0.out).mono ?_
  rintro e w1 ⟨g, tv, rfl, hlo, hgb, htb, b1⟩
  have P1 := hide (P0.out.then b1)
  have B1 := hide b1
  clear hlo hgb htb b1 P0
  have hal := alloc57 w1
  obtain ⟨w3, hst, r3, b3⟩ := made57 w1 (S.setL ns) (S.setL_length ns)
  have P3 := hide (P1.out.then b3)
  have B3 := hide (B1.out.trans (b3.mono B1.out.size))
  obtain ⟨w2, hw2⟩ : ∃ w2, w2 = w1.alloc (.cells (S.v8 (S.zeros 64)) 65) := ⟨_, rfl⟩
  rw [← hw2] at hal hst
  obtain ⟨g2, hg2⟩ : ∃ g2, g2 = w1.heap.size := ⟨_, rfl⟩
  rw [← hg2] at hal hst
  obtain ⟨Z, hZ⟩ : ∃ Z, Z = S.v8 (S.setL ns) := ⟨_, rfl⟩
  rw [← hZ] at hst ⊢
  have hptr : o.ptr = .pointer (some ⟨o.g, 0, none⟩) := rfl
  rw [hptr]
  obtain ⟨w4, hw4⟩ : ∃ w4, w4 = w3.alloc (.cells #[.pointer (some ⟨o.g, 0, none⟩)] 69) := ⟨_, rfl⟩
  have b4 : Below w3.heap.size w3 w4 := by rw [hw4]; exact (Below.refl _ _).alloc (Nat.le_refl _) _
  have R4 : Hid (StAt w4 w3.heap.size o) := by rw [hw4]; exact heap_alloc_new _ _
  have P4 := hide (P3.out.then b4)
  have B4 := hide (B3.out.trans (b4.mono B3.out.size))
  have HG : Hid (w.heap.size ≤ w3.heap.size) := B3.out.size
  clear r3 b3 b4 hw2 hg2 hZ P1 B1 P3 B3 hptr
  go_wp2_with (first | (with_reducible refine at_op ⟨some 6, .alloc 65, 0, "pages.go:49", #[], none⟩ ?_; refine wpList_alloc_known rfl 65 rfl (.pointer (some ⟨g2, 0, none⟩)) w2 hal ?_) | (with_reducible refine at_op ⟨none, .store 65 (.tmp 6) (.tmp 20), 0, "pages.go:49", #[⟨6, .data⟩, ⟨4, .data⟩, ⟨7, .chain⟩, ⟨0, .phase⟩, ⟨1, .phase⟩, ⟨2, .phase⟩, ⟨3, .phase⟩, ⟨4, .phase⟩, ⟨5, .textOnly .lateStores⟩, ⟨6, .phase⟩, ⟨7, .phase⟩], none⟩ ?_; refine wpList_store_as rfl 65 (.tmp 6) (.tmp 20) rfl (.pointer (some ⟨g2, 0, none⟩)) (.agg Z) rfl rfl w3 hst ?_))
  rw [← hw4]
  go_ret2
  exact ⟨w3.heap.size, rfl, R4.out, HG.out, P4.out, B4.out⟩

set_option maxHeartbeats 1000000 in
set_option maxRecDepth 10000 in
theorem index_any (ns : List Nat) (n g c : Nat) (cur : Array Value) (w : World) (hr : w.heap[g]? = some (.cells cur 3 (0, 0))) (hc : ∀ j, j < ns.length → cur[j]? = some (.int .i64 ((ns.getD j 0 : Nat) : Int))) (hin : n ∈ ns) (hl : ns.length ≤ 1000) :
   Calls Tryz.prog 47 #[.slice (some ⟨g, 0, none⟩) ns.length c, .int .i64 (n : Int)] w fun e w' => e = .returned (.int .i64 (ns.idxOf n : Int)) ∧ w = w' := by
  have HR := hide hr
  have HC := hide hc
  have HX : Hid (ns.idxOf n < ns.length) := List.idxOf_lt_length_of_mem hin
  have HL := hide hl
  have HAT : Hid (ns.getD (ns.idxOf n) 0 = n) := by
    show ns.getD (ns.idxOf n) 0 = n
    rw [List.getD_eq_getElem?_getD, List.getElem?_eq_getElem HX.out, Option.getD_some]
    exact List.getElem_idxOf HX.out
  have HNO : Hid (∀ j, j < ns.idxOf n → ns.getD j 0 ≠ n) := fun j hj e => by
    have hjl : j < ns.length := Nat.lt_trans hj HX.out
    rw [List.getD_eq_getElem?_getD, List.getElem?_eq_getElem hjl, Option.getD_some] at e
    have h := List.not_of_lt_findIdx (p := (· == n)) (xs := ns) hj
    simp [e] at h
  clear hr hc hl
  go_enter Tryz.func47, Tryz.ntmps47
  go_wp2_with fail
  go_loopw [8] (fun i wr => ∃ k : Nat, k ≤ ns.idxOf n ∧ i = .int .i64 (k : Int) ∧ w = wr) (fun i _ => ns.length - (intOf i).toNat)
  case atStart => exact ⟨0, Nat.zero_le _, rfl, rfl⟩
  case round =>
  obtain ⟨k, hk, rfl, rfl⟩ := hrel
  have hkl : k < ns.length := Nat.lt_of_le_of_lt hk HX.out
  have q1 : (k : Int) < (ns.length : Int) := by omega
  have q0 : (0 : Int) ≤ (k : Int) := by omega
  have q2 : IntKind.i64.wrap ((k : Int) + 1) = (k : Int) + 1 := by have := HL.out; rw [IntKind.wrap_i64]; omega
  obtain ⟨m, hm⟩ : ∃ m : Nat, m = ns.getD k 0 := ⟨_, rfl⟩
  have c1 : w.cell? ⟨g, k, none⟩ = some (.int .i64 (m : Int)) := by rw [cell_of_row w g k _ 3 _ HR.out, hm]; exact HC.out k hkl
  have KK := hide hkl
  by_cases hkx : k = ns.idxOf n
  · have q3 : (n : Int) = (m : Int) := by rw [hm, hkx, HAT.out]
    have q4 : ((n : Int) == (m : Int)) = true := by rw [q3]; exact beq_self_eq_true _
    have EK := hide hkx
    clear hm hk hkl hkx
    go_wp2_with fail
    go_ret
    exact ⟨by rw [← EK.out]; rfl, rfl⟩
  · have hne : m ≠ n := by rw [hm]; exact HNO.out k (by omega)
    have q3 : ¬ ((n : Int) = (m : Int)) := by omega
    have q4 : ((n : Int) == (m : Int)) = false := beq_false_of_ne q3
    have KN : Hid (k + 1 ≤ ns.idxOf n) := by show k + 1 ≤ ns.idxOf n; omega
    clear hm hk hkl hkx hne
    go_wp2_with fail
    go_roundw
    case rel => exact ⟨k + 1, KN.out, by go_num, trivial⟩
    case measure => have := KK.out; simp [intOf]; omega
set_option maxRecDepth 10000 in
theorem rank_any (ns : List Nat) (n : Nat) (w : World) (hn : ∀ n ∈ ns, n < 512) (hpw : ns.Pairwise (· < ·)) (hin : n ∈ ns) : Calls Tryz.prog 28 #[.agg (S.v8 (S.setL ns)), .int .i64 (n : Int)] w fun e w' => e = .returned (.int .i64 (ns.idxOf n : Int)) ∧ Below w.heap.size w w' := by
  obtain ⟨Z, hZ⟩ : ∃ Z, Z = S.v8 (S.setL ns) := ⟨_, rfl⟩
  obtain ⟨w1, hw1⟩ : ∃ w1, w1 = w.alloc (.cells Z 65) := ⟨_, rfl⟩
  have B1 : Hid (Below w.heap.size w w1) := by rw [hw1]; exact (Below.refl _ _).alloc (Nat.le_refl _) _
  have r1 : w1.heap[w.heap.size]? = some (.cells (S.v8 (S.setL ns)) 65 (0, 0)) := by rw [hw1, hZ]; exact heap_alloc_new _ _
  have ld := load57 r1 (S.setL_length ns)
  rw [← hZ] at ld ⊢
  have HZ := hide hZ
  have HW := hide hw1
  obtain ⟨g1, hg1⟩ : ∃ g1, g1 = w.heap.size := ⟨_, rfl⟩
  rw [← hg1] at ld
  have HG := hide hg1
  have HLN : Hid (ns.length ≤ 512) := by
    have h1 := S.inSet_setL ns hn hpw
    have h2 := S.inSet_length (S.setL ns) 512
    rw [h1] at h2
    exact h2
  clear r1 hZ hw1 hg1
  go_enter Tryz.func28, Tryz.ntmps28
  go_wp2_with (rw [← HW.out, ← HG.out]; with_reducible refine at_op ⟨some 5, .load 65 (.tmp 2), 65, "set.go:58", #[], none⟩ ?_; refine wpList_load_as rfl 65 (.tmp 2) rfl (.pointer (some ⟨g1, 0, none⟩)) rfl (.agg Z) ld ?_)
  clear ld
  rw [HZ.out]
  refine (pages_any (S.setL ns) w1 (S.setL_length ns)).mono ?_
  rintro e w3 ⟨v, rfl, hv, b3⟩
  rw [S.inSet_setL ns hn hpw] at hv
  obtain ⟨gl, cl, cur, rfl, hgl, hrow, hcur⟩ := ints_row hv (fun e => by rw [e] at hin; simp at hin)
  have B3 := hide (B1.out.trans (b3.mono B1.out.size))
  have RR := hide hrow
  have CC := hide hcur
  clear hv hgl hrow hcur b3
  go_wp2_with fail
  refine (index_any ns n gl cl cur w3 RR.out CC.out hin (by have := HLN.out; omega)).mono ?_
  rintro e w4 ⟨rfl, rfl⟩
  go_wp2_with fail
  go_ret
  exact ⟨rfl, B3.out⟩
set_option maxHeartbeats 4000000 in
set_option maxRecDepth 10000 in
theorem pread_mid (w0 w : World) (o : Ow) (d : S.Dk) (p t gs n : Nat) (ns : List Nat) (xs : List (List UInt8)) (pg : Nat → List UInt8) (h : Pm w0 w o d p t ns xs pg) (hs : StAt w gs o) (hn : n < 512) :
   Calls Tryz.prog 11 #[.pointer (some ⟨gs, 0, none⟩), .int .i64 (n : Int)] w fun e w' => ∃ gp, e = .returned (.tuple #[.slice (some ⟨gp, 0, none⟩) 1024 1024, .int .i64 0]) ∧ w.heap.size ≤ gp ∧ Room w' gp 1024 (if n ∈ ns then xs.getD (ns.idxOf n) [] else pg n) ∧ Pm w0 w' o d p t ns xs pg ∧ StAt w' gs o ∧ Below w.heap.size w w' := by
  have P0 := hide h
  have S0 := hide hs
  clear h hs
  go_enter Tryz.func11, Tryz.ntmps11
  go_wp2_with fail
  refine (isPage_yes n hn w).mono ?_
  rintro e w1 ⟨rfl, rfl⟩
  have c0 := st_cell S0.out
  go_wp2_with fail
  have hptr : o.ptr = .pointer (some ⟨o.g, 0, none⟩) := rfl
  rw [← hptr]
  refine (look_mid w0 w o d p t ns xs pg P0.out).mono ?_
  rintro e w1 ⟨g, tv, rfl, hlo, hgb, htb, b1⟩
  have P1 := hide (P0.out.then b1)
  have B1 := hide b1
  have S1 : Hid (StAt w1 gs o) := (b1.block gs (block_lt_of_row S0.out)).trans S0.out
  clear hlo hgb htb b1 P0 S0 c0
  have hal := alloc57 w1
  obtain ⟨w3, hst, r3, b3⟩ := made57 w1 (S.setL ns) (S.setL_length ns)
  have P3 := hide (P1.out.then b3)
  have B3 := hide (B1.out.trans (b3.mono B1.out.size))
  have S3 : Hid (StAt w3 gs o) := (b3.block gs (block_lt_of_row S1.out)).trans S1.out
  obtain ⟨w2, hw2⟩ : ∃ w2, w2 = w1.alloc (.cells (S.v8 (S.zeros 64)) 65) := ⟨_, rfl⟩
  rw [← hw2] at hal hst
  have ld := load57 r3 (S.setL_length ns)
  obtain ⟨g2, hg2⟩ : ∃ g2, g2 = w1.heap.size := ⟨_, rfl⟩
  rw [← hg2] at hal hst ld
  obtain ⟨Z, hZ⟩ : ∃ Z, Z = S.v8 (S.setL ns) := ⟨_, rfl⟩
  rw [← hZ] at hst ld ⊢
  have HZ := hide hZ
  have RSK : Hid (w3.heap[g2]? = some (.cells (S.v8 (S.setL ns)) 65 (0, 0))) := by rw [hg2]; exact r3
  clear r3 b3 hw2 hg2 hZ P1 B1 S1 hptr
  go_wp2_with (first | (with_reducible refine at_op ⟨some 7, .alloc 65, 0, "pages.go:60", #[], none⟩ ?_; refine wpList_alloc_known rfl 65 rfl (.pointer (some ⟨g2, 0, none⟩)) w2 hal ?_) | (with_reducible refine at_op ⟨none, .store 65 (.tmp 7) (.tmp 19), 0, "pages.go:60", #[⟨9, .data⟩, ⟨7, .data⟩, ⟨10, .chain⟩, ⟨0, .phase⟩, ⟨1, .phase⟩, ⟨2, .phase⟩, ⟨3, .phase⟩, ⟨4, .phase⟩, ⟨5, .phase⟩, ⟨6, .phase⟩, ⟨7, .phase⟩, ⟨8, .textOnly .lateStores⟩, ⟨9, .phase⟩, ⟨10, .phase⟩], none⟩ ?_; refine wpList_store_as rfl 65 (.tmp 7) (.tmp 19) rfl (.pointer (some ⟨g2, 0, none⟩)) (.agg Z) rfl rfl w3 hst ?_) | (with_reducible refine at_op ⟨some 24, .load 65 (.tmp 7), 65, "pages.go:64", #[], none⟩ ?_; refine wpList_load_as rfl 65 (.tmp 7) rfl (.pointer (some ⟨g2, 0, none⟩)) rfl (.agg Z) ld ?_))
  clear hal hst ld
  have RS3 : Hid (w3.heap[g2]? = some (.cells (S.v8 (S.setL ns)) 65 (0, 0))) := RSK.out
  have NB : Hid (∀ n ∈ ns, n < 512) := P3.out.nb
  have UP : Hid (ns.Pairwise (· < ·)) := P3.out.up
  have LE : Hid (ns.length ≤ 256) := P3.out.le
  refine (bit_any Z (S.setL ns) n w3 HZ.out (S.setL_length ns) hn).mono ?_
  rintro e w6 ⟨rfl, b6⟩
  rw [S.bit_setL ns P3.out.nb]
  have P6 := hide (P3.out.then b6)
  have B6 := hide (B3.out.trans (b6.mono B3.out.size))
  have ST6 : Hid (StAt w6 gs o) := (b6.block gs (block_lt_of_row S3.out)).trans S3.out
  have RS6 : Hid (w6.heap[g2]? = some (.cells (S.v8 (S.setL ns)) 65 (0, 0))) := (b6.block g2 (block_lt_of_row RS3.out)).trans RS3.out
  clear b6 P3 B3 S3 RS3 RSK
  by_cases hin : n ∈ ns
  · rw [decide_eq_true hin]
    have IX : Hid (ns.idxOf n < ns.length) := List.idxOf_lt_length_of_mem hin
    go_upto_region 7 with fail
    refine wp_region_noPanic ?_
    refine wp_region_held_drew (S := (fun W => W.heap[gs]? = some (.cells #[.pointer (some ⟨o.g, 0, none⟩)] 69 (0, 0)) ∧ W.heap[g2]? = some (.cells (S.v8 (S.setL ns)) 65 (0, 0)))) follows ⟨ST6.out, RS6.out⟩ (fun hHeld => ?_)
    have P6d := hide (P6.out.then (Below.refl w6.heap.size w6).drew)
    have B6d : Hid (Below w.heap.size w w6.drew) := B6.out.drew
    clear P6 B6 ST6 RS6
    generalize w6.drew = Z1 at P6d B6d hHeld ⊢
    refine tk 0 ?_ rfl (Or.inl ⟨by rfl, ?_⟩) ?_
    rotate_left
    · intro w hSw
      clear hSw
      go_simp
      all_goals with_reducible rfl
    simp only [Act.put, List.setIfInBounds_toArray, List.set_cons_zero, List.set_cons_succ]
    refine tk 1 ?_ rfl (Or.inl ⟨by rfl, ?_⟩) ?_
    rotate_left
    · intro w hSw
      clear hSw
      go_simp
      all_goals with_reducible rfl
    simp only [Act.put, List.setIfInBounds_toArray, List.set_cons_zero, List.set_cons_succ]
    refine tk 2 ?_ rfl (Or.inl ⟨by rfl, ?_⟩) ?_
    rotate_left
    · intro w hSw
      clear hSw
      go_simp
      all_goals with_reducible rfl
    simp only [Act.put, List.setIfInBounds_toArray, List.set_cons_zero, List.set_cons_succ]
    refine tk 3 ?_ rfl (Or.inl ⟨by rfl, ?_⟩) ?_
    rotate_left
    · intro w hSw
      have c0 := st_cell hSw.1
      clear hSw
      go_simp
      all_goals with_reducible rfl
    simp only [Act.put, List.setIfInBounds_toArray, List.set_cons_zero, List.set_cons_succ]
    refine wpAnyH_take (i := 4) (oi := ⟨_, _, _, _, _, _⟩) (v := .agg (S.v8 (S.setL ns))) rfl (by kernel_rfl) (by kernel_rfl) (by kernel_rfl) (fun _ _ _ h => h) (yieldsIf_load57 (by kernel_rfl) (.tmp 7) rfl g2 rfl (S.setL_length ns) (fun W hW => hW.2)) (by assumption) ?_
    simp only [Act.put, List.setIfInBounds_toArray, List.set_cons_zero, List.set_cons_succ]
    refine tk 5 ?_ rfl (Or.inl ⟨by rfl, ?_⟩) ?_
    rotate_left
    · intro w hSw
      clear hSw
      go_simp
      all_goals with_reducible rfl
    simp only [Act.put, List.setIfInBounds_toArray, List.set_cons_zero, List.set_cons_succ]
    refine wpAnyH_ready (rs := [6]) (by kernel_rfl) (by simp) ?_
    refine AllReadyH.cons (o := { dst := some 33, op := Op.call { callee := Callee.value (Operand.func 28), args := #[Operand.tmp 31, Operand.tmp 32], argTypes := #[65, 3] }, type := 3, pos := "pages.go:65", after := #[⟨4, .data⟩, ⟨5, .data⟩], guard := none }) rfl (fun K hK => ?_) AllReadyH.nil
    go_simp
    refine (rank_any ns n Z1 NB.out UP.out hin).mono ?_
    rintro e Z2 ⟨rfl, b2⟩
    have a2 : Z2.heap[gs]? = some (.cells #[.pointer (some ⟨o.g, 0, none⟩)] 69 (0, 0)) ∧ Z2.heap[g2]? = some (.cells (S.v8 (S.setL ns)) 65 (0, 0)) := ⟨(b2.block gs (block_lt_of_row hHeld.1)).trans hHeld.1, (b2.block g2 (block_lt_of_row hHeld.2)).trans hHeld.2⟩
    have P7 := hide (P6d.out.then b2)
    have B7 : Hid (Below w.heap.size w Z2) := B6d.out.trans (b2.mono B6d.out.size)
    clear hHeld b2 P6d B6d
    refine hK.out _ _ a2 (fun hHeld => ?_)
    clear hK K
    try simp only [Act.put, List.setIfInBounds_toArray, List.set_cons_zero, List.set_cons_succ]
    clear a2
    refine wpAnyH_ready (rs := [7]) (by kernel_rfl) (by simp) ?_
    refine AllReadyH.cons (o := { dst := some 34, op := Op.call { callee := Callee.value (Operand.func 27), args := #[Operand.tmp 33], argTypes := #[3] }, type := 3, pos := "pages.go:65", after := #[⟨6, .data⟩, ⟨6, .chain⟩], guard := none }) rfl (fun K hK => ?_) AllReadyH.nil
    go_simp
    refine (pspare_any (ns.idxOf n) (by have := LE.out; have := IX.out; omega) Z2).mono ?_
    rintro e Z3 ⟨rfl, rfl⟩
    refine hK.out _ _ hHeld (fun hHeld => ?_)
    clear hK K
    try simp only [Act.put, List.setIfInBounds_toArray, List.set_cons_zero, List.set_cons_succ]
    refine wpAnyH_ready (rs := [8]) (by kernel_rfl) (by simp) ?_
    refine AllReadyH.cons (o := { dst := some 35, op := Op.call { callee := Callee.value (Operand.func 26), args := #[Operand.tmp 30, Operand.tmp 34], argTypes := #[22, 3] }, type := 31, pos := "pages.go:65", after := #[⟨3, .data⟩, ⟨7, .data⟩, ⟨7, .chain⟩], guard := none }) rfl (fun K hK => ?_) AllReadyH.nil
    go_simp
    have RP := readPage_any o d (4101 + ns.idxOf n * 8) Z2 P7.out.dk.dk (fun i hi => by rw [P7.out.seen] at hi ⊢; exact P7.out.dk.dk.ok.len i hi) (by have := P7.out.len; have := LE.out; have := IX.out; omega)
    rw [P7.out.seen, P7.out.spare _ IX.out, show o.ptr = .pointer (some ⟨o.g, 0, none⟩) from rfl] at RP
    try rw [show ((4101 + ns.idxOf n * 8 : Nat) : Int) = 4101 + (ns.idxOf n : Int) * 8 by omega] at RP
    refine RP.mono ?_
    rintro e Z3 ⟨gp, rfl, hgp, hrm, b2⟩
    have a2 : Z3.heap[gs]? = some (.cells #[.pointer (some ⟨o.g, 0, none⟩)] 69 (0, 0)) ∧ Z3.heap[g2]? = some (.cells (S.v8 (S.setL ns)) 65 (0, 0)) := ⟨(b2.block gs (block_lt_of_row hHeld.1)).trans hHeld.1, (b2.block g2 (block_lt_of_row hHeld.2)).trans hHeld.2⟩
    have P8 := hide (P7.out.then b2)
    have RM : Hid (Room Z3 gp 1024 (if n ∈ ns then xs.getD (ns.idxOf n) [] else pg n)) := by show Room Z3 gp 1024 (if n ∈ ns then xs.getD (ns.idxOf n) [] else pg n); rw [if_pos hin]; exact hrm
    have GP : Hid (w.heap.size ≤ gp) := Nat.le_trans B7.out.size hgp
    have ST8 := hide a2.1
    have B8 : Hid (Below w.heap.size w Z3) := B7.out.trans (b2.mono B7.out.size)
    clear RP hgp hrm b2 hHeld P7 B7
    refine hK.out _ _ a2 (fun hHeld => ?_)
    clear hK K
    try simp only [Act.put, List.setIfInBounds_toArray, List.set_cons_zero, List.set_cons_succ]
    clear a2
    refine tk 9 ?_ rfl (Or.inl ⟨by rfl, ?_⟩) ?_
    rotate_left
    · intro w hSw
      clear hSw
      go_simp
      all_goals with_reducible rfl
    simp only [Act.put, List.setIfInBounds_toArray, List.set_cons_zero, List.set_cons_succ]
    refine tk 10 ?_ rfl (Or.inl ⟨by rfl, ?_⟩) ?_
    rotate_left
    · intro w hSw
      clear hSw
      go_simp
      all_goals with_reducible rfl
    simp only [Act.put, List.setIfInBounds_toArray, List.set_cons_zero, List.set_cons_succ]
    refine wpAnyH_done (by kernel_rfl) ?_ _
    refine NoPanic.normal ?_
    clear hHeld
    go_wp2_with fail
    go_ret2
    exact ⟨gp, rfl, GP.out, by have h := RM.out; rw [if_pos hin, List.getD_eq_getElem?_getD] at h; exact h, P8.out, ST8.out, B8.out⟩
  · rw [decide_eq_false hin]
    clear RS6
    go_upto_region 8 with fail
    refine wp_region_noPanic ?_
    refine wp_region_held_drew (S := (fun W => W.heap[gs]? = some (.cells #[.pointer (some ⟨o.g, 0, none⟩)] 69 (0, 0)))) follows ST6.out (fun hHeld => ?_)
    have P6d := hide (P6.out.then (Below.refl w6.heap.size w6).drew)
    have B6d : Hid (Below w.heap.size w w6.drew) := B6.out.drew
    clear P6 B6 ST6
    generalize w6.drew = Z1 at P6d B6d hHeld ⊢
    refine tk 0 ?_ rfl (Or.inl ⟨by rfl, ?_⟩) ?_
    rotate_left
    · intro w hSw
      clear hSw
      go_simp
      all_goals with_reducible rfl
    simp only [Act.put, List.setIfInBounds_toArray, List.set_cons_zero, List.set_cons_succ]
    refine tk 1 ?_ rfl (Or.inl ⟨by rfl, ?_⟩) ?_
    rotate_left
    · intro w hSw
      clear hSw
      go_simp
      all_goals with_reducible rfl
    simp only [Act.put, List.setIfInBounds_toArray, List.set_cons_zero, List.set_cons_succ]
    refine tk 2 ?_ rfl (Or.inl ⟨by rfl, ?_⟩) ?_
    rotate_left
    · intro w hSw
      clear hSw
      go_simp
      all_goals with_reducible rfl
    simp only [Act.put, List.setIfInBounds_toArray, List.set_cons_zero, List.set_cons_succ]
    refine tk 3 ?_ rfl (Or.inl ⟨by rfl, ?_⟩) ?_
    rotate_left
    · intro w hSw
      have c0 := st_cell hSw
      clear hSw
      go_simp
      all_goals with_reducible rfl
    simp only [Act.put, List.setIfInBounds_toArray, List.set_cons_zero, List.set_cons_succ]
    refine tk 4 ?_ rfl (Or.inl ⟨by rfl, ?_⟩) ?_
    rotate_left
    · intro w hSw
      clear hSw
      go_simp
      all_goals with_reducible rfl
    simp only [Act.put, List.setIfInBounds_toArray, List.set_cons_zero, List.set_cons_succ]
    refine wpAnyH_ready (rs := [5]) (by kernel_rfl) (by simp) ?_
    refine AllReadyH.cons (o := { dst := some 41, op := Op.call { callee := Callee.value (Operand.func 29), args := #[Operand.tmp 40], argTypes := #[3] }, type := 3, pos := "pages.go:67", after := #[⟨4, .data⟩], guard := none }) rfl (fun K hK => ?_) AllReadyH.nil
    go_simp
    refine (phome_any n (by omega) Z1).mono ?_
    rintro e Z2 ⟨rfl, rfl⟩
    refine hK.out _ _ hHeld (fun hHeld => ?_)
    clear hK K
    try simp only [Act.put, List.setIfInBounds_toArray, List.set_cons_zero, List.set_cons_succ]
    refine wpAnyH_ready (rs := [6]) (by kernel_rfl) (by simp) ?_
    refine AllReadyH.cons (o := { dst := some 42, op := Op.call { callee := Callee.value (Operand.func 26), args := #[Operand.tmp 39, Operand.tmp 41], argTypes := #[22, 3] }, type := 31, pos := "pages.go:67", after := #[⟨3, .data⟩, ⟨5, .data⟩, ⟨5, .chain⟩], guard := none }) rfl (fun K hK => ?_) AllReadyH.nil
    go_simp
    have RP := readPage_any o d (5 + n * 8) Z1 P6d.out.dk.dk (fun i hi => by rw [P6d.out.seen] at hi ⊢; exact P6d.out.dk.dk.ok.len i hi) (by have := P6d.out.len; omega)
    rw [P6d.out.seen, P6d.out.home n hn hin, show o.ptr = .pointer (some ⟨o.g, 0, none⟩) from rfl] at RP
    try rw [show ((5 + n * 8 : Nat) : Int) = 5 + (n : Int) * 8 by omega] at RP
    refine RP.mono ?_
    rintro e Z2 ⟨gp, rfl, hgp, hrm, b2⟩
    have a2 : Z2.heap[gs]? = some (.cells #[.pointer (some ⟨o.g, 0, none⟩)] 69 (0, 0)) := (b2.block gs (block_lt_of_row hHeld)).trans hHeld
    have P7 := hide (P6d.out.then b2)
    have RM : Hid (Room Z2 gp 1024 (if n ∈ ns then xs.getD (ns.idxOf n) [] else pg n)) := by show Room Z2 gp 1024 (if n ∈ ns then xs.getD (ns.idxOf n) [] else pg n); rw [if_neg hin]; exact hrm
    have GP : Hid (w.heap.size ≤ gp) := Nat.le_trans B6d.out.size hgp
    have ST7 := hide a2
    have B7 : Hid (Below w.heap.size w Z2) := B6d.out.trans (b2.mono B6d.out.size)
    clear RP hgp hrm b2 hHeld P6d B6d
    refine hK.out _ _ a2 (fun hHeld => ?_)
    clear hK K
    try simp only [Act.put, List.setIfInBounds_toArray, List.set_cons_zero, List.set_cons_succ]
    clear a2
    refine tk 7 ?_ rfl (Or.inl ⟨by rfl, ?_⟩) ?_
    rotate_left
    · intro w hSw
      clear hSw
      go_simp
      all_goals with_reducible rfl
    simp only [Act.put, List.setIfInBounds_toArray, List.set_cons_zero, List.set_cons_succ]
    refine tk 8 ?_ rfl (Or.inl ⟨by rfl, ?_⟩) ?_
    rotate_left
    · intro w hSw
      clear hSw
      go_simp
      all_goals with_reducible rfl
    simp only [Act.put, List.setIfInBounds_toArray, List.set_cons_zero, List.set_cons_succ]
    refine wpAnyH_done (by kernel_rfl) ?_ _
    refine NoPanic.normal ?_
    clear hHeld
    go_wp2_with fail
    go_ret2
    exact ⟨gp, rfl, GP.out, by have h := RM.out; rw [if_neg hin] at h; exact h, P7.out, ST7.out, B7.out⟩
end Go.Proofs.YthjlhngjpbmieaaGreatDoor
