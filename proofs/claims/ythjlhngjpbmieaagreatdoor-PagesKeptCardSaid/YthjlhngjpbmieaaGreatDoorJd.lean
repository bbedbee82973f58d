/- Clone and SortFunc of one sheet. -/
/- inOrder of one sheet. -/
/- putSpares of one sheet; setOf of one sheet. -/
import Derived.Test.YthjlhngjpbmieaaGreatDoorJc
import Derived.Test.YthjlhngjpbmieaaGreatDoorJa
namespace Go.Proofs.YthjlhngjpbmieaaGreatDoor
open Go.RowKit

theorem info37 : (Tryz.prog.info? 37).map (fun i => (i.zero, i.size, i.bytes)) = some (some (.agg #[.int .i64 0, .slice none 0 0]), 2, 32) := by kernel_rfl
theorem eql_nil38 (a : Addr) (n cap : Nat) (W : World) : (binOp .eql 38 (.slice (some a) n cap) (.slice none 0 0)).run Tryz.prog W = .ok (.bool false) W :=
  by
    have h : ∀ d : Nat, (Op.equalIn (d + 1) 38 (.slice (some a) n cap) (.slice none 0 0)).run Tryz.prog W = .ok false W := fun d => by
      simp [Op.equalIn, run_underlying Tryz.underlying38]
    simp only [binOp]
    simp [Op.equal, Op.maxDepth, h 9999]
/-- A row of sheets whose first is this one. -/
structure Sh1 (w : World) (g : Nat) (n : Int) (bv : Value) : Prop where
  row : ∃ cur, w.heap[g]? = some (.cells cur 37 (0, 0)) ∧ cur[0]? = some (.int .i64 n) ∧ cur[1]? = some bv
theorem Sh1.cells {w : World} {g : Nat} {n : Int} {bv : Value} (h : Sh1 w g n bv) : w.cell? ⟨g, 0, none⟩ = some (.int .i64 n) ∧ w.cell? ⟨g, 1, none⟩ = some bv := by
  obtain ⟨cur, h1, h2, h3⟩ := h.row
  exact ⟨by rw [cell_of_row w g 0 _ 37 _ h1]; exact h2, by rw [cell_of_row w g 1 _ 37 _ h1]; exact h3⟩
theorem Sh1.lt {w : World} {g : Nat} {n : Int} {bv : Value} (h : Sh1 w g n bv) : g < w.heap.size := by obtain ⟨cur, h1, _⟩ := h.row; exact block_lt_of_row h1
theorem Sh1.below {w W : World} {g : Nat} {n : Int} {bv : Value} (h : Sh1 w g n bv) (hb : Below w.heap.size w W) : Sh1 W g n bv := by
  obtain ⟨cur, h1, h2⟩ := h.row
  exact ⟨cur, (hb.block g (block_lt_of_row h1)).trans h1, h2⟩
set_option maxHeartbeats 4000000 in
set_option maxRecDepth 10000 in
theorem pclone_one (b off cap : Nat) (n : Int) (bv : Value) (w : World) (h0 : w.cell? ⟨b, off, none⟩ = some (.int .i64 n)) (h1 : w.cell? ⟨b, off + 1, none⟩ = some bv) (hb1 : bv.oneCell' = true) :
   Calls Tryz.prog 49 #[.slice (some ⟨b, off, none⟩) 1 cap] w fun e w' => ∃ g c, e = .returned (.slice (some ⟨g, 0, none⟩) 1 c) ∧ w.heap.size ≤ g ∧ Sh1 w' g n bv ∧ Below w.heap.size w w' := by
  have hnil := eql_nil38 ⟨b, off, none⟩ 1 cap
  obtain ⟨i, hi, hz0, hz1, hz2⟩ := info_parts info37
  obtain ⟨w1, hw1⟩ : ∃ w1, w1 = w.alloc (.cells #[] 37) := ⟨_, rfl⟩
  have b1 : Below w.heap.size w w1 := by rw [hw1]; exact (Below.refl _ _).alloc (Nat.le_refl _) _
  have r1 : w1.heap[w.heap.size]? = some (.cells #[] 37 (0, 0)) := by rw [hw1]; exact heap_alloc_new _ _
  have hown : w1.ownsRow w.heap.size 37 2 (.slice (some ⟨w.heap.size, 0, none⟩) 0 0) 0 [] := ⟨rfl, Or.inr ⟨w.heap.size, 0, #[], rfl, Nat.le_refl _, r1, Nat.le_refl _, by simp [maxLen], rfl, rfl⟩⟩
  have hb0 : b < w.heap.size := World.block_lt_of_cell? w _ h0
  have APP := hide (run_append_own (P := Tryz.prog) w1 w.heap.size 38 38 37 i (.agg #[.int .i64 0, .slice none 0 0]) 2 32 Tryz.underlying38 hi hz0 hz1 hz2 rfl (by omega) (.slice (some ⟨w.heap.size, 0, none⟩) 0 0) 0 [] hown ⟨b, off, none⟩ 1 cap [.int .i64 n, bv] rfl (fun j u hu => by
    rw [Addr.add_lit]
    refine (b1.cell (p := ⟨b, off + j, none⟩) hb0).trans ?_
    match j, hu with
    | 0, hu => simp at hu; rw [← hu]; exact h0
    | 1, hu => simp at hu; rw [← hu]; exact h1) (fun u hu => by
    simp only [List.mem_cons, List.not_mem_nil, or_false] at hu
    rcases hu with rfl | rfl
    · rfl
    · exact hb1) (by simp [maxLen]) (by omega) b1.size)
  have HB := hide b1
  have HW := hide hw1
  clear b1 r1 hw1 hown h0 h1 hb1 hi hz0 hz1 hz2 hb0
  clear i
  go_enter Tryz.func49, Tryz.ntmps49
  go_wp2_with (at_builtin; (rw [← HW.out]; refine wpList_append_known rfl (.tmp 5) (.tmp 6) 38 38 rfl _ _ rfl rfl (by obtain ⟨v', w', h1, h2⟩ := APP.out; exact ⟨v', w', h1, h2⟩) ?_; rintro v2 w2 ⟨ho, hg, hn⟩; have OW := hide ho; have GR := hide hg; clear ho hg hn))
  rcases OW.out.2 with ⟨e, e2⟩ | ⟨g, c, cur, e, hge, h1, h2, h3, h4, h5⟩
  · exact absurd e2 (by simp)
  · subst e
    have S2 : Hid (Sh1 w2 g n bv) := ⟨cur, h1, by
      have : (cur.toList.take ((0 + 1) * 2))[0]? = cur.toList[0]? := by rw [List.getElem?_take, if_pos (by omega)]
      rw [h5] at this
      simpa using this.symm, by
      have : (cur.toList.take ((0 + 1) * 2))[1]? = cur.toList[1]? := by rw [List.getElem?_take, if_pos (by omega)]
      rw [h5] at this
      simpa using this.symm⟩
    have B2 : Hid (Below w.heap.size w w2) := HB.out.trans (((Chg.refl (fun k => w.heap.size ≤ k) w1).grown GR.out (fun k _ e => by simp only [Value.ownBlock, Option.some.injEq] at e; omega)).below _ HB.out.size (fun k hk e => by omega))
    have GE : Hid (w.heap.size ≤ g) := hge
    clear h1 h2 h3 h4 h5 hge OW GR HB HW APP hnil
    go_wp2_with fail
    go_ret
    exact ⟨g, c, rfl, GE.out, S2.out, B2.out⟩
set_option maxRecDepth 10000 in
theorem insertion_one (v f : Value) (w : World) : Calls Tryz.prog 95 #[v, .int .i64 0, .int .i64 1, f] w fun e w' => e = .returned (.tuple #[]) ∧ w = w' := by
  go_enter Tryz.func95, Tryz.ntmps95
  go_wp2_with fail
  go_loopw [8] (fun i wr => i = .int .i64 1 ∧ w = wr) (fun _ _ => 1)
  case atStart => exact ⟨rfl, rfl⟩
  case round =>
  obtain ⟨rfl, rfl⟩ := hrel
  go_wp2_with fail
  go_end0
  exact ⟨rfl, rfl⟩
set_option maxHeartbeats 4000000 in
set_option maxRecDepth 10000 in
theorem pdq_one (v f : Value) (l : Int) (w : World) : Calls Tryz.prog 71 #[v, .int .i64 0, .int .i64 1, .int .i64 l, f] w fun e w' => e = .returned (.tuple #[]) ∧ w = w' := by
  go_enter Tryz.func71, Tryz.ntmps71
  go_wp2_with fail
  go_loopw [1, 2, 3, 10, 11] (fun a b _ _ _ wr => a = .int .i64 0 ∧ b = .int .i64 1 ∧ w = wr) (fun _ _ _ _ _ _ => 1)
  case atStart => exact ⟨rfl, rfl, rfl⟩
  case round =>
  obtain ⟨rfl, rfl, rfl⟩ := hrel
  go_wp2_with fail
  refine (insertion_one v f w).mono ?_
  rintro e w1 ⟨rfl, rfl⟩
  go_wp2_with fail
  refine bodyPost_ret (results_none rfl _ _ _) rfl ⟨rfl, rfl⟩
set_option maxHeartbeats 4000000 in
set_option maxRecDepth 10000 in
theorem len64_one (w : World) : Calls Tryz.prog 104 #[.int .u64 1] w fun e w' => ∃ l, e = .returned (.int .i64 l) ∧ w = w' := by
  go_enter Tryz.func104, Tryz.ntmps104
  go_wp2_with fail
  go_ret
  exact ⟨_, rfl, rfl⟩
set_option maxRecDepth 10000 in
theorem len_one (w : World) : Calls Tryz.prog 72 #[.int .u64 1] w fun e w' => ∃ l, e = .returned (.int .i64 l) ∧ w = w' := by
  go_enter Tryz.func72, Tryz.ntmps72
  go_wp2_with fail
  refine (len64_one w).mono ?_
  rintro e w1 ⟨l, rfl, rfl⟩
  go_wp2_with fail
  go_ret
  exact ⟨_, rfl, rfl⟩
set_option maxRecDepth 10000 in
theorem sort_one (ao : Option Addr) (c : Nat) (f : Value) (w : World) : Calls Tryz.prog 50 #[.slice ao 1 c, f] w fun e w' => e = .returned (.tuple #[]) ∧ w = w' := by
  go_enter Tryz.func50, Tryz.ntmps50
  go_wp2_with fail
  refine (len_one w).mono ?_
  rintro e w1 ⟨l, rfl, rfl⟩
  go_wp2_with fail
  refine (pdq_one _ _ _ w).mono ?_
  rintro e w1 ⟨rfl, rfl⟩
  go_wp2_with fail
  go_end0
  exact ⟨rfl, rfl⟩
end Go.Proofs.YthjlhngjpbmieaaGreatDoor
namespace Go.Proofs.YthjlhngjpbmieaaGreatDoor
open Go.RowKit

theorem sh_cells {w : World} {g : Nat} {x y : Value} (h : w.heap[g]? = some (.cells #[x, y] 37 (0, 0))) : w.cell? ⟨g, 0, none⟩ = some x ∧ w.cell? ⟨g, 1, none⟩ = some y :=
  ⟨by rw [cell_of_row w g 0 _ 37 _ h]; rfl, by rw [cell_of_row w g 1 _ 37 _ h]; rfl⟩
set_option maxHeartbeats 4000000 in
set_option maxRecDepth 10000 in
theorem inOrder_one (b off cap n : Nat) (ab : Option Addr) (cb : Nat) (w : World) (h0 : w.cell? ⟨b, off, none⟩ = some (.int .i64 (n : Int))) (h1 : w.cell? ⟨b, off + 1, none⟩ = some (.slice ab 1024 cb)) (hn : n < 512) :
   Calls Tryz.prog 30 #[.slice (some ⟨b, off, none⟩) 1 cap] w fun e w' => ∃ g c, e = .returned (.tuple #[.slice (some ⟨g, 0, none⟩) 1 c, .bool true]) ∧ w.heap.size ≤ g ∧ Sh1 w' g n (.slice ab 1024 cb) ∧ Below w.heap.size w w' := by
  have H0 := hide h0
  have H1 := hide h1
  clear h0 h1
  go_enter Tryz.func30, Tryz.ntmps30
  go_wp2_with fail
  refine (pclone_one b off cap n (.slice ab 1024 cb) w H0.out H1.out rfl).mono ?_
  rintro e w1 ⟨g, c, rfl, hg, hs, b1⟩
  have S1 := hide hs
  have B1 := hide b1
  have HG : Hid (w.heap.size ≤ g) := hg
  clear hs b1 hg H0 H1
  go_wp2_with fail
  refine (sort_one (some ⟨g, 0, none⟩) c _ w1).mono ?_
  rintro e w2 ⟨rfl, rfl⟩
  go_wp2_with fail
  go_loopw [15] (fun i wr => (i = .int .i64 0 ∧ w1 = wr) ∨ (i = .int .i64 1 ∧ Sh1 wr g n (.slice ab 1024 cb) ∧ Below w.heap.size w wr)) (fun i _ => 1 - (intOf i).toNat)
  case atStart => exact Or.inl ⟨rfl, rfl⟩
  case round =>
  rcases hrel with ⟨rfl, rfl⟩ | ⟨rfl, hs, hb⟩
  · obtain ⟨c0, c1⟩ := S1.out.cells
    obtain ⟨w5, hw5⟩ : ∃ w5, w5 = w1.alloc (.cells #[.int .i64 (n : Int), .slice ab 1024 cb] 37) := ⟨_, rfl⟩
    have b5 : Below w1.heap.size w1 w5 := by rw [hw5]; exact (Below.refl _ _).alloc (Nat.le_refl _) _
    have R5 : Hid (w5.heap[w1.heap.size]? = some (.cells #[.int .i64 (n : Int), .slice ab 1024 cb] 37 (0, 0))) := by rw [hw5]; exact heap_alloc_new _ _
    have S5 := hide (S1.out.below b5)
    have B5 := hide (B1.out.trans (b5.mono B1.out.size))
    obtain ⟨g5, hg5⟩ : ∃ g5, g5 = w1.heap.size := ⟨_, rfl⟩
    rw [← hg5] at R5
    clear b5 S1 B1
    go_upto_region 8 with fail
    rw [← hw5, ← hg5]
    clear hw5 hg5 c0 c1
    refine wp_region_noPanic ?_
    refine wp_region_held_drew (S := (fun W => W.heap[g5]? = some (.cells #[.int .i64 (n : Int), .slice ab 1024 cb] 37 (0, 0)))) follows R5.out (fun hHeld => ?_)
    have S5d := hide (S5.out.below (Below.refl w5.heap.size w5).drew)
    have B5d : Hid (Below w.heap.size w w5.drew) := B5.out.drew
    clear S5 B5 R5
    generalize w5.drew = Z1 at S5d B5d hHeld ⊢
    refine wpAnyH_take (i := 0) (oi := { dst := some 20, op := Op.fieldAddr 37 (Operand.tmp 5) 0, type := 0, pos := "pages.go:113", after := #[], guard := none }) (v := ?_) rfl (by kernel_rfl) (by kernel_rfl) (by kernel_rfl) (fun _ _ _ h => h) (Or.inl ⟨by rfl, ?_⟩) (by assumption) ?_
    rotate_left
    · intro w hSw
      clear hSw
      go_simp
      all_goals with_reducible rfl
    simp only [Act.put, List.setIfInBounds_toArray, List.set_cons_zero, List.set_cons_succ]
    refine wpAnyH_take (i := 1) (oi := { dst := some 21, op := Op.load 3 (Operand.tmp 20), type := 3, pos := "pages.go:113", after := #[{ on := 0, ground := Ground.data }], guard := none }) (v := ?_) rfl (by kernel_rfl) (by kernel_rfl) (by kernel_rfl) (fun _ _ _ h => h) (Or.inl ⟨by rfl, ?_⟩) (by assumption) ?_
    rotate_left
    · intro w hSw
      have c0 := (sh_cells hSw).1
      clear hSw
      go_simp
      all_goals with_reducible rfl
    simp only [Act.put, List.setIfInBounds_toArray, List.set_cons_zero, List.set_cons_succ]
    refine wpAnyH_ready (rs := [2]) (by kernel_rfl) (by simp) ?_
    refine AllReadyH.cons (o := { dst := some 22, op := Op.call { callee := Callee.value (Operand.func 24), args := #[Operand.tmp 21], argTypes := #[3] }, type := 4, pos := "pages.go:113", after := #[{ on := 1, ground := Ground.data }], guard := none }) rfl (fun K hK => ?_) AllReadyH.nil
    go_simp
    refine (isPage_yes n hn Z1).mono ?_
    rintro e Z2 ⟨rfl, rfl⟩
    refine hK.out _ _ hHeld (fun hHeld => ?_)
    clear hK K
    try simp only [Act.put, List.setIfInBounds_toArray, List.set_cons_zero, List.set_cons_succ]
    refine wpAnyH_take (i := 3) (oi := { dst := some 23, op := Op.unOp UnOp.not 4 (Operand.tmp 22), type := 4, pos := "pages.go:113", after := #[{ on := 2, ground := Ground.data }], guard := none }) (v := ?_) rfl (by kernel_rfl) (by kernel_rfl) (by kernel_rfl) (fun _ _ _ h => h) (Or.inl ⟨by rfl, ?_⟩) (by assumption) ?_
    rotate_left
    · intro w hSw
      clear hSw
      go_simp
      all_goals with_reducible rfl
    simp only [Act.put, List.setIfInBounds_toArray, List.set_cons_zero, List.set_cons_succ]
    refine wpAnyH_take (i := 4) (oi := { dst := some 24, op := Op.move (Operand.tmp 23), type := 4, pos := "pages.go:113", after := #[{ on := 3, ground := Ground.data }, { on := 2, ground := Ground.chain }], guard := none }) (v := ?_) rfl (by kernel_rfl) (by kernel_rfl) (by kernel_rfl) (fun _ _ _ h => h) (Or.inl ⟨by rfl, ?_⟩) (by assumption) ?_
    rotate_left
    · intro w hSw
      clear hSw
      go_simp
      all_goals with_reducible rfl
    simp only [Act.put, List.setIfInBounds_toArray, List.set_cons_zero, List.set_cons_succ]
    refine wpAnyH_take (i := 5) (oi := { dst := some 25, op := Op.fieldAddr 37 (Operand.tmp 5) 1, type := 0, pos := "pages.go:113", after := #[{ on := 4, ground := Ground.guard }], guard := some (4, false) }) (v := ?_) rfl (by kernel_rfl) (by kernel_rfl) (by kernel_rfl) (fun _ _ _ h => h) (Or.inl ⟨by rfl, ?_⟩) (by assumption) ?_
    rotate_left
    · intro w hSw
      clear hSw
      go_simp
      all_goals with_reducible rfl
    simp only [Act.put, List.setIfInBounds_toArray, List.set_cons_zero, List.set_cons_succ]
    refine wpAnyH_take (i := 6) (oi := { dst := some 26, op := Op.load 31 (Operand.tmp 25), type := 31, pos := "pages.go:113", after := #[{ on := 5, ground := Ground.data }, { on := 4, ground := Ground.guard }], guard := some (4, false) }) (v := ?_) rfl (by kernel_rfl) (by kernel_rfl) (by kernel_rfl) (fun _ _ _ h => h) (Or.inl ⟨by rfl, ?_⟩) (by assumption) ?_
    rotate_left
    · intro w hSw
      have c1 := (sh_cells hSw).2
      clear hSw
      go_simp
      all_goals with_reducible rfl
    simp only [Act.put, List.setIfInBounds_toArray, List.set_cons_zero, List.set_cons_succ]
    refine wpAnyH_take (i := 7) (oi := { dst := some 27, op := Op.call { callee := Callee.builtin Builtin.len, args := #[Operand.tmp 26], argTypes := #[31] }, type := 3, pos := "pages.go:113", after := #[{ on := 6, ground := Ground.data }, { on := 4, ground := Ground.guard }], guard := some (4, false) }) (v := ?_) rfl (by kernel_rfl) (by kernel_rfl) (by kernel_rfl) (fun _ _ _ h => h) (Or.inl ⟨by rfl, ?_⟩) (by assumption) ?_
    rotate_left
    · intro w hSw
      clear hSw
      go_simp
      all_goals with_reducible rfl
    simp only [Act.put, List.setIfInBounds_toArray, List.set_cons_zero, List.set_cons_succ]
    refine wpAnyH_take (i := 8) (oi := { dst := some 28, op := Op.binOp BinOp.neq 3 (Operand.tmp 27) (Operand.const (Value.int IntKind.i64 1024)) 3, type := 4, pos := "pages.go:113", after := #[{ on := 7, ground := Ground.data }, { on := 4, ground := Ground.guard }], guard := some (4, false) }) (v := ?_) rfl (by kernel_rfl) (by kernel_rfl) (by kernel_rfl) (fun _ _ _ h => h) (Or.inl ⟨by rfl, ?_⟩) (by assumption) ?_
    rotate_left
    · intro w hSw
      clear hSw
      go_simp
      all_goals with_reducible rfl
    simp only [Act.put, List.setIfInBounds_toArray, List.set_cons_zero, List.set_cons_succ]
    refine wpAnyH_take (i := 9) (oi := { dst := some 29, op := Op.pick (Operand.tmp 24) (Operand.const (Value.bool true)) (Operand.tmp 28), type := 4, pos := "pages.go:113", after := #[{ on := 4, ground := Ground.data }, { on := 8, ground := Ground.data }], guard := none }) (v := ?_) rfl (by kernel_rfl) (by kernel_rfl) (by kernel_rfl) (fun _ _ _ h => h) (Or.inl ⟨by rfl, ?_⟩) (by assumption) ?_
    rotate_left
    · intro w hSw
      clear hSw
      go_simp
      all_goals with_reducible rfl
    simp only [Act.put, List.setIfInBounds_toArray, List.set_cons_zero, List.set_cons_succ]
    refine wpAnyH_take (i := 10) (oi := { dst := some 30, op := Op.move (Operand.tmp 29), type := 4, pos := "pages.go:113", after := #[{ on := 9, ground := Ground.data }, { on := 4, ground := Ground.chain }], guard := none }) (v := ?_) rfl (by kernel_rfl) (by kernel_rfl) (by kernel_rfl) (fun _ _ _ h => h) (Or.inl ⟨by rfl, ?_⟩) (by assumption) ?_
    rotate_left
    · intro w hSw
      clear hSw
      go_simp
      all_goals with_reducible rfl
    simp only [Act.put, List.setIfInBounds_toArray, List.set_cons_zero, List.set_cons_succ]
    refine wpAnyH_take (i := 11) (oi := { dst := some 31, op := Op.move (Operand.tmp 4), type := 3, pos := "pages.go:113", after := #[{ on := 10, ground := Ground.guard }], guard := some (10, false) }) (v := ?_) rfl (by kernel_rfl) (by kernel_rfl) (by kernel_rfl) (fun _ _ _ h => h) (Or.inl ⟨by rfl, ?_⟩) (by assumption) ?_
    rotate_left
    · intro w hSw
      clear hSw
      go_simp
      all_goals with_reducible rfl
    simp only [Act.put, List.setIfInBounds_toArray, List.set_cons_zero, List.set_cons_succ]
    refine wpAnyH_take (i := 12) (oi := { dst := some 32, op := Op.binOp BinOp.gtr 3 (Operand.tmp 31) (Operand.const (Value.int IntKind.i64 0)) 3, type := 4, pos := "pages.go:113", after := #[{ on := 11, ground := Ground.data }, { on := 10, ground := Ground.guard }], guard := some (10, false) }) (v := ?_) rfl (by kernel_rfl) (by kernel_rfl) (by kernel_rfl) (fun _ _ _ h => h) (Or.inl ⟨by rfl, ?_⟩) (by assumption) ?_
    rotate_left
    · intro w hSw
      clear hSw
      go_simp
      all_goals with_reducible rfl
    simp only [Act.put, List.setIfInBounds_toArray, List.set_cons_zero, List.set_cons_succ]
    refine wpAnyH_take (i := 13) (oi := { dst := some 33, op := Op.move (Operand.tmp 32), type := 4, pos := "pages.go:113", after := #[{ on := 12, ground := Ground.data }, { on := 10, ground := Ground.chain }, { on := 10, ground := Ground.guard }], guard := some (10, false) }) (v := ?_) rfl (by kernel_rfl) (by kernel_rfl) (by kernel_rfl) (fun _ _ _ h => h) (Or.inl ⟨by rfl, ?_⟩) (by assumption) ?_
    rotate_left
    · intro w hSw
      clear hSw
      go_simp
      all_goals with_reducible rfl
    simp only [Act.put, List.setIfInBounds_toArray, List.set_cons_zero, List.set_cons_succ]
    refine wpAnyH_take (i := 14) (oi := { dst := some 34, op := Op.move (Operand.tmp 0), type := 38, pos := "pages.go:113", after := #[{ on := 13, ground := Ground.guard }], guard := some (13, true) }) (v := undef) rfl (by kernel_rfl) (by kernel_rfl) (by kernel_rfl) (fun _ _ _ h => h) (Or.inr ⟨by rfl, rfl⟩) (by assumption) ?_
    simp only [Act.put, List.setIfInBounds_toArray, List.set_cons_zero, List.set_cons_succ]
    refine wpAnyH_take (i := 15) (oi := { dst := some 35, op := Op.move (Operand.tmp 4), type := 3, pos := "pages.go:113", after := #[{ on := 13, ground := Ground.guard }], guard := some (13, true) }) (v := undef) rfl (by kernel_rfl) (by kernel_rfl) (by kernel_rfl) (fun _ _ _ h => h) (Or.inr ⟨by rfl, rfl⟩) (by assumption) ?_
    simp only [Act.put, List.setIfInBounds_toArray, List.set_cons_zero, List.set_cons_succ]
    refine wpAnyH_take (i := 16) (oi := { dst := some 36, op := Op.binOp BinOp.sub 3 (Operand.tmp 35) (Operand.const (Value.int IntKind.i64 1)) 3, type := 3, pos := "pages.go:113", after := #[{ on := 15, ground := Ground.data }, { on := 13, ground := Ground.guard }], guard := some (13, true) }) (v := undef) rfl (by kernel_rfl) (by kernel_rfl) (by kernel_rfl) (fun _ _ _ h => h) (Or.inr ⟨by rfl, rfl⟩) (by assumption) ?_
    simp only [Act.put, List.setIfInBounds_toArray, List.set_cons_zero, List.set_cons_succ]
    refine wpAnyH_take (i := 17) (oi := { dst := some 37, op := Op.indexAddr 38 (Operand.tmp 34) (Operand.tmp 36), type := 0, pos := "pages.go:113", after := #[{ on := 14, ground := Ground.data }, { on := 16, ground := Ground.data }, { on := 13, ground := Ground.guard }], guard := some (13, true) }) (v := undef) rfl (by kernel_rfl) (by kernel_rfl) (by kernel_rfl) (fun _ _ _ h => h) (Or.inr ⟨by rfl, rfl⟩) (by assumption) ?_
    simp only [Act.put, List.setIfInBounds_toArray, List.set_cons_zero, List.set_cons_succ]
    refine wpAnyH_take (i := 18) (oi := { dst := some 38, op := Op.fieldAddr 37 (Operand.tmp 37) 0, type := 0, pos := "pages.go:113", after := #[{ on := 17, ground := Ground.data }, { on := 13, ground := Ground.guard }], guard := some (13, true) }) (v := undef) rfl (by kernel_rfl) (by kernel_rfl) (by kernel_rfl) (fun _ _ _ h => h) (Or.inr ⟨by rfl, rfl⟩) (by assumption) ?_
    simp only [Act.put, List.setIfInBounds_toArray, List.set_cons_zero, List.set_cons_succ]
    refine wpAnyH_take (i := 19) (oi := { dst := some 39, op := Op.load 3 (Operand.tmp 38), type := 3, pos := "pages.go:113", after := #[{ on := 18, ground := Ground.data }, { on := 13, ground := Ground.guard }], guard := some (13, true) }) (v := undef) rfl (by kernel_rfl) (by kernel_rfl) (by kernel_rfl) (fun _ _ _ h => h) (Or.inr ⟨by rfl, rfl⟩) (by assumption) ?_
    simp only [Act.put, List.setIfInBounds_toArray, List.set_cons_zero, List.set_cons_succ]
    refine wpAnyH_take (i := 20) (oi := { dst := some 40, op := Op.fieldAddr 37 (Operand.tmp 5) 0, type := 0, pos := "pages.go:113", after := #[{ on := 13, ground := Ground.guard }], guard := some (13, true) }) (v := undef) rfl (by kernel_rfl) (by kernel_rfl) (by kernel_rfl) (fun _ _ _ h => h) (Or.inr ⟨by rfl, rfl⟩) (by assumption) ?_
    simp only [Act.put, List.setIfInBounds_toArray, List.set_cons_zero, List.set_cons_succ]
    refine wpAnyH_take (i := 21) (oi := { dst := some 41, op := Op.load 3 (Operand.tmp 40), type := 3, pos := "pages.go:113", after := #[{ on := 20, ground := Ground.data }, { on := 13, ground := Ground.guard }], guard := some (13, true) }) (v := undef) rfl (by kernel_rfl) (by kernel_rfl) (by kernel_rfl) (fun _ _ _ h => h) (Or.inr ⟨by rfl, rfl⟩) (by assumption) ?_
    simp only [Act.put, List.setIfInBounds_toArray, List.set_cons_zero, List.set_cons_succ]
    refine wpAnyH_take (i := 22) (oi := { dst := some 42, op := Op.binOp BinOp.eql 3 (Operand.tmp 39) (Operand.tmp 41) 3, type := 4, pos := "pages.go:113", after := #[{ on := 19, ground := Ground.data }, { on := 21, ground := Ground.data }, { on := 13, ground := Ground.guard }], guard := some (13, true) }) (v := undef) rfl (by kernel_rfl) (by kernel_rfl) (by kernel_rfl) (fun _ _ _ h => h) (Or.inr ⟨by rfl, rfl⟩) (by assumption) ?_
    simp only [Act.put, List.setIfInBounds_toArray, List.set_cons_zero, List.set_cons_succ]
    refine wpAnyH_take (i := 23) (oi := { dst := some 43, op := Op.pick (Operand.tmp 33) (Operand.tmp 42) (Operand.const (Value.bool false)), type := 4, pos := "pages.go:113", after := #[{ on := 13, ground := Ground.data }, { on := 22, ground := Ground.data }, { on := 10, ground := Ground.guard }], guard := some (10, false) }) (v := ?_) rfl (by kernel_rfl) (by kernel_rfl) (by kernel_rfl) (fun _ _ _ h => h) (Or.inl ⟨by rfl, ?_⟩) (by assumption) ?_
    rotate_left
    · intro w hSw
      clear hSw
      go_simp
      all_goals with_reducible rfl
    simp only [Act.put, List.setIfInBounds_toArray, List.set_cons_zero, List.set_cons_succ]
    refine wpAnyH_take (i := 24) (oi := { dst := some 44, op := Op.pick (Operand.tmp 30) (Operand.const (Value.bool true)) (Operand.tmp 43), type := 4, pos := "pages.go:113", after := #[{ on := 10, ground := Ground.data }, { on := 23, ground := Ground.data }], guard := none }) (v := ?_) rfl (by kernel_rfl) (by kernel_rfl) (by kernel_rfl) (fun _ _ _ h => h) (Or.inl ⟨by rfl, ?_⟩) (by assumption) ?_
    rotate_left
    · intro w hSw
      clear hSw
      go_simp
      all_goals with_reducible rfl
    simp only [Act.put, List.setIfInBounds_toArray, List.set_cons_zero, List.set_cons_succ]
    refine wpAnyH_done (by kernel_rfl) ?_ _
    refine NoPanic.normal ?_
    clear hHeld
    go_wp2_with fail
    go_roundw
    case rel => exact Or.inr ⟨by go_num, S5d.out, B5d.out⟩
    case measure => simp [intOf]
  · have S6 := hide hs
    have B6 := hide hb
    clear hs hb
    go_wp2_with fail
    go_ret2
    exact ⟨g, c, rfl, HG.out, S6.out, B6.out⟩
end Go.Proofs.YthjlhngjpbmieaaGreatDoor
namespace Go.Proofs.YthjlhngjpbmieaaGreatDoor
open Go.RowKit

set_option maxHeartbeats 4000000 in
set_option maxRecDepth 10000 in
theorem putSpares_one (o : Ow) (d : S.Dk) (g c n bk off cb : Nat) (x : List UInt8) (w : World) (hd : DkIs w o d) (hl : 7680 ≤ d.safe.length) (hs : Sh1 w g n (.slice (some ⟨bk, off, none⟩) 1024 cb)) (hv : SliceAt w (.slice (some ⟨bk, off, none⟩) 1024 cb) x) (hfar : ¬ o.has bk) (hpe : d.pend.length ≤ 1000) :
   Calls Tryz.prog 32 #[o.ptr, .slice (some ⟨g, 0, none⟩) 1 c] w (Does d ((S.pageWs 4101 x 8).acts ++ [.flush]) o w) := by
  have HD := hide hd
  have HS := hide hs
  have HV := hide hv
  have HFAR := hide hfar
  have HLEN : Hid (7680 ≤ d.safe.length) := hl
  have NG6 : Hid (¬ o.has w.heap.size) := fun e => by have := hd.lt _ e; omega
  obtain ⟨A8, hA8⟩ : ∃ A8, A8 = (S.pageWs 4101 x 8).acts := ⟨_, rfl⟩
  have L8 : Hid (A8.length = 8) := by rw [hA8]; show (S.Ws.acts (S.pageWs 4101 x 8)).length = 8; unfold S.Ws.acts; rw [List.length_map, S.pageWs_length]
  have HA8 := hide hA8
  rw [← hA8]
  clear hd hs hv hfar hl hA8
  go_enter Tryz.func32, Tryz.ntmps32
  go_wp2_with fail
  go_loopw [10] (fun i wr => (i = .int .i64 0 ∧ w = wr) ∨ (i = .int .i64 1 ∧ ∃ d1 o1, d.plan A8 = (d1, true) ∧ DkIs wr o1 d1 ∧ DkTo o w o1 wr)) (fun i _ => 1 - (intOf i).toNat)
  case atStart => exact Or.inl ⟨rfl, rfl⟩
  case round =>
  rcases hrel with ⟨rfl, rfl⟩ | ⟨rfl, d1, o1, hpl, hdk, hto⟩
  · obtain ⟨c0, c1⟩ := HS.out.cells
    obtain ⟨w5, hw5⟩ : ∃ w5, w5 = w.alloc (.cells #[.int .i64 (n : Int), .slice (some ⟨bk, off, none⟩) 1024 cb] 37) := ⟨_, rfl⟩
    have b5 : Below w.heap.size w w5 := by rw [hw5]; exact (Below.refl _ _).alloc (Nat.le_refl _) _
    have R5 : Hid (w5.heap[w.heap.size]? = some (.cells #[.int .i64 (n : Int), .slice (some ⟨bk, off, none⟩) 1024 cb] 37 (0, 0))) := by rw [hw5]; exact heap_alloc_new _ _
    have D5 := hide (HD.out.below b5)
    have B5 := hide b5
    have V5 := hide (HV.out.below b5 (Nat.le_refl _))
    obtain ⟨g6, hg6⟩ : ∃ g6, g6 = w.heap.size := ⟨_, rfl⟩
    rw [← hg6] at R5 NG6
    clear b5 HD HS HV
    go_upto_region 4 with fail
    rw [← hw5, ← hg6]
    clear hw5 hg6 c0 c1
    refine wp_region_noPanic ?_
    refine wp_region_held_drew (S := (fun W => W.heap[g6]? = some (.cells #[.int .i64 (n : Int), .slice (some ⟨bk, off, none⟩) 1024 cb] 37 (0, 0)))) follows R5.out (fun hHeld => ?_)
    have D5d := hide (D5.out.below (Below.refl w5.heap.size w5).drew)
    have B5d : Hid (Below w.heap.size w w5.drew) := B5.out.drew
    have V5d := hide (V5.out.below (Below.refl w5.heap.size w5).drew (Nat.le_refl _))
    clear D5 B5 V5 R5
    generalize w5.drew = Z1 at D5d B5d V5d hHeld ⊢
    refine wpAnyH_take (i := 0) (oi := { dst := some 15, op := Op.move (Operand.tmp 0), type := 22, pos := "place.go:88", after := #[], guard := none }) (v := ?_) rfl (by kernel_rfl) (by kernel_rfl) (by kernel_rfl) (fun _ _ _ h => h) (Or.inl ⟨by rfl, ?_⟩) (by assumption) ?_
    rotate_left
    · intro w hSw
      clear hSw
      go_simp
      all_goals with_reducible rfl
    simp only [Act.put, List.setIfInBounds_toArray, List.set_cons_zero, List.set_cons_succ]
    refine wpAnyH_take (i := 1) (oi := { dst := some 16, op := Op.move (Operand.tmp 5), type := 3, pos := "place.go:88", after := #[], guard := none }) (v := ?_) rfl (by kernel_rfl) (by kernel_rfl) (by kernel_rfl) (fun _ _ _ h => h) (Or.inl ⟨by rfl, ?_⟩) (by assumption) ?_
    rotate_left
    · intro w hSw
      clear hSw
      go_simp
      all_goals with_reducible rfl
    simp only [Act.put, List.setIfInBounds_toArray, List.set_cons_zero, List.set_cons_succ]
    refine wpAnyH_take (i := 3) (oi := { dst := some 18, op := Op.fieldAddr 37 (Operand.tmp 6) 1, type := 0, pos := "place.go:88", after := #[], guard := none }) (v := ?_) rfl (by kernel_rfl) (by kernel_rfl) (by kernel_rfl) (fun _ _ _ h => h) (Or.inl ⟨by rfl, ?_⟩) (by assumption) ?_
    rotate_left
    · intro w hSw
      clear hSw
      go_simp
      all_goals with_reducible rfl
    simp only [Act.put, List.setIfInBounds_toArray, List.set_cons_zero, List.set_cons_succ]
    refine wpAnyH_take (i := 4) (oi := { dst := some 19, op := Op.load 31 (Operand.tmp 18), type := 31, pos := "place.go:88", after := #[{ on := 3, ground := Ground.data }], guard := none }) (v := ?_) rfl (by kernel_rfl) (by kernel_rfl) (by kernel_rfl) (fun _ _ _ h => h) (Or.inl ⟨by rfl, ?_⟩) (by assumption) ?_
    rotate_left
    · intro w hSw
      have c1 := (sh_cells hSw).2
      clear hSw
      go_simp
      all_goals with_reducible rfl
    simp only [Act.put, List.setIfInBounds_toArray, List.set_cons_zero, List.set_cons_succ]
    refine wpAnyH_ready (rs := [2]) (by kernel_rfl) (by simp) ?_
    refine AllReadyH.cons (o := { dst := some 17, op := Op.call { callee := Callee.value (Operand.func 27), args := #[Operand.tmp 16], argTypes := #[3] }, type := 3, pos := "place.go:88", after := #[{ on := 1, ground := Ground.data }], guard := none }) rfl (fun K hK => ?_) AllReadyH.nil
    go_simp
    refine (pspare_any 0 (by omega) Z1).mono ?_
    rintro e Z2 ⟨rfl, rfl⟩
    refine hK.out _ _ hHeld (fun hHeld => ?_)
    clear hK K
    try simp only [Act.put, List.setIfInBounds_toArray, List.set_cons_zero, List.set_cons_succ]
    refine wpAnyH_ready (rs := [5]) (by kernel_rfl) (by simp) ?_
    refine AllReadyH.cons (o := { dst := some 20, op := Op.call { callee := Callee.value (Operand.func 53), args := #[Operand.tmp 15, Operand.tmp 17, Operand.tmp 19], argTypes := #[22, 3, 31] }, type := 26, pos := "place.go:88", after := #[{ on := 0, ground := Ground.data }, { on := 2, ground := Ground.data }, { on := 4, ground := Ground.data }, { on := 2, ground := Ground.chain }], guard := none }) rfl (fun K hK => ?_) AllReadyH.nil
    go_simp
    refine (writePage_do o d 4101 bk off cb x Z1 D5d.out (by have := HLEN.out; omega) V5d.out HFAR.out (by omega)).mono ?_
    intro e Z2 hdo
    obtain ⟨b, d1, o1, rfl, h1, h2, h3⟩ := hdo.start
    have a2 : Z2.heap[g6]? = some (.cells #[.int .i64 (n : Int), .slice (some ⟨bk, off, none⟩) 1024 cb] 37 (0, 0)) := h3.chg.row hHeld (fun e => NG6.out e)
    rw [← HA8.out] at h1
    have H1 := hide h1
    have H2 := hide h2
    have H3 : Hid (DkTo o w o1 Z2) := h3.after B5d.out
    have hpn : o1.ptr = o.ptr := by unfold Ow.ptr; rw [h3.g]
    have HPN := hide hpn
    clear hdo h1 h2 h3 hHeld D5d B5d V5d hpn
    refine hK.out _ _ a2 (fun hHeld => ?_)
    clear hK K
    try simp only [Act.put, List.setIfInBounds_toArray, List.set_cons_zero, List.set_cons_succ]
    clear a2
    refine wpAnyH_take (i := 6) (oi := { dst := some 7, op := Op.assign (Operand.tmp 20), type := 26, pos := "place.go:88", after := #[{ on := 5, ground := Ground.data }, { on := 5, ground := Ground.chain }, { on := 0, ground := Ground.phase }, { on := 1, ground := Ground.phase }, { on := 2, ground := Ground.phase }, { on := 3, ground := Ground.phase }, { on := 4, ground := Ground.phase }, { on := 5, ground := Ground.phase }], guard := none }) (v := ?_) rfl (by kernel_rfl) (by kernel_rfl) (by kernel_rfl) (fun _ _ _ h => h) (Or.inl ⟨by rfl, ?_⟩) (by assumption) ?_
    rotate_left
    · intro w hSw
      clear hSw
      go_simp
      all_goals with_reducible rfl
    simp only [Act.put, List.setIfInBounds_toArray, List.set_cons_zero, List.set_cons_succ]
    refine wpAnyH_done (by kernel_rfl) ?_ _
    refine NoPanic.normal ?_
    clear hHeld
    cases b with
    | false =>
      have E : S.why false = 13 := rfl
      rw [E]
      go_wp2_with fail
      go_ret
      exact Does.stop (l := [.flush]) H1.out H2.out H3.out
    | true =>
      have E : S.why true = 0 := rfl
      rw [E]
      go_wp2_with fail
      go_roundw
      case rel => exact Or.inr ⟨by go_num, d1, o1, H1.out, H2.out, H3.out⟩
      case measure => simp [intOf]
  · have H1 := hide hpl
    have H2 := hide hdk
    have H3 := hide hto
    have hp1 : d1.pend.length ≤ 1000000 := by have h9 := S.Dk.plan_pend A8 d; rw [hpl, L8.out] at h9; exact Nat.le_trans h9 (by omega)
    have HP1 := hide hp1
    have hpn : o1.ptr = o.ptr := by unfold Ow.ptr; rw [hto.g]
    clear hpl hdk hto hp1
    rw [← hpn]
    clear hpn
    go_wp2_with fail
    refine (flush_do o1 d1 wr H2.out HP1.out).mono ?_
    intro e w2 hdo
    have h4 : Does d (A8 ++ [.flush]) o w e w2 := Does.on H1.out H3.out hdo
    obtain ⟨b, d2, o2, rfl, h5, h6, h7⟩ := h4.start
    have H4 := hide h4
    clear h4 h5 h6 h7 hdo
    generalize S.why b = y at H4 ⊢
    go_wp2_with fail
    go_ret
    exact H4.out
end Go.Proofs.YthjlhngjpbmieaaGreatDoor
