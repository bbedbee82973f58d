/- PagesKept: pages are new memory each time. -/
import Derived.Test.YthjlhngjpbmieaaGreatDoorJg
namespace Go.Proofs.YthjlhngjpbmieaaGreatDoor
open Go.RowKit

theorem Pg.chg {q : Nat → Prop} {w0 w W : World} {o : Ow} {d : S.Dk} {p t : Nat} {pg : Nat → List UInt8} (h : Pg w0 w o d p t pg) (hc : Chg q w W) (hq : ∀ k, (o.has k ∨ k < w0.heap.size) → ¬ q k) : Pg w0 W o d p t pg :=
  ⟨⟨h.dk.dk.chg hc (fun k hk => hq k (Or.inl hk)), h.dk.k.chg hc (hq 0 (Or.inr h.pos)), h.dk.no⟩, h.pend, h.left, h.len, h.mark, h.log, h.home, h.ob, h.below.trans (hc.below _ h.below.size (fun k hk => hq k (Or.inr hk))), h.pos⟩
/-- A row of bytes that is written, and nothing else. -/
structure Wrote (g n : Nat) (w W : World) : Prop where
  row : ∃ cur, W.heap[g]? = some (.cells cur 5 (0, 0)) ∧ n ≤ cur.size
  chg : Chg (fun k => k = g) w W
theorem Wrote.cell {g n : Nat} {w W : World} (h : Wrote g n w W) (j : Nat) (hj : j < n) : ∃ v, W.cell? ⟨g, j, none⟩ = some v := by
  obtain ⟨cur, h1, h2⟩ := h.row
  exact ⟨cur[j]'(by omega), by rw [cell_of_row W g j _ 5 _ h1]; simp [show j < cur.size by omega]⟩
theorem Wrote.frozen {g n : Nat} {w W : World} (h : Wrote g n w W) (j : Nat) : W.frozen? ⟨g, j, none⟩ = false := by
  obtain ⟨cur, h1, h2⟩ := h.row
  exact frozen_of_row _ _ j _ _ h1
theorem Wrote.put {g n : Nat} {w W : World} (h : Wrote g n w W) (j : Nat) (v : Value) : Wrote g n w (W.setCell ⟨g, j, none⟩ v) := by
  obtain ⟨cur, h1, h2⟩ := h.row
  exact ⟨⟨_, heap_setCell_same _ _ _ _ _ _ h1, by rw [Array.size_setIfInBounds]; exact h2⟩, h.chg.setCell g j v (fun _ => rfl)⟩
set_option maxHeartbeats 8000000 in
set_option maxRecDepth 10000 in
theorem pagesKept_walk (C : UInt8) (w : World) (hK : KAt w) : Calls Tryz.prog 6 #[.int .u8 (C.toNat : Int)] w fun e w' => e = .returned (.bool true) ∧ Below w.heap.size w w' := by
  have HK := hide hK
  have HP : Hid (0 < w.heap.size) := hK.pos
  clear hK
  go_enter Tryz.func6, Tryz.ntmps6
  go_wp2_with fail
  refine (pbegun_go w HK.out).mono ?_
  rintro e w1 ⟨o, gs, rfl, hp1, hst1, hng, hgs⟩
  have P1 := hide hp1
  have ST1 := hide hst1
  have NG := hide hng
  clear hp1 hst1 hng hgs
  go_wp2_with fail
  refine (page_any C w1).mono ?_
  rintro e w2 ⟨gp, rfl, hgp, hrp, b2⟩
  obtain ⟨X, hX⟩ : ∃ X, X = S.pgOf C := ⟨_, rfl⟩
  rw [← hX] at hrp
  have XL : Hid (X.length = 1024) := by rw [hX]; exact S.pgOf_length C
  have HX := hide hX
  have P2 := hide (P1.out.then b2)
  have ST2 : Hid (StAt w2 gs o) := (b2.block gs (block_lt_of_row ST1.out)).trans ST1.out
  have RP2 := hide hrp
  have NP : Hid (¬ o.has gp) := fun e => by have := P1.out.dk.dk.lt gp e; omega
  have GP : Hid (w.heap.size ≤ gp ∧ gp ≠ gs) := ⟨Nat.le_trans P1.out.below.size hgp, fun e => by have := block_lt_of_row ST1.out; omega⟩
  obtain ⟨w3, hw3⟩ : ∃ w3, w3 = w2.alloc (.cells #[.int .i64 5, .slice (some ⟨gp, 0, none⟩) 1024 1024] 37) := ⟨_, rfl⟩
  have b3 : Below w2.heap.size w2 w3 := by rw [hw3]; exact (Below.refl _ _).alloc (Nat.le_refl _) _
  have r3 : w3.heap[w2.heap.size]? = some (.cells #[.int .i64 5, .slice (some ⟨gp, 0, none⟩) 1024 1024] 37 (0, 0)) := by rw [hw3]; exact heap_alloc_new _ _
  have P3 := hide (P2.out.then b3)
  have ST3 : Hid (StAt w3 gs o) := (b3.block gs (block_lt_of_row ST2.out)).trans ST2.out
  have RP3 : Hid (w3.heap[gp]? = some (.cells (S.v8 X) 5 (0, 0))) := (b3.block gp (block_lt_of_row RP2.out)).trans RP2.out
  have V3 : Hid (SliceAt w3 (.slice (some ⟨gp, 0, none⟩) 1024 1024) X) := slice_row RP3.out XL.out.symm (by rw [XL.out]; omega)
  have CC := hide (sh_cells r3)
  obtain ⟨gh, hgh⟩ : ∃ gh, gh = w2.heap.size := ⟨_, rfl⟩
  rw [← hgh] at CC
  clear hgp hrp b2 b3 r3 P1 ST1 P2 ST2 RP2 hX
  go_wp2_with fail
  rw [← hw3, ← hgh]
  clear hw3 hgh
  refine (pput_one w w3 o _ 0 0 gs 5 gh 0 1 gp 0 1024 _ X P3.out ST3.out CC.out.1 CC.out.2 V3.out NP.out NG.out (by omega) (by omega)).mono ?_
  rintro e w4 ⟨rfl, o4, d4, hg4, hp4, hst4, hc4, ho4⟩
  obtain ⟨pg, hpg⟩ : ∃ pg : Nat → List UInt8, pg = fun m => if m = 5 then X else S.zeros 1024 := ⟨_, rfl⟩
  have P4 : Hid (Pg w w4 o4 d4 0 2 pg) := by rw [hpg]; exact hp4
  have HPG : Hid (pg 5 = X) := by rw [hpg]; show (if 5 = 5 then X else _) = X; rw [if_pos rfl]
  have ST4 := hide hst4
  have h3p := block_lt_of_row RP3.out
  have NP4 : Hid (¬ o4.has gp) := fun e => by
    rcases ho4 _ e with e | e
    · exact NP.out e
    · omega
  have WR4 : Hid (Wrote gp 1024 w4 w4) := ⟨⟨_, hc4.row RP3.out NP.out, by rw [S.v8_size, XL.out]; exact Nat.le_refl _⟩, Chg.refl _ _⟩
  clear hg4 hp4 hst4 hc4 ho4 P3 ST3 CC V3 NP NG RP3 h3p hpg
  go_wp2_with fail
  go_loopw [7] (fun i wr => ∃ k : Nat, k ≤ 1024 ∧ i = .int .i64 (k : Int) ∧ Wrote gp 1024 w4 wr) (fun i _ => 1024 - (intOf i).toNat)
  case atStart => exact ⟨0, Nat.zero_le _, rfl, WR4.out⟩
  case round =>
  obtain ⟨k, hk, rfl, hwr⟩ := hrel
  by_cases hlt : k < 1024
  · obtain ⟨v, cv⟩ := hwr.cell k hlt
    have f1 := hwr.frozen k
    have WR := hide (hwr.put k (.int .u8 9))
    have q1 : (0 : Int) ≤ (k : Int) := by omega
    have q2 : (k : Int) < 1024 := by omega
    have q4 : IntKind.i64.wrap ((k : Int) + 1) = (k : Int) + 1 := by rw [IntKind.wrap_i64]; omega
    clear hwr
    go_wp2
    go_roundw
    case rel => exact ⟨k + 1, by omega, by go_num, WR.out⟩
    case measure => simp [intOf]; omega
  · obtain rfl : k = 1024 := by omega
    have P5 : Hid (Pg w wr o4 d4 0 2 pg) := P4.out.chg hwr.chg (fun k hk e => by
      subst e
      rcases hk with hk | hk
      · exact NP4.out hk
      · have := GP.out.1; omega)
    have ST5 : Hid (StAt wr gs o4) := hwr.chg.row ST4.out (fun e => GP.out.2 e.symm)
    clear hwr P4 ST4 WR4 NP4 GP hlt hk
    go_wp2_with fail
    refine (pread_go w wr o4 d4 0 2 gs 5 pg P5.out ST5.out (by omega)).mono ?_
    rintro e w6 ⟨gx, rfl, hgx, hrx, hp6, hst6, b6⟩
    rw [HPG.out] at hrx
    have P6 := hide hp6
    have ST6 := hide hst6
    have hs5 := P5.out.below.size
    have GX : Hid (w.heap.size ≤ gx ∧ ¬ o4.has gx ∧ gs ≠ gx) := ⟨by omega, fun e => by have := P5.out.dk.dk.lt gx e; omega, fun e => by have := block_lt_of_row ST5.out; omega⟩
    have WR6 : Hid (Wrote gx 1024 w6 w6) := by
      obtain ⟨cur, h1, h2, _⟩ := hrx
      exact ⟨⟨cur, h1, by omega⟩, Chg.refl _ _⟩
    clear hgx hrx hp6 hst6 b6 P5 ST5 hs5
    go_wp2_with fail
    go_loopw [10] (fun i wq => ∃ k : Nat, k ≤ 1024 ∧ i = .int .i64 (k : Int) ∧ Wrote gx 1024 w6 wq) (fun i _ => 1024 - (intOf i).toNat)
    case atStart => exact ⟨0, Nat.zero_le _, rfl, WR6.out⟩
    case round =>
    obtain ⟨k, hk, rfl, hwr⟩ := hrel
    by_cases hlt : k < 1024
    · obtain ⟨v, cv⟩ := hwr.cell k hlt
      have f1 := hwr.frozen k
      have WR := hide (hwr.put k (.int .u8 8))
      have q1 : (0 : Int) ≤ (k : Int) := by omega
      have q2 : (k : Int) < 1024 := by omega
      have q4 : IntKind.i64.wrap ((k : Int) + 1) = (k : Int) + 1 := by rw [IntKind.wrap_i64]; omega
      clear hwr
      go_wp2
      go_roundw
      case rel => exact ⟨k + 1, by omega, by go_num, WR.out⟩
      case measure => simp [intOf]; omega
    · obtain rfl : k = 1024 := by omega
      have P7 : Hid (Pg w _ o4 d4 0 2 pg) := P6.out.chg hwr.chg (fun k hk e => by
        subst e
        rcases hk with hk | hk
        · exact GX.out.2.1 hk
        · have := GX.out.1; omega)
      have ST7 : Hid (StAt _ gs o4) := hwr.chg.row ST6.out (fun e => GX.out.2.2 e)
      clear hwr P6 ST6 WR6 GX hlt hk
      go_wp2_with fail
      refine (pread_go w _ o4 d4 0 2 gs 5 pg P7.out ST7.out (by omega)).mono ?_
      rintro e w9 ⟨gy, rfl, hgy, hry, hp9, hst9, b9⟩
      rw [HPG.out] at hry
      have SY : Hid (SliceAt w9 (.slice (some ⟨gy, 0, none⟩) 1024 1024) X) := by
        have h1 := hry.sliceAt (by rw [XL.out]; omega)
        rw [XL.out] at h1
        exact h1
      have B9 : Hid (Below w.heap.size w w9) := hp9.below
      clear hgy hry hp9 hst9 b9 P7 ST7
      go_upto_region 17 with fail
      refine wp_region_noPanic ?_
      refine wp_region_held_drew (S := (fun W => SliceAt W (.slice (some ⟨gy, 0, none⟩) 1024 1024) X)) follows SY.out (fun hHeld => ?_)
      have Bd : Hid (Below w.heap.size w w9.drew) := B9.out.drew
      clear B9 SY
      generalize w9.drew = Z1 at Bd hHeld ⊢
      refine wpAnyH_take (i := 0) (oi := { dst := some 56, op := Op.move (Operand.tmp 11), type := 31, pos := "law.go:227", after := #[], guard := none }) (v := ?_) rfl (by kernel_rfl) (by kernel_rfl) (by kernel_rfl) (fun _ _ _ h => h) (Or.inl ⟨by rfl, ?_⟩) (by assumption) ?_
      rotate_left
      · intro w hSw
        clear hSw
        go_simp
        all_goals with_reducible rfl
      simp only [Act.put, List.setIfInBounds_toArray, List.set_cons_zero, List.set_cons_succ]
      refine wpAnyH_take (i := 1) (oi := { dst := some 57, op := Op.convert 31 9 (Operand.tmp 56), type := 9, pos := "law.go:227", after := #[{ on := 0, ground := Ground.data }], guard := none }) (v := .string ⟨(X).toArray⟩) rfl (by kernel_rfl) (by kernel_rfl) (by kernel_rfl) (fun _ _ _ h => h) (yieldsIf_conv (by kernel_rfl) (.tmp 56) rfl (.slice (some ⟨gy, 0, none⟩) 1024 1024) rfl (X) (fun W hW => hW)) (by assumption) ?_
      simp only [Act.put, List.setIfInBounds_toArray, List.set_cons_zero, List.set_cons_succ]
      refine wpAnyH_take (i := 2) (oi := { dst := some 58, op := Op.move (Operand.tmp 0), type := 5, pos := "law.go:227", after := #[], guard := none }) (v := ?_) rfl (by kernel_rfl) (by kernel_rfl) (by kernel_rfl) (fun _ _ _ h => h) (Or.inl ⟨by rfl, ?_⟩) (by assumption) ?_
      rotate_left
      · intro w hSw
        clear hSw
        go_simp
        all_goals with_reducible rfl
      simp only [Act.put, List.setIfInBounds_toArray, List.set_cons_zero, List.set_cons_succ]
      refine wpAnyH_ready (rs := [3]) (by kernel_rfl) (by simp) ?_
      refine AllReadyH.cons (o := { dst := some 59, op := Op.call { callee := Callee.value (Operand.func 13), args := #[Operand.tmp 58], argTypes := #[5] }, type := 31, pos := "law.go:227", after := #[{ on := 2, ground := Ground.data }], guard := none }) rfl (fun K hK => ?_) AllReadyH.nil
      go_simp
      refine (page_any C Z1).mono ?_
      rintro e Z2 ⟨g9, rfl, hg9, hr9, b9⟩
      have a2 : SliceAt Z2 (.slice (some ⟨gy, 0, none⟩) 1024 1024) X := hHeld.below b9 (Nat.le_refl _)
      have B2 := hide (Bd.out.trans (b9.mono Bd.out.size))
      have hs9 : SliceAt Z2 (.slice (some ⟨g9, 0, none⟩) 1024 1024) (S.pgOf C) := slice_row hr9 (S.pgOf_length C).symm (by rw [S.pgOf_length]; omega)
      rw [← HX.out] at hs9
      have hcv := conv_slice hs9
      clear hHeld hr9 b9 hg9 Bd hs9
      refine hK.out _ _ a2 (fun hHeld => ?_)
      clear hK K
      try simp only [Act.put, List.setIfInBounds_toArray, List.set_cons_zero, List.set_cons_succ]
      clear a2
      refine wpAnyH_ready (rs := [4]) (by kernel_rfl) (by simp) ?_
      refine AllReadyH.cons (o := { dst := some 60, op := Op.convert 31 9 (Operand.tmp 59), type := 9, pos := "law.go:227", after := #[{ on := 3, ground := Ground.data }], guard := none }) rfl (fun K hK => ?_) AllReadyH.nil
      go_simp
      clear hcv
      refine hK.out _ _ hHeld (fun hHeld => ?_)
      clear hK K
      try simp only [Act.put, List.setIfInBounds_toArray, List.set_cons_zero, List.set_cons_succ]
      refine wpAnyH_take (i := 5) (oi := { dst := some 61, op := Op.binOp BinOp.eql 9 (Operand.tmp 57) (Operand.tmp 60) 9, type := 4, pos := "law.go:227", after := #[{ on := 1, ground := Ground.data }, { on := 4, ground := Ground.data }], guard := none }) (v := ?_) rfl (by kernel_rfl) (by kernel_rfl) (by kernel_rfl) (fun _ _ _ h => h) (Or.inl ⟨by rfl, ?_⟩) (by assumption) ?_
      rotate_left
      · intro w hSw
        clear hSw
        go_simp
        all_goals with_reducible rfl
      simp only [Act.put, List.setIfInBounds_toArray, List.set_cons_zero, List.set_cons_succ]
      refine wpAnyH_take (i := 6) (oi := { dst := some 62, op := Op.move (Operand.tmp 61), type := 4, pos := "law.go:227", after := #[{ on := 5, ground := Ground.data }, { on := 3, ground := Ground.chain }], guard := none }) (v := ?_) rfl (by kernel_rfl) (by kernel_rfl) (by kernel_rfl) (fun _ _ _ h => h) (Or.inl ⟨by rfl, ?_⟩) (by assumption) ?_
      rotate_left
      · intro w hSw
        clear hSw
        go_simp
        all_goals with_reducible rfl
      simp only [Act.put, List.setIfInBounds_toArray, List.set_cons_zero, List.set_cons_succ]
      refine wpAnyH_ready (rs := [7]) (by kernel_rfl) (by simp) ?_
      refine AllReadyH.cons (o := { dst := some 63, op := Op.call { callee := Callee.value (Operand.func 15), args := #[], argTypes := #[] }, type := 4, pos := "law.go:227", after := #[{ on := 6, ground := Ground.chain }, { on := 6, ground := Ground.guard }], guard := some (6, true) }) rfl (fun K hK => ?_) AllReadyH.nil
      go_simp
      refine (pknown_go Z2 (HK.out.below B2.out HP.out)).mono ?_
      rintro e Z3 ⟨rfl, b3⟩
      have a3 : SliceAt Z3 (.slice (some ⟨gy, 0, none⟩) 1024 1024) X := hHeld.below b3 (Nat.le_refl _)
      have BF := hide (B2.out.trans (b3.mono B2.out.size))
      clear hHeld b3 B2
      refine hK.out _ _ a3 (fun hHeld => ?_)
      clear hK K
      try simp only [Act.put, List.setIfInBounds_toArray, List.set_cons_zero, List.set_cons_succ]
      clear a3
      refine wpAnyH_take (i := 8) (oi := { dst := some 64, op := Op.pick (Operand.tmp 62) (Operand.tmp 63) (Operand.const (Value.bool false)), type := 4, pos := "law.go:227", after := #[{ on := 6, ground := Ground.data }, { on := 7, ground := Ground.data }], guard := none }) (v := ?_) rfl (by kernel_rfl) (by kernel_rfl) (by kernel_rfl) (fun _ _ _ h => h) (Or.inl ⟨by rfl, ?_⟩) (by assumption) ?_
      rotate_left
      · intro w hSw
        clear hSw
        go_simp
        all_goals with_reducible rfl
      simp only [Act.put, List.setIfInBounds_toArray, List.set_cons_zero, List.set_cons_succ]
      refine wpAnyH_take (i := 9) (oi := { dst := some 2, op := Op.assign (Operand.tmp 64), type := 4, pos := "law.go:227", after := #[{ on := 8, ground := Ground.data }, { on := 7, ground := Ground.chain }, { on := 0, ground := Ground.phase }, { on := 1, ground := Ground.phase }, { on := 2, ground := Ground.phase }, { on := 3, ground := Ground.phase }, { on := 4, ground := Ground.phase }, { on := 5, ground := Ground.phase }, { on := 6, ground := Ground.phase }, { on := 7, ground := Ground.phase }, { on := 8, ground := Ground.phase }], guard := none }) (v := ?_) rfl (by kernel_rfl) (by kernel_rfl) (by kernel_rfl) (fun _ _ _ h => h) (Or.inl ⟨by rfl, ?_⟩) (by assumption) ?_
      rotate_left
      · intro w hSw
        clear hSw
        go_simp
        all_goals with_reducible rfl
      simp only [Act.put, List.setIfInBounds_toArray, List.set_cons_zero, List.set_cons_succ]
      refine wpAnyH_done (by kernel_rfl) ?_ _
      refine NoPanic.normal ?_
      clear hHeld
      go_wp2_with fail
      go_ret
      exact ⟨rfl, BF.out⟩
end Go.Proofs.YthjlhngjpbmieaaGreatDoor
