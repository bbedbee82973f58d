/- VerifyElse. -/
import Derived.Test.YtlbggkmblkhjoabDoorWn
import Derived.Test.YtlbggkmblkhjoabDoorWj
import Derived.Test.YtlbggkmblkhjoabDoorOa
import Derived.Test.YtlbggkmblkhjoabDoorOg
namespace Go.Proofs.YtlbggkmblkhjoabDoor
open Go.RowKit

theorem S.getD_le {l : List (List UInt8)} {m : Nat} (h : ∀ x ∈ l, x.length ≤ m) (j : Nat) : (l.getD j []).length ≤ m := by
  rw [List.getD_eq_getElem?_getD]
  by_cases hj : j < l.length
  · rw [List.getElem?_eq_getElem hj]; exact h _ (List.getElem_mem hj)
  · rw [List.getElem?_eq_none (by omega)]; simp
theorem Fit.of_getD {l : List (List UInt8)} {m : Nat} (h : ∀ j, (l.getD j []).length ≤ m) (hm : m ≤ 100000) : Fit l := fun b hb => by
  obtain ⟨j, hj, rfl⟩ := List.getElem_of_mem hb
  have := h j
  rw [List.getD_eq_getElem?_getD, List.getElem?_eq_getElem hj, Option.getD_some] at this
  omega
theorem Fit.snoc {l : List (List UInt8)} {b : List UInt8} (h : Fit l) (hb : b.length + 1 ≤ 140737488355000) : Fit (l ++ [b]) := fun x hx => by
  rw [List.mem_append, List.mem_singleton] at hx
  rcases hx with hx | rfl
  · exact h x hx
  · exact hb
/-- One text of a row of one's own is another one: a row again. -/
theorem TxRow.set2 {B : Nat} {w : World} {g off n cap : Nat} {bss : List (List UInt8)} (h : TxRow B w (.slice (some ⟨g, off, none⟩) n cap) bss) (k : Nat) (hk : k < bss.length) (xo : Option Addr) (xn xc : Nat) (t : List UInt8) (ht : ∀ W, Chg (fun j => j = g) w W → SliceAt W (.slice xo xn xc) t) :
    TxRow B (w.setCell ⟨g, off + k, none⟩ (.slice xo xn xc)) (.slice (some ⟨g, off, none⟩) n cap) (bss.set k t) ∧ Below g w (w.setCell ⟨g, off + k, none⟩ (.slice xo xn xc)) := by
  have hch : Chg (fun j => j = g) w (w.setCell ⟨g, off + k, none⟩ (.slice xo xn xc)) := (Chg.refl _ w).setCell g _ _ (fun _ => rfl)
  refine ⟨?_, (Below.refl _ _).setCell (p := ⟨g, off + k, none⟩) (Nat.le_refl _) _⟩
  obtain ⟨vs, h1, h2, h3, h4⟩ := h.ls
  rcases h1 with ⟨e1, _⟩ | ⟨g', off', c, cur, e1, q1, q2, q3, q4⟩
  · simp at e1
  · simp only [Value.slice.injEq, Option.some.injEq, Addr.mk.injEq, and_true] at e1
    obtain ⟨⟨rfl, rfl⟩, rfl, rfl⟩ := e1
    have hr := heap_setCell_same w g (off + k) cur 22 (.slice xo xn xc) q1
    refine ⟨vs.set k (.slice xo xn xc), Or.inr ⟨g, off, cap, _, by rw [List.length_set], hr, by simpa using q2, by rw [List.length_set]; exact q3, fun j x hx => ?_⟩, by rw [List.length_set, List.length_set]; exact h2, h3, fun j x hx => ?_⟩
    · rw [List.getElem?_set] at hx
      by_cases hjk : k = j
      · subst hjk
        rw [if_pos rfl, if_pos (by omega)] at hx
        rw [Array.getElem?_setIfInBounds, if_pos rfl, if_pos (by omega)]
        exact hx
      · rw [if_neg hjk] at hx
        rw [Array.getElem?_setIfInBounds, if_neg (by omega)]
        exact q4 j x hx
    · have hto : ∀ W, Chg (fun i => (Value.slice (some ⟨g, off, none⟩) vs.length cap).ownBlock = some i) (w.setCell ⟨g, off + k, none⟩ (.slice xo xn xc)) W → Chg (fun j => j = g) w W := fun W hW => hch.trans hW (fun i _ e => by simp only [Value.ownBlock, Option.some.injEq] at e; exact e.symm)
      rw [List.getElem?_set] at hx
      by_cases hjk : k = j
      · subst hjk
        rw [if_pos rfl, if_pos (by omega)] at hx
        simp only [Option.some.injEq] at hx
        subst hx
        refine ⟨⟨_, _, _, rfl⟩, fun W hW => ?_⟩
        rw [List.getD_eq_getElem?_getD, List.getElem?_set, if_pos rfl, if_pos hk]
        exact ht _ (hto W hW)
      · rw [if_neg hjk] at hx
        refine ⟨(h4 j x hx).1, fun W hW => ?_⟩
        rw [List.getD_eq_getElem?_getD, List.getElem?_set, if_neg hjk, ← List.getD_eq_getElem?_getD]
        exact (h4 j x hx).2 W ((hto W hW).mono (fun i _ e => by rw [e]; rfl))
set_option maxHeartbeats 16000000 in
set_option maxRecDepth 10000 in
theorem verifyElse_walk (v vb : Value) (bss : List (List UInt8)) (ix ox : Nat) (bs : List UInt8) (w : World) (hv : BsAt w v bss) (hmax : bss.length ≤ 140737488355328) (hi : ix < 18446744073709551616) (ho : ox < 18446744073709551616) (hb : SliceAt w vb bs) (hbl : bs.length + 1 ≤ 140737488355000) (hK : KAt w) :
   Calls Tryd.prog 4 #[v, .int .u64 (ix : Int), .int .u64 (ox : Int), vb] w fun e w' => e = .returned (.bool true) ∧ Below w.heap.size w w' := by
  obtain ⟨ao, cap0, rfl, hcap0⟩ := hv.form
  obtain ⟨bo, bn, bc, rfl, hbn, hbm⟩ := hb.form
  obtain ⟨N0, hN0⟩ : ∃ N, N = bss.length := ⟨_, rfl⟩
  have HV0 := hide hv
  rw [← hN0] at HV0 hmax ⊢
  have HN0 := hide hN0
  have HK := hide hK
  have h0 := hK.pos
  have BS := hide hb
  have HBL := hide hbl
  clear hK hv hcap0 hN0 hb hbl hbn hbm
  go_enter Tryd.func4, Tryd.ntmps4
  go_wp2_with fail
  refine (few_any bss _ 20 40 w (by omega) (by omega) HV0.out (by rw [← HN0.out]; exact hmax)).mono ?_
  rintro e w1 ⟨vl, rfl, t1, b1⟩
  obtain ⟨L, hL⟩ : ∃ L, L = S.few bss 20 40 := ⟨_, rfl⟩
  have hlen : L.length ≤ 20 := by rw [hL, S.few_length]; omega
  have hl40 : ∀ j, (L.getD j []).length ≤ 40 + 0 := by rw [hL]; exact S.getD_le (S.few_mem bss 20 40)
  rw [← hL] at t1
  obtain ⟨lo, lc, rfl⟩ := t1.form
  obtain ⟨N, hN⟩ : ∃ N, N = L.length := ⟨_, rfl⟩
  rw [← hN] at t1 hlen ⊢
  have T1 := hide t1
  have HN := hide hN
  have B1 := hide b1
  have H40 := hide hl40
  clear t1 b1 hL hl40 hN HV0
  go_wp2_with fail
  go_loopg [9] N (fun gk s9 wr => ∃ k : Nat, k + gk = N ∧ s9 = .int .i64 (k : Int) ∧ ∃ M : List (List UInt8), Hid (TxRow w.heap.size wr (.slice lo N lc) M) ∧ Hid (N = M.length) ∧ Hid (∀ j, (M.getD j []).length ≤ 40 + k) ∧ Hid (Below w.heap.size w wr))
  case atStart => exact ⟨0, by omega, rfl, L, T1, HN, H40, B1⟩
  case round =>
    obtain ⟨k, hk, rfl, M, TM, HM, LM, BM⟩ := hrel
    clear T1 HN B1 H40
    cases gk with
    | zero =>
      have qk : ¬ (k : Int) < (N : Int) := by omega
      have HF := hide (Fit.of_getD LM.out (by omega))
      clear LM
      by_cases hN0 : N = 0
      · have qz : (N : Int) = 0 := by omega
        clear hk
        go_wp2_with fail
        refine (known9_any wr (HK.out.below BM.out h0)).mono ?_
        rintro e wk ⟨rfl, bk⟩
        have BK := hide (BM.out.trans (bk.mono BM.out.size))
        clear bk
        go_wp2_with fail
        go_ret
        exact ⟨rfl, BK.out⟩
      · obtain ⟨i, hi'⟩ : ∃ i, i = ix % N := ⟨_, rfl⟩
        obtain ⟨o, ho'⟩ : ∃ i, i = ox % N := ⟨_, rfl⟩
        have hin : i < N := by rw [hi']; exact Nat.mod_lt _ (by omega)
        have hon : o < N := by rw [ho']; exact Nat.mod_lt _ (by omega)
        have qn : IntKind.u64.wrap (N : Int) = (N : Int) := by rw [IntKind.wrap_u64]; omega
        have qi : (ix : Int) % (N : Int) = (i : Int) := by rw [hi']; rfl
        have qo : (ox : Int) % (N : Int) = (o : Int) := by rw [ho']; rfl
        have qz : ((N : Int) == 0) = false := by simp; omega
        have qz2 : ¬ (N : Int) = 0 := by omega
        have qu : IntKind.u64.wrap (i : Int) = (i : Int) := by rw [IntKind.wrap_u64]; omega
        have qv : IntKind.u64.wrap (o : Int) = (o : Int) := by rw [IntKind.wrap_u64]; omega
        clear hk hi' ho' hN0
        go_wp2_with fail
        refine (prove_any 32 M _ i wr (by omega) (by rw [← HM.out]; omega) TM.out.bsAt HF.out (HK.out.below BM.out h0)).mono ?_
        rintro e w4 ⟨⟨vp, rfl, p4⟩, b4⟩
        obtain ⟨po, pc, rfl⟩ := p4.form
        have P4 := hide (p4.dgAt (by have := S.prove_len 32 M i 6 (by rw [← HM.out]; omega); omega) (S.prove_len32 32 M i))
        have hpp : S.prove 32 M i = S.path 32 M i := by rw [S.prove, if_pos (by rw [← HM.out]; exact hin)]
        have hp0 : S.proveNo M i = 0 := by rw [S.proveNo, if_pos (by rw [← HM.out]; exact hin)]
        rw [hp0]
        obtain ⟨ps, hps⟩ : ∃ ps, ps = S.prove 32 M i := ⟨_, rfl⟩
        have PL := hide (show ps.length ≤ 90000 by rw [hps]; have := S.prove_len 32 M i 6 (by rw [← HM.out]; omega); omega)
        have HPS := hide (hps.trans hpp)
        rw [← hps] at P4
        rw [← hps]
        have T4 := hide (TM.out.below b4)
        have B4 := hide (BM.out.trans (b4.mono BM.out.size))
        obtain ⟨pm, hpm⟩ : ∃ pm, pm = ps.length := ⟨_, rfl⟩
        rw [← hpm] at P4 ⊢
        clear p4 b4 hps hpm hpp hp0 TM BM
        go_wp2_with fail
        refine (root_any 32 _ M w4 T4.out.bsAt (by rw [← HM.out]; omega) HF.out (HK.out.below B4.out h0)).mono ?_
        rintro e w5 ⟨rfl, b5⟩
        obtain ⟨D, hD⟩ : ∃ D, D = S.root 32 M := ⟨_, rfl⟩
        have LD := hide (show D.length = 32 by rw [hD, S.root_length])
        rw [← hD]
        have TK := hide (show S.vLeaf 32 (M.getD i []) i N ps D = true by rw [hD, HPS.out, HM.out]; exact S.vLeaf_takes 32 M i (by rw [← HM.out]; omega) (by rw [← HM.out]; exact hin))
        obtain ⟨AL, Y, hal, hst, ry, by1, sy⟩ := lay_dig w5 D LD.out
        obtain ⟨gr, hgr⟩ : ∃ g, g = w5.heap.size := ⟨_, rfl⟩
        rw [← hgr] at hal hst ry
        have b4Y : Below w4.heap.size w4 Y := b5.trans (by1.mono b5.size)
        have BY := hide (B4.out.trans (b4Y.mono B4.out.size))
        have RY := hide ry
        have TY := hide (T4.out.below b4Y)
        have PY := hide (P4.out.below b4Y)
        obtain ⟨bl, offl, cl, e9, e9', e9b, hcl⟩ := TY.out.bsAt.src (by rw [← HM.out]; omega)
        simp only [Value.slice.injEq] at e9
        obtain ⟨rfl, e9n, rfl⟩ := e9
        obtain ⟨x, hx, hxs⟩ := hcl i (by rw [← HM.out]; exact hin)
        obtain ⟨xo, xl, xc, rfl, hxl, hxm⟩ := hxs.form
        obtain ⟨y, hy, hys⟩ := hcl o (by rw [← HM.out]; exact hon)
        obtain ⟨yo, yl, yc, rfl, hyl, hym⟩ := hys.form
        have CX := hide hx
        have XS := hide hxs
        have CY := hide hy
        have YS := hide hys
        have HBLT := hide e9b
        have HFX := hide (HF.out.at i (by rw [← HM.out]; exact hin))
        have HFY := hide (HF.out.at o (by rw [← HM.out]; exact hon))
        have q1 : (0 : Int) ≤ (i : Int) := by omega
        have q2 : (i : Int) < (N : Int) := by omega
        have q3 : (0 : Int) ≤ (o : Int) := by omega
        have q4 : (o : Int) < (N : Int) := by omega
        have hsz := size_dig D LD.out
        clear hD b5 by1 sy hgr ry b4Y T4 P4 B4 e9n e9' e9b hcl hx hxs hxl hxm hy hys hyl hym HPS qi qo qz qz2 qu qv
        go_upto_region 13 with (first | (with_reducible refine at_op { dst := some 13, op := Op.alloc 31, type := 0, pos := "law.go:190", after := #[], guard := none } ?_; refine wpList_alloc_known rfl 31 rfl (.pointer (some ⟨gr, 0, none⟩)) AL hal ?_) | (with_reducible refine at_op { dst := none, op := Op.store 31 (Operand.tmp 13) (Operand.tmp 55), type := 0, pos := "law.go:190", after := #[{ on := 2, ground := Ground.data }, { on := 1, ground := Ground.data }, { on := 1, ground := Ground.chain }, { on := 0, ground := Ground.phase }, { on := 1, ground := Ground.phase }, { on := 2, ground := Ground.phase }], guard := none } ?_; refine wpList_store_as rfl 31 (.tmp 13) (.tmp 55) rfl (.pointer (some ⟨gr, 0, none⟩)) (.agg (S.v8 D)) rfl rfl Y hst ?_))
        clear hal hst
        refine wp_region_noPanic ?_
        refine wp_region_held_drew (S := (fun W => Chg (fun _ => False) Y W)) follows ((Chg.refl _ _).drew) (fun hHeld => ?_)
        clear hHeld
        have hHeld : Chg (fun _ => False) Y Y.drew := (Chg.refl _ _).drew
        have CZ0 := hide hHeld
        generalize Y.drew = Z0 at CZ0 hHeld ⊢
        refine wpAnyH_take (i := 0) (oi := { dst := some 56, op := Op.move (Operand.tmp 12), type := 41, pos := "law.go:191", after := #[], guard := none }) (v := ?_) rfl (by kernel_rfl) (by kernel_rfl) (by kernel_rfl) (fun _ _ _ h => h) (Or.inl ⟨by rfl, ?_⟩) (by assumption) ?_
        rotate_left
        · intro w hSw
          clear hSw
          go_simp
          all_goals with_reducible rfl
        simp only [Act.put, List.setIfInBounds_toArray, List.set_cons_zero, List.set_cons_succ]
        refine wpAnyH_take (i := 1) (oi := { dst := some 57, op := Op.binOp BinOp.neq 41 (Operand.tmp 56) (Operand.const (Value.int IntKind.i64 0)) 41, type := 4, pos := "law.go:191", after := #[{ on := 0, ground := Ground.data }], guard := none }) (v := ?_) rfl (by kernel_rfl) (by kernel_rfl) (by kernel_rfl) (fun _ _ _ h => h) (Or.inl ⟨by rfl, ?_⟩) (by assumption) ?_
        rotate_left
        · intro w hSw
          clear hSw
          go_simp
          all_goals with_reducible rfl
        simp only [Act.put, List.setIfInBounds_toArray, List.set_cons_zero, List.set_cons_succ]
        refine wpAnyH_take (i := 2) (oi := { dst := some 58, op := Op.move (Operand.tmp 57), type := 4, pos := "law.go:191", after := #[{ on := 1, ground := Ground.data }], guard := none }) (v := ?_) rfl (by kernel_rfl) (by kernel_rfl) (by kernel_rfl) (fun _ _ _ h => h) (Or.inl ⟨by rfl, ?_⟩) (by assumption) ?_
        rotate_left
        · intro w hSw
          clear hSw
          go_simp
          all_goals with_reducible rfl
        simp only [Act.put, List.setIfInBounds_toArray, List.set_cons_zero, List.set_cons_succ]
        refine wpAnyH_take (i := 3) (oi := { dst := some 59, op := Op.move (Operand.tmp 0), type := 39, pos := "law.go:191", after := #[{ on := 2, ground := Ground.guard }], guard := some (2, false) }) (v := ?_) rfl (by kernel_rfl) (by kernel_rfl) (by kernel_rfl) (fun _ _ _ h => h) (Or.inl ⟨by rfl, ?_⟩) (by assumption) ?_
        rotate_left
        · intro w hSw
          clear hSw
          go_simp
          all_goals with_reducible rfl
        simp only [Act.put, List.setIfInBounds_toArray, List.set_cons_zero, List.set_cons_succ]
        refine wpAnyH_take (i := 4) (oi := { dst := some 60, op := Op.move (Operand.tmp 1), type := 23, pos := "law.go:191", after := #[{ on := 2, ground := Ground.guard }], guard := some (2, false) }) (v := ?_) rfl (by kernel_rfl) (by kernel_rfl) (by kernel_rfl) (fun _ _ _ h => h) (Or.inl ⟨by rfl, ?_⟩) (by assumption) ?_
        rotate_left
        · intro w hSw
          clear hSw
          go_simp
          all_goals with_reducible rfl
        simp only [Act.put, List.setIfInBounds_toArray, List.set_cons_zero, List.set_cons_succ]
        refine wpAnyH_take (i := 5) (oi := { dst := some 61, op := Op.indexAddr 39 (Operand.tmp 59) (Operand.tmp 60), type := 0, pos := "law.go:191", after := #[{ on := 3, ground := Ground.data }, { on := 4, ground := Ground.data }, { on := 2, ground := Ground.guard }], guard := some (2, false) }) (v := ?_) rfl (by kernel_rfl) (by kernel_rfl) (by kernel_rfl) (fun _ _ _ h => h) (Or.inl ⟨by rfl, ?_⟩) (by assumption) ?_
        rotate_left
        · intro w hSw
          clear hSw
          go_simp
          all_goals with_reducible rfl
        simp only [Act.put, List.setIfInBounds_toArray, List.set_cons_zero, List.set_cons_succ]
        refine wpAnyH_take (i := 6) (oi := { dst := some 62, op := Op.load 22 (Operand.tmp 61), type := 22, pos := "law.go:191", after := #[{ on := 5, ground := Ground.data }, { on := 2, ground := Ground.guard }], guard := some (2, false) }) (v := ?_) rfl (by kernel_rfl) (by kernel_rfl) (by kernel_rfl) (fun _ _ _ h => h) (Or.inl ⟨by rfl, ?_⟩) (by assumption) ?_
        rotate_left
        · intro w hSw
          have c4 := ((hSw.below _ (Nat.le_refl _) (fun _ _ e => e)).cell (p := ⟨bl, offl + i, none⟩) HBLT.out).trans CX.out
          clear hSw
          go_simp
          all_goals with_reducible rfl
        simp only [Act.put, List.setIfInBounds_toArray, List.set_cons_zero, List.set_cons_succ]
        refine wpAnyH_take (i := 7) (oi := { dst := some 63, op := Op.move (Operand.tmp 1), type := 23, pos := "law.go:191", after := #[{ on := 2, ground := Ground.guard }], guard := some (2, false) }) (v := ?_) rfl (by kernel_rfl) (by kernel_rfl) (by kernel_rfl) (fun _ _ _ h => h) (Or.inl ⟨by rfl, ?_⟩) (by assumption) ?_
        rotate_left
        · intro w hSw
          clear hSw
          go_simp
          all_goals with_reducible rfl
        simp only [Act.put, List.setIfInBounds_toArray, List.set_cons_zero, List.set_cons_succ]
        refine wpAnyH_take (i := 8) (oi := { dst := some 64, op := Op.move (Operand.tmp 10), type := 23, pos := "law.go:191", after := #[{ on := 2, ground := Ground.guard }], guard := some (2, false) }) (v := ?_) rfl (by kernel_rfl) (by kernel_rfl) (by kernel_rfl) (fun _ _ _ h => h) (Or.inl ⟨by rfl, ?_⟩) (by assumption) ?_
        rotate_left
        · intro w hSw
          clear hSw
          go_simp
          all_goals with_reducible rfl
        simp only [Act.put, List.setIfInBounds_toArray, List.set_cons_zero, List.set_cons_succ]
        refine wpAnyH_take (i := 9) (oi := { dst := some 65, op := Op.move (Operand.tmp 11), type := 24, pos := "law.go:191", after := #[{ on := 2, ground := Ground.guard }], guard := some (2, false) }) (v := ?_) rfl (by kernel_rfl) (by kernel_rfl) (by kernel_rfl) (fun _ _ _ h => h) (Or.inl ⟨by rfl, ?_⟩) (by assumption) ?_
        rotate_left
        · intro w hSw
          clear hSw
          go_simp
          all_goals with_reducible rfl
        simp only [Act.put, List.setIfInBounds_toArray, List.set_cons_zero, List.set_cons_succ]
        refine wpAnyH_take (i := 10) (oi := { dst := some 66, op := Op.load 31 (Operand.tmp 13), type := 31, pos := "law.go:191", after := #[{ on := 2, ground := Ground.guard }], guard := some (2, false) }) (v := .agg (S.v8l D).toArray) rfl (by kernel_rfl) (by kernel_rfl) (by kernel_rfl) (fun _ _ _ h => h) (yieldsIf_load_mid (by rfl) _ _ rfl gr 0 rfl (S.v8l D) _ (fun _ hSw => rangeAt_row (hSw.row RY.out (fun e => e))) Tryd.underlying31 rfl hsz) (by assumption) ?_
        simp only [Act.put, List.setIfInBounds_toArray, List.set_cons_zero, List.set_cons_succ]
        refine wpAnyH_ready (rs := [11]) (by kernel_rfl) (by simp) ?_
        refine AllReadyH.cons (o := { dst := some 67, op := Op.call { callee := Callee.value (Operand.func 15), args := #[Operand.const (Value.int IntKind.i64 32), Operand.tmp 62, Operand.tmp 63, Operand.tmp 64, Operand.tmp 65, Operand.tmp 66], argTypes := #[3, 22, 23, 23, 24, 31] }, type := 4, pos := "law.go:191", after := #[{ on := 6, ground := Ground.data }, { on := 7, ground := Ground.data }, { on := 8, ground := Ground.data }, { on := 9, ground := Ground.data }, { on := 10, ground := Ground.data }, { on := 2, ground := Ground.chain }, { on := 2, ground := Ground.guard }], guard := some (2, false) }) rfl (fun K hK => ?_) AllReadyH.nil
        go_simp
        refine (leafv_any 32 _ _ (M.getD i []) i N ps D LD.out Z0 (by omega) (by omega) (XS.out.below (CZ0.out.below _ (Nat.le_refl _) (fun _ _ e => e)) (Nat.le_refl _)) (by have := HFX.out; omega) (PY.out.below (CZ0.out.below _ (Nat.le_refl _) (fun _ _ e => e))) PL.out (HK.out.below (BY.out.trans (CZ0.out.below w.heap.size BY.out.size (fun k hk e => e))) h0)).mono ?_
        rintro e Z1 ⟨rfl, hb2⟩
        rw [TK.out]
        have CZ1 : Hid (Chg (fun _ => False) Y Z1) := CZ0.out.then hb2
        clear hb2 CZ0
        clear hHeld
        refine hK.out _ _ CZ1.out (fun hHeld => ?_)
        clear hK K
        try simp only [Act.put, List.setIfInBounds_toArray, List.set_cons_zero, List.set_cons_succ]
        refine wpAnyH_take (i := 12) (oi := { dst := some 68, op := Op.unOp UnOp.not 4 (Operand.tmp 67), type := 4, pos := "law.go:191", after := #[{ on := 11, ground := Ground.data }, { on := 2, ground := Ground.guard }], guard := some (2, false) }) (v := ?_) rfl (by kernel_rfl) (by kernel_rfl) (by kernel_rfl) (fun _ _ _ h => h) (Or.inl ⟨by rfl, ?_⟩) (by assumption) ?_
        rotate_left
        · intro w hSw
          clear hSw
          go_simp
          all_goals with_reducible rfl
        simp only [Act.put, List.setIfInBounds_toArray, List.set_cons_zero, List.set_cons_succ]
        refine wpAnyH_take (i := 13) (oi := { dst := some 69, op := Op.pick (Operand.tmp 58) (Operand.const (Value.bool true)) (Operand.tmp 68), type := 4, pos := "law.go:191", after := #[{ on := 2, ground := Ground.data }, { on := 12, ground := Ground.data }], guard := none }) (v := ?_) rfl (by kernel_rfl) (by kernel_rfl) (by kernel_rfl) (fun _ _ _ h => h) (Or.inl ⟨by rfl, ?_⟩) (by assumption) ?_
        rotate_left
        · intro w hSw
          clear hSw
          go_simp
          all_goals with_reducible rfl
        simp only [Act.put, List.setIfInBounds_toArray, List.set_cons_zero, List.set_cons_succ]
        refine wpAnyH_done (by kernel_rfl) ?_ _
        refine NoPanic.normal ?_
        clear hHeld
        obtain ⟨Zf, hZf⟩ : ∃ Z, Z = Z1 := ⟨_, rfl⟩
        rw [← hZf] at CZ1 ⊢
        clear hZf
        have BZ := hide (CZ1.out.below _ (Nat.le_refl _) (fun _ _ e => e))
        have BF := hide (BY.out.trans (CZ1.out.below w.heap.size BY.out.size (fun k hk e => e)))
        clear CZ1
        try simp only [Bool.not_true, Bool.not_false]
        go_wp2_with fail
        refine (hasher_any 32 Zf).mono ?_
        rintro e w6 ⟨gh, gT, rfl, hs6, b6⟩
        have bY6 : Below Y.heap.size Y w6 := BZ.out.trans (b6.mono BZ.out.size)
        have B6 := hide (BY.out.trans (bY6.mono BY.out.size))
        have BY6 := hide bY6
        have H6 := hide hs6
        have R6 : Hid (w6.heap[gr]? = some (.cells (S.v8 D) 31 (0, 0))) := (bY6.block _ (block_lt_of_row RY.out)).trans RY.out
        have T6 := hide (TY.out.below bY6)
        have P6 := hide (PY.out.below bY6)
        have X6 := hide (XS.out.below bY6 (Nat.le_refl _))
        have Y6 := hide (YS.out.below bY6 (Nat.le_refl _))
        have cX6 : Hid (w6.cell? ⟨bl, offl + i, none⟩ = some (.slice xo xl xc)) := (bY6.cell (p := ⟨bl, offl + i, none⟩) HBLT.out).trans CX.out
        have cY6 : Hid (w6.cell? ⟨bl, offl + o, none⟩ = some (.slice yo yl yc)) := (bY6.cell (p := ⟨bl, offl + o, none⟩) HBLT.out).trans CY.out
        have HBL6 := hide (Nat.lt_of_lt_of_le HBLT.out bY6.size)
        obtain ⟨R1, hR1⟩ : ∃ R, R = S.vLeaf 32 (M.getD o []) i N ps D := ⟨_, rfl⟩
        obtain ⟨R2, hR2⟩ : ∃ R, R = S.vLeaf 32 (M.getD i []) o N ps D := ⟨_, rfl⟩
        have HR1 := hide hR1
        have HR2 := hide hR2
        clear hs6 b6 bY6 RY TY PY XS YS CX CY BY BZ BF HBLT BY6 hR1 hR2
        go_upto_region 16 with fail
        refine wp_region_noPanic ?_
        refine wp_region_held_drew (S := (fun W => Chg (fun _ => False) w6 W)) follows ((Chg.refl _ _).drew) (fun hHeld => ?_)
        clear hHeld
        have hHeld : Chg (fun _ => False) w6 w6.drew := (Chg.refl _ _).drew
        have CZ0 := hide hHeld
        generalize w6.drew = Z0 at CZ0 hHeld ⊢
        refine wpAnyH_take (i := 0) (oi := { dst := some 71, op := Op.move (Operand.tmp 0), type := 39, pos := "law.go:195", after := #[], guard := none }) (v := ?_) rfl (by kernel_rfl) (by kernel_rfl) (by kernel_rfl) (fun _ _ _ h => h) (Or.inl ⟨by rfl, ?_⟩) (by assumption) ?_
        rotate_left
        · intro w hSw
          clear hSw
          go_simp
          all_goals with_reducible rfl
        simp only [Act.put, List.setIfInBounds_toArray, List.set_cons_zero, List.set_cons_succ]
        refine wpAnyH_take (i := 1) (oi := { dst := some 72, op := Op.move (Operand.tmp 2), type := 23, pos := "law.go:195", after := #[], guard := none }) (v := ?_) rfl (by kernel_rfl) (by kernel_rfl) (by kernel_rfl) (fun _ _ _ h => h) (Or.inl ⟨by rfl, ?_⟩) (by assumption) ?_
        rotate_left
        · intro w hSw
          clear hSw
          go_simp
          all_goals with_reducible rfl
        simp only [Act.put, List.setIfInBounds_toArray, List.set_cons_zero, List.set_cons_succ]
        refine wpAnyH_take (i := 2) (oi := { dst := some 73, op := Op.indexAddr 39 (Operand.tmp 71) (Operand.tmp 72), type := 0, pos := "law.go:195", after := #[{ on := 0, ground := Ground.data }, { on := 1, ground := Ground.data }], guard := none }) (v := ?_) rfl (by kernel_rfl) (by kernel_rfl) (by kernel_rfl) (fun _ _ _ h => h) (Or.inl ⟨by rfl, ?_⟩) (by assumption) ?_
        rotate_left
        · intro w hSw
          clear hSw
          go_simp
          all_goals with_reducible rfl
        simp only [Act.put, List.setIfInBounds_toArray, List.set_cons_zero, List.set_cons_succ]
        refine wpAnyH_take (i := 3) (oi := { dst := some 74, op := Op.load 22 (Operand.tmp 73), type := 22, pos := "law.go:195", after := #[{ on := 2, ground := Ground.data }], guard := none }) (v := ?_) rfl (by kernel_rfl) (by kernel_rfl) (by kernel_rfl) (fun _ _ _ h => h) (Or.inl ⟨by rfl, ?_⟩) (by assumption) ?_
        rotate_left
        · intro w hSw
          have c4 := ((hSw.below _ (Nat.le_refl _) (fun _ _ e => e)).cell (p := ⟨bl, offl + o, none⟩) HBL6.out).trans cY6.out
          clear hSw
          go_simp
          all_goals with_reducible rfl
        simp only [Act.put, List.setIfInBounds_toArray, List.set_cons_zero, List.set_cons_succ]
        refine wpAnyH_take (i := 4) (oi := { dst := some 75, op := Op.move (Operand.tmp 1), type := 23, pos := "law.go:195", after := #[], guard := none }) (v := ?_) rfl (by kernel_rfl) (by kernel_rfl) (by kernel_rfl) (fun _ _ _ h => h) (Or.inl ⟨by rfl, ?_⟩) (by assumption) ?_
        rotate_left
        · intro w hSw
          clear hSw
          go_simp
          all_goals with_reducible rfl
        simp only [Act.put, List.setIfInBounds_toArray, List.set_cons_zero, List.set_cons_succ]
        refine wpAnyH_take (i := 5) (oi := { dst := some 76, op := Op.move (Operand.tmp 10), type := 23, pos := "law.go:195", after := #[], guard := none }) (v := ?_) rfl (by kernel_rfl) (by kernel_rfl) (by kernel_rfl) (fun _ _ _ h => h) (Or.inl ⟨by rfl, ?_⟩) (by assumption) ?_
        rotate_left
        · intro w hSw
          clear hSw
          go_simp
          all_goals with_reducible rfl
        simp only [Act.put, List.setIfInBounds_toArray, List.set_cons_zero, List.set_cons_succ]
        refine wpAnyH_take (i := 6) (oi := { dst := some 77, op := Op.move (Operand.tmp 11), type := 24, pos := "law.go:195", after := #[], guard := none }) (v := ?_) rfl (by kernel_rfl) (by kernel_rfl) (by kernel_rfl) (fun _ _ _ h => h) (Or.inl ⟨by rfl, ?_⟩) (by assumption) ?_
        rotate_left
        · intro w hSw
          clear hSw
          go_simp
          all_goals with_reducible rfl
        simp only [Act.put, List.setIfInBounds_toArray, List.set_cons_zero, List.set_cons_succ]
        refine wpAnyH_take (i := 7) (oi := { dst := some 78, op := Op.load 31 (Operand.tmp 13), type := 31, pos := "law.go:195", after := #[], guard := none }) (v := .agg (S.v8l D).toArray) rfl (by kernel_rfl) (by kernel_rfl) (by kernel_rfl) (fun _ _ _ h => h) (yieldsIf_load_mid (by rfl) _ _ rfl gr 0 rfl (S.v8l D) _ (fun _ hSw => rangeAt_row (hSw.row R6.out (fun e => e))) Tryd.underlying31 rfl hsz) (by assumption) ?_
        simp only [Act.put, List.setIfInBounds_toArray, List.set_cons_zero, List.set_cons_succ]
        refine wpAnyH_take (i := 9) (oi := { dst := some 80, op := Op.move (Operand.tmp 14), type := 25, pos := "law.go:195", after := #[], guard := none }) (v := ?_) rfl (by kernel_rfl) (by kernel_rfl) (by kernel_rfl) (fun _ _ _ h => h) (Or.inl ⟨by rfl, ?_⟩) (by assumption) ?_
        rotate_left
        · intro w hSw
          clear hSw
          go_simp
          all_goals with_reducible rfl
        simp only [Act.put, List.setIfInBounds_toArray, List.set_cons_zero, List.set_cons_succ]
        refine wpAnyH_take (i := 10) (oi := { dst := some 81, op := Op.move (Operand.tmp 0), type := 39, pos := "law.go:195", after := #[], guard := none }) (v := ?_) rfl (by kernel_rfl) (by kernel_rfl) (by kernel_rfl) (fun _ _ _ h => h) (Or.inl ⟨by rfl, ?_⟩) (by assumption) ?_
        rotate_left
        · intro w hSw
          clear hSw
          go_simp
          all_goals with_reducible rfl
        simp only [Act.put, List.setIfInBounds_toArray, List.set_cons_zero, List.set_cons_succ]
        refine wpAnyH_take (i := 11) (oi := { dst := some 82, op := Op.move (Operand.tmp 2), type := 23, pos := "law.go:195", after := #[], guard := none }) (v := ?_) rfl (by kernel_rfl) (by kernel_rfl) (by kernel_rfl) (fun _ _ _ h => h) (Or.inl ⟨by rfl, ?_⟩) (by assumption) ?_
        rotate_left
        · intro w hSw
          clear hSw
          go_simp
          all_goals with_reducible rfl
        simp only [Act.put, List.setIfInBounds_toArray, List.set_cons_zero, List.set_cons_succ]
        refine wpAnyH_take (i := 12) (oi := { dst := some 83, op := Op.indexAddr 39 (Operand.tmp 81) (Operand.tmp 82), type := 0, pos := "law.go:195", after := #[{ on := 10, ground := Ground.data }, { on := 11, ground := Ground.data }], guard := none }) (v := ?_) rfl (by kernel_rfl) (by kernel_rfl) (by kernel_rfl) (fun _ _ _ h => h) (Or.inl ⟨by rfl, ?_⟩) (by assumption) ?_
        rotate_left
        · intro w hSw
          clear hSw
          go_simp
          all_goals with_reducible rfl
        simp only [Act.put, List.setIfInBounds_toArray, List.set_cons_zero, List.set_cons_succ]
        refine wpAnyH_take (i := 13) (oi := { dst := some 84, op := Op.load 22 (Operand.tmp 83), type := 22, pos := "law.go:195", after := #[{ on := 12, ground := Ground.data }], guard := none }) (v := ?_) rfl (by kernel_rfl) (by kernel_rfl) (by kernel_rfl) (fun _ _ _ h => h) (Or.inl ⟨by rfl, ?_⟩) (by assumption) ?_
        rotate_left
        · intro w hSw
          have c4 := ((hSw.below _ (Nat.le_refl _) (fun _ _ e => e)).cell (p := ⟨bl, offl + o, none⟩) HBL6.out).trans cY6.out
          clear hSw
          go_simp
          all_goals with_reducible rfl
        simp only [Act.put, List.setIfInBounds_toArray, List.set_cons_zero, List.set_cons_succ]
        refine wpAnyH_take (i := 14) (oi := { dst := some 85, op := Op.move (Operand.tmp 1), type := 23, pos := "law.go:195", after := #[], guard := none }) (v := ?_) rfl (by kernel_rfl) (by kernel_rfl) (by kernel_rfl) (fun _ _ _ h => h) (Or.inl ⟨by rfl, ?_⟩) (by assumption) ?_
        rotate_left
        · intro w hSw
          clear hSw
          go_simp
          all_goals with_reducible rfl
        simp only [Act.put, List.setIfInBounds_toArray, List.set_cons_zero, List.set_cons_succ]
        refine wpAnyH_take (i := 15) (oi := { dst := some 86, op := Op.move (Operand.tmp 10), type := 23, pos := "law.go:195", after := #[], guard := none }) (v := ?_) rfl (by kernel_rfl) (by kernel_rfl) (by kernel_rfl) (fun _ _ _ h => h) (Or.inl ⟨by rfl, ?_⟩) (by assumption) ?_
        rotate_left
        · intro w hSw
          clear hSw
          go_simp
          all_goals with_reducible rfl
        simp only [Act.put, List.setIfInBounds_toArray, List.set_cons_zero, List.set_cons_succ]
        refine wpAnyH_take (i := 16) (oi := { dst := some 87, op := Op.move (Operand.tmp 11), type := 24, pos := "law.go:195", after := #[], guard := none }) (v := ?_) rfl (by kernel_rfl) (by kernel_rfl) (by kernel_rfl) (fun _ _ _ h => h) (Or.inl ⟨by rfl, ?_⟩) (by assumption) ?_
        rotate_left
        · intro w hSw
          clear hSw
          go_simp
          all_goals with_reducible rfl
        simp only [Act.put, List.setIfInBounds_toArray, List.set_cons_zero, List.set_cons_succ]
        refine wpAnyH_take (i := 17) (oi := { dst := some 88, op := Op.load 31 (Operand.tmp 13), type := 31, pos := "law.go:195", after := #[], guard := none }) (v := .agg (S.v8l D).toArray) rfl (by kernel_rfl) (by kernel_rfl) (by kernel_rfl) (fun _ _ _ h => h) (yieldsIf_load_mid (by rfl) _ _ rfl gr 0 rfl (S.v8l D) _ (fun _ hSw => rangeAt_row (hSw.row R6.out (fun e => e))) Tryd.underlying31 rfl hsz) (by assumption) ?_
        simp only [Act.put, List.setIfInBounds_toArray, List.set_cons_zero, List.set_cons_succ]
        refine wpAnyH_ready (rs := [8]) (by kernel_rfl) (by simp) ?_
        refine AllReadyH.cons (o := { dst := some 79, op := Op.call { callee := Callee.value (Operand.func 15), args := #[Operand.const (Value.int IntKind.i64 32), Operand.tmp 74, Operand.tmp 75, Operand.tmp 76, Operand.tmp 77, Operand.tmp 78], argTypes := #[3, 22, 23, 23, 24, 31] }, type := 4, pos := "law.go:195", after := #[{ on := 3, ground := Ground.data }, { on := 4, ground := Ground.data }, { on := 5, ground := Ground.data }, { on := 6, ground := Ground.data }, { on := 7, ground := Ground.data }], guard := none }) rfl (fun K hK => ?_) AllReadyH.nil
        go_simp
        refine (leafv_any 32 _ _ (M.getD o []) i N ps D LD.out Z0 (by omega) (by omega) (Y6.out.below (CZ0.out.below _ (Nat.le_refl _) (fun _ _ e => e)) (Nat.le_refl _)) (by have := HFY.out; omega) (P6.out.below (CZ0.out.below _ (Nat.le_refl _) (fun _ _ e => e))) PL.out (HK.out.below (B6.out.trans (CZ0.out.below w.heap.size B6.out.size (fun k hk e => e))) h0)).mono ?_
        rintro e Z1 ⟨rfl, hb2⟩
        rw [← HR1.out]
        have CZ1 : Hid (Chg (fun _ => False) w6 Z1) := CZ0.out.then hb2
        clear hb2 CZ0
        clear hHeld
        refine hK.out _ _ CZ1.out (fun hHeld => ?_)
        clear hK K
        try simp only [Act.put, List.setIfInBounds_toArray, List.set_cons_zero, List.set_cons_succ]
        refine wpAnyH_ready (rs := [18]) (by kernel_rfl) (by simp) ?_
        refine AllReadyH.cons (o := { dst := some 89, op := Op.call { callee := Callee.value (Operand.func 16), args := #[Operand.tmp 80, Operand.tmp 84, Operand.tmp 85, Operand.tmp 86, Operand.tmp 87, Operand.tmp 88], argTypes := #[25, 22, 23, 23, 24, 31] }, type := 4, pos := "law.go:195", after := #[{ on := 9, ground := Ground.data }, { on := 13, ground := Ground.data }, { on := 14, ground := Ground.data }, { on := 15, ground := Ground.data }, { on := 16, ground := Ground.data }, { on := 17, ground := Ground.data }, { on := 8, ground := Ground.chain }], guard := none }) rfl (fun K hK => ?_) AllReadyH.nil
        go_simp
        refine (rleaf_any gh gT 32 _ _ (M.getD o []) i N ps D LD.out Z1 (by omega) (by omega) (H6.out.below (CZ1.out.below _ (Nat.le_refl _) (fun _ _ e => e)) (Nat.le_refl _)) (Y6.out.below (CZ1.out.below _ (Nat.le_refl _) (fun _ _ e => e)) (Nat.le_refl _)) (by have := HFY.out; omega) (P6.out.below (CZ1.out.below _ (Nat.le_refl _) (fun _ _ e => e))) PL.out).mono ?_
        rintro e Z2 ⟨rfl, hb2⟩
        rw [← HR1.out]
        have CZ2 : Hid (Chg (fun _ => False) w6 Z2) := CZ1.out.then hb2
        clear hb2 CZ1
        clear hHeld
        refine hK.out _ _ CZ2.out (fun hHeld => ?_)
        clear hK K
        try simp only [Act.put, List.setIfInBounds_toArray, List.set_cons_zero, List.set_cons_succ]
        refine wpAnyH_take (i := 19) (oi := { dst := some 90, op := Op.binOp BinOp.neq 4 (Operand.tmp 79) (Operand.tmp 89) 4, type := 4, pos := "law.go:195", after := #[{ on := 8, ground := Ground.data }, { on := 18, ground := Ground.data }], guard := none }) (v := ?_) rfl (by kernel_rfl) (by kernel_rfl) (by kernel_rfl) (fun _ _ _ h => h) (Or.inl ⟨by rfl, ?_⟩) (by assumption) ?_
        rotate_left
        · intro w hSw
          clear hSw
          go_simp
          all_goals with_reducible rfl
        simp only [Act.put, List.setIfInBounds_toArray, List.set_cons_zero, List.set_cons_succ]
        refine wpAnyH_take (i := 20) (oi := { dst := some 91, op := Op.move (Operand.tmp 90), type := 4, pos := "law.go:195", after := #[{ on := 19, ground := Ground.data }, { on := 18, ground := Ground.chain }], guard := none }) (v := ?_) rfl (by kernel_rfl) (by kernel_rfl) (by kernel_rfl) (fun _ _ _ h => h) (Or.inl ⟨by rfl, ?_⟩) (by assumption) ?_
        rotate_left
        · intro w hSw
          clear hSw
          go_simp
          all_goals with_reducible rfl
        simp only [Act.put, List.setIfInBounds_toArray, List.set_cons_zero, List.set_cons_succ]
        refine wpAnyH_take (i := 21) (oi := { dst := some 92, op := Op.move (Operand.tmp 0), type := 39, pos := "law.go:195", after := #[{ on := 20, ground := Ground.guard }], guard := some (20, false) }) (v := ?_) rfl (by kernel_rfl) (by kernel_rfl) (by kernel_rfl) (fun _ _ _ h => h) (Or.inl ⟨by rfl, ?_⟩) (by assumption) ?_
        rotate_left
        · intro w hSw
          clear hSw
          go_simp
          all_goals with_reducible rfl
        simp only [Act.put, List.setIfInBounds_toArray, List.set_cons_zero, List.set_cons_succ]
        refine wpAnyH_take (i := 22) (oi := { dst := some 93, op := Op.move (Operand.tmp 1), type := 23, pos := "law.go:195", after := #[{ on := 20, ground := Ground.guard }], guard := some (20, false) }) (v := ?_) rfl (by kernel_rfl) (by kernel_rfl) (by kernel_rfl) (fun _ _ _ h => h) (Or.inl ⟨by rfl, ?_⟩) (by assumption) ?_
        rotate_left
        · intro w hSw
          clear hSw
          go_simp
          all_goals with_reducible rfl
        simp only [Act.put, List.setIfInBounds_toArray, List.set_cons_zero, List.set_cons_succ]
        refine wpAnyH_take (i := 23) (oi := { dst := some 94, op := Op.indexAddr 39 (Operand.tmp 92) (Operand.tmp 93), type := 0, pos := "law.go:195", after := #[{ on := 21, ground := Ground.data }, { on := 22, ground := Ground.data }, { on := 20, ground := Ground.guard }], guard := some (20, false) }) (v := ?_) rfl (by kernel_rfl) (by kernel_rfl) (by kernel_rfl) (fun _ _ _ h => h) (Or.inl ⟨by rfl, ?_⟩) (by assumption) ?_
        rotate_left
        · intro w hSw
          clear hSw
          go_simp
          all_goals with_reducible rfl
        simp only [Act.put, List.setIfInBounds_toArray, List.set_cons_zero, List.set_cons_succ]
        refine wpAnyH_take (i := 24) (oi := { dst := some 95, op := Op.load 22 (Operand.tmp 94), type := 22, pos := "law.go:195", after := #[{ on := 23, ground := Ground.data }, { on := 20, ground := Ground.guard }], guard := some (20, false) }) (v := ?_) rfl (by kernel_rfl) (by kernel_rfl) (by kernel_rfl) (fun _ _ _ h => h) (Or.inl ⟨by rfl, ?_⟩) (by assumption) ?_
        rotate_left
        · intro w hSw
          have c4 := ((hSw.below _ (Nat.le_refl _) (fun _ _ e => e)).cell (p := ⟨bl, offl + i, none⟩) HBL6.out).trans cX6.out
          clear hSw
          go_simp
          all_goals with_reducible rfl
        simp only [Act.put, List.setIfInBounds_toArray, List.set_cons_zero, List.set_cons_succ]
        refine wpAnyH_take (i := 25) (oi := { dst := some 96, op := Op.move (Operand.tmp 2), type := 23, pos := "law.go:195", after := #[{ on := 20, ground := Ground.guard }], guard := some (20, false) }) (v := ?_) rfl (by kernel_rfl) (by kernel_rfl) (by kernel_rfl) (fun _ _ _ h => h) (Or.inl ⟨by rfl, ?_⟩) (by assumption) ?_
        rotate_left
        · intro w hSw
          clear hSw
          go_simp
          all_goals with_reducible rfl
        simp only [Act.put, List.setIfInBounds_toArray, List.set_cons_zero, List.set_cons_succ]
        refine wpAnyH_take (i := 26) (oi := { dst := some 97, op := Op.move (Operand.tmp 10), type := 23, pos := "law.go:195", after := #[{ on := 20, ground := Ground.guard }], guard := some (20, false) }) (v := ?_) rfl (by kernel_rfl) (by kernel_rfl) (by kernel_rfl) (fun _ _ _ h => h) (Or.inl ⟨by rfl, ?_⟩) (by assumption) ?_
        rotate_left
        · intro w hSw
          clear hSw
          go_simp
          all_goals with_reducible rfl
        simp only [Act.put, List.setIfInBounds_toArray, List.set_cons_zero, List.set_cons_succ]
        refine wpAnyH_take (i := 27) (oi := { dst := some 98, op := Op.move (Operand.tmp 11), type := 24, pos := "law.go:195", after := #[{ on := 20, ground := Ground.guard }], guard := some (20, false) }) (v := ?_) rfl (by kernel_rfl) (by kernel_rfl) (by kernel_rfl) (fun _ _ _ h => h) (Or.inl ⟨by rfl, ?_⟩) (by assumption) ?_
        rotate_left
        · intro w hSw
          clear hSw
          go_simp
          all_goals with_reducible rfl
        simp only [Act.put, List.setIfInBounds_toArray, List.set_cons_zero, List.set_cons_succ]
        refine wpAnyH_take (i := 28) (oi := { dst := some 99, op := Op.load 31 (Operand.tmp 13), type := 31, pos := "law.go:195", after := #[{ on := 20, ground := Ground.guard }], guard := some (20, false) }) (v := .agg (S.v8l D).toArray) rfl (by kernel_rfl) (by kernel_rfl) (by kernel_rfl) (fun _ _ _ h => h) (yieldsIf_load_mid (by rfl) _ _ rfl gr 0 rfl (S.v8l D) _ (fun _ hSw => rangeAt_row (hSw.row R6.out (fun e => e))) Tryd.underlying31 rfl hsz) (by assumption) ?_
        simp only [Act.put, List.setIfInBounds_toArray, List.set_cons_zero, List.set_cons_succ]
        refine wpAnyH_take (i := 30) (oi := { dst := some 101, op := Op.move (Operand.tmp 14), type := 25, pos := "law.go:195", after := #[{ on := 20, ground := Ground.guard }], guard := some (20, false) }) (v := ?_) rfl (by kernel_rfl) (by kernel_rfl) (by kernel_rfl) (fun _ _ _ h => h) (Or.inl ⟨by rfl, ?_⟩) (by assumption) ?_
        rotate_left
        · intro w hSw
          clear hSw
          go_simp
          all_goals with_reducible rfl
        simp only [Act.put, List.setIfInBounds_toArray, List.set_cons_zero, List.set_cons_succ]
        refine wpAnyH_take (i := 31) (oi := { dst := some 102, op := Op.move (Operand.tmp 0), type := 39, pos := "law.go:195", after := #[{ on := 20, ground := Ground.guard }], guard := some (20, false) }) (v := ?_) rfl (by kernel_rfl) (by kernel_rfl) (by kernel_rfl) (fun _ _ _ h => h) (Or.inl ⟨by rfl, ?_⟩) (by assumption) ?_
        rotate_left
        · intro w hSw
          clear hSw
          go_simp
          all_goals with_reducible rfl
        simp only [Act.put, List.setIfInBounds_toArray, List.set_cons_zero, List.set_cons_succ]
        refine wpAnyH_take (i := 32) (oi := { dst := some 103, op := Op.move (Operand.tmp 1), type := 23, pos := "law.go:195", after := #[{ on := 20, ground := Ground.guard }], guard := some (20, false) }) (v := ?_) rfl (by kernel_rfl) (by kernel_rfl) (by kernel_rfl) (fun _ _ _ h => h) (Or.inl ⟨by rfl, ?_⟩) (by assumption) ?_
        rotate_left
        · intro w hSw
          clear hSw
          go_simp
          all_goals with_reducible rfl
        simp only [Act.put, List.setIfInBounds_toArray, List.set_cons_zero, List.set_cons_succ]
        refine wpAnyH_take (i := 33) (oi := { dst := some 104, op := Op.indexAddr 39 (Operand.tmp 102) (Operand.tmp 103), type := 0, pos := "law.go:195", after := #[{ on := 31, ground := Ground.data }, { on := 32, ground := Ground.data }, { on := 20, ground := Ground.guard }], guard := some (20, false) }) (v := ?_) rfl (by kernel_rfl) (by kernel_rfl) (by kernel_rfl) (fun _ _ _ h => h) (Or.inl ⟨by rfl, ?_⟩) (by assumption) ?_
        rotate_left
        · intro w hSw
          clear hSw
          go_simp
          all_goals with_reducible rfl
        simp only [Act.put, List.setIfInBounds_toArray, List.set_cons_zero, List.set_cons_succ]
        refine wpAnyH_take (i := 34) (oi := { dst := some 105, op := Op.load 22 (Operand.tmp 104), type := 22, pos := "law.go:195", after := #[{ on := 33, ground := Ground.data }, { on := 20, ground := Ground.guard }], guard := some (20, false) }) (v := ?_) rfl (by kernel_rfl) (by kernel_rfl) (by kernel_rfl) (fun _ _ _ h => h) (Or.inl ⟨by rfl, ?_⟩) (by assumption) ?_
        rotate_left
        · intro w hSw
          have c4 := ((hSw.below _ (Nat.le_refl _) (fun _ _ e => e)).cell (p := ⟨bl, offl + i, none⟩) HBL6.out).trans cX6.out
          clear hSw
          go_simp
          all_goals with_reducible rfl
        simp only [Act.put, List.setIfInBounds_toArray, List.set_cons_zero, List.set_cons_succ]
        refine wpAnyH_take (i := 35) (oi := { dst := some 106, op := Op.move (Operand.tmp 2), type := 23, pos := "law.go:195", after := #[{ on := 20, ground := Ground.guard }], guard := some (20, false) }) (v := ?_) rfl (by kernel_rfl) (by kernel_rfl) (by kernel_rfl) (fun _ _ _ h => h) (Or.inl ⟨by rfl, ?_⟩) (by assumption) ?_
        rotate_left
        · intro w hSw
          clear hSw
          go_simp
          all_goals with_reducible rfl
        simp only [Act.put, List.setIfInBounds_toArray, List.set_cons_zero, List.set_cons_succ]
        refine wpAnyH_take (i := 36) (oi := { dst := some 107, op := Op.move (Operand.tmp 10), type := 23, pos := "law.go:195", after := #[{ on := 20, ground := Ground.guard }], guard := some (20, false) }) (v := ?_) rfl (by kernel_rfl) (by kernel_rfl) (by kernel_rfl) (fun _ _ _ h => h) (Or.inl ⟨by rfl, ?_⟩) (by assumption) ?_
        rotate_left
        · intro w hSw
          clear hSw
          go_simp
          all_goals with_reducible rfl
        simp only [Act.put, List.setIfInBounds_toArray, List.set_cons_zero, List.set_cons_succ]
        refine wpAnyH_take (i := 37) (oi := { dst := some 108, op := Op.move (Operand.tmp 11), type := 24, pos := "law.go:195", after := #[{ on := 20, ground := Ground.guard }], guard := some (20, false) }) (v := ?_) rfl (by kernel_rfl) (by kernel_rfl) (by kernel_rfl) (fun _ _ _ h => h) (Or.inl ⟨by rfl, ?_⟩) (by assumption) ?_
        rotate_left
        · intro w hSw
          clear hSw
          go_simp
          all_goals with_reducible rfl
        simp only [Act.put, List.setIfInBounds_toArray, List.set_cons_zero, List.set_cons_succ]
        refine wpAnyH_take (i := 38) (oi := { dst := some 109, op := Op.load 31 (Operand.tmp 13), type := 31, pos := "law.go:195", after := #[{ on := 20, ground := Ground.guard }], guard := some (20, false) }) (v := .agg (S.v8l D).toArray) rfl (by kernel_rfl) (by kernel_rfl) (by kernel_rfl) (fun _ _ _ h => h) (yieldsIf_load_mid (by rfl) _ _ rfl gr 0 rfl (S.v8l D) _ (fun _ hSw => rangeAt_row (hSw.row R6.out (fun e => e))) Tryd.underlying31 rfl hsz) (by assumption) ?_
        simp only [Act.put, List.setIfInBounds_toArray, List.set_cons_zero, List.set_cons_succ]
        refine wpAnyH_ready (rs := [29]) (by kernel_rfl) (by simp) ?_
        refine AllReadyH.cons (o := { dst := some 100, op := Op.call { callee := Callee.value (Operand.func 15), args := #[Operand.const (Value.int IntKind.i64 32), Operand.tmp 95, Operand.tmp 96, Operand.tmp 97, Operand.tmp 98, Operand.tmp 99], argTypes := #[3, 22, 23, 23, 24, 31] }, type := 4, pos := "law.go:195", after := #[{ on := 24, ground := Ground.data }, { on := 25, ground := Ground.data }, { on := 26, ground := Ground.data }, { on := 27, ground := Ground.data }, { on := 28, ground := Ground.data }, { on := 20, ground := Ground.chain }, { on := 20, ground := Ground.guard }], guard := some (20, false) }) rfl (fun K hK => ?_) AllReadyH.nil
        go_simp
        refine (leafv_any 32 _ _ (M.getD i []) o N ps D LD.out Z2 (by omega) (by omega) (X6.out.below (CZ2.out.below _ (Nat.le_refl _) (fun _ _ e => e)) (Nat.le_refl _)) (by have := HFX.out; omega) (P6.out.below (CZ2.out.below _ (Nat.le_refl _) (fun _ _ e => e))) PL.out (HK.out.below (B6.out.trans (CZ2.out.below w.heap.size B6.out.size (fun k hk e => e))) h0)).mono ?_
        rintro e Z3 ⟨rfl, hb2⟩
        rw [← HR2.out]
        have CZ3 : Hid (Chg (fun _ => False) w6 Z3) := CZ2.out.then hb2
        clear hb2 CZ2
        clear hHeld
        refine hK.out _ _ CZ3.out (fun hHeld => ?_)
        clear hK K
        try simp only [Act.put, List.setIfInBounds_toArray, List.set_cons_zero, List.set_cons_succ]
        refine wpAnyH_ready (rs := [39]) (by kernel_rfl) (by simp) ?_
        refine AllReadyH.cons (o := { dst := some 110, op := Op.call { callee := Callee.value (Operand.func 16), args := #[Operand.tmp 101, Operand.tmp 105, Operand.tmp 106, Operand.tmp 107, Operand.tmp 108, Operand.tmp 109], argTypes := #[25, 22, 23, 23, 24, 31] }, type := 4, pos := "law.go:195", after := #[{ on := 30, ground := Ground.data }, { on := 34, ground := Ground.data }, { on := 35, ground := Ground.data }, { on := 36, ground := Ground.data }, { on := 37, ground := Ground.data }, { on := 38, ground := Ground.data }, { on := 29, ground := Ground.chain }, { on := 20, ground := Ground.guard }], guard := some (20, false) }) rfl (fun K hK => ?_) AllReadyH.nil
        go_simp
        refine (rleaf_any gh gT 32 _ _ (M.getD i []) o N ps D LD.out Z3 (by omega) (by omega) (H6.out.below (CZ3.out.below _ (Nat.le_refl _) (fun _ _ e => e)) (Nat.le_refl _)) (X6.out.below (CZ3.out.below _ (Nat.le_refl _) (fun _ _ e => e)) (Nat.le_refl _)) (by have := HFX.out; omega) (P6.out.below (CZ3.out.below _ (Nat.le_refl _) (fun _ _ e => e))) PL.out).mono ?_
        rintro e Z4 ⟨rfl, hb2⟩
        rw [← HR2.out]
        have CZ4 : Hid (Chg (fun _ => False) w6 Z4) := CZ3.out.then hb2
        clear hb2 CZ3
        clear hHeld
        refine hK.out _ _ CZ4.out (fun hHeld => ?_)
        clear hK K
        try simp only [Act.put, List.setIfInBounds_toArray, List.set_cons_zero, List.set_cons_succ]
        refine wpAnyH_take (i := 40) (oi := { dst := some 111, op := Op.binOp BinOp.neq 4 (Operand.tmp 100) (Operand.tmp 110) 4, type := 4, pos := "law.go:195", after := #[{ on := 29, ground := Ground.data }, { on := 39, ground := Ground.data }, { on := 20, ground := Ground.guard }], guard := some (20, false) }) (v := ?_) rfl (by kernel_rfl) (by kernel_rfl) (by kernel_rfl) (fun _ _ _ h => h) (Or.inl ⟨by rfl, ?_⟩) (by assumption) ?_
        rotate_left
        · intro w hSw
          clear hSw
          go_simp
          all_goals with_reducible rfl
        simp only [Act.put, List.setIfInBounds_toArray, List.set_cons_zero, List.set_cons_succ]
        refine wpAnyH_take (i := 41) (oi := { dst := some 112, op := Op.pick (Operand.tmp 91) (Operand.const (Value.bool true)) (Operand.tmp 111), type := 4, pos := "law.go:195", after := #[{ on := 20, ground := Ground.data }, { on := 40, ground := Ground.data }], guard := none }) (v := ?_) rfl (by kernel_rfl) (by kernel_rfl) (by kernel_rfl) (fun _ _ _ h => h) (Or.inl ⟨by rfl, ?_⟩) (by assumption) ?_
        rotate_left
        · intro w hSw
          clear hSw
          go_simp
          all_goals with_reducible rfl
        simp only [Act.put, List.setIfInBounds_toArray, List.set_cons_zero, List.set_cons_succ]
        refine wpAnyH_done (by kernel_rfl) ?_ _
        refine NoPanic.normal ?_
        clear hHeld
        obtain ⟨Zf, hZf⟩ : ∃ Z, Z = Z4 := ⟨_, rfl⟩
        rw [← hZf] at CZ4 ⊢
        clear hZf
        have BZ := hide (CZ4.out.below _ (Nat.le_refl _) (fun _ _ e => e))
        have BF := hide (B6.out.trans (CZ4.out.below w.heap.size B6.out.size (fun k hk e => e)))
        clear CZ4
        try simp only [Bool.not_true, Bool.not_false]
        have T7 := hide (T6.out.below BZ.out)
        have H7 := hide (H6.out.below BZ.out (Nat.le_refl _))
        have R7 : Hid (Zf.heap[gr]? = some (.cells (S.v8 D) 31 (0, 0))) := (BZ.out.block _ (block_lt_of_row R6.out)).trans R6.out
        have P7 := hide (P6.out.below BZ.out)
        have X7 := hide (X6.out.below BZ.out (Nat.le_refl _))
        have cX7 : Hid (Zf.cell? ⟨bl, offl + i, none⟩ = some (.slice xo xl xc)) := (BZ.out.cell (p := ⟨bl, offl + i, none⟩) HBL6.out).trans cX6.out
        have HBL7 := hide (Nat.lt_of_lt_of_le HBL6.out BZ.out.size)
        have B3 := hide BF.out
        clear T6 H6 R6 P6 X6 cX6 Y6 cY6 HBL6 BZ BF B6
        obtain ⟨W3, hW3⟩ : ∃ W, W = Zf.alloc (.cells #[] 22) := ⟨_, rfl⟩
        have bW3 : Below Zf.heap.size Zf W3 := by rw [hW3]; exact (Below.refl _ _).alloc (Nat.le_refl _) _
        have rW3 : W3.heap[Zf.heap.size]? = some (.cells #[] 22 (0, 0)) := by rw [hW3]; exact heap_alloc_new _ _
        have KC := hide (run_copy_tx W3 w.heap.size Zf.heap.size (.slice (some ⟨bl, offl, none⟩) N lc) M 39 rW3 (T7.out.below bW3) (fun k hk => by obtain ⟨vs, q1, _⟩ := T7.out.ls; exact q1.lt hk) (fun W hW => T7.out.below (bW3.trans hW)) (by rw [← HM.out]; omega))
        have KD : Hid (∀ (o4 : Option Addr) (c4 : Nat) (w4 : World), TxRow Zf.heap.size w4 (.slice o4 N c4) M → Below Zf.heap.size W3 w4 → ∃ v5 w5, (Builtin.append_ #[39, 39] 39 #[.slice o4 N c4, .slice (some ⟨w4.heap.size, 0, none⟩) 1 1]).run Tryd.prog (w4.alloc (.cells #[.slice bo bn bc] 22)) = .ok v5 w5 ∧ (TxRow Zf.heap.size w5 v5 (M ++ [bs]) ∧ Below Zf.heap.size Zf w5)) := fun o4 c4 w4 ht hb4 => by
          have b4 : Below w4.heap.size w4 (w4.alloc (.cells #[.slice bo bn bc] 22)) := (Below.refl _ _).alloc (Nat.le_refl _) _
          have b34 : Below Zf.heap.size Zf w4 := bW3.trans hb4
          have b3a : Below Zf.heap.size Zf (w4.alloc (.cells #[.slice bo bn bc] 22)) := b34.trans (b4.mono b34.size)
          obtain ⟨v5, w5, a1, a2, a3⟩ := run_append_tx (w4.alloc (.cells #[.slice bo bn bc] 22)) Zf.heap.size w4.heap.size (.slice o4 N c4) bo bn bc M bs 39 (ht.below b4) (heap_alloc_new _ _) (fun W hW => by
            obtain ⟨_, _, _, q3, _⟩ := ht.ls
            have hWb : Below Zf.heap.size Zf W := b3a.trans (hW.below _ b3a.size (fun k hk e => by have := q3 k e; omega))
            exact BS.out.below (B3.out.trans (hWb.mono B3.out.size)) (Nat.le_refl _)) (by rw [← HM.out]; omega) b3a.size
          exact ⟨v5, w5, a1, a2, b3a.trans a3⟩
        rw [hW3] at KC KD
        clear hW3 bW3 rW3
        go_wp2_with (first | (at_builtin; (refine wpList_append_known rfl (.tmp 113) (.tmp 114) 39 39 rfl _ _ rfl rfl KC.out ?_; rintro v4 w4 ⟨ht4, hb4⟩; obtain ⟨o4, c4, rfl⟩ := ht4.form; rw [← HM.out] at ht4 ⊢; have K4 := hide (KD.out o4 c4 w4 ht4 hb4); clear ht4 hb4)) | (at_builtin; (refine wpList_append_known rfl (.tmp 115) (.tmp 117) 39 39 rfl _ _ rfl rfl K4.out ?_; rintro v5 w5 ⟨ht5, hb5⟩; obtain ⟨o5, c5, rfl⟩ := ht5.form; obtain ⟨N1, hN1⟩ : ∃ N1, N1 = (M ++ [bs]).length := ⟨_, rfl⟩; have M5 := hide ht5.bsAt; rw [← hN1] at M5 ⊢; have B35 := hide hb5; clear ht5 hb5 hN1)))
        have HN1 := hide (show (M ++ [bs]).length ≤ 256 by rw [List.length_append, ← HM.out]; simp; omega)
        have B5 := hide (B3.out.trans (B35.out.mono B3.out.size))
        refine (root_any 32 _ (M ++ [bs]) w5 M5.out HN1.out (HF.out.snoc HBL.out) (HK.out.below B5.out h0)).mono ?_
        rintro e w8 ⟨rfl, b8⟩
        obtain ⟨E, hE⟩ : ∃ D, D = S.root 32 (M ++ [bs]) := ⟨_, rfl⟩
        have LE := hide (show E.length = 32 by rw [hE, S.root_length])
        rw [← hE]
        have b58 : Below Zf.heap.size Zf w8 := B35.out.trans (b8.mono B35.out.size)
        obtain ⟨AL, Y, hal, hst, ry, by1, sy⟩ := lay_dig w8 E LE.out
        obtain ⟨ge, hge⟩ : ∃ g, g = w8.heap.size := ⟨_, rfl⟩
        rw [← hge] at hal hst ry
        have bfY : Below Zf.heap.size Zf Y := b58.trans (by1.mono b58.size)
        have BY := hide (B3.out.trans (bfY.mono B3.out.size))
        have RE := hide ry
        have RD : Hid (Y.heap[gr]? = some (.cells (S.v8 D) 31 (0, 0))) := (bfY.block _ (block_lt_of_row R7.out)).trans R7.out
        have P8 := hide (P7.out.below bfY)
        have X8 := hide (X7.out.below bfY (Nat.le_refl _))
        have S8 := hide (BS.out.below BY.out (Nat.le_refl _))
        have H8 := hide (H7.out.below bfY (Nat.le_refl _))
        have cX8 : Hid (Y.cell? ⟨bl, offl + i, none⟩ = some (.slice xo xl xc)) := (bfY.cell (p := ⟨bl, offl + i, none⟩) HBL7.out).trans cX7.out
        have HBL8 := hide (Nat.lt_of_lt_of_le HBL7.out bfY.size)
        obtain ⟨R3, hR3⟩ : ∃ R, R = S.vLeaf 32 (M.getD i []) i N ps E := ⟨_, rfl⟩
        obtain ⟨R4, hR4⟩ : ∃ R, R = S.vLeaf 32 bs i N ps D := ⟨_, rfl⟩
        have HR3 := hide hR3
        have HR4 := hide hR4
        have hse := size_dig E LE.out
        clear hE b8 b58 by1 sy hge ry bfY KC KD K4 B3 B5 B35 M5 HN1 T7 H7 R7 P7 X7 cX7 HBL7 hR3 hR4
        go_upto_region 19 with (first | (with_reducible refine at_op { dst := some 15, op := Op.alloc 31, type := 0, pos := "law.go:198", after := #[], guard := none } ?_; refine wpList_alloc_known rfl 31 rfl (.pointer (some ⟨ge, 0, none⟩)) AL hal ?_) | (with_reducible refine at_op { dst := none, op := Op.store 31 (Operand.tmp 15) (Operand.tmp 119), type := 0, pos := "law.go:198", after := #[{ on := 7, ground := Ground.data }, { on := 6, ground := Ground.data }, { on := 6, ground := Ground.chain }, { on := 0, ground := Ground.phase }, { on := 1, ground := Ground.phase }, { on := 2, ground := Ground.phase }, { on := 3, ground := Ground.phase }, { on := 4, ground := Ground.phase }, { on := 5, ground := Ground.phase }, { on := 6, ground := Ground.phase }, { on := 7, ground := Ground.phase }], guard := none } ?_; refine wpList_store_as rfl 31 (.tmp 15) (.tmp 119) rfl (.pointer (some ⟨ge, 0, none⟩)) (.agg (S.v8 E)) rfl rfl Y hst ?_))
        clear hal hst
        refine wp_region_noPanic ?_
        refine wp_region_held_drew (S := (fun W => Chg (fun _ => False) Y W)) follows ((Chg.refl _ _).drew) (fun hHeld => ?_)
        clear hHeld
        have hHeld : Chg (fun _ => False) Y Y.drew := (Chg.refl _ _).drew
        have CZ0 := hide hHeld
        generalize Y.drew = Z0 at CZ0 hHeld ⊢
        refine wpAnyH_take (i := 0) (oi := { dst := some 120, op := Op.move (Operand.tmp 0), type := 39, pos := "law.go:199", after := #[], guard := none }) (v := ?_) rfl (by kernel_rfl) (by kernel_rfl) (by kernel_rfl) (fun _ _ _ h => h) (Or.inl ⟨by rfl, ?_⟩) (by assumption) ?_
        rotate_left
        · intro w hSw
          clear hSw
          go_simp
          all_goals with_reducible rfl
        simp only [Act.put, List.setIfInBounds_toArray, List.set_cons_zero, List.set_cons_succ]
        refine wpAnyH_take (i := 1) (oi := { dst := some 121, op := Op.move (Operand.tmp 1), type := 23, pos := "law.go:199", after := #[], guard := none }) (v := ?_) rfl (by kernel_rfl) (by kernel_rfl) (by kernel_rfl) (fun _ _ _ h => h) (Or.inl ⟨by rfl, ?_⟩) (by assumption) ?_
        rotate_left
        · intro w hSw
          clear hSw
          go_simp
          all_goals with_reducible rfl
        simp only [Act.put, List.setIfInBounds_toArray, List.set_cons_zero, List.set_cons_succ]
        refine wpAnyH_take (i := 2) (oi := { dst := some 122, op := Op.indexAddr 39 (Operand.tmp 120) (Operand.tmp 121), type := 0, pos := "law.go:199", after := #[{ on := 0, ground := Ground.data }, { on := 1, ground := Ground.data }], guard := none }) (v := ?_) rfl (by kernel_rfl) (by kernel_rfl) (by kernel_rfl) (fun _ _ _ h => h) (Or.inl ⟨by rfl, ?_⟩) (by assumption) ?_
        rotate_left
        · intro w hSw
          clear hSw
          go_simp
          all_goals with_reducible rfl
        simp only [Act.put, List.setIfInBounds_toArray, List.set_cons_zero, List.set_cons_succ]
        refine wpAnyH_take (i := 3) (oi := { dst := some 123, op := Op.load 22 (Operand.tmp 122), type := 22, pos := "law.go:199", after := #[{ on := 2, ground := Ground.data }], guard := none }) (v := ?_) rfl (by kernel_rfl) (by kernel_rfl) (by kernel_rfl) (fun _ _ _ h => h) (Or.inl ⟨by rfl, ?_⟩) (by assumption) ?_
        rotate_left
        · intro w hSw
          have c4 := ((hSw.below _ (Nat.le_refl _) (fun _ _ e => e)).cell (p := ⟨bl, offl + i, none⟩) HBL8.out).trans cX8.out
          clear hSw
          go_simp
          all_goals with_reducible rfl
        simp only [Act.put, List.setIfInBounds_toArray, List.set_cons_zero, List.set_cons_succ]
        refine wpAnyH_take (i := 4) (oi := { dst := some 124, op := Op.move (Operand.tmp 1), type := 23, pos := "law.go:199", after := #[], guard := none }) (v := ?_) rfl (by kernel_rfl) (by kernel_rfl) (by kernel_rfl) (fun _ _ _ h => h) (Or.inl ⟨by rfl, ?_⟩) (by assumption) ?_
        rotate_left
        · intro w hSw
          clear hSw
          go_simp
          all_goals with_reducible rfl
        simp only [Act.put, List.setIfInBounds_toArray, List.set_cons_zero, List.set_cons_succ]
        refine wpAnyH_take (i := 5) (oi := { dst := some 125, op := Op.move (Operand.tmp 10), type := 23, pos := "law.go:199", after := #[], guard := none }) (v := ?_) rfl (by kernel_rfl) (by kernel_rfl) (by kernel_rfl) (fun _ _ _ h => h) (Or.inl ⟨by rfl, ?_⟩) (by assumption) ?_
        rotate_left
        · intro w hSw
          clear hSw
          go_simp
          all_goals with_reducible rfl
        simp only [Act.put, List.setIfInBounds_toArray, List.set_cons_zero, List.set_cons_succ]
        refine wpAnyH_take (i := 6) (oi := { dst := some 126, op := Op.move (Operand.tmp 11), type := 24, pos := "law.go:199", after := #[], guard := none }) (v := ?_) rfl (by kernel_rfl) (by kernel_rfl) (by kernel_rfl) (fun _ _ _ h => h) (Or.inl ⟨by rfl, ?_⟩) (by assumption) ?_
        rotate_left
        · intro w hSw
          clear hSw
          go_simp
          all_goals with_reducible rfl
        simp only [Act.put, List.setIfInBounds_toArray, List.set_cons_zero, List.set_cons_succ]
        refine wpAnyH_take (i := 7) (oi := { dst := some 127, op := Op.load 31 (Operand.tmp 15), type := 31, pos := "law.go:199", after := #[], guard := none }) (v := .agg (S.v8l E).toArray) rfl (by kernel_rfl) (by kernel_rfl) (by kernel_rfl) (fun _ _ _ h => h) (yieldsIf_load_mid (by rfl) _ _ rfl ge 0 rfl (S.v8l E) _ (fun _ hSw => rangeAt_row (hSw.row RE.out (fun e => e))) Tryd.underlying31 rfl hse) (by assumption) ?_
        simp only [Act.put, List.setIfInBounds_toArray, List.set_cons_zero, List.set_cons_succ]
        refine wpAnyH_take (i := 9) (oi := { dst := some 129, op := Op.move (Operand.tmp 14), type := 25, pos := "law.go:199", after := #[], guard := none }) (v := ?_) rfl (by kernel_rfl) (by kernel_rfl) (by kernel_rfl) (fun _ _ _ h => h) (Or.inl ⟨by rfl, ?_⟩) (by assumption) ?_
        rotate_left
        · intro w hSw
          clear hSw
          go_simp
          all_goals with_reducible rfl
        simp only [Act.put, List.setIfInBounds_toArray, List.set_cons_zero, List.set_cons_succ]
        refine wpAnyH_take (i := 10) (oi := { dst := some 130, op := Op.move (Operand.tmp 0), type := 39, pos := "law.go:199", after := #[], guard := none }) (v := ?_) rfl (by kernel_rfl) (by kernel_rfl) (by kernel_rfl) (fun _ _ _ h => h) (Or.inl ⟨by rfl, ?_⟩) (by assumption) ?_
        rotate_left
        · intro w hSw
          clear hSw
          go_simp
          all_goals with_reducible rfl
        simp only [Act.put, List.setIfInBounds_toArray, List.set_cons_zero, List.set_cons_succ]
        refine wpAnyH_take (i := 11) (oi := { dst := some 131, op := Op.move (Operand.tmp 1), type := 23, pos := "law.go:199", after := #[], guard := none }) (v := ?_) rfl (by kernel_rfl) (by kernel_rfl) (by kernel_rfl) (fun _ _ _ h => h) (Or.inl ⟨by rfl, ?_⟩) (by assumption) ?_
        rotate_left
        · intro w hSw
          clear hSw
          go_simp
          all_goals with_reducible rfl
        simp only [Act.put, List.setIfInBounds_toArray, List.set_cons_zero, List.set_cons_succ]
        refine wpAnyH_take (i := 12) (oi := { dst := some 132, op := Op.indexAddr 39 (Operand.tmp 130) (Operand.tmp 131), type := 0, pos := "law.go:199", after := #[{ on := 10, ground := Ground.data }, { on := 11, ground := Ground.data }], guard := none }) (v := ?_) rfl (by kernel_rfl) (by kernel_rfl) (by kernel_rfl) (fun _ _ _ h => h) (Or.inl ⟨by rfl, ?_⟩) (by assumption) ?_
        rotate_left
        · intro w hSw
          clear hSw
          go_simp
          all_goals with_reducible rfl
        simp only [Act.put, List.setIfInBounds_toArray, List.set_cons_zero, List.set_cons_succ]
        refine wpAnyH_take (i := 13) (oi := { dst := some 133, op := Op.load 22 (Operand.tmp 132), type := 22, pos := "law.go:199", after := #[{ on := 12, ground := Ground.data }], guard := none }) (v := ?_) rfl (by kernel_rfl) (by kernel_rfl) (by kernel_rfl) (fun _ _ _ h => h) (Or.inl ⟨by rfl, ?_⟩) (by assumption) ?_
        rotate_left
        · intro w hSw
          have c4 := ((hSw.below _ (Nat.le_refl _) (fun _ _ e => e)).cell (p := ⟨bl, offl + i, none⟩) HBL8.out).trans cX8.out
          clear hSw
          go_simp
          all_goals with_reducible rfl
        simp only [Act.put, List.setIfInBounds_toArray, List.set_cons_zero, List.set_cons_succ]
        refine wpAnyH_take (i := 14) (oi := { dst := some 134, op := Op.move (Operand.tmp 1), type := 23, pos := "law.go:199", after := #[], guard := none }) (v := ?_) rfl (by kernel_rfl) (by kernel_rfl) (by kernel_rfl) (fun _ _ _ h => h) (Or.inl ⟨by rfl, ?_⟩) (by assumption) ?_
        rotate_left
        · intro w hSw
          clear hSw
          go_simp
          all_goals with_reducible rfl
        simp only [Act.put, List.setIfInBounds_toArray, List.set_cons_zero, List.set_cons_succ]
        refine wpAnyH_take (i := 15) (oi := { dst := some 135, op := Op.move (Operand.tmp 10), type := 23, pos := "law.go:199", after := #[], guard := none }) (v := ?_) rfl (by kernel_rfl) (by kernel_rfl) (by kernel_rfl) (fun _ _ _ h => h) (Or.inl ⟨by rfl, ?_⟩) (by assumption) ?_
        rotate_left
        · intro w hSw
          clear hSw
          go_simp
          all_goals with_reducible rfl
        simp only [Act.put, List.setIfInBounds_toArray, List.set_cons_zero, List.set_cons_succ]
        refine wpAnyH_take (i := 16) (oi := { dst := some 136, op := Op.move (Operand.tmp 11), type := 24, pos := "law.go:199", after := #[], guard := none }) (v := ?_) rfl (by kernel_rfl) (by kernel_rfl) (by kernel_rfl) (fun _ _ _ h => h) (Or.inl ⟨by rfl, ?_⟩) (by assumption) ?_
        rotate_left
        · intro w hSw
          clear hSw
          go_simp
          all_goals with_reducible rfl
        simp only [Act.put, List.setIfInBounds_toArray, List.set_cons_zero, List.set_cons_succ]
        refine wpAnyH_take (i := 17) (oi := { dst := some 137, op := Op.load 31 (Operand.tmp 15), type := 31, pos := "law.go:199", after := #[], guard := none }) (v := .agg (S.v8l E).toArray) rfl (by kernel_rfl) (by kernel_rfl) (by kernel_rfl) (fun _ _ _ h => h) (yieldsIf_load_mid (by rfl) _ _ rfl ge 0 rfl (S.v8l E) _ (fun _ hSw => rangeAt_row (hSw.row RE.out (fun e => e))) Tryd.underlying31 rfl hse) (by assumption) ?_
        simp only [Act.put, List.setIfInBounds_toArray, List.set_cons_zero, List.set_cons_succ]
        refine wpAnyH_ready (rs := [8]) (by kernel_rfl) (by simp) ?_
        refine AllReadyH.cons (o := { dst := some 128, op := Op.call { callee := Callee.value (Operand.func 15), args := #[Operand.const (Value.int IntKind.i64 32), Operand.tmp 123, Operand.tmp 124, Operand.tmp 125, Operand.tmp 126, Operand.tmp 127], argTypes := #[3, 22, 23, 23, 24, 31] }, type := 4, pos := "law.go:199", after := #[{ on := 3, ground := Ground.data }, { on := 4, ground := Ground.data }, { on := 5, ground := Ground.data }, { on := 6, ground := Ground.data }, { on := 7, ground := Ground.data }], guard := none }) rfl (fun K hK => ?_) AllReadyH.nil
        go_simp
        refine (leafv_any 32 _ _ (M.getD i []) i N ps E LE.out Z0 (by omega) (by omega) (X8.out.below (CZ0.out.below _ (Nat.le_refl _) (fun _ _ e => e)) (Nat.le_refl _)) (by have := HFX.out; omega) (P8.out.below (CZ0.out.below _ (Nat.le_refl _) (fun _ _ e => e))) PL.out (HK.out.below (BY.out.trans (CZ0.out.below w.heap.size BY.out.size (fun k hk e => e))) h0)).mono ?_
        rintro e Z1 ⟨rfl, hb2⟩
        rw [← HR3.out]
        have CZ1 : Hid (Chg (fun _ => False) Y Z1) := CZ0.out.then hb2
        clear hb2 CZ0
        clear hHeld
        refine hK.out _ _ CZ1.out (fun hHeld => ?_)
        clear hK K
        try simp only [Act.put, List.setIfInBounds_toArray, List.set_cons_zero, List.set_cons_succ]
        refine wpAnyH_ready (rs := [18]) (by kernel_rfl) (by simp) ?_
        refine AllReadyH.cons (o := { dst := some 138, op := Op.call { callee := Callee.value (Operand.func 16), args := #[Operand.tmp 129, Operand.tmp 133, Operand.tmp 134, Operand.tmp 135, Operand.tmp 136, Operand.tmp 137], argTypes := #[25, 22, 23, 23, 24, 31] }, type := 4, pos := "law.go:199", after := #[{ on := 9, ground := Ground.data }, { on := 13, ground := Ground.data }, { on := 14, ground := Ground.data }, { on := 15, ground := Ground.data }, { on := 16, ground := Ground.data }, { on := 17, ground := Ground.data }, { on := 8, ground := Ground.chain }], guard := none }) rfl (fun K hK => ?_) AllReadyH.nil
        go_simp
        refine (rleaf_any gh gT 32 _ _ (M.getD i []) i N ps E LE.out Z1 (by omega) (by omega) (H8.out.below (CZ1.out.below _ (Nat.le_refl _) (fun _ _ e => e)) (Nat.le_refl _)) (X8.out.below (CZ1.out.below _ (Nat.le_refl _) (fun _ _ e => e)) (Nat.le_refl _)) (by have := HFX.out; omega) (P8.out.below (CZ1.out.below _ (Nat.le_refl _) (fun _ _ e => e))) PL.out).mono ?_
        rintro e Z2 ⟨rfl, hb2⟩
        rw [← HR3.out]
        have CZ2 : Hid (Chg (fun _ => False) Y Z2) := CZ1.out.then hb2
        clear hb2 CZ1
        clear hHeld
        refine hK.out _ _ CZ2.out (fun hHeld => ?_)
        clear hK K
        try simp only [Act.put, List.setIfInBounds_toArray, List.set_cons_zero, List.set_cons_succ]
        refine wpAnyH_take (i := 19) (oi := { dst := some 139, op := Op.binOp BinOp.eql 4 (Operand.tmp 128) (Operand.tmp 138) 4, type := 4, pos := "law.go:199", after := #[{ on := 8, ground := Ground.data }, { on := 18, ground := Ground.data }], guard := none }) (v := ?_) rfl (by kernel_rfl) (by kernel_rfl) (by kernel_rfl) (fun _ _ _ h => h) (Or.inl ⟨by rfl, ?_⟩) (by assumption) ?_
        rotate_left
        · intro w hSw
          clear hSw
          go_simp
          all_goals with_reducible rfl
        simp only [Act.put, List.setIfInBounds_toArray, List.set_cons_zero, List.set_cons_succ]
        refine wpAnyH_take (i := 20) (oi := { dst := some 140, op := Op.move (Operand.tmp 139), type := 4, pos := "law.go:199", after := #[{ on := 19, ground := Ground.data }, { on := 18, ground := Ground.chain }], guard := none }) (v := ?_) rfl (by kernel_rfl) (by kernel_rfl) (by kernel_rfl) (fun _ _ _ h => h) (Or.inl ⟨by rfl, ?_⟩) (by assumption) ?_
        rotate_left
        · intro w hSw
          clear hSw
          go_simp
          all_goals with_reducible rfl
        simp only [Act.put, List.setIfInBounds_toArray, List.set_cons_zero, List.set_cons_succ]
        refine wpAnyH_take (i := 21) (oi := { dst := some 141, op := Op.move (Operand.tmp 3), type := 22, pos := "law.go:199", after := #[{ on := 20, ground := Ground.guard }], guard := some (20, true) }) (v := ?_) rfl (by kernel_rfl) (by kernel_rfl) (by kernel_rfl) (fun _ _ _ h => h) (Or.inl ⟨by rfl, ?_⟩) (by assumption) ?_
        rotate_left
        · intro w hSw
          clear hSw
          go_simp
          all_goals with_reducible rfl
        simp only [Act.put, List.setIfInBounds_toArray, List.set_cons_zero, List.set_cons_succ]
        refine wpAnyH_take (i := 22) (oi := { dst := some 142, op := Op.move (Operand.tmp 1), type := 23, pos := "law.go:199", after := #[{ on := 20, ground := Ground.guard }], guard := some (20, true) }) (v := ?_) rfl (by kernel_rfl) (by kernel_rfl) (by kernel_rfl) (fun _ _ _ h => h) (Or.inl ⟨by rfl, ?_⟩) (by assumption) ?_
        rotate_left
        · intro w hSw
          clear hSw
          go_simp
          all_goals with_reducible rfl
        simp only [Act.put, List.setIfInBounds_toArray, List.set_cons_zero, List.set_cons_succ]
        refine wpAnyH_take (i := 23) (oi := { dst := some 143, op := Op.move (Operand.tmp 10), type := 23, pos := "law.go:199", after := #[{ on := 20, ground := Ground.guard }], guard := some (20, true) }) (v := ?_) rfl (by kernel_rfl) (by kernel_rfl) (by kernel_rfl) (fun _ _ _ h => h) (Or.inl ⟨by rfl, ?_⟩) (by assumption) ?_
        rotate_left
        · intro w hSw
          clear hSw
          go_simp
          all_goals with_reducible rfl
        simp only [Act.put, List.setIfInBounds_toArray, List.set_cons_zero, List.set_cons_succ]
        refine wpAnyH_take (i := 24) (oi := { dst := some 144, op := Op.move (Operand.tmp 11), type := 24, pos := "law.go:199", after := #[{ on := 20, ground := Ground.guard }], guard := some (20, true) }) (v := ?_) rfl (by kernel_rfl) (by kernel_rfl) (by kernel_rfl) (fun _ _ _ h => h) (Or.inl ⟨by rfl, ?_⟩) (by assumption) ?_
        rotate_left
        · intro w hSw
          clear hSw
          go_simp
          all_goals with_reducible rfl
        simp only [Act.put, List.setIfInBounds_toArray, List.set_cons_zero, List.set_cons_succ]
        refine wpAnyH_take (i := 25) (oi := { dst := some 145, op := Op.load 31 (Operand.tmp 13), type := 31, pos := "law.go:199", after := #[{ on := 20, ground := Ground.guard }], guard := some (20, true) }) (v := .agg (S.v8l D).toArray) rfl (by kernel_rfl) (by kernel_rfl) (by kernel_rfl) (fun _ _ _ h => h) (yieldsIf_load_mid (by rfl) _ _ rfl gr 0 rfl (S.v8l D) _ (fun _ hSw => rangeAt_row (hSw.row RD.out (fun e => e))) Tryd.underlying31 rfl hsz) (by assumption) ?_
        simp only [Act.put, List.setIfInBounds_toArray, List.set_cons_zero, List.set_cons_succ]
        refine wpAnyH_take (i := 27) (oi := { dst := some 147, op := Op.move (Operand.tmp 14), type := 25, pos := "law.go:199", after := #[{ on := 20, ground := Ground.guard }], guard := some (20, true) }) (v := ?_) rfl (by kernel_rfl) (by kernel_rfl) (by kernel_rfl) (fun _ _ _ h => h) (Or.inl ⟨by rfl, ?_⟩) (by assumption) ?_
        rotate_left
        · intro w hSw
          clear hSw
          go_simp
          all_goals with_reducible rfl
        simp only [Act.put, List.setIfInBounds_toArray, List.set_cons_zero, List.set_cons_succ]
        refine wpAnyH_take (i := 28) (oi := { dst := some 148, op := Op.move (Operand.tmp 3), type := 22, pos := "law.go:199", after := #[{ on := 20, ground := Ground.guard }], guard := some (20, true) }) (v := ?_) rfl (by kernel_rfl) (by kernel_rfl) (by kernel_rfl) (fun _ _ _ h => h) (Or.inl ⟨by rfl, ?_⟩) (by assumption) ?_
        rotate_left
        · intro w hSw
          clear hSw
          go_simp
          all_goals with_reducible rfl
        simp only [Act.put, List.setIfInBounds_toArray, List.set_cons_zero, List.set_cons_succ]
        refine wpAnyH_take (i := 29) (oi := { dst := some 149, op := Op.move (Operand.tmp 1), type := 23, pos := "law.go:199", after := #[{ on := 20, ground := Ground.guard }], guard := some (20, true) }) (v := ?_) rfl (by kernel_rfl) (by kernel_rfl) (by kernel_rfl) (fun _ _ _ h => h) (Or.inl ⟨by rfl, ?_⟩) (by assumption) ?_
        rotate_left
        · intro w hSw
          clear hSw
          go_simp
          all_goals with_reducible rfl
        simp only [Act.put, List.setIfInBounds_toArray, List.set_cons_zero, List.set_cons_succ]
        refine wpAnyH_take (i := 30) (oi := { dst := some 150, op := Op.move (Operand.tmp 10), type := 23, pos := "law.go:199", after := #[{ on := 20, ground := Ground.guard }], guard := some (20, true) }) (v := ?_) rfl (by kernel_rfl) (by kernel_rfl) (by kernel_rfl) (fun _ _ _ h => h) (Or.inl ⟨by rfl, ?_⟩) (by assumption) ?_
        rotate_left
        · intro w hSw
          clear hSw
          go_simp
          all_goals with_reducible rfl
        simp only [Act.put, List.setIfInBounds_toArray, List.set_cons_zero, List.set_cons_succ]
        refine wpAnyH_take (i := 31) (oi := { dst := some 151, op := Op.move (Operand.tmp 11), type := 24, pos := "law.go:199", after := #[{ on := 20, ground := Ground.guard }], guard := some (20, true) }) (v := ?_) rfl (by kernel_rfl) (by kernel_rfl) (by kernel_rfl) (fun _ _ _ h => h) (Or.inl ⟨by rfl, ?_⟩) (by assumption) ?_
        rotate_left
        · intro w hSw
          clear hSw
          go_simp
          all_goals with_reducible rfl
        simp only [Act.put, List.setIfInBounds_toArray, List.set_cons_zero, List.set_cons_succ]
        refine wpAnyH_take (i := 32) (oi := { dst := some 152, op := Op.load 31 (Operand.tmp 13), type := 31, pos := "law.go:199", after := #[{ on := 20, ground := Ground.guard }], guard := some (20, true) }) (v := .agg (S.v8l D).toArray) rfl (by kernel_rfl) (by kernel_rfl) (by kernel_rfl) (fun _ _ _ h => h) (yieldsIf_load_mid (by rfl) _ _ rfl gr 0 rfl (S.v8l D) _ (fun _ hSw => rangeAt_row (hSw.row RD.out (fun e => e))) Tryd.underlying31 rfl hsz) (by assumption) ?_
        simp only [Act.put, List.setIfInBounds_toArray, List.set_cons_zero, List.set_cons_succ]
        refine wpAnyH_ready (rs := [26]) (by kernel_rfl) (by simp) ?_
        refine AllReadyH.cons (o := { dst := some 146, op := Op.call { callee := Callee.value (Operand.func 15), args := #[Operand.const (Value.int IntKind.i64 32), Operand.tmp 141, Operand.tmp 142, Operand.tmp 143, Operand.tmp 144, Operand.tmp 145], argTypes := #[3, 22, 23, 23, 24, 31] }, type := 4, pos := "law.go:199", after := #[{ on := 21, ground := Ground.data }, { on := 22, ground := Ground.data }, { on := 23, ground := Ground.data }, { on := 24, ground := Ground.data }, { on := 25, ground := Ground.data }, { on := 20, ground := Ground.chain }, { on := 20, ground := Ground.guard }], guard := some (20, true) }) rfl (fun K hK => ?_) AllReadyH.nil
        go_simp
        refine (leafv_any 32 _ _ bs i N ps D LD.out Z2 (by omega) (by omega) (S8.out.below (CZ2.out.below _ (Nat.le_refl _) (fun _ _ e => e)) (Nat.le_refl _)) (by have := HBL.out; omega) (P8.out.below (CZ2.out.below _ (Nat.le_refl _) (fun _ _ e => e))) PL.out (HK.out.below (BY.out.trans (CZ2.out.below w.heap.size BY.out.size (fun k hk e => e))) h0)).mono ?_
        rintro e Z3 ⟨rfl, hb2⟩
        rw [← HR4.out]
        have CZ3 : Hid (Chg (fun _ => False) Y Z3) := CZ2.out.then hb2
        clear hb2 CZ2
        clear hHeld
        refine hK.out _ _ CZ3.out (fun hHeld => ?_)
        clear hK K
        try simp only [Act.put, List.setIfInBounds_toArray, List.set_cons_zero, List.set_cons_succ]
        refine wpAnyH_ready (rs := [33]) (by kernel_rfl) (by simp) ?_
        refine AllReadyH.cons (o := { dst := some 153, op := Op.call { callee := Callee.value (Operand.func 16), args := #[Operand.tmp 147, Operand.tmp 148, Operand.tmp 149, Operand.tmp 150, Operand.tmp 151, Operand.tmp 152], argTypes := #[25, 22, 23, 23, 24, 31] }, type := 4, pos := "law.go:199", after := #[{ on := 27, ground := Ground.data }, { on := 28, ground := Ground.data }, { on := 29, ground := Ground.data }, { on := 30, ground := Ground.data }, { on := 31, ground := Ground.data }, { on := 32, ground := Ground.data }, { on := 26, ground := Ground.chain }, { on := 20, ground := Ground.guard }], guard := some (20, true) }) rfl (fun K hK => ?_) AllReadyH.nil
        go_simp
        refine (rleaf_any gh gT 32 _ _ bs i N ps D LD.out Z3 (by omega) (by omega) (H8.out.below (CZ3.out.below _ (Nat.le_refl _) (fun _ _ e => e)) (Nat.le_refl _)) (S8.out.below (CZ3.out.below _ (Nat.le_refl _) (fun _ _ e => e)) (Nat.le_refl _)) (by have := HBL.out; omega) (P8.out.below (CZ3.out.below _ (Nat.le_refl _) (fun _ _ e => e))) PL.out).mono ?_
        rintro e Z4 ⟨rfl, hb2⟩
        rw [← HR4.out]
        have CZ4 : Hid (Chg (fun _ => False) Y Z4) := CZ3.out.then hb2
        clear hb2 CZ3
        clear hHeld
        refine hK.out _ _ CZ4.out (fun hHeld => ?_)
        clear hK K
        try simp only [Act.put, List.setIfInBounds_toArray, List.set_cons_zero, List.set_cons_succ]
        refine wpAnyH_take (i := 34) (oi := { dst := some 154, op := Op.binOp BinOp.eql 4 (Operand.tmp 146) (Operand.tmp 153) 4, type := 4, pos := "law.go:199", after := #[{ on := 26, ground := Ground.data }, { on := 33, ground := Ground.data }, { on := 20, ground := Ground.guard }], guard := some (20, true) }) (v := ?_) rfl (by kernel_rfl) (by kernel_rfl) (by kernel_rfl) (fun _ _ _ h => h) (Or.inl ⟨by rfl, ?_⟩) (by assumption) ?_
        rotate_left
        · intro w hSw
          clear hSw
          go_simp
          all_goals with_reducible rfl
        simp only [Act.put, List.setIfInBounds_toArray, List.set_cons_zero, List.set_cons_succ]
        refine wpAnyH_take (i := 35) (oi := { dst := some 155, op := Op.pick (Operand.tmp 140) (Operand.tmp 154) (Operand.const (Value.bool false)), type := 4, pos := "law.go:199", after := #[{ on := 20, ground := Ground.data }, { on := 34, ground := Ground.data }], guard := none }) (v := ?_) rfl (by kernel_rfl) (by kernel_rfl) (by kernel_rfl) (fun _ _ _ h => h) (Or.inl ⟨by rfl, ?_⟩) (by assumption) ?_
        rotate_left
        · intro w hSw
          clear hSw
          go_simp
          all_goals with_reducible rfl
        simp only [Act.put, List.setIfInBounds_toArray, List.set_cons_zero, List.set_cons_succ]
        refine wpAnyH_take (i := 36) (oi := { dst := some 156, op := Op.move (Operand.tmp 155), type := 4, pos := "law.go:199", after := #[{ on := 35, ground := Ground.data }, { on := 33, ground := Ground.chain }], guard := none }) (v := ?_) rfl (by kernel_rfl) (by kernel_rfl) (by kernel_rfl) (fun _ _ _ h => h) (Or.inl ⟨by rfl, ?_⟩) (by assumption) ?_
        rotate_left
        · intro w hSw
          clear hSw
          go_simp
          all_goals with_reducible rfl
        simp only [Act.put, List.setIfInBounds_toArray, List.set_cons_zero, List.set_cons_succ]
        refine wpAnyH_ready (rs := [37]) (by kernel_rfl) (by simp) ?_
        refine AllReadyH.cons (o := { dst := some 157, op := Op.call { callee := Callee.value (Operand.func 11), args := #[], argTypes := #[] }, type := 4, pos := "law.go:199", after := #[{ on := 36, ground := Ground.chain }, { on := 36, ground := Ground.guard }], guard := some (36, true) }) rfl (fun K hK => ?_) AllReadyH.nil
        go_simp
        refine (known9_any Z4 (HK.out.below (BY.out.trans (CZ4.out.below w.heap.size BY.out.size (fun k hk e => e))) h0)).mono ?_
        rintro e Z5 ⟨rfl, hb2⟩
        have CZ5 : Hid (Chg (fun _ => False) Y Z5) := CZ4.out.then hb2
        clear hb2 CZ4
        clear hHeld
        refine hK.out _ _ CZ5.out (fun hHeld => ?_)
        clear hK K
        try simp only [Act.put, List.setIfInBounds_toArray, List.set_cons_zero, List.set_cons_succ]
        refine wpAnyH_take (i := 38) (oi := { dst := some 158, op := Op.pick (Operand.tmp 156) (Operand.tmp 157) (Operand.const (Value.bool false)), type := 4, pos := "law.go:199", after := #[{ on := 36, ground := Ground.data }, { on := 37, ground := Ground.data }], guard := none }) (v := ?_) rfl (by kernel_rfl) (by kernel_rfl) (by kernel_rfl) (fun _ _ _ h => h) (Or.inl ⟨by rfl, ?_⟩) (by assumption) ?_
        rotate_left
        · intro w hSw
          clear hSw
          go_simp
          all_goals with_reducible rfl
        simp only [Act.put, List.setIfInBounds_toArray, List.set_cons_zero, List.set_cons_succ]
        refine wpAnyH_take (i := 39) (oi := { dst := some 8, op := Op.assign (Operand.tmp 158), type := 4, pos := "law.go:199", after := #[{ on := 38, ground := Ground.data }, { on := 37, ground := Ground.chain }, { on := 0, ground := Ground.phase }, { on := 1, ground := Ground.phase }, { on := 2, ground := Ground.phase }, { on := 3, ground := Ground.phase }, { on := 4, ground := Ground.phase }, { on := 5, ground := Ground.phase }, { on := 6, ground := Ground.phase }, { on := 7, ground := Ground.phase }, { on := 8, ground := Ground.phase }, { on := 9, ground := Ground.phase }, { on := 10, ground := Ground.phase }, { on := 11, ground := Ground.phase }, { on := 12, ground := Ground.phase }, { on := 13, ground := Ground.phase }, { on := 14, ground := Ground.phase }, { on := 15, ground := Ground.phase }, { on := 16, ground := Ground.phase }, { on := 17, ground := Ground.phase }, { on := 18, ground := Ground.phase }, { on := 19, ground := Ground.phase }, { on := 20, ground := Ground.phase }, { on := 21, ground := Ground.phase }, { on := 22, ground := Ground.phase }, { on := 23, ground := Ground.phase }, { on := 24, ground := Ground.phase }, { on := 25, ground := Ground.phase }, { on := 26, ground := Ground.phase }, { on := 27, ground := Ground.phase }, { on := 28, ground := Ground.phase }, { on := 29, ground := Ground.phase }, { on := 30, ground := Ground.phase }, { on := 31, ground := Ground.phase }, { on := 32, ground := Ground.phase }, { on := 33, ground := Ground.phase }, { on := 34, ground := Ground.phase }, { on := 35, ground := Ground.phase }, { on := 36, ground := Ground.phase }, { on := 37, ground := Ground.phase }, { on := 38, ground := Ground.phase }], guard := none }) (v := ?_) rfl (by kernel_rfl) (by kernel_rfl) (by kernel_rfl) (fun _ _ _ h => h) (Or.inl ⟨by rfl, ?_⟩) (by assumption) ?_
        rotate_left
        · intro w hSw
          clear hSw
          go_simp
          all_goals with_reducible rfl
        simp only [Act.put, List.setIfInBounds_toArray, List.set_cons_zero, List.set_cons_succ]
        refine wpAnyH_done (by kernel_rfl) ?_ _
        refine NoPanic.normal ?_
        clear hHeld
        obtain ⟨Zf, hZf⟩ : ∃ Z, Z = Z5 := ⟨_, rfl⟩
        rw [← hZf] at CZ5 ⊢
        clear hZf
        have BZ := hide (CZ5.out.below _ (Nat.le_refl _) (fun _ _ e => e))
        have BF := hide (BY.out.trans (CZ5.out.below w.heap.size BY.out.size (fun k hk e => e)))
        clear CZ5
        try simp only [Bool.not_true, Bool.not_false]
        go_wp2_with fail
        go_ret
        exact ⟨rfl, BF.out⟩
    | succ gO =>
      have hkN : k < N := by omega
      have qk : (k : Int) < (N : Int) := by omega
      have qk0 : (0 : Int) ≤ (k : Int) := by omega
      have qk1 : IntKind.i64.wrap ((k : Int) + 1) = (k : Int) + 1 := by rw [IntKind.wrap_i64]; omega
      obtain ⟨vs, l1, n1, base1, el1⟩ := TM.out.ls
      rcases l1 with ⟨e1, rfl⟩ | ⟨g, off, c, cur, e1, r1, r2, r3, r4⟩
      · exfalso; simp at n1; have := HM.out; omega
      simp only [Value.slice.injEq] at e1
      obtain ⟨rfl, e1n, rfl⟩ := e1
      have hvk : vs[k]? = some (vs[k]'(by omega)) := List.getElem?_eq_getElem _
      have c1 : wr.cell? ⟨g, off + k, none⟩ = some (vs[k]'(by omega)) := by rw [cell_of_row wr g (off + k) _ _ _ r1]; exact r4 k _ hvk
      obtain ⟨⟨xo, xn, xc, hxe⟩, hxs⟩ := el1 k _ hvk
      have hx0 := hxs wr (Chg.refl _ _)
      rw [hxe] at c1 hx0
      have hgb : g < wr.heap.size := block_lt_of_row r1
      obtain ⟨y, hy⟩ : ∃ y, y = UInt8.ofNat k := ⟨_, rfl⟩
      have hyk : (k : Int) = (y.toNat : Int) := by rw [hy, ← byte_cast]; omega
      obtain ⟨X0, hX0⟩ : ∃ X0, X0 = wr.alloc (.cells #[.int .u8 (k : Int)] 5) := ⟨_, rfl⟩
      have bX : Below wr.heap.size wr X0 := by rw [hX0]; exact (Below.refl _ _).alloc (Nat.le_refl _) _
      have rX : X0.heap[wr.heap.size]? = some (.cells #[.int .u8 (k : Int)] 5 (0, 0)) := by rw [hX0]; exact heap_alloc_new _ _
      have KEY : Hid (∃ v' w', (Builtin.append_ #[22, 22] 22 #[.slice (some ⟨wr.heap.size, 0, none⟩) 1 1, .slice xo xn xc]).run Tryd.prog X0 = .ok v' w' ∧ (∃ vo vn vc, v' = .slice vo vn vc ∧ (∃ z, w'.cell? ⟨g, off + k, none⟩ = some z) ∧ w'.frozen? ⟨g, off + k, none⟩ = false ∧ TxRow w.heap.size (w'.setCell ⟨g, off + k, none⟩ (.slice vo vn vc)) (.slice (some ⟨g, off, none⟩) N lc) (M.set k (y :: M.getD k [])) ∧ Below w.heap.size w (w'.setCell ⟨g, off + k, none⟩ (.slice vo vn vc)))) := by
        have hlk := LM.out k
        obtain ⟨v', w', a1, a2, a3⟩ := run_append_bytes X0 wr.heap.size (.slice (some ⟨wr.heap.size, 0, none⟩) 1 1) (.slice xo xn xc) [y] (M.getD k []) 22 (own_one hyk rX (Nat.le_refl _)) (hx0.below bX (Nat.le_refl _)) (by rw [List.length_singleton]; omega) bX.size
        obtain ⟨g9, c9, hv9⟩ := a2.2
        have bb : Below wr.heap.size wr w' := bX.trans a3
        have r1' : w'.heap[g]? = some (.cells cur 22 (0, 0)) := (bb.block g hgb).trans r1
        subst hv9
        have hset := TxRow.set2 (TM.out.below bb) k (by rw [← HM.out]; exact hkN) (some ⟨g9, 0, none⟩) ([y] ++ M.getD k []).length c9 (y :: M.getD k []) (fun W hW => (a2.chg hW (fun j hj e => by omega)).sliceAt (by rw [List.length_append, List.length_singleton]; omega))
        exact ⟨_, w', a1, _, _, _, rfl, ⟨_, (bb.cell (p := ⟨g, off + k, none⟩) hgb).trans c1⟩, frozen_of_row _ _ (off + k) _ _ r1', hset.1, BM.out.trans ((bb.mono BM.out.size).trans (hset.2.mono (base1 g rfl)))⟩
      rw [hX0] at KEY
      have LM2 : Hid (∀ j, ((M.set k (y :: M.getD k [])).getD j []).length ≤ 40 + (k + 1)) := fun j => by
        rw [List.getD_eq_getElem?_getD, List.getElem?_set]
        by_cases hj : k = j
        · rw [if_pos hj, if_pos (by rw [← HM.out]; exact hkN)]
          have := LM.out k
          rw [Option.getD_some, List.length_cons]; omega
        · rw [if_neg hj, ← List.getD_eq_getElem?_getD]
          have := LM.out j
          omega
      have HM2 : Hid (N = (M.set k (y :: M.getD k [])).length) := by rw [List.length_set]; exact HM.out
      obtain ⟨M2, hM2⟩ : ∃ M2, M2 = M.set k (y :: M.getD k []) := ⟨_, rfl⟩
      rw [← hM2] at KEY LM2 HM2
      have c2 : (wr.alloc (.cells #[.int .u8 (k : Int)] 5)).cell? ⟨g, off + k, none⟩ = some (.slice xo xn xc) := by rw [← hX0]; exact (bX.cell (p := ⟨g, off + k, none⟩) hgb).trans c1
      clear hX0 bX rX hyk hM2 c1 hvk hxe hxs hx0 hgb hy TM HM LM BM n1 base1 el1 r1 r2 r3 r4 e1n
      go_wp2_with (at_builtin; (refine wpList_append_known rfl (.tmp 28) (.tmp 32) 22 22 rfl _ _ rfl rfl KEY.out ?_; rintro v' w' ⟨vo, vn, vc, rfl, ⟨z, c3⟩, cf, ht, hb⟩; have HT := hide ht; have HB := hide hb; clear ht hb))
      go_roundg gO
      case measure => omega
      case rel => exact ⟨k + 1, by omega, by first | rfl | simp, M2, HT, HM2, LM2, HB⟩
end Go.Proofs.YtlbggkmblkhjoabDoor
