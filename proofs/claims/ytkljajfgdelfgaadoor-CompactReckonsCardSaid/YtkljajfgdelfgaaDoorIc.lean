/- The document's way of putting hashes side by side together. -/
import Derived.Test.YtkljajfgdelfgaaDoorIb
namespace Go.Proofs.YtkljajfgdelfgaaDoor
open Go.RowKit

theorem C.join_cons {α : Type} (nd : α → α → α) (z : α) (j : Nat) (ws ss : List Nat) (hs : List α) : C.join nd z (2 ^ j :: ws) ss hs = (C.gat nd z j ss hs).1 :: C.join nd z ws (ss.drop (C.gat nd z j ss hs).2) (hs.drop (C.gat nd z j ss hs).2) := by rw [C.join, Nat.log2_two_pow]
set_option maxHeartbeats 40000000 in
set_option maxRecDepth 10000 in
theorem rjoin_any (a : Int) (gh gT p e : Nat) (ss : List Nat) (hs : List (List UInt8)) (vs vh : Value) (w : World) (hpe : p ≤ e) (he : e ≤ 4294967296) (hT : C.Tiles p e ss) (hl : hs.length = ss.length) (h200 : ss.length ≤ 200) (hvs : NAt w vs ss) (hvh : DgC w vh hs) (hH : HsAt w gh gT a) :
   Calls Tryd.prog 43 #[.pointer (some ⟨gh, 0, none⟩), .int .u64 (p : Int), .int .u64 (e : Int), vs, vh] w fun r w' => (∃ v, r = .returned v ∧ DgRow w.heap.size w' v (C.join (S.node a) [] (C.blocks p e) ss hs)) ∧ Below w.heap.size w w' := by
  obtain ⟨so, sc, rfl, hsc, -⟩ := id hvs
  obtain ⟨ho, hc_, rfl⟩ := hvh.1.form
  have hhc := hvh.2 _ _ _ rfl
  obtain ⟨N, hN⟩ : ∃ N, N = ss.length := ⟨_, rfl⟩
  rw [hl] at hhc
  rw [show hs.length = N by rw [hl, hN]] at hvh ⊢
  rw [← hN] at hsc hhc h200 hvs ⊢
  obtain ⟨J, hJ⟩ : ∃ J, J = C.join (S.node a) [] (C.blocks p e) ss hs := ⟨_, rfl⟩
  obtain ⟨ws, hws⟩ : ∃ ws, ws = C.blocks p e := ⟨_, rfl⟩
  rw [← hJ]
  rw [← hws] at hJ
  have h64 : ws.length ≤ 64 := by rw [hws]; exact C.blocks_len p e
  have HS := hide hvs
  have HG := hide hvh
  have HH := hide hH
  have HJ := hide hJ
  have HT := hide hT
  have HWS := hide hws
  have HLN := hide (And.intro hN hl)
  clear hvs hvh hH hJ hT hws hN hl
  go_enter Tryd.func43, Tryd.ntmps43
  go_wp2_with fail
  refine (rblocks_any p e w (by omega) (by omega)).mono ?_
  rintro r W0 ⟨⟨vb, rfl, hvb⟩, hb0⟩
  rw [← HWS.out] at hvb
  obtain ⟨bo, bc, rfl⟩ := hvb.form
  have HVB := hide hvb
  have B0 := hide hb0
  obtain ⟨M, hM⟩ : ∃ M, M = ws.length := ⟨_, rfl⟩
  rw [← hM] at HVB h64 ⊢
  have HM := hide hM
  clear hvb hb0 hM
  go_wp2_with fail
  go_loopg [12, 13, 14] M (fun gk s12 s13 s14 wr => ∃ (i k pp : Nat) (ds : List (List UInt8)), i + gk = M ∧ s14 = .int .i64 (i : Int) ∧ s13 = .int .i64 (k : Int) ∧ k ≤ N ∧ Hid (ws.drop i = C.blocks pp e) ∧ Hid (C.Tiles pp e (ss.drop k)) ∧ Hid (J = ds ++ C.join (S.node a) [] (ws.drop i) (ss.drop k) (hs.drop k)) ∧ ds.length = i ∧ Hid (DgRow W0.heap.size wr s12 ds) ∧ Hid (Below w.heap.size w wr) ∧ Hid (Below W0.heap.size W0 wr))
  case atStart => exact ⟨0, 0, p, [], by omega, rfl, rfl, by omega, HWS, HT, HJ, rfl, DgRow.nil _ _, B0, Below.refl _ _⟩
  case round =>
    clear HT HJ
    obtain ⟨i, k, pp, ds, hi, rfl, rfl, hkN, HW, HT, HJ, hds, HD, BW, BX⟩ := hrel
    obtain ⟨do_, dc, rfl⟩ := HD.out.form
    rw [hds] at HD ⊢
    cases gk with
    | zero =>
      have hiM : i = M := by omega
      have qi : ¬ (i : Int) < (M : Int) := by omega
      have hd : ws.drop i = [] := List.drop_eq_nil_of_le (by rw [← HM.out, hiM]; exact Nat.le_refl _)
      have DF := hide (show DgRow w.heap.size wr (.slice do_ i dc) J by rw [HJ.out, hd, C.join, List.append_nil]; exact HD.out.mono B0.out.size)
      clear hiM hd hi hds HD HJ HW HT
      go_wp2_with fail
      go_ret
      exact ⟨⟨_, rfl, DF.out⟩, BW.out⟩
    | succ gO =>
      have qi : (i : Int) < (M : Int) := by omega
      have qi0 : (0 : Int) ≤ (i : Int) := by omega
      have qi1 : IntKind.i64.wrap ((i : Int) + 1) = (i : Int) + 1 := by rw [IntKind.wrap_i64]; omega
      have hiw : i < ws.length := by rw [← HM.out]; omega
      have hppe : pp < e := by
        by_cases h : pp < e
        · exact h
        · exfalso
          have h1 := HW.out
          rw [C.blocks_none pp e (by omega)] at h1
          have := congrArg List.length h1
          rw [List.length_drop] at this
          simp at this
          omega
      obtain ⟨j, hj1, hj2, hj3, hj4, -⟩ := C.blk_spec pp e hppe (by omega)
      have hcons := HW.out
      rw [C.blocks_cons pp e hppe (by omega), hj1] at hcons
      have hwi : ws[i]? = some (2 ^ j) := by
        have := congrArg (fun l => l[0]?) hcons
        simpa using this
      have hwn : ws.drop (i + 1) = C.blocks (pp + 2 ^ j) e := by
        have := congrArg List.tail hcons
        rw [List.tail_drop] at this
        exact this
      have hh : (ss.drop k).getD 0 0 ≤ 2 ^ j := by
        cases hsd : ss.drop k with
        | nil => simp
        | cons t ts =>
          have hT := HT.out
          rw [hsd] at hT
          obtain ⟨⟨i', hi'⟩, hd', hts⟩ := hT
          have := C.tiles_le _ _ _ hts
          show t ≤ 2 ^ j
          rw [← hj1, hi']; exact C.blk_max pp e i' hppe (by omega) (hi' ▸ hd') (by omega)
      have hkl : k < ss.length := by
        by_cases h : k < ss.length
        · exact h
        · exfalso
          have hT := HT.out
          rw [List.drop_eq_nil_of_le (by omega)] at hT
          simp only [C.Tiles] at hT
          omega
      have hll : (hs.drop k).length = (ss.drop k).length := by rw [List.length_drop, List.length_drop, HLN.out.2]
      obtain ⟨n1, n2, hT2⟩ := C.gat_rest (S.node a) [] j pp e (ss.drop k) (hs.drop k) HT.out hll hj3 hj4 hh
      have hJ2 := HJ.out
      rw [hcons, C.join_cons] at hJ2
      have GA := hide (fun vs vh W h1 h2 h3 => gather_any a gh gT j ((2 ^ j : Nat) : Int) pp e (ss.drop k) (hs.drop k) vs vh W rfl (by omega) HT.out hll hj3 hj4 hh (by rw [List.length_drop]; have := HLN.out.1; omega) h1 h2 h3)
      obtain ⟨D, hD⟩ : ∃ D, D = (C.gat (S.node a) [] j (ss.drop k) (hs.drop k)).1 := ⟨_, rfl⟩
      obtain ⟨n, hn⟩ : ∃ n, n = (C.gat (S.node a) [] j (ss.drop k) (hs.drop k)).2 := ⟨_, rfl⟩
      rw [← hD, ← hn] at GA hJ2
      rw [← hn] at n1 n2 hT2
      rw [List.drop_drop] at hT2
      rw [List.drop_drop, List.drop_drop, ← hwn] at hJ2
      rw [List.length_drop] at n2
      have HJN : Hid (J = (ds ++ [D]) ++ C.join (S.node a) [] (ws.drop (i + 1)) (ss.drop (k + n)) (hs.drop (k + n))) := by rw [List.append_assoc]; exact hJ2
      have HTN := hide hT2
      have HWN := hide hwn
      obtain ⟨gn, cn, en, hgn, -, hcn⟩ := (HVB.out).cell i (2 ^ j) hwi
      simp only [Value.slice.injEq] at en
      obtain ⟨rfl, -, rfl⟩ := en
      obtain ⟨pw, hpw⟩ : ∃ n, n = 2 ^ j := ⟨_, rfl⟩
      rw [← hpw] at hcn GA
      have CN := hide ((BX.out.cell (p := ⟨gn, i, none⟩) hgn).trans hcn)
      have GN := hide (Nat.lt_of_lt_of_le hgn BX.out.size)
      obtain ⟨so', sc', es, -, hsrc⟩ := id HS.out
      obtain ⟨gs, offs, es2, hgs, -⟩ := hsrc (by omega)
      simp only [Value.slice.injEq] at es
      obtain ⟨rfl, -, rfl⟩ := es
      subst es2
      obtain ⟨gu, ou, cu, eu, -, -, -⟩ := dg_at HG.out.1 0 (by rw [HLN.out.2]; omega)
      simp only [Value.slice.injEq] at eu
      obtain ⟨rfl, -, rfl⟩ := eu
      have HSK := hide (HS.out.drop k (by omega))
      have HGK := hide (HG.out.drop k (by rw [HLN.out.2]; omega))
      have hkn : k + n ≤ N := by have := HLN.out.1; omega
      have q1 : (0 : Int) ≤ (k : Int) := by omega
      have q2 : (k : Int) ≤ (N : Int) := by omega
      have q3 : (N : Int) ≤ (sc : Int) := by omega
      have q4 : (N : Int) ≤ (hc_ : Int) := by omega
      have q5 : ¬ sc = k := by have := HLN.out.1; omega
      have q6 : ¬ hc_ = k := by have := HLN.out.1; omega
      have qk : IntKind.i64.wrap ((k : Int) + (n : Int)) = ((k + n : Nat) : Int) := by rw [IntKind.wrap_i64]; omega
      have HDS := hide hds
      have HDL := hide (show ∀ j, (Value.slice do_ i dc).ownBlock = some j → j < wr.heap.size from fun j hj => (Rw.blk (el := 23) HD.out hj).2.1)
      have HDW := hide (show ∀ j, (Value.slice do_ i dc).ownBlock = some j → W0.heap.size ≤ j from fun j hj => (Rw.blk (el := 23) HD.out hj).1)
      clear hiw hppe hj1 hj2 hj3 hj4 hcons hwi hwn hh hkl hll n1 n2 hT2 hJ2 hD hn hcn hgn hpw hsrc hgs HW HT HJ hds
      go_wp2_with fail
      refine wp_region_noPanic ?_
      refine wp_region_held_drew (S := (fun W => Chg (fun _ => False) wr W)) follows ((Chg.refl _ _).drew) (fun hHeld => ?_)
      clear hHeld
      have hHeld : Chg (fun _ => False) wr wr.drew := (Chg.refl _ _).drew
      have CZ0 := hide hHeld
      have HD' : Hid (DgRow W0.heap.size wr.drew (.slice do_ i dc) ds) := Rw.below (el := 23) HD.out ((Below.refl _ _).drew)
      generalize wr.drew = Z0 at CZ0 hHeld HD' ⊢
      refine wpAnyH_take (i := 0) (oi := { dst := some 27, op := Op.move (Operand.tmp 0), type := 42, pos := "ref.go:64", after := #[], guard := none }) (v := ?_) rfl (by kernel_rfl) (by kernel_rfl) (by kernel_rfl) (fun _ _ _ h => h) (Or.inl ⟨by rfl, ?_⟩) (by assumption) ?_
      rotate_left
      · intro w hSw
        clear hSw
        go_simp
        all_goals with_reducible rfl
      simp only [Act.put, List.setIfInBounds_toArray, List.set_cons_zero, List.set_cons_succ]
      refine wpAnyH_take (i := 1) (oi := { dst := some 28, op := Op.move (Operand.tmp 11), type := 38, pos := "ref.go:64", after := #[], guard := none }) (v := ?_) rfl (by kernel_rfl) (by kernel_rfl) (by kernel_rfl) (fun _ _ _ h => h) (Or.inl ⟨by rfl, ?_⟩) (by assumption) ?_
      rotate_left
      · intro w hSw
        clear hSw
        go_simp
        all_goals with_reducible rfl
      simp only [Act.put, List.setIfInBounds_toArray, List.set_cons_zero, List.set_cons_succ]
      refine wpAnyH_take (i := 2) (oi := { dst := some 29, op := Op.move (Operand.tmp 14), type := 3, pos := "ref.go:64", after := #[], guard := none }) (v := ?_) rfl (by kernel_rfl) (by kernel_rfl) (by kernel_rfl) (fun _ _ _ h => h) (Or.inl ⟨by rfl, ?_⟩) (by assumption) ?_
      rotate_left
      · intro w hSw
        clear hSw
        go_simp
        all_goals with_reducible rfl
      simp only [Act.put, List.setIfInBounds_toArray, List.set_cons_zero, List.set_cons_succ]
      refine wpAnyH_take (i := 3) (oi := { dst := some 30, op := Op.indexAddr 38 (Operand.tmp 28) (Operand.tmp 29), type := 0, pos := "ref.go:64", after := #[{ on := 1, ground := Ground.data }, { on := 2, ground := Ground.data }], guard := none }) (v := ?_) rfl (by kernel_rfl) (by kernel_rfl) (by kernel_rfl) (fun _ _ _ h => h) (Or.inl ⟨by rfl, ?_⟩) (by assumption) ?_
      rotate_left
      · intro w hSw
        clear hSw
        go_simp
        all_goals with_reducible rfl
      simp only [Act.put, List.setIfInBounds_toArray, List.set_cons_zero, List.set_cons_succ]
      refine wpAnyH_take (i := 4) (oi := { dst := some 31, op := Op.load 27 (Operand.tmp 30), type := 27, pos := "ref.go:64", after := #[{ on := 3, ground := Ground.data }], guard := none }) (v := ?_) rfl (by kernel_rfl) (by kernel_rfl) (by kernel_rfl) (fun _ _ _ h => h) (Or.inl ⟨by rfl, ?_⟩) (by assumption) ?_
      rotate_left
      · intro w hSw
        have q := (World.cell?_of_block (a := ⟨gn, i, none⟩) (hSw.block gn GN.out (fun e => e))).trans CN.out
        clear hSw
        go_simp
        all_goals with_reducible rfl
      simp only [Act.put, List.setIfInBounds_toArray, List.set_cons_zero, List.set_cons_succ]
      refine wpAnyH_take (i := 5) (oi := { dst := some 32, op := Op.move (Operand.tmp 3), type := 38, pos := "ref.go:64", after := #[], guard := none }) (v := ?_) rfl (by kernel_rfl) (by kernel_rfl) (by kernel_rfl) (fun _ _ _ h => h) (Or.inl ⟨by rfl, ?_⟩) (by assumption) ?_
      rotate_left
      · intro w hSw
        clear hSw
        go_simp
        all_goals with_reducible rfl
      simp only [Act.put, List.setIfInBounds_toArray, List.set_cons_zero, List.set_cons_succ]
      refine wpAnyH_take (i := 6) (oi := { dst := some 33, op := Op.move (Operand.tmp 13), type := 3, pos := "ref.go:64", after := #[], guard := none }) (v := ?_) rfl (by kernel_rfl) (by kernel_rfl) (by kernel_rfl) (fun _ _ _ h => h) (Or.inl ⟨by rfl, ?_⟩) (by assumption) ?_
      rotate_left
      · intro w hSw
        clear hSw
        go_simp
        all_goals with_reducible rfl
      simp only [Act.put, List.setIfInBounds_toArray, List.set_cons_zero, List.set_cons_succ]
      refine wpAnyH_take (i := 7) (oi := { dst := some 34, op := Op.slice 38 (Operand.tmp 32) (some (Operand.tmp 33)) none none, type := 38, pos := "ref.go:64", after := #[{ on := 5, ground := Ground.data }, { on := 6, ground := Ground.data }], guard := none }) (v := ?_) rfl (by kernel_rfl) (by kernel_rfl) (by kernel_rfl) (fun _ _ _ h => h) (Or.inl ⟨by rfl, ?_⟩) (by assumption) ?_
      rotate_left
      · intro w hSw
        clear hSw
        go_simp
        all_goals with_reducible rfl
      simp only [Act.put, List.setIfInBounds_toArray, List.set_cons_zero, List.set_cons_succ]
      refine wpAnyH_take (i := 8) (oi := { dst := some 35, op := Op.move (Operand.tmp 4), type := 28, pos := "ref.go:64", after := #[], guard := none }) (v := ?_) rfl (by kernel_rfl) (by kernel_rfl) (by kernel_rfl) (fun _ _ _ h => h) (Or.inl ⟨by rfl, ?_⟩) (by assumption) ?_
      rotate_left
      · intro w hSw
        clear hSw
        go_simp
        all_goals with_reducible rfl
      simp only [Act.put, List.setIfInBounds_toArray, List.set_cons_zero, List.set_cons_succ]
      refine wpAnyH_take (i := 9) (oi := { dst := some 36, op := Op.move (Operand.tmp 13), type := 3, pos := "ref.go:64", after := #[], guard := none }) (v := ?_) rfl (by kernel_rfl) (by kernel_rfl) (by kernel_rfl) (fun _ _ _ h => h) (Or.inl ⟨by rfl, ?_⟩) (by assumption) ?_
      rotate_left
      · intro w hSw
        clear hSw
        go_simp
        all_goals with_reducible rfl
      simp only [Act.put, List.setIfInBounds_toArray, List.set_cons_zero, List.set_cons_succ]
      refine wpAnyH_take (i := 10) (oi := { dst := some 37, op := Op.slice 28 (Operand.tmp 35) (some (Operand.tmp 36)) none none, type := 28, pos := "ref.go:64", after := #[{ on := 8, ground := Ground.data }, { on := 9, ground := Ground.data }], guard := none }) (v := ?_) rfl (by kernel_rfl) (by kernel_rfl) (by kernel_rfl) (fun _ _ _ h => h) (Or.inl ⟨by rfl, ?_⟩) (by assumption) ?_
      rotate_left
      · intro w hSw
        clear hSw
        go_simp
        all_goals with_reducible rfl
      simp only [Act.put, List.setIfInBounds_toArray, List.set_cons_zero, List.set_cons_succ]
      refine wpAnyH_ready (rs := [11, 15]) (by kernel_rfl) (by simp) ?_
      refine AllReadyH.cons (o := { dst := some 38, op := Op.call { callee := Callee.value (Operand.func 57), args := #[Operand.tmp 27, Operand.tmp 31, Operand.tmp 34, Operand.tmp 37], argTypes := #[42, 27, 38, 28] }, type := 49, pos := "ref.go:64", after := #[{ on := 0, ground := Ground.data }, { on := 4, ground := Ground.data }, { on := 7, ground := Ground.data }, { on := 10, ground := Ground.data }], guard := none }) rfl (fun K hK => ?_) ?_
      · skip
        go_simp
        refine (GA.out (.slice (some ⟨gs, offs + k, none⟩) (N - k) (sc - k)) (.slice (some ⟨gu, ou + k * 32, none⟩) (N - k) (hc_ - k)) Z0 (HSK.out.below (BW.out.trans (CZ0.out.below w.heap.size BW.out.size (fun k hk e => by omega)))) (HGK.out.below (BW.out.trans (CZ0.out.below w.heap.size BW.out.size (fun k hk e => by omega)))) (HH.out.below (BW.out.trans (CZ0.out.below w.heap.size BW.out.size (fun k hk e => by omega))) (Nat.le_refl _))).mono ?_
        rintro e Z1 ⟨rfl, hl2, hb2⟩
        have LD := hide hl2
        clear hl2
        replace HD' : Hid (DgRow W0.heap.size Z1 (.slice do_ i dc) ds) := Rw.below (el := 23) HD'.out hb2
        have CZ1 : Hid (Chg (fun _ => False) wr Z1) := CZ0.out.then hb2
        clear hb2 CZ0
        clear hHeld
        refine hK.out _ _ CZ1.out (fun hHeld => ?_)
        clear hK K
        try simp only [Act.put, List.setIfInBounds_toArray, List.set_cons_zero, List.set_cons_succ]
        refine wpAnyH_take (i := 12) (oi := { dst := some 26, op := Op.move (Operand.tmp 38), type := 49, pos := "ref.go:64", after := #[{ on := 11, ground := Ground.data }], guard := none }) (v := ?_) rfl (by kernel_rfl) (by kernel_rfl) (by kernel_rfl) (fun _ _ _ h => h) (Or.inl ⟨by rfl, ?_⟩) (by assumption) ?_
        rotate_left
        · intro w hSw
          clear hSw
          go_simp
          all_goals with_reducible rfl
        simp only [Act.put, List.setIfInBounds_toArray, List.set_cons_zero, List.set_cons_succ]
        refine wpAnyH_take (i := 13) (oi := { dst := some 39, op := Op.extract (Operand.tmp 26) 0, type := 23, pos := "ref.go:64", after := #[{ on := 12, ground := Ground.data }], guard := none }) (v := ?_) rfl (by kernel_rfl) (by kernel_rfl) (by kernel_rfl) (fun _ _ _ h => h) (Or.inl ⟨by rfl, ?_⟩) (by assumption) ?_
        rotate_left
        · intro w hSw
          clear hSw
          go_simp
          all_goals with_reducible rfl
        simp only [Act.put, List.setIfInBounds_toArray, List.set_cons_zero, List.set_cons_succ]
        refine wpAnyH_take (i := 14) (oi := { dst := some 40, op := Op.extract (Operand.tmp 26) 1, type := 3, pos := "ref.go:64", after := #[{ on := 12, ground := Ground.data }, { on := 16, ground := Ground.gcOnly Departure.lateStores }], guard := none }) (v := ?_) rfl (by kernel_rfl) (by kernel_rfl) (by kernel_rfl) (fun _ _ _ h => h) (Or.inl ⟨by rfl, ?_⟩) (by assumption) ?_
        rotate_left
        · intro w hSw
          clear hSw
          go_simp
          all_goals with_reducible rfl
        simp only [Act.put, List.setIfInBounds_toArray, List.set_cons_zero, List.set_cons_succ]
        refine wpAnyH_ready (rs := [15]) (by kernel_rfl) (by simp) ?_
        refine step_alloc_as (o := { dst := some 15, op := Op.alloc 23, type := 0, pos := "ref.go:64", after := #[], guard := none }) rfl rfl 23 rfl _ _ (alloc31 Z1) AllReadyH.nil ⟨CZ1.out.alloc _, fun hHeld => ?_⟩
        clear hHeld
        simp only [Act.put, List.setIfInBounds_toArray, List.set_cons_zero, List.set_cons_succ]
        obtain ⟨g15, hg15⟩ : ∃ gg, gg = Z1.heap.size := ⟨_, rfl⟩
        rw [← hg15]
        generalize hZ : Z1.alloc _ = Z2
        have hb2 : Below Z1.heap.size Z1 Z2 := by rw [← hZ]; exact (Below.refl _ _).alloc (Nat.le_refl _) _
        have Rg15 : Hid (Z2.heap[g15]? = some (.cells (S.v8 (S.zeros 32)) 23 (0, 0))) := by rw [← hZ, hg15]; exact heap_alloc_new _ _
        have Gg15 := hide (show wr.heap.size ≤ g15 by rw [hg15]; exact CZ1.out.size)
        clear hZ hg15
        replace HD' : Hid (DgRow W0.heap.size Z2 (.slice do_ i dc) ds) := Rw.below (el := 23) HD'.out hb2
        have CZ2 : Hid (Chg (fun _ => False) wr Z2) := CZ1.out.then hb2
        clear hb2 CZ1
        have hHeld := CZ2.out
        refine wpAnyH_ready (rs := [16]) (by kernel_rfl) (by simp) ?_
        obtain ⟨Z3, hst, r6, C6, s6⟩ := store_dig Rg15.out (S.zeros_length 32) LD.out
        refine step_store_as (o := { dst := none, op := Op.store 23 (Operand.tmp 15) (Operand.tmp 39), type := 0, pos := "ref.go:64", after := #[{ on := 15, ground := Ground.data }, { on := 13, ground := Ground.data }, { on := 11, ground := Ground.chain }, { on := 0, ground := Ground.phase }, { on := 1, ground := Ground.phase }, { on := 2, ground := Ground.phase }, { on := 3, ground := Ground.phase }, { on := 4, ground := Ground.phase }, { on := 5, ground := Ground.phase }, { on := 6, ground := Ground.phase }, { on := 7, ground := Ground.phase }, { on := 8, ground := Ground.phase }, { on := 9, ground := Ground.phase }, { on := 10, ground := Ground.phase }, { on := 11, ground := Ground.phase }, { on := 12, ground := Ground.phase }, { on := 13, ground := Ground.phase }, { on := 14, ground := Ground.textOnly Departure.lateStores }, { on := 15, ground := Ground.phase }], guard := none }) rfl rfl 23 (.tmp 15) (.tmp 39) rfl _ _ rfl rfl Z3 hst AllReadyH.nil ⟨CZ2.out.trans C6 (fun k hk e => by have := Gg15.out; omega), fun hHeld => ?_⟩
        have CZ3 : Hid (Chg (fun _ => False) wr Z3) := CZ2.out.trans C6 (fun k hk e => by have := Gg15.out; omega)
        have R15 := hide r6
        replace HD' := hide (Rw.chg (el := 23) HD'.out C6 (fun j hj e => by have h1 := HDL.out j hj; have := Gg15.out; omega))
        clear hst r6 C6 s6 CZ2 Rg15
        simp only [Act.put]
        refine wpAnyH_take (i := 17) (oi := { dst := some 16, op := Op.assign (Operand.tmp 40), type := 3, pos := "ref.go:64", after := #[{ on := 14, ground := Ground.data }, { on := 16, ground := Ground.chain }, { on := 0, ground := Ground.phase }, { on := 1, ground := Ground.phase }, { on := 2, ground := Ground.phase }, { on := 3, ground := Ground.phase }, { on := 4, ground := Ground.phase }, { on := 5, ground := Ground.phase }, { on := 6, ground := Ground.phase }, { on := 7, ground := Ground.phase }, { on := 8, ground := Ground.phase }, { on := 9, ground := Ground.phase }, { on := 10, ground := Ground.phase }, { on := 11, ground := Ground.phase }, { on := 12, ground := Ground.phase }, { on := 13, ground := Ground.phase }, { on := 14, ground := Ground.phase }, { on := 15, ground := Ground.phase }, { on := 16, ground := Ground.phase }], guard := none }) (v := ?_) rfl (by kernel_rfl) (by kernel_rfl) (by kernel_rfl) (fun _ _ _ h => h) (Or.inl ⟨by rfl, ?_⟩) (by assumption) ?_
        rotate_left
        · intro w hSw
          clear hSw
          go_simp
          all_goals with_reducible rfl
        simp only [Act.put, List.setIfInBounds_toArray, List.set_cons_zero, List.set_cons_succ]
        refine wpAnyH_done (by kernel_rfl) ?_ _
        refine NoPanic.normal ?_
        clear hHeld
        have BZ := hide (BW.out.trans (CZ3.out.below w.heap.size BW.out.size (fun k hk e => by omega)))
        have BXZ := hide (BX.out.trans (CZ3.out.below W0.heap.size BX.out.size (fun _ _ e => e)))
        generalize Z3 = Y at BZ BXZ R15 HD' ⊢
        clear CZ3
        have hld := load_dig R15.out LD.out
        have hbs := bs24one Y D LD.out
        obtain ⟨X, hX⟩ : ∃ X, X = Y.alloc (.cells (S.v8 D) 23) := ⟨_, rfl⟩
        rw [← hX] at hbs
        have bx : Below Y.heap.size Y X := by rw [hX]; exact (Below.refl _ _).alloc (Nat.le_refl _) _
        have rx : X.heap[Y.heap.size]? = some (.cells (S.v8l D).toArray 23 (0, 0)) := by rw [hX, ← S.v8_eq]; exact heap_alloc_new _ _
        have DX : DgRow W0.heap.size X (.slice do_ i dc) ds := Rw.below (el := 23) HD'.out bx
        have KEY := hide (Rw.append kdD 28 (w := X) (v := .slice do_ i dc) DX (Sce.of_row (c := 1) rx) (fun y hy => by simp only [List.mem_singleton] at hy; rw [hy, S.v8l_length, LD.out]) (by simp only [List.length_cons, List.length_nil]; have := HDS.out; omega) (Nat.le_trans BXZ.out.size bx.size))
        have BXX := hide (BZ.out.trans (bx.mono BZ.out.size))
        have BX2 := hide (BXZ.out.trans (bx.mono BXZ.out.size))
        have HWB := hide (fun j (h : (Value.slice do_ i dc).ownBlock = some j) => (Rw.blk (el := 23) DX h).1)
        have HW0 := hide (fun j (h : (Value.slice do_ i dc).ownBlock = some j) => HDW.out j h)
        obtain ⟨gx, hgx⟩ : ∃ g, g = Y.heap.size := ⟨_, rfl⟩
        rw [← hgx] at hbs KEY
        obtain ⟨VD, hVD⟩ : ∃ V, V = Value.agg (S.v8 D) := ⟨_, rfl⟩
        rw [← hVD] at hld hbs
        clear bx rx hX hgx hVD DX HD'
        go_wp2_with (first | (with_reducible refine at_op { dst := some 42, op := Op.load 23 (Operand.tmp 15), type := 23, pos := "ref.go:65", after := #[], guard := none } ?_; refine wpList_load_as rfl 23 (.tmp 15) rfl (.pointer (some ⟨g15, 0, none⟩)) rfl VD hld ?_) | (with_reducible refine at_op { dst := some 43, op := Op.buildSlice 28 1 #[(0, Operand.tmp 42)], type := 28, pos := "ref.go:65", after := #[{ on := 1, ground := Ground.data }], guard := none } ?_; refine wpList_buildSlice_as rfl 28 1 [(0, .tmp 42)] rfl [(0, VD)] rfl _ _ hbs ?_) | (at_builtin; (refine wpList_append_known rfl (.tmp 41) (.tmp 43) 28 28 rfl _ _ rfl rfl KEY.out ?_; rintro v' Y9 ⟨hR', hC'⟩; have RN := hide hR'; have BN := hide (BXX.out.trans (hC'.below _ BXX.out.size (fun k hk e => by have := HWB.out _ e; have := B0.out.size; omega))); have BN0 := hide (BX2.out.trans (hC'.below _ BX2.out.size (fun k hk e => by have := HW0.out _ e; omega))); clear hR' hC')))
        go_roundg gO
        case measure => omega
        case rel => exact ⟨i + 1, k + n, pp + 2 ^ j, ds ++ [D], by omega, by first | rfl | simp, rfl, hkn, HWN, HTN, HJN, by rw [List.length_append, HDS.out]; rfl, RN, BN, BN0⟩
      refine step_alloc_as (o := { dst := some 15, op := Op.alloc 23, type := 0, pos := "ref.go:64", after := #[], guard := none }) rfl rfl 23 rfl _ _ (alloc31 Z0) AllReadyH.nil ⟨CZ0.out.alloc _, fun hHeld => ?_⟩
      clear hHeld
      simp only [Act.put, List.setIfInBounds_toArray, List.set_cons_zero, List.set_cons_succ]
      obtain ⟨g15, hg15⟩ : ∃ gg, gg = Z0.heap.size := ⟨_, rfl⟩
      rw [← hg15]
      generalize hZ : Z0.alloc _ = Z1
      have hb2 : Below Z0.heap.size Z0 Z1 := by rw [← hZ]; exact (Below.refl _ _).alloc (Nat.le_refl _) _
      have Rg15 : Hid (Z1.heap[g15]? = some (.cells (S.v8 (S.zeros 32)) 23 (0, 0))) := by rw [← hZ, hg15]; exact heap_alloc_new _ _
      have Gg15 := hide (show wr.heap.size ≤ g15 by rw [hg15]; exact CZ0.out.size)
      clear hZ hg15
      replace HD' : Hid (DgRow W0.heap.size Z1 (.slice do_ i dc) ds) := Rw.below (el := 23) HD'.out hb2
      have CZ1 : Hid (Chg (fun _ => False) wr Z1) := CZ0.out.then hb2
      clear hb2 CZ0
      have hHeld := CZ1.out
      refine wpAnyH_ready (rs := [11]) (by kernel_rfl) (by simp) ?_
      refine AllReadyH.cons (o := { dst := some 38, op := Op.call { callee := Callee.value (Operand.func 57), args := #[Operand.tmp 27, Operand.tmp 31, Operand.tmp 34, Operand.tmp 37], argTypes := #[42, 27, 38, 28] }, type := 49, pos := "ref.go:64", after := #[{ on := 0, ground := Ground.data }, { on := 4, ground := Ground.data }, { on := 7, ground := Ground.data }, { on := 10, ground := Ground.data }], guard := none }) rfl (fun K hK => ?_) AllReadyH.nil
      go_simp
      refine (GA.out (.slice (some ⟨gs, offs + k, none⟩) (N - k) (sc - k)) (.slice (some ⟨gu, ou + k * 32, none⟩) (N - k) (hc_ - k)) Z1 (HSK.out.below (BW.out.trans (CZ1.out.below w.heap.size BW.out.size (fun k hk e => by omega)))) (HGK.out.below (BW.out.trans (CZ1.out.below w.heap.size BW.out.size (fun k hk e => by omega)))) (HH.out.below (BW.out.trans (CZ1.out.below w.heap.size BW.out.size (fun k hk e => by omega))) (Nat.le_refl _))).mono ?_
      rintro e Z2 ⟨rfl, hl2, hb2⟩
      have LD := hide hl2
      clear hl2
      replace Rg15 : Hid (Z2.heap[g15]? = some (.cells (S.v8 (S.zeros 32)) 23 (0, 0))) := (hb2.block _ (block_lt_of_row Rg15.out)).trans Rg15.out
      replace HD' : Hid (DgRow W0.heap.size Z2 (.slice do_ i dc) ds) := Rw.below (el := 23) HD'.out hb2
      have CZ2 : Hid (Chg (fun _ => False) wr Z2) := CZ1.out.then hb2
      clear hb2 CZ1
      clear hHeld
      refine hK.out _ _ CZ2.out (fun hHeld => ?_)
      clear hK K
      try simp only [Act.put, List.setIfInBounds_toArray, List.set_cons_zero, List.set_cons_succ]
      refine wpAnyH_take (i := 12) (oi := { dst := some 26, op := Op.move (Operand.tmp 38), type := 49, pos := "ref.go:64", after := #[{ on := 11, ground := Ground.data }], guard := none }) (v := ?_) rfl (by kernel_rfl) (by kernel_rfl) (by kernel_rfl) (fun _ _ _ h => h) (Or.inl ⟨by rfl, ?_⟩) (by assumption) ?_
      rotate_left
      · intro w hSw
        clear hSw
        go_simp
        all_goals with_reducible rfl
      simp only [Act.put, List.setIfInBounds_toArray, List.set_cons_zero, List.set_cons_succ]
      refine wpAnyH_take (i := 13) (oi := { dst := some 39, op := Op.extract (Operand.tmp 26) 0, type := 23, pos := "ref.go:64", after := #[{ on := 12, ground := Ground.data }], guard := none }) (v := ?_) rfl (by kernel_rfl) (by kernel_rfl) (by kernel_rfl) (fun _ _ _ h => h) (Or.inl ⟨by rfl, ?_⟩) (by assumption) ?_
      rotate_left
      · intro w hSw
        clear hSw
        go_simp
        all_goals with_reducible rfl
      simp only [Act.put, List.setIfInBounds_toArray, List.set_cons_zero, List.set_cons_succ]
      refine wpAnyH_take (i := 14) (oi := { dst := some 40, op := Op.extract (Operand.tmp 26) 1, type := 3, pos := "ref.go:64", after := #[{ on := 12, ground := Ground.data }, { on := 16, ground := Ground.gcOnly Departure.lateStores }], guard := none }) (v := ?_) rfl (by kernel_rfl) (by kernel_rfl) (by kernel_rfl) (fun _ _ _ h => h) (Or.inl ⟨by rfl, ?_⟩) (by assumption) ?_
      rotate_left
      · intro w hSw
        clear hSw
        go_simp
        all_goals with_reducible rfl
      simp only [Act.put, List.setIfInBounds_toArray, List.set_cons_zero, List.set_cons_succ]
      refine wpAnyH_ready (rs := [16]) (by kernel_rfl) (by simp) ?_
      obtain ⟨Z3, hst, r6, C6, s6⟩ := store_dig Rg15.out (S.zeros_length 32) LD.out
      refine step_store_as (o := { dst := none, op := Op.store 23 (Operand.tmp 15) (Operand.tmp 39), type := 0, pos := "ref.go:64", after := #[{ on := 15, ground := Ground.data }, { on := 13, ground := Ground.data }, { on := 11, ground := Ground.chain }, { on := 0, ground := Ground.phase }, { on := 1, ground := Ground.phase }, { on := 2, ground := Ground.phase }, { on := 3, ground := Ground.phase }, { on := 4, ground := Ground.phase }, { on := 5, ground := Ground.phase }, { on := 6, ground := Ground.phase }, { on := 7, ground := Ground.phase }, { on := 8, ground := Ground.phase }, { on := 9, ground := Ground.phase }, { on := 10, ground := Ground.phase }, { on := 11, ground := Ground.phase }, { on := 12, ground := Ground.phase }, { on := 13, ground := Ground.phase }, { on := 14, ground := Ground.textOnly Departure.lateStores }, { on := 15, ground := Ground.phase }], guard := none }) rfl rfl 23 (.tmp 15) (.tmp 39) rfl _ _ rfl rfl Z3 hst AllReadyH.nil ⟨CZ2.out.trans C6 (fun k hk e => by have := Gg15.out; omega), fun hHeld => ?_⟩
      have CZ3 : Hid (Chg (fun _ => False) wr Z3) := CZ2.out.trans C6 (fun k hk e => by have := Gg15.out; omega)
      have R15 := hide r6
      replace HD' := hide (Rw.chg (el := 23) HD'.out C6 (fun j hj e => by have h1 := HDL.out j hj; have := Gg15.out; omega))
      clear hst r6 C6 s6 CZ2 Rg15
      simp only [Act.put]
      refine wpAnyH_take (i := 17) (oi := { dst := some 16, op := Op.assign (Operand.tmp 40), type := 3, pos := "ref.go:64", after := #[{ on := 14, ground := Ground.data }, { on := 16, ground := Ground.chain }, { on := 0, ground := Ground.phase }, { on := 1, ground := Ground.phase }, { on := 2, ground := Ground.phase }, { on := 3, ground := Ground.phase }, { on := 4, ground := Ground.phase }, { on := 5, ground := Ground.phase }, { on := 6, ground := Ground.phase }, { on := 7, ground := Ground.phase }, { on := 8, ground := Ground.phase }, { on := 9, ground := Ground.phase }, { on := 10, ground := Ground.phase }, { on := 11, ground := Ground.phase }, { on := 12, ground := Ground.phase }, { on := 13, ground := Ground.phase }, { on := 14, ground := Ground.phase }, { on := 15, ground := Ground.phase }, { on := 16, ground := Ground.phase }], guard := none }) (v := ?_) rfl (by kernel_rfl) (by kernel_rfl) (by kernel_rfl) (fun _ _ _ h => h) (Or.inl ⟨by rfl, ?_⟩) (by assumption) ?_
      rotate_left
      · intro w hSw
        clear hSw
        go_simp
        all_goals with_reducible rfl
      simp only [Act.put, List.setIfInBounds_toArray, List.set_cons_zero, List.set_cons_succ]
      refine wpAnyH_done (by kernel_rfl) ?_ _
      refine NoPanic.normal ?_
      clear hHeld
      have BZ := hide (BW.out.trans (CZ3.out.below w.heap.size BW.out.size (fun k hk e => by omega)))
      have BXZ := hide (BX.out.trans (CZ3.out.below W0.heap.size BX.out.size (fun _ _ e => e)))
      generalize Z3 = Y at BZ BXZ R15 HD' ⊢
      clear CZ3
      have hld := load_dig R15.out LD.out
      have hbs := bs24one Y D LD.out
      obtain ⟨X, hX⟩ : ∃ X, X = Y.alloc (.cells (S.v8 D) 23) := ⟨_, rfl⟩
      rw [← hX] at hbs
      have bx : Below Y.heap.size Y X := by rw [hX]; exact (Below.refl _ _).alloc (Nat.le_refl _) _
      have rx : X.heap[Y.heap.size]? = some (.cells (S.v8l D).toArray 23 (0, 0)) := by rw [hX, ← S.v8_eq]; exact heap_alloc_new _ _
      have DX : DgRow W0.heap.size X (.slice do_ i dc) ds := Rw.below (el := 23) HD'.out bx
      have KEY := hide (Rw.append kdD 28 (w := X) (v := .slice do_ i dc) DX (Sce.of_row (c := 1) rx) (fun y hy => by simp only [List.mem_singleton] at hy; rw [hy, S.v8l_length, LD.out]) (by simp only [List.length_cons, List.length_nil]; have := HDS.out; omega) (Nat.le_trans BXZ.out.size bx.size))
      have BXX := hide (BZ.out.trans (bx.mono BZ.out.size))
      have BX2 := hide (BXZ.out.trans (bx.mono BXZ.out.size))
      have HWB := hide (fun j (h : (Value.slice do_ i dc).ownBlock = some j) => (Rw.blk (el := 23) DX h).1)
      have HW0 := hide (fun j (h : (Value.slice do_ i dc).ownBlock = some j) => HDW.out j h)
      obtain ⟨gx, hgx⟩ : ∃ g, g = Y.heap.size := ⟨_, rfl⟩
      rw [← hgx] at hbs KEY
      obtain ⟨VD, hVD⟩ : ∃ V, V = Value.agg (S.v8 D) := ⟨_, rfl⟩
      rw [← hVD] at hld hbs
      clear bx rx hX hgx hVD DX HD'
      go_wp2_with (first | (with_reducible refine at_op { dst := some 42, op := Op.load 23 (Operand.tmp 15), type := 23, pos := "ref.go:65", after := #[], guard := none } ?_; refine wpList_load_as rfl 23 (.tmp 15) rfl (.pointer (some ⟨g15, 0, none⟩)) rfl VD hld ?_) | (with_reducible refine at_op { dst := some 43, op := Op.buildSlice 28 1 #[(0, Operand.tmp 42)], type := 28, pos := "ref.go:65", after := #[{ on := 1, ground := Ground.data }], guard := none } ?_; refine wpList_buildSlice_as rfl 28 1 [(0, .tmp 42)] rfl [(0, VD)] rfl _ _ hbs ?_) | (at_builtin; (refine wpList_append_known rfl (.tmp 41) (.tmp 43) 28 28 rfl _ _ rfl rfl KEY.out ?_; rintro v' Y9 ⟨hR', hC'⟩; have RN := hide hR'; have BN := hide (BXX.out.trans (hC'.below _ BXX.out.size (fun k hk e => by have := HWB.out _ e; have := B0.out.size; omega))); have BN0 := hide (BX2.out.trans (hC'.below _ BX2.out.size (fun k hk e => by have := HW0.out _ e; omega))); clear hR' hC')))
      go_roundg gO
      case measure => omega
      case rel => exact ⟨i + 1, k + n, pp + 2 ^ j, ds ++ [D], by omega, by first | rfl | simp, rfl, hkn, HWN, HTN, HJN, by rw [List.length_append, HDS.out]; rfl, RN, BN, BN0⟩
end Go.Proofs.YtkljajfgdelfgaaDoor
