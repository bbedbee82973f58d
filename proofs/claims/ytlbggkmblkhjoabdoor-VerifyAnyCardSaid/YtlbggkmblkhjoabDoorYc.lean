/- VerifyAny. -/
import Derived.Test.YtlbggkmblkhjoabDoorYb
import Derived.Test.YtlbggkmblkhjoabDoorWj
import Derived.Test.YtlbggkmblkhjoabDoorArgg
namespace Go.Proofs.YtlbggkmblkhjoabDoor
open Go.RowKit

theorem S.vColl_is (a : Int) (b c : List UInt8) (i n : Nat) (ps qs : List (List UInt8)) (u v : List UInt8) (h : S.vColl a b c i n ps qs = some (u, v)) : u ≠ v ∧ S.hsh a u = S.hsh a v := by
  rw [S.vColl_climb] at h
  split at h
  · cases h
  · split at h
    · split at h
      · exact S.coll_is a _ _ u v h
      · cases h
    · cases h
set_option maxHeartbeats 16000000 in
set_option maxRecDepth 10000 in
theorem verifyAny_walk (a : Int) (va vb vp vq : Value) (bs cs : List UInt8) (i n : Nat) (Ps Qs : List (List UInt8)) (w : World) (hn : n < 18446744073709551616) (hv : SliceAt w va bs) (hu : SliceAt w vb cs) (hl : bs.length + 1 ≤ 140737488355000) (hl2 : cs.length + 1 ≤ 140737488355000) (hp : DgAny w vp Ps) (hq : DgAny w vq Qs) (hpl : Ps.length ≤ 140737488355328) (hql : Qs.length ≤ 140737488355328) (hK : KAt w) :
   Calls Tryd.prog 3 #[.int .i64 a, va, vb, .int .u64 (i : Int), .int .u64 (n : Int), vp, vq] w fun e w' => e = .returned (.bool true) ∧ Below w.heap.size w w' := by
  obtain ⟨ao, len, cap, rfl, hlen, _⟩ := hv.form
  obtain ⟨bo, lenb, capb, rfl, hlenb, _⟩ := hu.form
  obtain ⟨po, pc, rfl, hpc⟩ := hp.form
  obtain ⟨qo, qc, rfl, hqc⟩ := hq.form
  obtain ⟨pn, hpn⟩ : ∃ m, m = Ps.length := ⟨_, rfl⟩
  obtain ⟨qn, hqn⟩ : ∃ m, m = Qs.length := ⟨_, rfl⟩
  rw [← hpn] at hp hpc hpl ⊢
  rw [← hqn] at hq hqc hql ⊢
  have HV := hide hv
  have HU := hide hu
  have P := hide hp
  have Q := hide hq
  have PL := hide hpn
  have QL := hide hqn
  have HL1 := hide hl
  have HL2 := hide hl2
  have HK := hide hK
  have h0 := hK.pos
  clear hv hu hp hq hl hl2 hK hlen hlenb hpn hqn
  go_enter Tryd.func3, Tryd.ntmps3
  go_upto_if 24 with fail
  go_cut [5] (fun x wc => w = wc ∧ ∃ (a : Option Addr) (l c : Nat) (ds : List (List UInt8)), x = .slice a l c ∧ l = ds.length ∧ l ≤ 66 ∧ Hid (DgAt w (.slice a l c) ds))
  case first =>
    by_cases h : 66 < pn
    · have q1 : (66 : Int) < (pn : Int) := by omega
      have q2 : (66 : Int) ≤ (pc : Int) := by omega
      obtain ⟨ds2, hds2⟩ : ∃ d, d = Ps.take 66 := ⟨_, rfl⟩
      have hl2 : 66 = ds2.length := by rw [hds2, List.length_take, ← PL.out]; omega
      have Z := hide (show DgAt w (.slice po 66 pc) ds2 by rw [hds2]; exact (P.out.take 66 (by omega)).dgAt (by rw [List.length_take]; omega))
      have ZL := hide hl2
      clear hds2 hl2
      go_wp2_with fail
      go_meet
      exact ⟨rfl, po, 66, pc, ds2, rfl, ZL.out, Nat.le_refl _, Z⟩
    · have q1 : ¬ ((66 : Int) < (pn : Int)) := by omega
      have Z := hide (P.out.dgAt (by rw [← PL.out]; omega))
      go_wp2_with fail
      go_meet
      exact ⟨rfl, po, pn, pc, Ps, rfl, PL.out, by omega, Z⟩
  case rest =>
  obtain ⟨rfl, po', pn', pc', ps, rfl, hpm, hp66, P1⟩ := hcut
  have PM := hide hpm
  clear hpm P PL hpl hpc
  clear po pn pc Ps
  go_upto_if 29 with fail
  go_cut [6] (fun x wc => w = wc ∧ ∃ (a : Option Addr) (l c : Nat) (ds : List (List UInt8)), x = .slice a l c ∧ l = ds.length ∧ l ≤ 66 ∧ Hid (DgAt w (.slice a l c) ds))
  case first =>
    by_cases h : 66 < qn
    · have q1 : (66 : Int) < (qn : Int) := by omega
      have q2 : (66 : Int) ≤ (qc : Int) := by omega
      obtain ⟨ds2, hds2⟩ : ∃ d, d = Qs.take 66 := ⟨_, rfl⟩
      have hl2 : 66 = ds2.length := by rw [hds2, List.length_take, ← QL.out]; omega
      have Z := hide (show DgAt w (.slice qo 66 qc) ds2 by rw [hds2]; exact (Q.out.take 66 (by omega)).dgAt (by rw [List.length_take]; omega))
      have ZL := hide hl2
      clear hds2 hl2
      go_wp2_with fail
      go_meet
      exact ⟨rfl, qo, 66, qc, ds2, rfl, ZL.out, Nat.le_refl _, Z⟩
    · have q1 : ¬ ((66 : Int) < (qn : Int)) := by omega
      have Z := hide (Q.out.dgAt (by rw [← QL.out]; omega))
      go_wp2_with fail
      go_meet
      exact ⟨rfl, qo, qn, qc, Qs, rfl, QL.out, by omega, Z⟩
  case rest =>
  obtain ⟨rfl, qo', qn', qc', qs, rfl, hqm, hq66, Q1⟩ := hcut
  have QM := hide hqm
  clear hqm Q QL hql hqc
  clear qo qn qc Qs
  go_wp2_with fail
  refine (hasher_any a w).mono ?_
  rintro e w1 ⟨gh, gT, rfl, hs1, b1⟩
  have H1 := hide hs1
  have B1 := hide b1
  obtain ⟨O, hO⟩ : ∃ O, O = S.vColl a bs cs i n ps qs := ⟨_, rfl⟩
  have HO := hide hO
  clear hs1 b1 hO
  go_wp2_with fail
  refine (collide_any a _ _ _ _ bs cs i n ps qs w1 hn (HV.out.below B1.out (Nat.le_refl _)) (HU.out.below B1.out (Nat.le_refl _)) (by have := HL1.out; omega) (by have := HL2.out; omega) (P1.out.below B1.out) (by rw [← PM.out]; omega) (Q1.out.below B1.out) (by rw [← QM.out]; omega) (HK.out.below B1.out h0)).mono ?_
  rintro e w2 hT
  rw [← HO.out] at hT
  obtain ⟨⟨xo, xl, xc, yo, yl, yc, rfl, sx, sy⟩, b2⟩ := hT
  have SX := hide sx
  have SY := hide sy
  have B12 := hide b2
  have B2 := hide (B1.out.trans (b2.mono B1.out.size))
  clear sx sy b2
  go_wp2_with fail
  refine (rcollide_any gh gT a _ _ _ _ bs cs i n ps qs w2 hn (H1.out.below B12.out (Nat.le_refl _)) (HV.out.below B2.out (Nat.le_refl _)) (HU.out.below B2.out (Nat.le_refl _)) HL1.out HL2.out (P1.out.below B2.out) (by rw [← PM.out]; omega) (Q1.out.below B2.out) (by rw [← QM.out]; omega)).mono ?_
  rintro e w3 hT
  rw [← HO.out] at hT
  obtain ⟨⟨uo, ul, uc, vo, vl, vc, rfl, su, sv⟩, b3⟩ := hT
  have H3 := hide ((H1.out.below B12.out (Nat.le_refl _)).below b3 (Nat.le_refl _))
  have SX3 := hide (SX.out.below b3 (Nat.le_refl _))
  have SY3 := hide (SY.out.below b3 (Nat.le_refl _))
  have SU3 := hide su
  have SV3 := hide sv
  have B3 := hide (B2.out.trans (b3.mono B2.out.size))
  clear b3 su sv H1 B12 B1 B2 SX SY P1 Q1 PM QM HV HU
  obtain ⟨X, hX⟩ : ∃ X, X = (O.map Prod.fst |>.getD []) := ⟨_, rfl⟩
  obtain ⟨Y, hY⟩ : ∃ Y, Y = (O.map Prod.snd |>.getD []) := ⟨_, rfl⟩
  rw [← hX] at SX3 SU3
  rw [← hY] at SY3 SV3
  obtain ⟨TX, hTX⟩ : ∃ T, T = (⟨X.toArray⟩ : ByteArray) := ⟨_, rfl⟩
  obtain ⟨TY, hTY⟩ : ∃ T, T = (⟨Y.toArray⟩ : ByteArray) := ⟨_, rfl⟩
  have c1 : (convert 22 9 (.slice xo xl xc)).run Tryd.prog w3 = .ok (.string TX) w3 := by rw [hTX]; exact conv_slice SX3.out
  have c2 : (convert 22 9 (.slice uo ul uc)).run Tryd.prog w3 = .ok (.string TX) w3 := by rw [hTX]; exact conv_slice SU3.out
  have c3 : (convert 22 9 (.slice yo yl yc)).run Tryd.prog w3 = .ok (.string TY) w3 := by rw [hTY]; exact conv_slice SY3.out
  have c4 : (convert 22 9 (.slice vo vl vc)).run Tryd.prog w3 = .ok (.string TY) w3 := by rw [hTY]; exact conv_slice SV3.out
  have t1 : (TX.toList == TX.toList) = true := by simp
  have t2 : (TY.toList == TY.toList) = true := by simp
  have KA1 : Hid (∀ W : World, Below w3.heap.size w3 W → (convert 22 9 (.slice xo xl xc)).run Tryd.prog W = .ok (.string TX) W) := fun W hW => by rw [hTX]; exact conv_slice (SX3.out.below hW (Nat.le_refl _))
  have KA2 : Hid (∀ W : World, Below w3.heap.size w3 W → (convert 22 9 (.slice yo yl yc)).run Tryd.prog W = .ok (.string TY) W) := fun W hW => by rw [hTY]; exact conv_slice (SY3.out.below hW (Nat.le_refl _))
  have HTT := hide (show (TX.toList == TY.toList) = (X == Y) by rw [hTX, hTY, ByteArray.toList_eq, ByteArray.toList_eq])
  have HX := hide hX
  have HY := hide hY
  clear hX hY hTX hTY
  obtain ⟨cwa, hcwa⟩ : ∃ c, c = S.cw a := ⟨_, rfl⟩
  have HCW := hide hcwa
  have HC32 := hide (S.cw_le a)
  rw [← hcwa] at HC32
  clear hcwa
  cases O with
  | none =>
    simp only [Option.isSome_none]
    go_upto_region 10 with fail
    clear c1 c2 c3 c4 t1 t2
    refine wp_region_noPanic ?_
    refine wp_region_held_drew (S := (fun W => Chg (fun _ => False) w3 W)) follows ((Chg.refl _ _).drew) (fun hHeld => ?_)
    clear hHeld
    have hHeld : Chg (fun _ => False) w3 w3.drew := (Chg.refl _ _).drew
    have CZ0 := hide hHeld
    generalize w3.drew = Z0 at CZ0 hHeld ⊢
    refine wpAnyH_take (i := 0) (oi := { dst := some 75, op := Op.move (Operand.tmp 18), type := 4, pos := "law.go:174", after := #[], guard := none }) (v := ?_) rfl (by kernel_rfl) (by kernel_rfl) (by kernel_rfl) (fun _ _ _ h => h) (Or.inl ⟨by rfl, ?_⟩) (by assumption) ?_
    rotate_left
    · intro w hSw
      clear hSw
      go_simp
      all_goals with_reducible rfl
    simp only [Act.put, List.setIfInBounds_toArray, List.set_cons_zero, List.set_cons_succ]
    refine wpAnyH_take (i := 1) (oi := { dst := some 76, op := Op.unOp UnOp.not 4 (Operand.tmp 75), type := 4, pos := "law.go:174", after := #[{ on := 0, ground := Ground.data }], guard := none }) (v := ?_) rfl (by kernel_rfl) (by kernel_rfl) (by kernel_rfl) (fun _ _ _ h => h) (Or.inl ⟨by rfl, ?_⟩) (by assumption) ?_
    rotate_left
    · intro w hSw
      clear hSw
      go_simp
      all_goals with_reducible rfl
    simp only [Act.put, List.setIfInBounds_toArray, List.set_cons_zero, List.set_cons_succ]
    refine wpAnyH_take (i := 2) (oi := { dst := some 77, op := Op.move (Operand.tmp 76), type := 4, pos := "law.go:174", after := #[{ on := 1, ground := Ground.data }], guard := none }) (v := ?_) rfl (by kernel_rfl) (by kernel_rfl) (by kernel_rfl) (fun _ _ _ h => h) (Or.inl ⟨by rfl, ?_⟩) (by assumption) ?_
    rotate_left
    · intro w hSw
      clear hSw
      go_simp
      all_goals with_reducible rfl
    simp only [Act.put, List.setIfInBounds_toArray, List.set_cons_zero, List.set_cons_succ]
    refine wpAnyH_take (i := 3) (oi := { dst := some 78, op := Op.move (Operand.tmp 16), type := 22, pos := "law.go:174", after := #[{ on := 2, ground := Ground.guard }], guard := some (2, false) }) (v := undef) rfl (by kernel_rfl) (by kernel_rfl) (by kernel_rfl) (fun _ _ _ h => h) (Or.inr ⟨by rfl, rfl⟩) (by assumption) ?_
    simp only [Act.put, List.setIfInBounds_toArray, List.set_cons_zero, List.set_cons_succ]
    refine wpAnyH_take (i := 4) (oi := { dst := some 79, op := Op.convert 22 9 (Operand.tmp 78), type := 9, pos := "law.go:174", after := #[{ on := 3, ground := Ground.data }, { on := 2, ground := Ground.guard }], guard := some (2, false) }) (v := undef) rfl (by kernel_rfl) (by kernel_rfl) (by kernel_rfl) (fun _ _ _ h => h) (Or.inr ⟨by rfl, rfl⟩) (by assumption) ?_
    simp only [Act.put, List.setIfInBounds_toArray, List.set_cons_zero, List.set_cons_succ]
    refine wpAnyH_take (i := 5) (oi := { dst := some 80, op := Op.move (Operand.tmp 17), type := 22, pos := "law.go:174", after := #[{ on := 2, ground := Ground.guard }], guard := some (2, false) }) (v := undef) rfl (by kernel_rfl) (by kernel_rfl) (by kernel_rfl) (fun _ _ _ h => h) (Or.inr ⟨by rfl, rfl⟩) (by assumption) ?_
    simp only [Act.put, List.setIfInBounds_toArray, List.set_cons_zero, List.set_cons_succ]
    refine wpAnyH_take (i := 6) (oi := { dst := some 81, op := Op.convert 22 9 (Operand.tmp 80), type := 9, pos := "law.go:174", after := #[{ on := 5, ground := Ground.data }, { on := 2, ground := Ground.guard }], guard := some (2, false) }) (v := undef) rfl (by kernel_rfl) (by kernel_rfl) (by kernel_rfl) (fun _ _ _ h => h) (Or.inr ⟨by rfl, rfl⟩) (by assumption) ?_
    simp only [Act.put, List.setIfInBounds_toArray, List.set_cons_zero, List.set_cons_succ]
    refine wpAnyH_take (i := 7) (oi := { dst := some 82, op := Op.binOp BinOp.neq 9 (Operand.tmp 79) (Operand.tmp 81) 9, type := 4, pos := "law.go:174", after := #[{ on := 4, ground := Ground.data }, { on := 6, ground := Ground.data }, { on := 2, ground := Ground.guard }], guard := some (2, false) }) (v := undef) rfl (by kernel_rfl) (by kernel_rfl) (by kernel_rfl) (fun _ _ _ h => h) (Or.inr ⟨by rfl, rfl⟩) (by assumption) ?_
    simp only [Act.put, List.setIfInBounds_toArray, List.set_cons_zero, List.set_cons_succ]
    refine wpAnyH_take (i := 8) (oi := { dst := some 83, op := Op.move (Operand.tmp 82), type := 4, pos := "law.go:174", after := #[{ on := 7, ground := Ground.data }, { on := 2, ground := Ground.chain }, { on := 2, ground := Ground.guard }], guard := some (2, false) }) (v := undef) rfl (by kernel_rfl) (by kernel_rfl) (by kernel_rfl) (fun _ _ _ h => h) (Or.inr ⟨by rfl, rfl⟩) (by assumption) ?_
    simp only [Act.put, List.setIfInBounds_toArray, List.set_cons_zero, List.set_cons_succ]
    refine wpAnyH_take (i := 9) (oi := { dst := some 84, op := Op.move (Operand.tmp 16), type := 22, pos := "law.go:174", after := #[{ on := 8, ground := Ground.guard }], guard := some (8, true) }) (v := undef) rfl (by kernel_rfl) (by kernel_rfl) (by kernel_rfl) (fun _ _ _ h => h) (Or.inr ⟨by rfl, rfl⟩) (by assumption) ?_
    simp only [Act.put, List.setIfInBounds_toArray, List.set_cons_zero, List.set_cons_succ]
    refine wpAnyH_take (i := 10) (oi := { dst := some 85, op := Op.call { callee := Callee.value (Operand.func 10), args := #[Operand.tmp 84], argTypes := #[22] }, type := 31, pos := "law.go:174", after := #[{ on := 9, ground := Ground.data }, { on := 8, ground := Ground.chain }, { on := 8, ground := Ground.guard }], guard := some (8, true) }) (v := undef) rfl (by kernel_rfl) (by kernel_rfl) (by kernel_rfl) (fun _ _ _ h => h) (Or.inr ⟨by rfl, rfl⟩) (by assumption) ?_
    simp only [Act.put, List.setIfInBounds_toArray, List.set_cons_zero, List.set_cons_succ]
    refine wpAnyH_take (i := 11) (oi := { dst := some 86, op := Op.move (Operand.tmp 15), type := 25, pos := "law.go:174", after := #[{ on := 8, ground := Ground.guard }], guard := some (8, true) }) (v := undef) rfl (by kernel_rfl) (by kernel_rfl) (by kernel_rfl) (fun _ _ _ h => h) (Or.inr ⟨by rfl, rfl⟩) (by assumption) ?_
    simp only [Act.put, List.setIfInBounds_toArray, List.set_cons_zero, List.set_cons_succ]
    refine wpAnyH_take (i := 12) (oi := { dst := some 87, op := Op.nilCheck (Operand.tmp 86), type := 0, pos := "law.go:174", after := #[{ on := 11, ground := Ground.data }, { on := 8, ground := Ground.guard }], guard := some (8, true) }) (v := undef) rfl (by kernel_rfl) (by kernel_rfl) (by kernel_rfl) (fun _ _ _ h => h) (Or.inr ⟨by rfl, rfl⟩) (by assumption) ?_
    simp only [Act.put, List.setIfInBounds_toArray, List.set_cons_zero, List.set_cons_succ]
    refine wpAnyH_take (i := 13) (oi := { dst := some 88, op := Op.fieldAddr 36 (Operand.tmp 87) 1, type := 0, pos := "law.go:174", after := #[{ on := 12, ground := Ground.data }, { on := 8, ground := Ground.guard }], guard := some (8, true) }) (v := undef) rfl (by kernel_rfl) (by kernel_rfl) (by kernel_rfl) (fun _ _ _ h => h) (Or.inr ⟨by rfl, rfl⟩) (by assumption) ?_
    simp only [Act.put, List.setIfInBounds_toArray, List.set_cons_zero, List.set_cons_succ]
    refine wpAnyH_take (i := 14) (oi := { dst := some 89, op := Op.load 3 (Operand.tmp 88), type := 3, pos := "law.go:174", after := #[{ on := 13, ground := Ground.data }, { on := 8, ground := Ground.guard }], guard := some (8, true) }) (v := undef) rfl (by kernel_rfl) (by kernel_rfl) (by kernel_rfl) (fun _ _ _ h => h) (Or.inr ⟨by rfl, rfl⟩) (by assumption) ?_
    simp only [Act.put, List.setIfInBounds_toArray, List.set_cons_zero, List.set_cons_succ]
    refine wpAnyH_take (i := 15) (oi := { dst := some 90, op := Op.call { callee := Callee.value (Operand.func 9), args := #[Operand.tmp 85, Operand.tmp 89], argTypes := #[31, 3] }, type := 31, pos := "law.go:174", after := #[{ on := 10, ground := Ground.data }, { on := 14, ground := Ground.data }, { on := 10, ground := Ground.chain }, { on := 8, ground := Ground.guard }], guard := some (8, true) }) (v := undef) rfl (by kernel_rfl) (by kernel_rfl) (by kernel_rfl) (fun _ _ _ h => h) (Or.inr ⟨by rfl, rfl⟩) (by assumption) ?_
    simp only [Act.put, List.setIfInBounds_toArray, List.set_cons_zero, List.set_cons_succ]
    refine wpAnyH_take (i := 16) (oi := { dst := some 91, op := Op.move (Operand.tmp 17), type := 22, pos := "law.go:174", after := #[{ on := 8, ground := Ground.guard }], guard := some (8, true) }) (v := undef) rfl (by kernel_rfl) (by kernel_rfl) (by kernel_rfl) (fun _ _ _ h => h) (Or.inr ⟨by rfl, rfl⟩) (by assumption) ?_
    simp only [Act.put, List.setIfInBounds_toArray, List.set_cons_zero, List.set_cons_succ]
    refine wpAnyH_take (i := 17) (oi := { dst := some 92, op := Op.call { callee := Callee.value (Operand.func 10), args := #[Operand.tmp 91], argTypes := #[22] }, type := 31, pos := "law.go:174", after := #[{ on := 16, ground := Ground.data }, { on := 15, ground := Ground.chain }, { on := 8, ground := Ground.guard }], guard := some (8, true) }) (v := undef) rfl (by kernel_rfl) (by kernel_rfl) (by kernel_rfl) (fun _ _ _ h => h) (Or.inr ⟨by rfl, rfl⟩) (by assumption) ?_
    simp only [Act.put, List.setIfInBounds_toArray, List.set_cons_zero, List.set_cons_succ]
    refine wpAnyH_take (i := 18) (oi := { dst := some 93, op := Op.move (Operand.tmp 15), type := 25, pos := "law.go:174", after := #[{ on := 8, ground := Ground.guard }], guard := some (8, true) }) (v := undef) rfl (by kernel_rfl) (by kernel_rfl) (by kernel_rfl) (fun _ _ _ h => h) (Or.inr ⟨by rfl, rfl⟩) (by assumption) ?_
    simp only [Act.put, List.setIfInBounds_toArray, List.set_cons_zero, List.set_cons_succ]
    refine wpAnyH_take (i := 19) (oi := { dst := some 94, op := Op.nilCheck (Operand.tmp 93), type := 0, pos := "law.go:174", after := #[{ on := 18, ground := Ground.data }, { on := 8, ground := Ground.guard }], guard := some (8, true) }) (v := undef) rfl (by kernel_rfl) (by kernel_rfl) (by kernel_rfl) (fun _ _ _ h => h) (Or.inr ⟨by rfl, rfl⟩) (by assumption) ?_
    simp only [Act.put, List.setIfInBounds_toArray, List.set_cons_zero, List.set_cons_succ]
    refine wpAnyH_take (i := 20) (oi := { dst := some 95, op := Op.fieldAddr 36 (Operand.tmp 94) 1, type := 0, pos := "law.go:174", after := #[{ on := 19, ground := Ground.data }, { on := 8, ground := Ground.guard }], guard := some (8, true) }) (v := undef) rfl (by kernel_rfl) (by kernel_rfl) (by kernel_rfl) (fun _ _ _ h => h) (Or.inr ⟨by rfl, rfl⟩) (by assumption) ?_
    simp only [Act.put, List.setIfInBounds_toArray, List.set_cons_zero, List.set_cons_succ]
    refine wpAnyH_take (i := 21) (oi := { dst := some 96, op := Op.load 3 (Operand.tmp 95), type := 3, pos := "law.go:174", after := #[{ on := 20, ground := Ground.data }, { on := 8, ground := Ground.guard }], guard := some (8, true) }) (v := undef) rfl (by kernel_rfl) (by kernel_rfl) (by kernel_rfl) (fun _ _ _ h => h) (Or.inr ⟨by rfl, rfl⟩) (by assumption) ?_
    simp only [Act.put, List.setIfInBounds_toArray, List.set_cons_zero, List.set_cons_succ]
    refine wpAnyH_take (i := 22) (oi := { dst := some 97, op := Op.call { callee := Callee.value (Operand.func 9), args := #[Operand.tmp 92, Operand.tmp 96], argTypes := #[31, 3] }, type := 31, pos := "law.go:174", after := #[{ on := 17, ground := Ground.data }, { on := 21, ground := Ground.data }, { on := 17, ground := Ground.chain }, { on := 8, ground := Ground.guard }], guard := some (8, true) }) (v := undef) rfl (by kernel_rfl) (by kernel_rfl) (by kernel_rfl) (fun _ _ _ h => h) (Or.inr ⟨by rfl, rfl⟩) (by assumption) ?_
    simp only [Act.put, List.setIfInBounds_toArray, List.set_cons_zero, List.set_cons_succ]
    refine wpAnyH_take (i := 23) (oi := { dst := some 98, op := Op.binOp BinOp.eql 31 (Operand.tmp 90) (Operand.tmp 97) 31, type := 4, pos := "law.go:174", after := #[{ on := 15, ground := Ground.data }, { on := 22, ground := Ground.data }, { on := 8, ground := Ground.guard }], guard := some (8, true) }) (v := undef) rfl (by kernel_rfl) (by kernel_rfl) (by kernel_rfl) (fun _ _ _ h => h) (Or.inr ⟨by rfl, rfl⟩) (by assumption) ?_
    simp only [Act.put, List.setIfInBounds_toArray, List.set_cons_zero, List.set_cons_succ]
    refine wpAnyH_take (i := 24) (oi := { dst := some 99, op := Op.pick (Operand.tmp 83) (Operand.tmp 98) (Operand.const (Value.bool false)), type := 4, pos := "law.go:174", after := #[{ on := 8, ground := Ground.data }, { on := 23, ground := Ground.data }, { on := 2, ground := Ground.guard }], guard := some (2, false) }) (v := undef) rfl (by kernel_rfl) (by kernel_rfl) (by kernel_rfl) (fun _ _ _ h => h) (Or.inr ⟨by rfl, rfl⟩) (by assumption) ?_
    simp only [Act.put, List.setIfInBounds_toArray, List.set_cons_zero, List.set_cons_succ]
    refine wpAnyH_take (i := 25) (oi := { dst := some 100, op := Op.pick (Operand.tmp 77) (Operand.const (Value.bool true)) (Operand.tmp 99), type := 4, pos := "law.go:174", after := #[{ on := 2, ground := Ground.data }, { on := 24, ground := Ground.data }], guard := none }) (v := ?_) rfl (by kernel_rfl) (by kernel_rfl) (by kernel_rfl) (fun _ _ _ h => h) (Or.inl ⟨by rfl, ?_⟩) (by assumption) ?_
    rotate_left
    · intro w hSw
      clear hSw
      go_simp
      all_goals with_reducible rfl
    simp only [Act.put, List.setIfInBounds_toArray, List.set_cons_zero, List.set_cons_succ]
    refine wpAnyH_take (i := 26) (oi := { dst := some 101, op := Op.move (Operand.tmp 100), type := 4, pos := "law.go:174", after := #[{ on := 25, ground := Ground.data }, { on := 22, ground := Ground.chain }], guard := none }) (v := ?_) rfl (by kernel_rfl) (by kernel_rfl) (by kernel_rfl) (fun _ _ _ h => h) (Or.inl ⟨by rfl, ?_⟩) (by assumption) ?_
    rotate_left
    · intro w hSw
      clear hSw
      go_simp
      all_goals with_reducible rfl
    simp only [Act.put, List.setIfInBounds_toArray, List.set_cons_zero, List.set_cons_succ]
    refine wpAnyH_ready (rs := [27]) (by kernel_rfl) (by simp) ?_
    refine AllReadyH.cons (o := { dst := some 102, op := Op.call { callee := Callee.value (Operand.func 11), args := #[], argTypes := #[] }, type := 4, pos := "law.go:174", after := #[{ on := 26, ground := Ground.chain }, { on := 26, ground := Ground.guard }], guard := some (26, true) }) rfl (fun K hK => ?_) AllReadyH.nil
    go_simp
    refine (known9_any Z0 (HK.out.below (B3.out.trans (CZ0.out.below w.heap.size B3.out.size (fun k hk e => e))) h0)).mono ?_
    rintro e Z1 ⟨rfl, hb2⟩
    have CZ1 : Hid (Chg (fun _ => False) w3 Z1) := CZ0.out.then hb2
    clear hb2 CZ0
    clear hHeld
    refine hK.out _ _ CZ1.out (fun hHeld => ?_)
    clear hK K
    try simp only [Act.put, List.setIfInBounds_toArray, List.set_cons_zero, List.set_cons_succ]
    refine wpAnyH_take (i := 28) (oi := { dst := some 103, op := Op.pick (Operand.tmp 101) (Operand.tmp 102) (Operand.const (Value.bool false)), type := 4, pos := "law.go:174", after := #[{ on := 26, ground := Ground.data }, { on := 27, ground := Ground.data }], guard := none }) (v := ?_) rfl (by kernel_rfl) (by kernel_rfl) (by kernel_rfl) (fun _ _ _ h => h) (Or.inl ⟨by rfl, ?_⟩) (by assumption) ?_
    rotate_left
    · intro w hSw
      clear hSw
      go_simp
      all_goals with_reducible rfl
    simp only [Act.put, List.setIfInBounds_toArray, List.set_cons_zero, List.set_cons_succ]
    refine wpAnyH_take (i := 29) (oi := { dst := some 14, op := Op.assign (Operand.tmp 103), type := 4, pos := "law.go:174", after := #[{ on := 28, ground := Ground.data }, { on := 27, ground := Ground.chain }, { on := 0, ground := Ground.phase }, { on := 1, ground := Ground.phase }, { on := 2, ground := Ground.phase }, { on := 3, ground := Ground.phase }, { on := 4, ground := Ground.phase }, { on := 5, ground := Ground.phase }, { on := 6, ground := Ground.phase }, { on := 7, ground := Ground.phase }, { on := 8, ground := Ground.phase }, { on := 9, ground := Ground.phase }, { on := 10, ground := Ground.phase }, { on := 11, ground := Ground.phase }, { on := 12, ground := Ground.phase }, { on := 13, ground := Ground.phase }, { on := 14, ground := Ground.phase }, { on := 15, ground := Ground.phase }, { on := 16, ground := Ground.phase }, { on := 17, ground := Ground.phase }, { on := 18, ground := Ground.phase }, { on := 19, ground := Ground.phase }, { on := 20, ground := Ground.phase }, { on := 21, ground := Ground.phase }, { on := 22, ground := Ground.phase }, { on := 23, ground := Ground.phase }, { on := 24, ground := Ground.phase }, { on := 25, ground := Ground.phase }, { on := 26, ground := Ground.phase }, { on := 27, ground := Ground.phase }, { on := 28, ground := Ground.phase }], guard := none }) (v := ?_) rfl (by kernel_rfl) (by kernel_rfl) (by kernel_rfl) (fun _ _ _ h => h) (Or.inl ⟨by rfl, ?_⟩) (by assumption) ?_
    rotate_left
    · intro w hSw
      clear hSw
      go_simp
      all_goals with_reducible rfl
    simp only [Act.put, List.setIfInBounds_toArray, List.set_cons_zero, List.set_cons_succ]
    refine wpAnyH_done (by kernel_rfl) ?_ _
    refine NoPanic.normal ?_
    clear hHeld
    have BF := hide (B3.out.trans (CZ1.out.below w.heap.size B3.out.size (fun k hk e => e)))
    clear CZ1
    go_wp2_with fail
    go_ret
    exact ⟨rfl, BF.out⟩
  | some o =>
    obtain ⟨x, y⟩ := o
    obtain rfl : X = x := HX.out
    obtain rfl : Y = y := HY.out
    have hxy := S.vColl_is a bs cs i n ps qs X Y HO.out.symm
    simp only [Option.isSome_some]
    go_upto_region 10 with fail
    clear c1 c2 c3 c4 t1 t2
    have hne : (TX.toList == TY.toList) = false := by rw [HTT.out]; simp [hxy.1]
    obtain ⟨D, hD⟩ : ∃ D, D = S.hsh a X := ⟨_, rfl⟩
    have ED := hide hD
    have EE := hide (hD.trans hxy.2)
    have LD := hide (show D.length = 32 by rw [hD, S.hsh_length])
    have heqv : ∀ w, (Op.equalIn 10000 31 (.agg (S.v8 D)) (.agg (S.v8 D))).run Tryd.prog w = .ok true w := fun w => equal_dig D D LD.out LD.out true (by simp) w
    clear hD hxy
    refine wp_region_noPanic ?_
    refine wp_region_held_drew (S := (fun W => Chg (fun _ => False) w3 W)) follows ((Chg.refl _ _).drew) (fun hHeld => ?_)
    clear hHeld
    have hHeld : Chg (fun _ => False) w3 w3.drew := (Chg.refl _ _).drew
    have CZ0 := hide hHeld
    generalize w3.drew = Z0 at CZ0 hHeld ⊢
    refine wpAnyH_take (i := 0) (oi := { dst := some 75, op := Op.move (Operand.tmp 18), type := 4, pos := "law.go:174", after := #[], guard := none }) (v := ?_) rfl (by kernel_rfl) (by kernel_rfl) (by kernel_rfl) (fun _ _ _ h => h) (Or.inl ⟨by rfl, ?_⟩) (by assumption) ?_
    rotate_left
    · intro w hSw
      clear hSw
      go_simp
      all_goals with_reducible rfl
    simp only [Act.put, List.setIfInBounds_toArray, List.set_cons_zero, List.set_cons_succ]
    refine wpAnyH_take (i := 1) (oi := { dst := some 76, op := Op.unOp UnOp.not 4 (Operand.tmp 75), type := 4, pos := "law.go:174", after := #[{ on := 0, ground := Ground.data }], guard := none }) (v := ?_) rfl (by kernel_rfl) (by kernel_rfl) (by kernel_rfl) (fun _ _ _ h => h) (Or.inl ⟨by rfl, ?_⟩) (by assumption) ?_
    rotate_left
    · intro w hSw
      clear hSw
      go_simp
      all_goals with_reducible rfl
    simp only [Act.put, List.setIfInBounds_toArray, List.set_cons_zero, List.set_cons_succ]
    refine wpAnyH_take (i := 2) (oi := { dst := some 77, op := Op.move (Operand.tmp 76), type := 4, pos := "law.go:174", after := #[{ on := 1, ground := Ground.data }], guard := none }) (v := ?_) rfl (by kernel_rfl) (by kernel_rfl) (by kernel_rfl) (fun _ _ _ h => h) (Or.inl ⟨by rfl, ?_⟩) (by assumption) ?_
    rotate_left
    · intro w hSw
      clear hSw
      go_simp
      all_goals with_reducible rfl
    simp only [Act.put, List.setIfInBounds_toArray, List.set_cons_zero, List.set_cons_succ]
    refine wpAnyH_take (i := 3) (oi := { dst := some 78, op := Op.move (Operand.tmp 16), type := 22, pos := "law.go:174", after := #[{ on := 2, ground := Ground.guard }], guard := some (2, false) }) (v := ?_) rfl (by kernel_rfl) (by kernel_rfl) (by kernel_rfl) (fun _ _ _ h => h) (Or.inl ⟨by rfl, ?_⟩) (by assumption) ?_
    rotate_left
    · intro w hSw
      clear hSw
      go_simp
      all_goals with_reducible rfl
    simp only [Act.put, List.setIfInBounds_toArray, List.set_cons_zero, List.set_cons_succ]
    refine wpAnyH_take (i := 4) (oi := { dst := some 79, op := Op.convert 22 9 (Operand.tmp 78), type := 9, pos := "law.go:174", after := #[{ on := 3, ground := Ground.data }, { on := 2, ground := Ground.guard }], guard := some (2, false) }) (v := ?_) rfl (by kernel_rfl) (by kernel_rfl) (by kernel_rfl) (fun _ _ _ h => h) (Or.inl ⟨by rfl, ?_⟩) (by assumption) ?_
    rotate_left
    · intro w hSw
      have c4 := KA1.out w (hSw.below _ (Nat.le_refl _) (fun _ _ e => e))
      clear hSw
      go_simp
      all_goals with_reducible rfl
    simp only [Act.put, List.setIfInBounds_toArray, List.set_cons_zero, List.set_cons_succ]
    refine wpAnyH_take (i := 5) (oi := { dst := some 80, op := Op.move (Operand.tmp 17), type := 22, pos := "law.go:174", after := #[{ on := 2, ground := Ground.guard }], guard := some (2, false) }) (v := ?_) rfl (by kernel_rfl) (by kernel_rfl) (by kernel_rfl) (fun _ _ _ h => h) (Or.inl ⟨by rfl, ?_⟩) (by assumption) ?_
    rotate_left
    · intro w hSw
      clear hSw
      go_simp
      all_goals with_reducible rfl
    simp only [Act.put, List.setIfInBounds_toArray, List.set_cons_zero, List.set_cons_succ]
    refine wpAnyH_take (i := 6) (oi := { dst := some 81, op := Op.convert 22 9 (Operand.tmp 80), type := 9, pos := "law.go:174", after := #[{ on := 5, ground := Ground.data }, { on := 2, ground := Ground.guard }], guard := some (2, false) }) (v := ?_) rfl (by kernel_rfl) (by kernel_rfl) (by kernel_rfl) (fun _ _ _ h => h) (Or.inl ⟨by rfl, ?_⟩) (by assumption) ?_
    rotate_left
    · intro w hSw
      have c4 := KA2.out w (hSw.below _ (Nat.le_refl _) (fun _ _ e => e))
      clear hSw
      go_simp
      all_goals with_reducible rfl
    simp only [Act.put, List.setIfInBounds_toArray, List.set_cons_zero, List.set_cons_succ]
    refine wpAnyH_take (i := 7) (oi := { dst := some 82, op := Op.binOp BinOp.neq 9 (Operand.tmp 79) (Operand.tmp 81) 9, type := 4, pos := "law.go:174", after := #[{ on := 4, ground := Ground.data }, { on := 6, ground := Ground.data }, { on := 2, ground := Ground.guard }], guard := some (2, false) }) (v := ?_) rfl (by kernel_rfl) (by kernel_rfl) (by kernel_rfl) (fun _ _ _ h => h) (Or.inl ⟨by rfl, ?_⟩) (by assumption) ?_
    rotate_left
    · intro w hSw
      clear hSw
      go_simp
      all_goals with_reducible rfl
    simp only [Act.put, List.setIfInBounds_toArray, List.set_cons_zero, List.set_cons_succ]
    refine wpAnyH_take (i := 8) (oi := { dst := some 83, op := Op.move (Operand.tmp 82), type := 4, pos := "law.go:174", after := #[{ on := 7, ground := Ground.data }, { on := 2, ground := Ground.chain }, { on := 2, ground := Ground.guard }], guard := some (2, false) }) (v := ?_) rfl (by kernel_rfl) (by kernel_rfl) (by kernel_rfl) (fun _ _ _ h => h) (Or.inl ⟨by rfl, ?_⟩) (by assumption) ?_
    rotate_left
    · intro w hSw
      clear hSw
      go_simp
      all_goals with_reducible rfl
    simp only [Act.put, List.setIfInBounds_toArray, List.set_cons_zero, List.set_cons_succ]
    refine wpAnyH_take (i := 9) (oi := { dst := some 84, op := Op.move (Operand.tmp 16), type := 22, pos := "law.go:174", after := #[{ on := 8, ground := Ground.guard }], guard := some (8, true) }) (v := ?_) rfl (by kernel_rfl) (by kernel_rfl) (by kernel_rfl) (fun _ _ _ h => h) (Or.inl ⟨by rfl, ?_⟩) (by assumption) ?_
    rotate_left
    · intro w hSw
      clear hSw
      go_simp
      all_goals with_reducible rfl
    simp only [Act.put, List.setIfInBounds_toArray, List.set_cons_zero, List.set_cons_succ]
    refine wpAnyH_take (i := 11) (oi := { dst := some 86, op := Op.move (Operand.tmp 15), type := 25, pos := "law.go:174", after := #[{ on := 8, ground := Ground.guard }], guard := some (8, true) }) (v := ?_) rfl (by kernel_rfl) (by kernel_rfl) (by kernel_rfl) (fun _ _ _ h => h) (Or.inl ⟨by rfl, ?_⟩) (by assumption) ?_
    rotate_left
    · intro w hSw
      clear hSw
      go_simp
      all_goals with_reducible rfl
    simp only [Act.put, List.setIfInBounds_toArray, List.set_cons_zero, List.set_cons_succ]
    refine wpAnyH_take (i := 12) (oi := { dst := some 87, op := Op.nilCheck (Operand.tmp 86), type := 0, pos := "law.go:174", after := #[{ on := 11, ground := Ground.data }, { on := 8, ground := Ground.guard }], guard := some (8, true) }) (v := ?_) rfl (by kernel_rfl) (by kernel_rfl) (by kernel_rfl) (fun _ _ _ h => h) (Or.inl ⟨by rfl, ?_⟩) (by assumption) ?_
    rotate_left
    · intro w hSw
      clear hSw
      go_simp
      all_goals with_reducible rfl
    simp only [Act.put, List.setIfInBounds_toArray, List.set_cons_zero, List.set_cons_succ]
    refine wpAnyH_take (i := 13) (oi := { dst := some 88, op := Op.fieldAddr 36 (Operand.tmp 87) 1, type := 0, pos := "law.go:174", after := #[{ on := 12, ground := Ground.data }, { on := 8, ground := Ground.guard }], guard := some (8, true) }) (v := ?_) rfl (by kernel_rfl) (by kernel_rfl) (by kernel_rfl) (fun _ _ _ h => h) (Or.inl ⟨by rfl, ?_⟩) (by assumption) ?_
    rotate_left
    · intro w hSw
      clear hSw
      go_simp
      all_goals with_reducible rfl
    simp only [Act.put, List.setIfInBounds_toArray, List.set_cons_zero, List.set_cons_succ]
    refine wpAnyH_take (i := 14) (oi := { dst := some 89, op := Op.load 3 (Operand.tmp 88), type := 3, pos := "law.go:174", after := #[{ on := 13, ground := Ground.data }, { on := 8, ground := Ground.guard }], guard := some (8, true) }) (v := ?_) rfl (by kernel_rfl) (by kernel_rfl) (by kernel_rfl) (fun _ _ _ h => h) (Or.inl ⟨by rfl, ?_⟩) (by assumption) ?_
    rotate_left
    · intro w hSw
      have c4 : w.cell? ⟨gh, 1, none⟩ = some (.int .i64 (cwa : Int)) := by rw [HCW.out]; exact (cells2 (H3.out.below (hSw.below _ (Nat.le_refl _) (fun _ _ e => e)) (Nat.le_refl _)).h).2
      clear hSw
      go_simp
      all_goals with_reducible rfl
    simp only [Act.put, List.setIfInBounds_toArray, List.set_cons_zero, List.set_cons_succ]
    refine wpAnyH_take (i := 16) (oi := { dst := some 91, op := Op.move (Operand.tmp 17), type := 22, pos := "law.go:174", after := #[{ on := 8, ground := Ground.guard }], guard := some (8, true) }) (v := ?_) rfl (by kernel_rfl) (by kernel_rfl) (by kernel_rfl) (fun _ _ _ h => h) (Or.inl ⟨by rfl, ?_⟩) (by assumption) ?_
    rotate_left
    · intro w hSw
      clear hSw
      go_simp
      all_goals with_reducible rfl
    simp only [Act.put, List.setIfInBounds_toArray, List.set_cons_zero, List.set_cons_succ]
    refine wpAnyH_take (i := 18) (oi := { dst := some 93, op := Op.move (Operand.tmp 15), type := 25, pos := "law.go:174", after := #[{ on := 8, ground := Ground.guard }], guard := some (8, true) }) (v := ?_) rfl (by kernel_rfl) (by kernel_rfl) (by kernel_rfl) (fun _ _ _ h => h) (Or.inl ⟨by rfl, ?_⟩) (by assumption) ?_
    rotate_left
    · intro w hSw
      clear hSw
      go_simp
      all_goals with_reducible rfl
    simp only [Act.put, List.setIfInBounds_toArray, List.set_cons_zero, List.set_cons_succ]
    refine wpAnyH_take (i := 19) (oi := { dst := some 94, op := Op.nilCheck (Operand.tmp 93), type := 0, pos := "law.go:174", after := #[{ on := 18, ground := Ground.data }, { on := 8, ground := Ground.guard }], guard := some (8, true) }) (v := ?_) rfl (by kernel_rfl) (by kernel_rfl) (by kernel_rfl) (fun _ _ _ h => h) (Or.inl ⟨by rfl, ?_⟩) (by assumption) ?_
    rotate_left
    · intro w hSw
      clear hSw
      go_simp
      all_goals with_reducible rfl
    simp only [Act.put, List.setIfInBounds_toArray, List.set_cons_zero, List.set_cons_succ]
    refine wpAnyH_take (i := 20) (oi := { dst := some 95, op := Op.fieldAddr 36 (Operand.tmp 94) 1, type := 0, pos := "law.go:174", after := #[{ on := 19, ground := Ground.data }, { on := 8, ground := Ground.guard }], guard := some (8, true) }) (v := ?_) rfl (by kernel_rfl) (by kernel_rfl) (by kernel_rfl) (fun _ _ _ h => h) (Or.inl ⟨by rfl, ?_⟩) (by assumption) ?_
    rotate_left
    · intro w hSw
      clear hSw
      go_simp
      all_goals with_reducible rfl
    simp only [Act.put, List.setIfInBounds_toArray, List.set_cons_zero, List.set_cons_succ]
    refine wpAnyH_take (i := 21) (oi := { dst := some 96, op := Op.load 3 (Operand.tmp 95), type := 3, pos := "law.go:174", after := #[{ on := 20, ground := Ground.data }, { on := 8, ground := Ground.guard }], guard := some (8, true) }) (v := ?_) rfl (by kernel_rfl) (by kernel_rfl) (by kernel_rfl) (fun _ _ _ h => h) (Or.inl ⟨by rfl, ?_⟩) (by assumption) ?_
    rotate_left
    · intro w hSw
      have c4 : w.cell? ⟨gh, 1, none⟩ = some (.int .i64 (cwa : Int)) := by rw [HCW.out]; exact (cells2 (H3.out.below (hSw.below _ (Nat.le_refl _) (fun _ _ e => e)) (Nat.le_refl _)).h).2
      clear hSw
      go_simp
      all_goals with_reducible rfl
    simp only [Act.put, List.setIfInBounds_toArray, List.set_cons_zero, List.set_cons_succ]
    refine wpAnyH_ready (rs := [10]) (by kernel_rfl) (by simp) ?_
    refine AllReadyH.cons (o := { dst := some 85, op := Op.call { callee := Callee.value (Operand.func 10), args := #[Operand.tmp 84], argTypes := #[22] }, type := 31, pos := "law.go:174", after := #[{ on := 9, ground := Ground.data }, { on := 8, ground := Ground.chain }, { on := 8, ground := Ground.guard }], guard := some (8, true) }) rfl (fun K hK => ?_) AllReadyH.nil
    go_simp
    refine (Sum_any _ X Z0 (SX3.out.below (CZ0.out.below _ (Nat.le_refl _) (fun _ _ e => e)) (Nat.le_refl _)) (HK.out.below (B3.out.trans (CZ0.out.below w.heap.size B3.out.size (fun k hk e => e))) h0)).mono ?_
    rintro e Z1 ⟨rfl, hb2⟩
    obtain ⟨D0, hD0⟩ : ∃ D, D = S.sum X := ⟨_, rfl⟩
    have LD0 := hide (show D0.length = 32 by rw [hD0, S.sum_length])
    rw [← hD0]
    have ED0 := hide hD0
    clear hD0
    have CZ1 : Hid (Chg (fun _ => False) w3 Z1) := CZ0.out.then hb2
    clear hb2 CZ0
    clear hHeld
    refine hK.out _ _ CZ1.out (fun hHeld => ?_)
    clear hK K
    try simp only [Act.put, List.setIfInBounds_toArray, List.set_cons_zero, List.set_cons_succ]
    refine wpAnyH_ready (rs := [15]) (by kernel_rfl) (by simp) ?_
    refine AllReadyH.cons (o := { dst := some 90, op := Op.call { callee := Callee.value (Operand.func 9), args := #[Operand.tmp 85, Operand.tmp 89], argTypes := #[31, 3] }, type := 31, pos := "law.go:174", after := #[{ on := 10, ground := Ground.data }, { on := 14, ground := Ground.data }, { on := 10, ground := Ground.chain }, { on := 8, ground := Ground.guard }], guard := some (8, true) }) rfl (fun K hK => ?_) AllReadyH.nil
    go_simp
    refine (cut_any D0 LD0.out cwa (by have := HC32.out; omega) Z1).mono ?_
    rintro e Z2 ⟨rfl, hb2⟩
    rw [show S.cut D0 cwa = D by rw [ED0.out, ED.out, HCW.out]; rfl]
    have CZ2 : Hid (Chg (fun _ => False) w3 Z2) := CZ1.out.then hb2
    clear hb2 CZ1
    clear hHeld
    refine hK.out _ _ CZ2.out (fun hHeld => ?_)
    clear hK K
    try simp only [Act.put, List.setIfInBounds_toArray, List.set_cons_zero, List.set_cons_succ]
    refine wpAnyH_ready (rs := [17]) (by kernel_rfl) (by simp) ?_
    refine AllReadyH.cons (o := { dst := some 92, op := Op.call { callee := Callee.value (Operand.func 10), args := #[Operand.tmp 91], argTypes := #[22] }, type := 31, pos := "law.go:174", after := #[{ on := 16, ground := Ground.data }, { on := 15, ground := Ground.chain }, { on := 8, ground := Ground.guard }], guard := some (8, true) }) rfl (fun K hK => ?_) AllReadyH.nil
    go_simp
    refine (Sum_any _ Y Z2 (SY3.out.below (CZ2.out.below _ (Nat.le_refl _) (fun _ _ e => e)) (Nat.le_refl _)) (HK.out.below (B3.out.trans (CZ2.out.below w.heap.size B3.out.size (fun k hk e => e))) h0)).mono ?_
    rintro e Z3 ⟨rfl, hb2⟩
    obtain ⟨E0, hE0⟩ : ∃ D, D = S.sum Y := ⟨_, rfl⟩
    have LE0 := hide (show E0.length = 32 by rw [hE0, S.sum_length])
    rw [← hE0]
    have EE0 := hide hE0
    clear hE0
    have CZ3 : Hid (Chg (fun _ => False) w3 Z3) := CZ2.out.then hb2
    clear hb2 CZ2
    clear hHeld
    refine hK.out _ _ CZ3.out (fun hHeld => ?_)
    clear hK K
    try simp only [Act.put, List.setIfInBounds_toArray, List.set_cons_zero, List.set_cons_succ]
    refine wpAnyH_ready (rs := [22]) (by kernel_rfl) (by simp) ?_
    refine AllReadyH.cons (o := { dst := some 97, op := Op.call { callee := Callee.value (Operand.func 9), args := #[Operand.tmp 92, Operand.tmp 96], argTypes := #[31, 3] }, type := 31, pos := "law.go:174", after := #[{ on := 17, ground := Ground.data }, { on := 21, ground := Ground.data }, { on := 17, ground := Ground.chain }, { on := 8, ground := Ground.guard }], guard := some (8, true) }) rfl (fun K hK => ?_) AllReadyH.nil
    go_simp
    refine (cut_any E0 LE0.out cwa (by have := HC32.out; omega) Z3).mono ?_
    rintro e Z4 ⟨rfl, hb2⟩
    rw [show S.cut E0 cwa = D by rw [EE0.out, EE.out, HCW.out]; rfl]
    have CZ4 : Hid (Chg (fun _ => False) w3 Z4) := CZ3.out.then hb2
    clear hb2 CZ3
    clear hHeld
    refine hK.out _ _ CZ4.out (fun hHeld => ?_)
    clear hK K
    try simp only [Act.put, List.setIfInBounds_toArray, List.set_cons_zero, List.set_cons_succ]
    refine wpAnyH_take (i := 23) (oi := { dst := some 98, op := Op.binOp BinOp.eql 31 (Operand.tmp 90) (Operand.tmp 97) 31, type := 4, pos := "law.go:174", after := #[{ on := 15, ground := Ground.data }, { on := 22, ground := Ground.data }, { on := 8, ground := Ground.guard }], guard := some (8, true) }) (v := ?_) rfl (by kernel_rfl) (by kernel_rfl) (by kernel_rfl) (fun _ _ _ h => h) (Or.inl ⟨by rfl, ?_⟩) (by assumption) ?_
    rotate_left
    · intro w hSw
      clear hSw
      go_simp
      all_goals with_reducible rfl
    simp only [Act.put, List.setIfInBounds_toArray, List.set_cons_zero, List.set_cons_succ]
    refine wpAnyH_take (i := 24) (oi := { dst := some 99, op := Op.pick (Operand.tmp 83) (Operand.tmp 98) (Operand.const (Value.bool false)), type := 4, pos := "law.go:174", after := #[{ on := 8, ground := Ground.data }, { on := 23, ground := Ground.data }, { on := 2, ground := Ground.guard }], guard := some (2, false) }) (v := ?_) rfl (by kernel_rfl) (by kernel_rfl) (by kernel_rfl) (fun _ _ _ h => h) (Or.inl ⟨by rfl, ?_⟩) (by assumption) ?_
    rotate_left
    · intro w hSw
      clear hSw
      go_simp
      all_goals with_reducible rfl
    simp only [Act.put, List.setIfInBounds_toArray, List.set_cons_zero, List.set_cons_succ]
    refine wpAnyH_take (i := 25) (oi := { dst := some 100, op := Op.pick (Operand.tmp 77) (Operand.const (Value.bool true)) (Operand.tmp 99), type := 4, pos := "law.go:174", after := #[{ on := 2, ground := Ground.data }, { on := 24, ground := Ground.data }], guard := none }) (v := ?_) rfl (by kernel_rfl) (by kernel_rfl) (by kernel_rfl) (fun _ _ _ h => h) (Or.inl ⟨by rfl, ?_⟩) (by assumption) ?_
    rotate_left
    · intro w hSw
      clear hSw
      go_simp
      all_goals with_reducible rfl
    simp only [Act.put, List.setIfInBounds_toArray, List.set_cons_zero, List.set_cons_succ]
    refine wpAnyH_take (i := 26) (oi := { dst := some 101, op := Op.move (Operand.tmp 100), type := 4, pos := "law.go:174", after := #[{ on := 25, ground := Ground.data }, { on := 22, ground := Ground.chain }], guard := none }) (v := ?_) rfl (by kernel_rfl) (by kernel_rfl) (by kernel_rfl) (fun _ _ _ h => h) (Or.inl ⟨by rfl, ?_⟩) (by assumption) ?_
    rotate_left
    · intro w hSw
      clear hSw
      go_simp
      all_goals with_reducible rfl
    simp only [Act.put, List.setIfInBounds_toArray, List.set_cons_zero, List.set_cons_succ]
    refine wpAnyH_ready (rs := [27]) (by kernel_rfl) (by simp) ?_
    refine AllReadyH.cons (o := { dst := some 102, op := Op.call { callee := Callee.value (Operand.func 11), args := #[], argTypes := #[] }, type := 4, pos := "law.go:174", after := #[{ on := 26, ground := Ground.chain }, { on := 26, ground := Ground.guard }], guard := some (26, true) }) rfl (fun K hK => ?_) AllReadyH.nil
    go_simp
    refine (known9_any Z4 (HK.out.below (B3.out.trans (CZ4.out.below w.heap.size B3.out.size (fun k hk e => e))) h0)).mono ?_
    rintro e Z5 ⟨rfl, hb2⟩
    have CZ5 : Hid (Chg (fun _ => False) w3 Z5) := CZ4.out.then hb2
    clear hb2 CZ4
    clear hHeld
    refine hK.out _ _ CZ5.out (fun hHeld => ?_)
    clear hK K
    try simp only [Act.put, List.setIfInBounds_toArray, List.set_cons_zero, List.set_cons_succ]
    refine wpAnyH_take (i := 28) (oi := { dst := some 103, op := Op.pick (Operand.tmp 101) (Operand.tmp 102) (Operand.const (Value.bool false)), type := 4, pos := "law.go:174", after := #[{ on := 26, ground := Ground.data }, { on := 27, ground := Ground.data }], guard := none }) (v := ?_) rfl (by kernel_rfl) (by kernel_rfl) (by kernel_rfl) (fun _ _ _ h => h) (Or.inl ⟨by rfl, ?_⟩) (by assumption) ?_
    rotate_left
    · intro w hSw
      clear hSw
      go_simp
      all_goals with_reducible rfl
    simp only [Act.put, List.setIfInBounds_toArray, List.set_cons_zero, List.set_cons_succ]
    refine wpAnyH_take (i := 29) (oi := { dst := some 14, op := Op.assign (Operand.tmp 103), type := 4, pos := "law.go:174", after := #[{ on := 28, ground := Ground.data }, { on := 27, ground := Ground.chain }, { on := 0, ground := Ground.phase }, { on := 1, ground := Ground.phase }, { on := 2, ground := Ground.phase }, { on := 3, ground := Ground.phase }, { on := 4, ground := Ground.phase }, { on := 5, ground := Ground.phase }, { on := 6, ground := Ground.phase }, { on := 7, ground := Ground.phase }, { on := 8, ground := Ground.phase }, { on := 9, ground := Ground.phase }, { on := 10, ground := Ground.phase }, { on := 11, ground := Ground.phase }, { on := 12, ground := Ground.phase }, { on := 13, ground := Ground.phase }, { on := 14, ground := Ground.phase }, { on := 15, ground := Ground.phase }, { on := 16, ground := Ground.phase }, { on := 17, ground := Ground.phase }, { on := 18, ground := Ground.phase }, { on := 19, ground := Ground.phase }, { on := 20, ground := Ground.phase }, { on := 21, ground := Ground.phase }, { on := 22, ground := Ground.phase }, { on := 23, ground := Ground.phase }, { on := 24, ground := Ground.phase }, { on := 25, ground := Ground.phase }, { on := 26, ground := Ground.phase }, { on := 27, ground := Ground.phase }, { on := 28, ground := Ground.phase }], guard := none }) (v := ?_) rfl (by kernel_rfl) (by kernel_rfl) (by kernel_rfl) (fun _ _ _ h => h) (Or.inl ⟨by rfl, ?_⟩) (by assumption) ?_
    rotate_left
    · intro w hSw
      clear hSw
      go_simp
      all_goals with_reducible rfl
    simp only [Act.put, List.setIfInBounds_toArray, List.set_cons_zero, List.set_cons_succ]
    refine wpAnyH_done (by kernel_rfl) ?_ _
    refine NoPanic.normal ?_
    clear hHeld
    have BF := hide (B3.out.trans (CZ5.out.below w.heap.size B3.out.size (fun k hk e => e)))
    clear CZ5
    clear heqv hne
    go_wp2_with fail
    go_ret
    exact ⟨rfl, BF.out⟩
end Go.Proofs.YtlbggkmblkhjoabDoor
