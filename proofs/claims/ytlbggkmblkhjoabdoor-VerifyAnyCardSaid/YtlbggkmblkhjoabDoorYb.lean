/- The document's answer: two unlike texts of one hash. -/
import Derived.Test.YtlbggkmblkhjoabDoorWn
import Derived.Test.YtlbggkmblkhjoabDoorWl
namespace Go.Proofs.YtlbggkmblkhjoabDoor
open Go.RowKit

theorem S.coll_step (a : Int) (ts us : List (List UInt8)) (k : Nat) (h1 : k < ts.length) (h2 : k < us.length) : S.coll a (ts.drop k) (us.drop k) = if ts.getD k [] ≠ us.getD k [] ∧ S.hsh a (ts.getD k []) = S.hsh a (us.getD k []) then some (ts.getD k [], us.getD k []) else S.coll a (ts.drop (k + 1)) (us.drop (k + 1)) := by
  rw [List.drop_eq_getElem_cons h1, List.drop_eq_getElem_cons h2]
  simp only [S.coll, List.getD_eq_getElem?_getD, List.getElem?_eq_getElem h1, List.getElem?_eq_getElem h2, Option.getD_some]
theorem S.coll_end (a : Int) (ts us : List (List UInt8)) (k : Nat) (h1 : ts.length ≤ k) : S.coll a (ts.drop k) (us.drop k) = none := by
  rw [List.drop_eq_nil_of_le h1]; rfl
set_option maxHeartbeats 16000000 in
set_option maxRecDepth 10000 in
theorem rcollide_any (gh gT : Nat) (a : Int) (v u p q : Value) (bs cs : List UInt8) (i n : Nat) (ps qs : List (List UInt8)) (w : World) (hn : n < 18446744073709551616) (hH : HsAt w gh gT a) (hv : SliceAt w v bs) (hu : SliceAt w u cs) (hl : bs.length + 1 ≤ 140737488355000) (hl2 : cs.length + 1 ≤ 140737488355000) (hp : DgAt w p ps) (hps : ps.length ≤ 90000) (hq : DgAt w q qs) (hqs : qs.length ≤ 90000) :
   Calls Tryd.prog 8 #[.pointer (some ⟨gh, 0, none⟩), v, u, .int .u64 (i : Int), .int .u64 (n : Int), p, q] w fun e w' => Told2 w w' e (S.vColl a bs cs i n ps qs) := by
  obtain ⟨O, hO⟩ : ∃ O, O = S.vColl a bs cs i n ps qs := ⟨_, rfl⟩
  rw [← hO]
  rw [S.vColl_climb] at hO
  obtain ⟨ao, len, cap, rfl, hlen, _⟩ := hv.form
  obtain ⟨bo, lenb, capb, rfl, hlenb, _⟩ := hu.form
  obtain ⟨po, pc, rfl⟩ := hp.form
  obtain ⟨qo, qc, rfl⟩ := hq.form
  have HH := hide hH
  have HV := hide hv
  have HU := hide hu
  have HP := hide hp
  have HQ := hide hq
  have HL1 := hide hl
  have HL2 := hide hl2
  have HPS := hide hps
  have HQS := hide hqs
  have HO := hide hO
  obtain ⟨pn, hpn⟩ : ∃ m, m = ps.length := ⟨_, rfl⟩
  obtain ⟨qn, hqn⟩ : ∃ m, m = qs.length := ⟨_, rfl⟩
  rw [← hpn] at HP ⊢
  rw [← hqn] at HQ ⊢
  clear hH hv hu hp hq hl hl2 hps hqs hO hlen hlenb hpn hqn
  go_enter Tryd.func8, Tryd.ntmps8
  go_wp2_with fail
  refine (rway_all gh gT a _ _ bs i n ps w hn HH.out HV.out HL1.out HP.out HPS.out).mono ?_
  rintro e w1 ⟨so, sl, sc, rfl, hts, hb1⟩
  have HT1 := hide hts
  have HB1 := hide hb1
  clear hts hb1
  go_wp2_with fail
  refine (rway_all gh gT a _ _ cs i n qs w1 hn (HH.out.below HB1.out (Nat.le_refl _)) (HU.out.below HB1.out (Nat.le_refl _)) HL2.out (HQ.out.below HB1.out) HQS.out).mono ?_
  rintro e w2 ⟨uo, ul, uc, rfl, hus, hb2⟩
  have HT2 := hide hus
  have HB2 := hide (HB1.out.trans (hb2.mono HB1.out.size))
  have HB12 := hide hb2
  clear hus hb2
  cases hc1 : S.climb a bs i n ps with
  | none =>
    simp only [Option.isSome_none]
    have HO2 := hide (show O = none by rw [HO.out, hc1]; split <;> rfl)
    clear hc1 HT1 HT2 HO
    go_wp2_with fail
    go_ret3
    rw [HO2.out]
    exact Told2.none' _ _ HB2.out
  | some ts =>
    simp only [Option.isSome_some]
    cases hc2 : S.climb a cs i n qs with
    | none =>
      simp only [Option.isSome_none]
      have HO2 := hide (show O = none by rw [HO.out, hc1, hc2]; split <;> rfl)
      clear hc1 hc2 HT1 HT2 HO
      go_wp2_with fail
      go_ret3
      rw [HO2.out]
      exact Told2.none' _ _ HB2.out
    | some us =>
      simp only [Option.isSome_some]
      obtain ⟨T1, hT1⟩ : ∃ T, T = (⟨bs.toArray⟩ : ByteArray) := ⟨_, rfl⟩
      obtain ⟨T2, hT2⟩ : ∃ T, T = (⟨cs.toArray⟩ : ByteArray) := ⟨_, rfl⟩
      have c1 : (convert 22 9 (.slice ao len cap)).run Tryd.prog w2 = .ok (.string T1) w2 := by rw [hT1]; exact conv_slice (HV.out.below HB2.out (Nat.le_refl _))
      have c2 : (convert 22 9 (.slice bo lenb capb)).run Tryd.prog w2 = .ok (.string T2) w2 := by rw [hT2]; exact conv_slice (HU.out.below HB2.out (Nat.le_refl _))
      have hTT : (T1.toList == T2.toList) = (bs == cs) := by rw [hT1, hT2, ByteArray.toList_eq, ByteArray.toList_eq]
      clear hT1 hT2
      by_cases hbc : bs = cs
      · have hbe : (T1.toList == T2.toList) = true := by rw [hTT, hbc]; simp
        have HO2 := hide (show O = none by rw [HO.out, if_pos hbc])
        clear hc1 hc2 HT1 HT2 HO hbc hTT
        go_wp2_with fail
        go_ret3
        rw [HO2.out]
        exact Told2.none' _ _ HB2.out
      have hbe : (T1.toList == T2.toList) = false := by rw [hTT]; simp [hbc]
      have hO4 := HO.out
      rw [if_neg hbc, hc1, hc2] at hO4
      have HO4 := hide (show O = (if S.hsh a (S.lastOf ts) = S.hsh a (S.lastOf us) then S.coll a ts us else none) from hO4)
      have l1 := S.climb_len hc1
      have l2 := S.climb_len hc2
      have htx := HT1.out ts hc1
      have hty := HT2.out us hc2
      have FT := hide (And.intro (S.climb_fit2 hc1 HL1.out) (S.climb_fit2 hc2 HL2.out))
      obtain ⟨m, hm⟩ : ∃ m, m = ts.length - 1 := ⟨_, rfl⟩
      have hm2 : m = us.length - 1 := by omega
      obtain ⟨bl, offl, cl, e9, e9', e9b, hcl⟩ := (htx.below HB12.out).bsAt.src (by omega)
      simp only [Value.slice.injEq] at e9
      obtain ⟨rfl, e9n, rfl⟩ := e9
      obtain ⟨bk, offk, ck, f9, f9', f9b, hck⟩ := hty.bsAt.src (by omega)
      simp only [Value.slice.injEq] at f9
      obtain ⟨rfl, f9n, rfl⟩ := f9
      have LT := hide (show ts.length = m + 1 by omega)
      have LU := hide (show us.length = m + 1 by omega)
      have hsl : sl = m + 1 := by omega
      have hul : ul = m + 1 := by omega
      have hmb : m ≤ 100000 := by have := HPS.out; omega
      have HCL := hide hcl
      have HCK := hide hck
      obtain ⟨x, hx, hxs⟩ := hcl m (by omega)
      rw [hm, S.getD_last] at hxs
      obtain ⟨xo, xl, xc, rfl, hxl, hxm⟩ := hxs.form
      obtain ⟨y, hy, hys⟩ := hck m (by omega)
      rw [hm2, S.getD_last] at hys
      obtain ⟨yo, yl, yc, rfl, hyl, hym⟩ := hys.form
      have CX := hide hx
      have XS := hide hxs
      have CY := hide hy
      have YS := hide hys
      have HBLT := hide e9b
      have HBKT := hide f9b
      have HTL := hide (show (S.lastOf ts).length ≤ 140737488355000 by rw [← S.getD_last]; exact FT.out.1 _)
      have HUL := hide (show (S.lastOf us).length ≤ 140737488355000 by rw [← S.getD_last]; exact FT.out.2 _)
      have e1 : IntKind.i64.wrap ((sl : Int) - 1) = (m : Int) := by rw [IntKind.wrap_i64]; omega
      have qk0 : (0 : Int) ≤ (m : Int) := by omega
      have qkm : (m : Int) < (sl : Int) := by omega
      have qkn : (m : Int) < (ul : Int) := by omega
      obtain ⟨cwa, hcwa⟩ : ∃ c, c = S.cw a := ⟨_, rfl⟩
      have HCW := hide hcwa
      obtain ⟨D, hD⟩ : ∃ D, D = S.hsh a (S.lastOf ts) := ⟨_, rfl⟩
      obtain ⟨E, hE⟩ : ∃ E, E = S.hsh a (S.lastOf us) := ⟨_, rfl⟩
      have LD := hide (show D.length = 32 by rw [hD, S.hsh_length])
      have LE := hide (show E.length = 32 by rw [hE, S.hsh_length])
      obtain ⟨eb, heb⟩ : ∃ b : Bool, b = (D == E) := ⟨_, rfl⟩
      have heqv : ∀ w, (Op.equalIn 10000 31 (.agg (S.v8 D)) (.agg (S.v8 E))).run Tryd.prog w = .ok eb w := fun w => equal_dig D E LD.out LE.out eb heb.symm w
      have HEB := hide heb
      have ED := hide hD
      have EE := hide hE
      have HH2 : Hid (HsAt w2 gh gT a) := HH.out.below HB2.out (Nat.le_refl _)
      have HMB := hide (And.intro hmb (And.intro hsl hul))
      clear hc1 hc2 HT1 HT2 HO hO4 hbc hTT l1 l2 htx hty hm hm2 e9n e9' e9b hcl f9n f9' f9b hck hx hxs hxl hxm hy hys hyl hym hcwa hD hE heb hsl hul hmb HB12
      go_upto_region 6 with fail
      clear c1 c2 hbe
      refine wp_region_noPanic ?_
      refine wp_region_held_drew (S := (fun W => Chg (fun _ => False) w2 W)) follows ((Chg.refl _ _).drew) (fun hHeld => ?_)
      clear hHeld
      have hHeld : Chg (fun _ => False) w2 w2.drew := (Chg.refl _ _).drew
      have CZ0 := hide hHeld
      generalize w2.drew = Z0 at CZ0 hHeld ⊢
      refine wpAnyH_take (i := 0) (oi := { dst := some 57, op := Op.move (Operand.tmp 0), type := 25, pos := "ref.go:108", after := #[], guard := none }) (v := ?_) rfl (by kernel_rfl) (by kernel_rfl) (by kernel_rfl) (fun _ _ _ h => h) (Or.inl ⟨by rfl, ?_⟩) (by assumption) ?_
      rotate_left
      · intro w hSw
        clear hSw
        go_simp
        all_goals with_reducible rfl
      simp only [Act.put, List.setIfInBounds_toArray, List.set_cons_zero, List.set_cons_succ]
      refine wpAnyH_take (i := 1) (oi := { dst := some 58, op := Op.nilCheck (Operand.tmp 57), type := 0, pos := "ref.go:108", after := #[{ on := 0, ground := Ground.data }], guard := none }) (v := ?_) rfl (by kernel_rfl) (by kernel_rfl) (by kernel_rfl) (fun _ _ _ h => h) (Or.inl ⟨by rfl, ?_⟩) (by assumption) ?_
      rotate_left
      · intro w hSw
        clear hSw
        go_simp
        all_goals with_reducible rfl
      simp only [Act.put, List.setIfInBounds_toArray, List.set_cons_zero, List.set_cons_succ]
      refine wpAnyH_take (i := 2) (oi := { dst := some 59, op := Op.fieldAddr 36 (Operand.tmp 58) 0, type := 0, pos := "ref.go:108", after := #[{ on := 1, ground := Ground.data }], guard := none }) (v := ?_) rfl (by kernel_rfl) (by kernel_rfl) (by kernel_rfl) (fun _ _ _ h => h) (Or.inl ⟨by rfl, ?_⟩) (by assumption) ?_
      rotate_left
      · intro w hSw
        clear hSw
        go_simp
        all_goals with_reducible rfl
      simp only [Act.put, List.setIfInBounds_toArray, List.set_cons_zero, List.set_cons_succ]
      refine wpAnyH_take (i := 3) (oi := { dst := some 60, op := Op.load 34 (Operand.tmp 59), type := 34, pos := "ref.go:108", after := #[{ on := 2, ground := Ground.data }], guard := none }) (v := ?_) rfl (by kernel_rfl) (by kernel_rfl) (by kernel_rfl) (fun _ _ _ h => h) (Or.inl ⟨by rfl, ?_⟩) (by assumption) ?_
      rotate_left
      · intro w hSw
        have c4 := (cells2 (HH2.out.below (hSw.below _ (Nat.le_refl _) (fun _ _ e => e)) (Nat.le_refl _)).h).1
        clear hSw
        go_simp
        all_goals with_reducible rfl
      simp only [Act.put, List.setIfInBounds_toArray, List.set_cons_zero, List.set_cons_succ]
      refine wpAnyH_take (i := 4) (oi := { dst := some 61, op := Op.move (Operand.tmp 17), type := 39, pos := "ref.go:108", after := #[], guard := none }) (v := ?_) rfl (by kernel_rfl) (by kernel_rfl) (by kernel_rfl) (fun _ _ _ h => h) (Or.inl ⟨by rfl, ?_⟩) (by assumption) ?_
      rotate_left
      · intro w hSw
        clear hSw
        go_simp
        all_goals with_reducible rfl
      simp only [Act.put, List.setIfInBounds_toArray, List.set_cons_zero, List.set_cons_succ]
      refine wpAnyH_take (i := 5) (oi := { dst := some 62, op := Op.move (Operand.tmp 21), type := 3, pos := "ref.go:108", after := #[], guard := none }) (v := ?_) rfl (by kernel_rfl) (by kernel_rfl) (by kernel_rfl) (fun _ _ _ h => h) (Or.inl ⟨by rfl, ?_⟩) (by assumption) ?_
      rotate_left
      · intro w hSw
        clear hSw
        go_simp
        all_goals with_reducible rfl
      simp only [Act.put, List.setIfInBounds_toArray, List.set_cons_zero, List.set_cons_succ]
      refine wpAnyH_take (i := 6) (oi := { dst := some 63, op := Op.indexAddr 39 (Operand.tmp 61) (Operand.tmp 62), type := 0, pos := "ref.go:108", after := #[{ on := 4, ground := Ground.data }, { on := 5, ground := Ground.data }], guard := none }) (v := ?_) rfl (by kernel_rfl) (by kernel_rfl) (by kernel_rfl) (fun _ _ _ h => h) (Or.inl ⟨by rfl, ?_⟩) (by assumption) ?_
      rotate_left
      · intro w hSw
        clear hSw
        go_simp
        all_goals with_reducible rfl
      simp only [Act.put, List.setIfInBounds_toArray, List.set_cons_zero, List.set_cons_succ]
      refine wpAnyH_take (i := 7) (oi := { dst := some 64, op := Op.load 22 (Operand.tmp 63), type := 22, pos := "ref.go:108", after := #[{ on := 6, ground := Ground.data }], guard := none }) (v := ?_) rfl (by kernel_rfl) (by kernel_rfl) (by kernel_rfl) (fun _ _ _ h => h) (Or.inl ⟨by rfl, ?_⟩) (by assumption) ?_
      rotate_left
      · intro w hSw
        have c4 := ((hSw.below _ (Nat.le_refl _) (fun _ _ e => e)).cell (p := ⟨bl, offl + m, none⟩) HBLT.out).trans CX.out
        clear hSw
        go_simp
        all_goals with_reducible rfl
      simp only [Act.put, List.setIfInBounds_toArray, List.set_cons_zero, List.set_cons_succ]
      refine wpAnyH_take (i := 9) (oi := { dst := some 66, op := Op.move (Operand.tmp 0), type := 25, pos := "ref.go:108", after := #[], guard := none }) (v := ?_) rfl (by kernel_rfl) (by kernel_rfl) (by kernel_rfl) (fun _ _ _ h => h) (Or.inl ⟨by rfl, ?_⟩) (by assumption) ?_
      rotate_left
      · intro w hSw
        clear hSw
        go_simp
        all_goals with_reducible rfl
      simp only [Act.put, List.setIfInBounds_toArray, List.set_cons_zero, List.set_cons_succ]
      refine wpAnyH_take (i := 10) (oi := { dst := some 67, op := Op.nilCheck (Operand.tmp 66), type := 0, pos := "ref.go:108", after := #[{ on := 9, ground := Ground.data }], guard := none }) (v := ?_) rfl (by kernel_rfl) (by kernel_rfl) (by kernel_rfl) (fun _ _ _ h => h) (Or.inl ⟨by rfl, ?_⟩) (by assumption) ?_
      rotate_left
      · intro w hSw
        clear hSw
        go_simp
        all_goals with_reducible rfl
      simp only [Act.put, List.setIfInBounds_toArray, List.set_cons_zero, List.set_cons_succ]
      refine wpAnyH_take (i := 11) (oi := { dst := some 68, op := Op.fieldAddr 36 (Operand.tmp 67) 1, type := 0, pos := "ref.go:108", after := #[{ on := 10, ground := Ground.data }], guard := none }) (v := ?_) rfl (by kernel_rfl) (by kernel_rfl) (by kernel_rfl) (fun _ _ _ h => h) (Or.inl ⟨by rfl, ?_⟩) (by assumption) ?_
      rotate_left
      · intro w hSw
        clear hSw
        go_simp
        all_goals with_reducible rfl
      simp only [Act.put, List.setIfInBounds_toArray, List.set_cons_zero, List.set_cons_succ]
      refine wpAnyH_take (i := 12) (oi := { dst := some 69, op := Op.load 3 (Operand.tmp 68), type := 3, pos := "ref.go:108", after := #[{ on := 11, ground := Ground.data }], guard := none }) (v := ?_) rfl (by kernel_rfl) (by kernel_rfl) (by kernel_rfl) (fun _ _ _ h => h) (Or.inl ⟨by rfl, ?_⟩) (by assumption) ?_
      rotate_left
      · intro w hSw
        have c4 : w.cell? ⟨gh, 1, none⟩ = some (.int .i64 (cwa : Int)) := by rw [HCW.out]; exact (cells2 (HH2.out.below (hSw.below _ (Nat.le_refl _) (fun _ _ e => e)) (Nat.le_refl _)).h).2
        clear hSw
        go_simp
        all_goals with_reducible rfl
      simp only [Act.put, List.setIfInBounds_toArray, List.set_cons_zero, List.set_cons_succ]
      refine wpAnyH_take (i := 14) (oi := { dst := some 71, op := Op.move (Operand.tmp 0), type := 25, pos := "ref.go:108", after := #[], guard := none }) (v := ?_) rfl (by kernel_rfl) (by kernel_rfl) (by kernel_rfl) (fun _ _ _ h => h) (Or.inl ⟨by rfl, ?_⟩) (by assumption) ?_
      rotate_left
      · intro w hSw
        clear hSw
        go_simp
        all_goals with_reducible rfl
      simp only [Act.put, List.setIfInBounds_toArray, List.set_cons_zero, List.set_cons_succ]
      refine wpAnyH_take (i := 15) (oi := { dst := some 72, op := Op.nilCheck (Operand.tmp 71), type := 0, pos := "ref.go:108", after := #[{ on := 14, ground := Ground.data }], guard := none }) (v := ?_) rfl (by kernel_rfl) (by kernel_rfl) (by kernel_rfl) (fun _ _ _ h => h) (Or.inl ⟨by rfl, ?_⟩) (by assumption) ?_
      rotate_left
      · intro w hSw
        clear hSw
        go_simp
        all_goals with_reducible rfl
      simp only [Act.put, List.setIfInBounds_toArray, List.set_cons_zero, List.set_cons_succ]
      refine wpAnyH_take (i := 16) (oi := { dst := some 73, op := Op.fieldAddr 36 (Operand.tmp 72) 0, type := 0, pos := "ref.go:108", after := #[{ on := 15, ground := Ground.data }], guard := none }) (v := ?_) rfl (by kernel_rfl) (by kernel_rfl) (by kernel_rfl) (fun _ _ _ h => h) (Or.inl ⟨by rfl, ?_⟩) (by assumption) ?_
      rotate_left
      · intro w hSw
        clear hSw
        go_simp
        all_goals with_reducible rfl
      simp only [Act.put, List.setIfInBounds_toArray, List.set_cons_zero, List.set_cons_succ]
      refine wpAnyH_take (i := 17) (oi := { dst := some 74, op := Op.load 34 (Operand.tmp 73), type := 34, pos := "ref.go:108", after := #[{ on := 16, ground := Ground.data }], guard := none }) (v := ?_) rfl (by kernel_rfl) (by kernel_rfl) (by kernel_rfl) (fun _ _ _ h => h) (Or.inl ⟨by rfl, ?_⟩) (by assumption) ?_
      rotate_left
      · intro w hSw
        have c4 := (cells2 (HH2.out.below (hSw.below _ (Nat.le_refl _) (fun _ _ e => e)) (Nat.le_refl _)).h).1
        clear hSw
        go_simp
        all_goals with_reducible rfl
      simp only [Act.put, List.setIfInBounds_toArray, List.set_cons_zero, List.set_cons_succ]
      refine wpAnyH_take (i := 18) (oi := { dst := some 75, op := Op.move (Operand.tmp 19), type := 39, pos := "ref.go:108", after := #[], guard := none }) (v := ?_) rfl (by kernel_rfl) (by kernel_rfl) (by kernel_rfl) (fun _ _ _ h => h) (Or.inl ⟨by rfl, ?_⟩) (by assumption) ?_
      rotate_left
      · intro w hSw
        clear hSw
        go_simp
        all_goals with_reducible rfl
      simp only [Act.put, List.setIfInBounds_toArray, List.set_cons_zero, List.set_cons_succ]
      refine wpAnyH_take (i := 19) (oi := { dst := some 76, op := Op.move (Operand.tmp 21), type := 3, pos := "ref.go:108", after := #[], guard := none }) (v := ?_) rfl (by kernel_rfl) (by kernel_rfl) (by kernel_rfl) (fun _ _ _ h => h) (Or.inl ⟨by rfl, ?_⟩) (by assumption) ?_
      rotate_left
      · intro w hSw
        clear hSw
        go_simp
        all_goals with_reducible rfl
      simp only [Act.put, List.setIfInBounds_toArray, List.set_cons_zero, List.set_cons_succ]
      refine wpAnyH_take (i := 20) (oi := { dst := some 77, op := Op.indexAddr 39 (Operand.tmp 75) (Operand.tmp 76), type := 0, pos := "ref.go:108", after := #[{ on := 18, ground := Ground.data }, { on := 19, ground := Ground.data }], guard := none }) (v := ?_) rfl (by kernel_rfl) (by kernel_rfl) (by kernel_rfl) (fun _ _ _ h => h) (Or.inl ⟨by rfl, ?_⟩) (by assumption) ?_
      rotate_left
      · intro w hSw
        clear hSw
        go_simp
        all_goals with_reducible rfl
      simp only [Act.put, List.setIfInBounds_toArray, List.set_cons_zero, List.set_cons_succ]
      refine wpAnyH_take (i := 21) (oi := { dst := some 78, op := Op.load 22 (Operand.tmp 77), type := 22, pos := "ref.go:108", after := #[{ on := 20, ground := Ground.data }], guard := none }) (v := ?_) rfl (by kernel_rfl) (by kernel_rfl) (by kernel_rfl) (fun _ _ _ h => h) (Or.inl ⟨by rfl, ?_⟩) (by assumption) ?_
      rotate_left
      · intro w hSw
        have c4 := ((hSw.below _ (Nat.le_refl _) (fun _ _ e => e)).cell (p := ⟨bk, offk + m, none⟩) HBKT.out).trans CY.out
        clear hSw
        go_simp
        all_goals with_reducible rfl
      simp only [Act.put, List.setIfInBounds_toArray, List.set_cons_zero, List.set_cons_succ]
      refine wpAnyH_take (i := 23) (oi := { dst := some 80, op := Op.move (Operand.tmp 0), type := 25, pos := "ref.go:108", after := #[], guard := none }) (v := ?_) rfl (by kernel_rfl) (by kernel_rfl) (by kernel_rfl) (fun _ _ _ h => h) (Or.inl ⟨by rfl, ?_⟩) (by assumption) ?_
      rotate_left
      · intro w hSw
        clear hSw
        go_simp
        all_goals with_reducible rfl
      simp only [Act.put, List.setIfInBounds_toArray, List.set_cons_zero, List.set_cons_succ]
      refine wpAnyH_take (i := 24) (oi := { dst := some 81, op := Op.nilCheck (Operand.tmp 80), type := 0, pos := "ref.go:108", after := #[{ on := 23, ground := Ground.data }], guard := none }) (v := ?_) rfl (by kernel_rfl) (by kernel_rfl) (by kernel_rfl) (fun _ _ _ h => h) (Or.inl ⟨by rfl, ?_⟩) (by assumption) ?_
      rotate_left
      · intro w hSw
        clear hSw
        go_simp
        all_goals with_reducible rfl
      simp only [Act.put, List.setIfInBounds_toArray, List.set_cons_zero, List.set_cons_succ]
      refine wpAnyH_take (i := 25) (oi := { dst := some 82, op := Op.fieldAddr 36 (Operand.tmp 81) 1, type := 0, pos := "ref.go:108", after := #[{ on := 24, ground := Ground.data }], guard := none }) (v := ?_) rfl (by kernel_rfl) (by kernel_rfl) (by kernel_rfl) (fun _ _ _ h => h) (Or.inl ⟨by rfl, ?_⟩) (by assumption) ?_
      rotate_left
      · intro w hSw
        clear hSw
        go_simp
        all_goals with_reducible rfl
      simp only [Act.put, List.setIfInBounds_toArray, List.set_cons_zero, List.set_cons_succ]
      refine wpAnyH_take (i := 26) (oi := { dst := some 83, op := Op.load 3 (Operand.tmp 82), type := 3, pos := "ref.go:108", after := #[{ on := 25, ground := Ground.data }], guard := none }) (v := ?_) rfl (by kernel_rfl) (by kernel_rfl) (by kernel_rfl) (fun _ _ _ h => h) (Or.inl ⟨by rfl, ?_⟩) (by assumption) ?_
      rotate_left
      · intro w hSw
        have c4 : w.cell? ⟨gh, 1, none⟩ = some (.int .i64 (cwa : Int)) := by rw [HCW.out]; exact (cells2 (HH2.out.below (hSw.below _ (Nat.le_refl _) (fun _ _ e => e)) (Nat.le_refl _)).h).2
        clear hSw
        go_simp
        all_goals with_reducible rfl
      simp only [Act.put, List.setIfInBounds_toArray, List.set_cons_zero, List.set_cons_succ]
      refine wpAnyH_ready (rs := [8]) (by kernel_rfl) (by simp) ?_
      refine AllReadyH.cons (o := { dst := some 65, op := Op.call { callee := Callee.value (Operand.func 18), args := #[Operand.tmp 60, Operand.tmp 64], argTypes := #[34, 22] }, type := 31, pos := "ref.go:108", after := #[{ on := 3, ground := Ground.data }, { on := 7, ground := Ground.data }], guard := none }) rfl (fun K hK => ?_) AllReadyH.nil
      go_simp
      refine (rsum_any gT _ (S.lastOf ts) Z0 (HH2.out.below (CZ0.out.below _ (Nat.le_refl _) (fun _ _ e => e)) (Nat.le_refl _)).t (XS.out.below (CZ0.out.below _ (Nat.le_refl _) (fun _ _ e => e)) (Nat.le_refl _)) HTL.out).mono ?_
      rintro e Z1 ⟨rfl, hb2⟩
      obtain ⟨D0, hD0⟩ : ∃ D, D = S.sum (S.lastOf ts) := ⟨_, rfl⟩
      have LD0 := hide (show D0.length = 32 by rw [hD0, S.sum_length])
      rw [← hD0]
      have ED0 := hide hD0
      clear hD0
      have CZ1 : Hid (Chg (fun _ => False) w2 Z1) := CZ0.out.then hb2
      clear hb2 CZ0
      clear hHeld
      refine hK.out _ _ CZ1.out (fun hHeld => ?_)
      clear hK K
      try simp only [Act.put, List.setIfInBounds_toArray, List.set_cons_zero, List.set_cons_succ]
      refine wpAnyH_ready (rs := [13]) (by kernel_rfl) (by simp) ?_
      refine AllReadyH.cons (o := { dst := some 70, op := Op.call { callee := Callee.value (Operand.func 26), args := #[Operand.tmp 65, Operand.tmp 69], argTypes := #[31, 3] }, type := 31, pos := "ref.go:108", after := #[{ on := 8, ground := Ground.data }, { on := 12, ground := Ground.data }, { on := 8, ground := Ground.chain }], guard := none }) rfl (fun K hK => ?_) AllReadyH.nil
      go_simp
      refine (rcut_all D0 LD0.out (cwa : Int) Z1).mono ?_
      rintro e Z2 ⟨rfl, hb2⟩
      rw [show S.cut D0 (cwa : Int).toNat = D by rw [ED0.out, ED.out, HCW.out]; rfl]
      have CZ2 : Hid (Chg (fun _ => False) w2 Z2) := CZ1.out.then hb2
      clear hb2 CZ1
      clear hHeld
      refine hK.out _ _ CZ2.out (fun hHeld => ?_)
      clear hK K
      try simp only [Act.put, List.setIfInBounds_toArray, List.set_cons_zero, List.set_cons_succ]
      refine wpAnyH_ready (rs := [22]) (by kernel_rfl) (by simp) ?_
      refine AllReadyH.cons (o := { dst := some 79, op := Op.call { callee := Callee.value (Operand.func 18), args := #[Operand.tmp 74, Operand.tmp 78], argTypes := #[34, 22] }, type := 31, pos := "ref.go:108", after := #[{ on := 17, ground := Ground.data }, { on := 21, ground := Ground.data }, { on := 13, ground := Ground.chain }], guard := none }) rfl (fun K hK => ?_) AllReadyH.nil
      go_simp
      refine (rsum_any gT _ (S.lastOf us) Z2 (HH2.out.below (CZ2.out.below _ (Nat.le_refl _) (fun _ _ e => e)) (Nat.le_refl _)).t (YS.out.below (CZ2.out.below _ (Nat.le_refl _) (fun _ _ e => e)) (Nat.le_refl _)) HUL.out).mono ?_
      rintro e Z3 ⟨rfl, hb2⟩
      obtain ⟨E0, hE0⟩ : ∃ D, D = S.sum (S.lastOf us) := ⟨_, rfl⟩
      have LE0 := hide (show E0.length = 32 by rw [hE0, S.sum_length])
      rw [← hE0]
      have EE0 := hide hE0
      clear hE0
      have CZ3 : Hid (Chg (fun _ => False) w2 Z3) := CZ2.out.then hb2
      clear hb2 CZ2
      clear hHeld
      refine hK.out _ _ CZ3.out (fun hHeld => ?_)
      clear hK K
      try simp only [Act.put, List.setIfInBounds_toArray, List.set_cons_zero, List.set_cons_succ]
      refine wpAnyH_ready (rs := [27]) (by kernel_rfl) (by simp) ?_
      refine AllReadyH.cons (o := { dst := some 84, op := Op.call { callee := Callee.value (Operand.func 26), args := #[Operand.tmp 79, Operand.tmp 83], argTypes := #[31, 3] }, type := 31, pos := "ref.go:108", after := #[{ on := 22, ground := Ground.data }, { on := 26, ground := Ground.data }, { on := 22, ground := Ground.chain }], guard := none }) rfl (fun K hK => ?_) AllReadyH.nil
      go_simp
      refine (rcut_all E0 LE0.out (cwa : Int) Z3).mono ?_
      rintro e Z4 ⟨rfl, hb2⟩
      rw [show S.cut E0 (cwa : Int).toNat = E by rw [EE0.out, EE.out, HCW.out]; rfl]
      have CZ4 : Hid (Chg (fun _ => False) w2 Z4) := CZ3.out.then hb2
      clear hb2 CZ3
      clear hHeld
      refine hK.out _ _ CZ4.out (fun hHeld => ?_)
      clear hK K
      try simp only [Act.put, List.setIfInBounds_toArray, List.set_cons_zero, List.set_cons_succ]
      refine wpAnyH_take (i := 28) (oi := { dst := some 85, op := Op.binOp BinOp.neq 31 (Operand.tmp 70) (Operand.tmp 84) 31, type := 4, pos := "ref.go:108", after := #[{ on := 13, ground := Ground.data }, { on := 27, ground := Ground.data }], guard := none }) (v := ?_) rfl (by kernel_rfl) (by kernel_rfl) (by kernel_rfl) (fun _ _ _ h => h) (Or.inl ⟨by rfl, ?_⟩) (by assumption) ?_
      rotate_left
      · intro w hSw
        clear hSw
        go_simp
        all_goals with_reducible rfl
      simp only [Act.put, List.setIfInBounds_toArray, List.set_cons_zero, List.set_cons_succ]
      refine wpAnyH_done (by kernel_rfl) ?_ _
      refine NoPanic.normal ?_
      clear hHeld
      obtain ⟨Zf, hZf⟩ : ∃ Z, Z = Z4 := ⟨_, rfl⟩
      rw [← hZf] at CZ4 ⊢
      clear hZf
      have BZ := hide (CZ4.out.below _ (Nat.le_refl _) (fun _ _ e => e))
      have BF := hide (HB2.out.trans (CZ4.out.below w.heap.size HB2.out.size (fun k hk e => e)))
      clear CZ4
      clear heqv
      cases eb with
      | false =>
        simp only [Bool.not_false]
        have HO5 := hide (show O = none by rw [HO4.out, ← ED.out, ← EE.out, if_neg (by intro e; have := HEB.out; rw [e] at this; simp at this)])
        go_wp2_with fail
        go_ret3
        rw [HO5.out]
        exact Told2.none' _ _ BF.out
      | true =>
        simp only [Bool.not_true]
        have HO5 := hide (show O = S.coll a (ts.drop 0) (us.drop 0) by rw [HO4.out, ← ED.out, ← EE.out, if_pos (by have := HEB.out.symm; simpa using this)]; rfl)
        clear HO4 HEB ED EE LD LE XS YS CX CY HTL HUL BF e1 qk0 qkm qkn
        go_wp2_with fail
        go_loopg [22] (m + 1) (fun gk s22 wr => ∃ k : Nat, k + gk = m + 1 ∧ s22 = .int .i64 (k : Int) ∧ Hid (O = S.coll a (ts.drop k) (us.drop k)) ∧ Hid (Below w2.heap.size w2 wr))
        case atStart => exact ⟨0, by omega, rfl, HO5, BZ⟩
        case round =>
          obtain ⟨k, hk, rfl, HOk, BR⟩ := hrel
          have BW := hide (HB2.out.trans (BR.out.mono HB2.out.size))
          clear HO5 BZ
          cases gk with
          | zero =>
            have qk : ¬ (k : Int) ≤ (m : Int) := by omega
            have HO6 := hide (show O = none by rw [HOk.out]; exact S.coll_end a _ _ _ (by rw [LT.out]; omega))
            clear hk HOk
            go_wp2_with fail
            go_ret3
            rw [HO6.out]
            exact Told2.none' _ _ BW.out
          | succ gO =>
            have qk : (k : Int) ≤ (m : Int) := by omega
            have qk0 : (0 : Int) ≤ (k : Int) := by omega
            have qks : (k : Int) < (sl : Int) := by have := HMB.out.2.1; omega
            have qku : (k : Int) < (ul : Int) := by have := HMB.out.2.2; omega
            have qk1 : IntKind.i64.wrap ((k : Int) + 1) = (k : Int) + 1 := by rw [IntKind.wrap_i64]; have := HMB.out.1; omega
            obtain ⟨x, hx, hxs⟩ := HCL.out k (by rw [LT.out]; omega)
            obtain ⟨xo, xl, xc, rfl, hxl, hxm⟩ := hxs.form
            obtain ⟨y, hy, hys⟩ := HCK.out k (by rw [LU.out]; omega)
            obtain ⟨yo, yl, yc, rfl, hyl, hym⟩ := hys.form
            have hst := HOk.out
            rw [S.coll_step a ts us k (by rw [LT.out]; omega) (by rw [LU.out]; omega)] at hst
            have HTL := hide (FT.out.1 k)
            have HUL := hide (FT.out.2 k)
            obtain ⟨X, hX⟩ : ∃ X, X = ts.getD k [] := ⟨_, rfl⟩
            obtain ⟨Y, hY⟩ : ∃ Y, Y = us.getD k [] := ⟨_, rfl⟩
            rw [← hX] at hxs HTL
            rw [← hY] at hys HUL
            rw [← hX, ← hY] at hst
            have HST := hide hst
            have CX : Hid (wr.cell? ⟨bl, offl + k, none⟩ = some (.slice xo xl xc)) := (BR.out.cell (p := ⟨bl, offl + k, none⟩) HBLT.out).trans hx
            have CY : Hid (wr.cell? ⟨bk, offk + k, none⟩ = some (.slice yo yl yc)) := (BR.out.cell (p := ⟨bk, offk + k, none⟩) HBKT.out).trans hy
            have XS := hide (hxs.below BR.out (Nat.le_refl _))
            have YS := hide (hys.below BR.out (Nat.le_refl _))
            have HLR := hide (Nat.lt_of_lt_of_le HBLT.out BR.out.size)
            have HKR := hide (Nat.lt_of_lt_of_le HBKT.out BR.out.size)
            have HHr : Hid (HsAt wr gh gT a) := HH2.out.below BR.out (Nat.le_refl _)
            obtain ⟨T1, hT1⟩ : ∃ T, T = (⟨X.toArray⟩ : ByteArray) := ⟨_, rfl⟩
            obtain ⟨T2, hT2⟩ : ∃ T, T = (⟨Y.toArray⟩ : ByteArray) := ⟨_, rfl⟩
            have KA1 : Hid (∀ W : World, Below wr.heap.size wr W → (convert 22 9 (.slice xo xl xc)).run Tryd.prog W = .ok (.string T1) W) := fun W hW => by rw [hT1]; exact conv_slice (XS.out.below hW (Nat.le_refl _))
            have KA2 : Hid (∀ W : World, Below wr.heap.size wr W → (convert 22 9 (.slice yo yl yc)).run Tryd.prog W = .ok (.string T2) W) := fun W hW => by rw [hT2]; exact conv_slice (YS.out.below hW (Nat.le_refl _))
            have hTT : (T1.toList == T2.toList) = (X == Y) := by rw [hT1, hT2, ByteArray.toList_eq, ByteArray.toList_eq]
            have HM1 := hide hk
            clear hX hY hT1 hT2 hx hxs hxl hxm hy hys hyl hym hst HOk hk
            by_cases hxy : X = Y
            · have hnb2 : (T1.toList == T2.toList) = true := by rw [hTT, hxy]; simp
              have HO6 := hide (show O = S.coll a (ts.drop (k + 1)) (us.drop (k + 1)) by rw [HST.out, if_neg (fun h => h.1 hxy)])
              clear hTT hxy HST
              go_upto_region 11 with fail
              refine wp_region_noPanic ?_
              refine wp_region_held_drew (S := (fun W => Chg (fun _ => False) wr W)) follows ((Chg.refl _ _).drew) (fun hHeld => ?_)
              clear hHeld
              have hHeld : Chg (fun _ => False) wr wr.drew := (Chg.refl _ _).drew
              have CZ0 := hide hHeld
              generalize wr.drew = Z0 at CZ0 hHeld ⊢
              refine wpAnyH_take (i := 0) (oi := { dst := some 91, op := Op.move (Operand.tmp 17), type := 39, pos := "ref.go:112", after := #[], guard := none }) (v := ?_) rfl (by kernel_rfl) (by kernel_rfl) (by kernel_rfl) (fun _ _ _ h => h) (Or.inl ⟨by rfl, ?_⟩) (by assumption) ?_
              rotate_left
              · intro w hSw
                clear hSw
                go_simp
                all_goals with_reducible rfl
              simp only [Act.put, List.setIfInBounds_toArray, List.set_cons_zero, List.set_cons_succ]
              refine wpAnyH_take (i := 1) (oi := { dst := some 92, op := Op.move (Operand.tmp 22), type := 3, pos := "ref.go:112", after := #[], guard := none }) (v := ?_) rfl (by kernel_rfl) (by kernel_rfl) (by kernel_rfl) (fun _ _ _ h => h) (Or.inl ⟨by rfl, ?_⟩) (by assumption) ?_
              rotate_left
              · intro w hSw
                clear hSw
                go_simp
                all_goals with_reducible rfl
              simp only [Act.put, List.setIfInBounds_toArray, List.set_cons_zero, List.set_cons_succ]
              refine wpAnyH_take (i := 2) (oi := { dst := some 93, op := Op.indexAddr 39 (Operand.tmp 91) (Operand.tmp 92), type := 0, pos := "ref.go:112", after := #[{ on := 0, ground := Ground.data }, { on := 1, ground := Ground.data }], guard := none }) (v := ?_) rfl (by kernel_rfl) (by kernel_rfl) (by kernel_rfl) (fun _ _ _ h => h) (Or.inl ⟨by rfl, ?_⟩) (by assumption) ?_
              rotate_left
              · intro w hSw
                clear hSw
                go_simp
                all_goals with_reducible rfl
              simp only [Act.put, List.setIfInBounds_toArray, List.set_cons_zero, List.set_cons_succ]
              refine wpAnyH_take (i := 3) (oi := { dst := some 94, op := Op.load 22 (Operand.tmp 93), type := 22, pos := "ref.go:112", after := #[{ on := 2, ground := Ground.data }], guard := none }) (v := ?_) rfl (by kernel_rfl) (by kernel_rfl) (by kernel_rfl) (fun _ _ _ h => h) (Or.inl ⟨by rfl, ?_⟩) (by assumption) ?_
              rotate_left
              · intro w hSw
                have c4 := ((hSw.below _ (Nat.le_refl _) (fun _ _ e => e)).cell (p := ⟨bl, offl + k, none⟩) HLR.out).trans CX.out
                clear hSw
                go_simp
                all_goals with_reducible rfl
              simp only [Act.put, List.setIfInBounds_toArray, List.set_cons_zero, List.set_cons_succ]
              refine wpAnyH_take (i := 4) (oi := { dst := some 95, op := Op.convert 22 9 (Operand.tmp 94), type := 9, pos := "ref.go:112", after := #[{ on := 3, ground := Ground.data }], guard := none }) (v := ?_) rfl (by kernel_rfl) (by kernel_rfl) (by kernel_rfl) (fun _ _ _ h => h) (Or.inl ⟨by rfl, ?_⟩) (by assumption) ?_
              rotate_left
              · intro w hSw
                have c4 := KA1.out w (hSw.below _ (Nat.le_refl _) (fun _ _ e => e))
                clear hSw
                go_simp
                all_goals with_reducible rfl
              simp only [Act.put, List.setIfInBounds_toArray, List.set_cons_zero, List.set_cons_succ]
              refine wpAnyH_take (i := 5) (oi := { dst := some 96, op := Op.move (Operand.tmp 19), type := 39, pos := "ref.go:112", after := #[], guard := none }) (v := ?_) rfl (by kernel_rfl) (by kernel_rfl) (by kernel_rfl) (fun _ _ _ h => h) (Or.inl ⟨by rfl, ?_⟩) (by assumption) ?_
              rotate_left
              · intro w hSw
                clear hSw
                go_simp
                all_goals with_reducible rfl
              simp only [Act.put, List.setIfInBounds_toArray, List.set_cons_zero, List.set_cons_succ]
              refine wpAnyH_take (i := 6) (oi := { dst := some 97, op := Op.move (Operand.tmp 22), type := 3, pos := "ref.go:112", after := #[], guard := none }) (v := ?_) rfl (by kernel_rfl) (by kernel_rfl) (by kernel_rfl) (fun _ _ _ h => h) (Or.inl ⟨by rfl, ?_⟩) (by assumption) ?_
              rotate_left
              · intro w hSw
                clear hSw
                go_simp
                all_goals with_reducible rfl
              simp only [Act.put, List.setIfInBounds_toArray, List.set_cons_zero, List.set_cons_succ]
              refine wpAnyH_take (i := 7) (oi := { dst := some 98, op := Op.indexAddr 39 (Operand.tmp 96) (Operand.tmp 97), type := 0, pos := "ref.go:112", after := #[{ on := 5, ground := Ground.data }, { on := 6, ground := Ground.data }], guard := none }) (v := ?_) rfl (by kernel_rfl) (by kernel_rfl) (by kernel_rfl) (fun _ _ _ h => h) (Or.inl ⟨by rfl, ?_⟩) (by assumption) ?_
              rotate_left
              · intro w hSw
                clear hSw
                go_simp
                all_goals with_reducible rfl
              simp only [Act.put, List.setIfInBounds_toArray, List.set_cons_zero, List.set_cons_succ]
              refine wpAnyH_take (i := 8) (oi := { dst := some 99, op := Op.load 22 (Operand.tmp 98), type := 22, pos := "ref.go:112", after := #[{ on := 7, ground := Ground.data }], guard := none }) (v := ?_) rfl (by kernel_rfl) (by kernel_rfl) (by kernel_rfl) (fun _ _ _ h => h) (Or.inl ⟨by rfl, ?_⟩) (by assumption) ?_
              rotate_left
              · intro w hSw
                have c4 := ((hSw.below _ (Nat.le_refl _) (fun _ _ e => e)).cell (p := ⟨bk, offk + k, none⟩) HKR.out).trans CY.out
                clear hSw
                go_simp
                all_goals with_reducible rfl
              simp only [Act.put, List.setIfInBounds_toArray, List.set_cons_zero, List.set_cons_succ]
              refine wpAnyH_take (i := 9) (oi := { dst := some 100, op := Op.convert 22 9 (Operand.tmp 99), type := 9, pos := "ref.go:112", after := #[{ on := 8, ground := Ground.data }], guard := none }) (v := ?_) rfl (by kernel_rfl) (by kernel_rfl) (by kernel_rfl) (fun _ _ _ h => h) (Or.inl ⟨by rfl, ?_⟩) (by assumption) ?_
              rotate_left
              · intro w hSw
                have c4 := KA2.out w (hSw.below _ (Nat.le_refl _) (fun _ _ e => e))
                clear hSw
                go_simp
                all_goals with_reducible rfl
              simp only [Act.put, List.setIfInBounds_toArray, List.set_cons_zero, List.set_cons_succ]
              refine wpAnyH_take (i := 10) (oi := { dst := some 101, op := Op.binOp BinOp.neq 9 (Operand.tmp 95) (Operand.tmp 100) 9, type := 4, pos := "ref.go:112", after := #[{ on := 4, ground := Ground.data }, { on := 9, ground := Ground.data }], guard := none }) (v := ?_) rfl (by kernel_rfl) (by kernel_rfl) (by kernel_rfl) (fun _ _ _ h => h) (Or.inl ⟨by rfl, ?_⟩) (by assumption) ?_
              rotate_left
              · intro w hSw
                clear hSw
                go_simp
                all_goals with_reducible rfl
              simp only [Act.put, List.setIfInBounds_toArray, List.set_cons_zero, List.set_cons_succ]
              refine wpAnyH_take (i := 11) (oi := { dst := some 102, op := Op.move (Operand.tmp 101), type := 4, pos := "ref.go:112", after := #[{ on := 10, ground := Ground.data }], guard := none }) (v := ?_) rfl (by kernel_rfl) (by kernel_rfl) (by kernel_rfl) (fun _ _ _ h => h) (Or.inl ⟨by rfl, ?_⟩) (by assumption) ?_
              rotate_left
              · intro w hSw
                clear hSw
                go_simp
                all_goals with_reducible rfl
              simp only [Act.put, List.setIfInBounds_toArray, List.set_cons_zero, List.set_cons_succ]
              refine wpAnyH_take (i := 12) (oi := { dst := some 103, op := Op.move (Operand.tmp 0), type := 25, pos := "ref.go:112", after := #[{ on := 11, ground := Ground.guard }], guard := some (11, true) }) (v := undef) rfl (by kernel_rfl) (by kernel_rfl) (by kernel_rfl) (fun _ _ _ h => h) (Or.inr ⟨by rfl, rfl⟩) (by assumption) ?_
              simp only [Act.put, List.setIfInBounds_toArray, List.set_cons_zero, List.set_cons_succ]
              refine wpAnyH_take (i := 13) (oi := { dst := some 104, op := Op.nilCheck (Operand.tmp 103), type := 0, pos := "ref.go:112", after := #[{ on := 12, ground := Ground.data }, { on := 11, ground := Ground.guard }], guard := some (11, true) }) (v := undef) rfl (by kernel_rfl) (by kernel_rfl) (by kernel_rfl) (fun _ _ _ h => h) (Or.inr ⟨by rfl, rfl⟩) (by assumption) ?_
              simp only [Act.put, List.setIfInBounds_toArray, List.set_cons_zero, List.set_cons_succ]
              refine wpAnyH_take (i := 14) (oi := { dst := some 105, op := Op.fieldAddr 36 (Operand.tmp 104) 0, type := 0, pos := "ref.go:112", after := #[{ on := 13, ground := Ground.data }, { on := 11, ground := Ground.guard }], guard := some (11, true) }) (v := undef) rfl (by kernel_rfl) (by kernel_rfl) (by kernel_rfl) (fun _ _ _ h => h) (Or.inr ⟨by rfl, rfl⟩) (by assumption) ?_
              simp only [Act.put, List.setIfInBounds_toArray, List.set_cons_zero, List.set_cons_succ]
              refine wpAnyH_take (i := 15) (oi := { dst := some 106, op := Op.load 34 (Operand.tmp 105), type := 34, pos := "ref.go:112", after := #[{ on := 14, ground := Ground.data }, { on := 11, ground := Ground.guard }], guard := some (11, true) }) (v := undef) rfl (by kernel_rfl) (by kernel_rfl) (by kernel_rfl) (fun _ _ _ h => h) (Or.inr ⟨by rfl, rfl⟩) (by assumption) ?_
              simp only [Act.put, List.setIfInBounds_toArray, List.set_cons_zero, List.set_cons_succ]
              refine wpAnyH_take (i := 16) (oi := { dst := some 107, op := Op.move (Operand.tmp 17), type := 39, pos := "ref.go:112", after := #[{ on := 11, ground := Ground.guard }], guard := some (11, true) }) (v := undef) rfl (by kernel_rfl) (by kernel_rfl) (by kernel_rfl) (fun _ _ _ h => h) (Or.inr ⟨by rfl, rfl⟩) (by assumption) ?_
              simp only [Act.put, List.setIfInBounds_toArray, List.set_cons_zero, List.set_cons_succ]
              refine wpAnyH_take (i := 17) (oi := { dst := some 108, op := Op.move (Operand.tmp 22), type := 3, pos := "ref.go:112", after := #[{ on := 11, ground := Ground.guard }], guard := some (11, true) }) (v := undef) rfl (by kernel_rfl) (by kernel_rfl) (by kernel_rfl) (fun _ _ _ h => h) (Or.inr ⟨by rfl, rfl⟩) (by assumption) ?_
              simp only [Act.put, List.setIfInBounds_toArray, List.set_cons_zero, List.set_cons_succ]
              refine wpAnyH_take (i := 18) (oi := { dst := some 109, op := Op.indexAddr 39 (Operand.tmp 107) (Operand.tmp 108), type := 0, pos := "ref.go:112", after := #[{ on := 16, ground := Ground.data }, { on := 17, ground := Ground.data }, { on := 11, ground := Ground.guard }], guard := some (11, true) }) (v := undef) rfl (by kernel_rfl) (by kernel_rfl) (by kernel_rfl) (fun _ _ _ h => h) (Or.inr ⟨by rfl, rfl⟩) (by assumption) ?_
              simp only [Act.put, List.setIfInBounds_toArray, List.set_cons_zero, List.set_cons_succ]
              refine wpAnyH_take (i := 19) (oi := { dst := some 110, op := Op.load 22 (Operand.tmp 109), type := 22, pos := "ref.go:112", after := #[{ on := 18, ground := Ground.data }, { on := 11, ground := Ground.guard }], guard := some (11, true) }) (v := undef) rfl (by kernel_rfl) (by kernel_rfl) (by kernel_rfl) (fun _ _ _ h => h) (Or.inr ⟨by rfl, rfl⟩) (by assumption) ?_
              simp only [Act.put, List.setIfInBounds_toArray, List.set_cons_zero, List.set_cons_succ]
              refine wpAnyH_take (i := 20) (oi := { dst := some 111, op := Op.call { callee := Callee.value (Operand.func 18), args := #[Operand.tmp 106, Operand.tmp 110], argTypes := #[34, 22] }, type := 31, pos := "ref.go:112", after := #[{ on := 15, ground := Ground.data }, { on := 19, ground := Ground.data }, { on := 11, ground := Ground.chain }, { on := 11, ground := Ground.guard }], guard := some (11, true) }) (v := undef) rfl (by kernel_rfl) (by kernel_rfl) (by kernel_rfl) (fun _ _ _ h => h) (Or.inr ⟨by rfl, rfl⟩) (by assumption) ?_
              simp only [Act.put, List.setIfInBounds_toArray, List.set_cons_zero, List.set_cons_succ]
              refine wpAnyH_take (i := 21) (oi := { dst := some 112, op := Op.move (Operand.tmp 0), type := 25, pos := "ref.go:112", after := #[{ on := 11, ground := Ground.guard }], guard := some (11, true) }) (v := undef) rfl (by kernel_rfl) (by kernel_rfl) (by kernel_rfl) (fun _ _ _ h => h) (Or.inr ⟨by rfl, rfl⟩) (by assumption) ?_
              simp only [Act.put, List.setIfInBounds_toArray, List.set_cons_zero, List.set_cons_succ]
              refine wpAnyH_take (i := 22) (oi := { dst := some 113, op := Op.nilCheck (Operand.tmp 112), type := 0, pos := "ref.go:112", after := #[{ on := 21, ground := Ground.data }, { on := 11, ground := Ground.guard }], guard := some (11, true) }) (v := undef) rfl (by kernel_rfl) (by kernel_rfl) (by kernel_rfl) (fun _ _ _ h => h) (Or.inr ⟨by rfl, rfl⟩) (by assumption) ?_
              simp only [Act.put, List.setIfInBounds_toArray, List.set_cons_zero, List.set_cons_succ]
              refine wpAnyH_take (i := 23) (oi := { dst := some 114, op := Op.fieldAddr 36 (Operand.tmp 113) 1, type := 0, pos := "ref.go:112", after := #[{ on := 22, ground := Ground.data }, { on := 11, ground := Ground.guard }], guard := some (11, true) }) (v := undef) rfl (by kernel_rfl) (by kernel_rfl) (by kernel_rfl) (fun _ _ _ h => h) (Or.inr ⟨by rfl, rfl⟩) (by assumption) ?_
              simp only [Act.put, List.setIfInBounds_toArray, List.set_cons_zero, List.set_cons_succ]
              refine wpAnyH_take (i := 24) (oi := { dst := some 115, op := Op.load 3 (Operand.tmp 114), type := 3, pos := "ref.go:112", after := #[{ on := 23, ground := Ground.data }, { on := 11, ground := Ground.guard }], guard := some (11, true) }) (v := undef) rfl (by kernel_rfl) (by kernel_rfl) (by kernel_rfl) (fun _ _ _ h => h) (Or.inr ⟨by rfl, rfl⟩) (by assumption) ?_
              simp only [Act.put, List.setIfInBounds_toArray, List.set_cons_zero, List.set_cons_succ]
              refine wpAnyH_take (i := 25) (oi := { dst := some 116, op := Op.call { callee := Callee.value (Operand.func 26), args := #[Operand.tmp 111, Operand.tmp 115], argTypes := #[31, 3] }, type := 31, pos := "ref.go:112", after := #[{ on := 20, ground := Ground.data }, { on := 24, ground := Ground.data }, { on := 20, ground := Ground.chain }, { on := 11, ground := Ground.guard }], guard := some (11, true) }) (v := undef) rfl (by kernel_rfl) (by kernel_rfl) (by kernel_rfl) (fun _ _ _ h => h) (Or.inr ⟨by rfl, rfl⟩) (by assumption) ?_
              simp only [Act.put, List.setIfInBounds_toArray, List.set_cons_zero, List.set_cons_succ]
              refine wpAnyH_take (i := 26) (oi := { dst := some 117, op := Op.move (Operand.tmp 0), type := 25, pos := "ref.go:112", after := #[{ on := 11, ground := Ground.guard }], guard := some (11, true) }) (v := undef) rfl (by kernel_rfl) (by kernel_rfl) (by kernel_rfl) (fun _ _ _ h => h) (Or.inr ⟨by rfl, rfl⟩) (by assumption) ?_
              simp only [Act.put, List.setIfInBounds_toArray, List.set_cons_zero, List.set_cons_succ]
              refine wpAnyH_take (i := 27) (oi := { dst := some 118, op := Op.nilCheck (Operand.tmp 117), type := 0, pos := "ref.go:112", after := #[{ on := 26, ground := Ground.data }, { on := 11, ground := Ground.guard }], guard := some (11, true) }) (v := undef) rfl (by kernel_rfl) (by kernel_rfl) (by kernel_rfl) (fun _ _ _ h => h) (Or.inr ⟨by rfl, rfl⟩) (by assumption) ?_
              simp only [Act.put, List.setIfInBounds_toArray, List.set_cons_zero, List.set_cons_succ]
              refine wpAnyH_take (i := 28) (oi := { dst := some 119, op := Op.fieldAddr 36 (Operand.tmp 118) 0, type := 0, pos := "ref.go:112", after := #[{ on := 27, ground := Ground.data }, { on := 11, ground := Ground.guard }], guard := some (11, true) }) (v := undef) rfl (by kernel_rfl) (by kernel_rfl) (by kernel_rfl) (fun _ _ _ h => h) (Or.inr ⟨by rfl, rfl⟩) (by assumption) ?_
              simp only [Act.put, List.setIfInBounds_toArray, List.set_cons_zero, List.set_cons_succ]
              refine wpAnyH_take (i := 29) (oi := { dst := some 120, op := Op.load 34 (Operand.tmp 119), type := 34, pos := "ref.go:112", after := #[{ on := 28, ground := Ground.data }, { on := 11, ground := Ground.guard }], guard := some (11, true) }) (v := undef) rfl (by kernel_rfl) (by kernel_rfl) (by kernel_rfl) (fun _ _ _ h => h) (Or.inr ⟨by rfl, rfl⟩) (by assumption) ?_
              simp only [Act.put, List.setIfInBounds_toArray, List.set_cons_zero, List.set_cons_succ]
              refine wpAnyH_take (i := 30) (oi := { dst := some 121, op := Op.move (Operand.tmp 19), type := 39, pos := "ref.go:112", after := #[{ on := 11, ground := Ground.guard }], guard := some (11, true) }) (v := undef) rfl (by kernel_rfl) (by kernel_rfl) (by kernel_rfl) (fun _ _ _ h => h) (Or.inr ⟨by rfl, rfl⟩) (by assumption) ?_
              simp only [Act.put, List.setIfInBounds_toArray, List.set_cons_zero, List.set_cons_succ]
              refine wpAnyH_take (i := 31) (oi := { dst := some 122, op := Op.move (Operand.tmp 22), type := 3, pos := "ref.go:112", after := #[{ on := 11, ground := Ground.guard }], guard := some (11, true) }) (v := undef) rfl (by kernel_rfl) (by kernel_rfl) (by kernel_rfl) (fun _ _ _ h => h) (Or.inr ⟨by rfl, rfl⟩) (by assumption) ?_
              simp only [Act.put, List.setIfInBounds_toArray, List.set_cons_zero, List.set_cons_succ]
              refine wpAnyH_take (i := 32) (oi := { dst := some 123, op := Op.indexAddr 39 (Operand.tmp 121) (Operand.tmp 122), type := 0, pos := "ref.go:112", after := #[{ on := 30, ground := Ground.data }, { on := 31, ground := Ground.data }, { on := 11, ground := Ground.guard }], guard := some (11, true) }) (v := undef) rfl (by kernel_rfl) (by kernel_rfl) (by kernel_rfl) (fun _ _ _ h => h) (Or.inr ⟨by rfl, rfl⟩) (by assumption) ?_
              simp only [Act.put, List.setIfInBounds_toArray, List.set_cons_zero, List.set_cons_succ]
              refine wpAnyH_take (i := 33) (oi := { dst := some 124, op := Op.load 22 (Operand.tmp 123), type := 22, pos := "ref.go:112", after := #[{ on := 32, ground := Ground.data }, { on := 11, ground := Ground.guard }], guard := some (11, true) }) (v := undef) rfl (by kernel_rfl) (by kernel_rfl) (by kernel_rfl) (fun _ _ _ h => h) (Or.inr ⟨by rfl, rfl⟩) (by assumption) ?_
              simp only [Act.put, List.setIfInBounds_toArray, List.set_cons_zero, List.set_cons_succ]
              refine wpAnyH_take (i := 34) (oi := { dst := some 125, op := Op.call { callee := Callee.value (Operand.func 18), args := #[Operand.tmp 120, Operand.tmp 124], argTypes := #[34, 22] }, type := 31, pos := "ref.go:112", after := #[{ on := 29, ground := Ground.data }, { on := 33, ground := Ground.data }, { on := 25, ground := Ground.chain }, { on := 11, ground := Ground.guard }], guard := some (11, true) }) (v := undef) rfl (by kernel_rfl) (by kernel_rfl) (by kernel_rfl) (fun _ _ _ h => h) (Or.inr ⟨by rfl, rfl⟩) (by assumption) ?_
              simp only [Act.put, List.setIfInBounds_toArray, List.set_cons_zero, List.set_cons_succ]
              refine wpAnyH_take (i := 35) (oi := { dst := some 126, op := Op.move (Operand.tmp 0), type := 25, pos := "ref.go:112", after := #[{ on := 11, ground := Ground.guard }], guard := some (11, true) }) (v := undef) rfl (by kernel_rfl) (by kernel_rfl) (by kernel_rfl) (fun _ _ _ h => h) (Or.inr ⟨by rfl, rfl⟩) (by assumption) ?_
              simp only [Act.put, List.setIfInBounds_toArray, List.set_cons_zero, List.set_cons_succ]
              refine wpAnyH_take (i := 36) (oi := { dst := some 127, op := Op.nilCheck (Operand.tmp 126), type := 0, pos := "ref.go:112", after := #[{ on := 35, ground := Ground.data }, { on := 11, ground := Ground.guard }], guard := some (11, true) }) (v := undef) rfl (by kernel_rfl) (by kernel_rfl) (by kernel_rfl) (fun _ _ _ h => h) (Or.inr ⟨by rfl, rfl⟩) (by assumption) ?_
              simp only [Act.put, List.setIfInBounds_toArray, List.set_cons_zero, List.set_cons_succ]
              refine wpAnyH_take (i := 37) (oi := { dst := some 128, op := Op.fieldAddr 36 (Operand.tmp 127) 1, type := 0, pos := "ref.go:112", after := #[{ on := 36, ground := Ground.data }, { on := 11, ground := Ground.guard }], guard := some (11, true) }) (v := undef) rfl (by kernel_rfl) (by kernel_rfl) (by kernel_rfl) (fun _ _ _ h => h) (Or.inr ⟨by rfl, rfl⟩) (by assumption) ?_
              simp only [Act.put, List.setIfInBounds_toArray, List.set_cons_zero, List.set_cons_succ]
              refine wpAnyH_take (i := 38) (oi := { dst := some 129, op := Op.load 3 (Operand.tmp 128), type := 3, pos := "ref.go:112", after := #[{ on := 37, ground := Ground.data }, { on := 11, ground := Ground.guard }], guard := some (11, true) }) (v := undef) rfl (by kernel_rfl) (by kernel_rfl) (by kernel_rfl) (fun _ _ _ h => h) (Or.inr ⟨by rfl, rfl⟩) (by assumption) ?_
              simp only [Act.put, List.setIfInBounds_toArray, List.set_cons_zero, List.set_cons_succ]
              refine wpAnyH_take (i := 39) (oi := { dst := some 130, op := Op.call { callee := Callee.value (Operand.func 26), args := #[Operand.tmp 125, Operand.tmp 129], argTypes := #[31, 3] }, type := 31, pos := "ref.go:112", after := #[{ on := 34, ground := Ground.data }, { on := 38, ground := Ground.data }, { on := 34, ground := Ground.chain }, { on := 11, ground := Ground.guard }], guard := some (11, true) }) (v := undef) rfl (by kernel_rfl) (by kernel_rfl) (by kernel_rfl) (fun _ _ _ h => h) (Or.inr ⟨by rfl, rfl⟩) (by assumption) ?_
              simp only [Act.put, List.setIfInBounds_toArray, List.set_cons_zero, List.set_cons_succ]
              refine wpAnyH_take (i := 40) (oi := { dst := some 131, op := Op.binOp BinOp.eql 31 (Operand.tmp 116) (Operand.tmp 130) 31, type := 4, pos := "ref.go:112", after := #[{ on := 25, ground := Ground.data }, { on := 39, ground := Ground.data }, { on := 11, ground := Ground.guard }], guard := some (11, true) }) (v := undef) rfl (by kernel_rfl) (by kernel_rfl) (by kernel_rfl) (fun _ _ _ h => h) (Or.inr ⟨by rfl, rfl⟩) (by assumption) ?_
              simp only [Act.put, List.setIfInBounds_toArray, List.set_cons_zero, List.set_cons_succ]
              refine wpAnyH_take (i := 41) (oi := { dst := some 132, op := Op.pick (Operand.tmp 102) (Operand.tmp 131) (Operand.const (Value.bool false)), type := 4, pos := "ref.go:112", after := #[{ on := 11, ground := Ground.data }, { on := 40, ground := Ground.data }], guard := none }) (v := ?_) rfl (by kernel_rfl) (by kernel_rfl) (by kernel_rfl) (fun _ _ _ h => h) (Or.inl ⟨by rfl, ?_⟩) (by assumption) ?_
              rotate_left
              · intro w hSw
                clear hSw
                go_simp
                all_goals with_reducible rfl
              simp only [Act.put, List.setIfInBounds_toArray, List.set_cons_zero, List.set_cons_succ]
              refine wpAnyH_done (by kernel_rfl) ?_ _
              refine NoPanic.normal ?_
              clear hHeld
              obtain ⟨Zf, hZf⟩ : ∃ Z, Z = Z0 := ⟨_, rfl⟩
              rw [← hZf] at CZ0 ⊢
              clear hZf
              have BZ := hide (CZ0.out.below _ (Nat.le_refl _) (fun _ _ e => e))
              have BF := hide (BW.out.trans (CZ0.out.below w.heap.size BW.out.size (fun k hk e => e)))
              clear CZ0
              have BG := hide (BR.out.trans (BZ.out.mono BR.out.size))
              clear hnb2
              go_wp2_with fail
              go_roundg gO
              case measure => omega
              case rel => exact ⟨k + 1, by have := HM1.out; omega, by first | rfl | simp, HO6, BG⟩
            · have hnb2 : (T1.toList == T2.toList) = false := by rw [hTT]; simp [hxy]
              obtain ⟨D, hD⟩ : ∃ D, D = S.hsh a X := ⟨_, rfl⟩
              obtain ⟨E, hE⟩ : ∃ E, E = S.hsh a Y := ⟨_, rfl⟩
              have LD := hide (show D.length = 32 by rw [hD, S.hsh_length])
              have LE := hide (show E.length = 32 by rw [hE, S.hsh_length])
              obtain ⟨eb, heb⟩ : ∃ b : Bool, b = (D == E) := ⟨_, rfl⟩
              have heqv : ∀ w, (Op.equalIn 10000 31 (.agg (S.v8 D)) (.agg (S.v8 E))).run Tryd.prog w = .ok eb w := fun w => equal_dig D E LD.out LE.out eb heb.symm w
              have hst2 := HST.out
              rw [← hD, ← hE] at hst2
              have HXY := hide hxy
              have HST2 := hide hst2
              have HEB := hide heb
              have ED := hide hD
              have EE := hide hE
              clear hTT hxy HST hst2 hD hE heb
              go_upto_region 11 with fail
              refine wp_region_noPanic ?_
              refine wp_region_held_drew (S := (fun W => Chg (fun _ => False) wr W)) follows ((Chg.refl _ _).drew) (fun hHeld => ?_)
              clear hHeld
              have hHeld : Chg (fun _ => False) wr wr.drew := (Chg.refl _ _).drew
              have CZ0 := hide hHeld
              generalize wr.drew = Z0 at CZ0 hHeld ⊢
              refine wpAnyH_take (i := 0) (oi := { dst := some 91, op := Op.move (Operand.tmp 17), type := 39, pos := "ref.go:112", after := #[], guard := none }) (v := ?_) rfl (by kernel_rfl) (by kernel_rfl) (by kernel_rfl) (fun _ _ _ h => h) (Or.inl ⟨by rfl, ?_⟩) (by assumption) ?_
              rotate_left
              · intro w hSw
                clear hSw
                go_simp
                all_goals with_reducible rfl
              simp only [Act.put, List.setIfInBounds_toArray, List.set_cons_zero, List.set_cons_succ]
              refine wpAnyH_take (i := 1) (oi := { dst := some 92, op := Op.move (Operand.tmp 22), type := 3, pos := "ref.go:112", after := #[], guard := none }) (v := ?_) rfl (by kernel_rfl) (by kernel_rfl) (by kernel_rfl) (fun _ _ _ h => h) (Or.inl ⟨by rfl, ?_⟩) (by assumption) ?_
              rotate_left
              · intro w hSw
                clear hSw
                go_simp
                all_goals with_reducible rfl
              simp only [Act.put, List.setIfInBounds_toArray, List.set_cons_zero, List.set_cons_succ]
              refine wpAnyH_take (i := 2) (oi := { dst := some 93, op := Op.indexAddr 39 (Operand.tmp 91) (Operand.tmp 92), type := 0, pos := "ref.go:112", after := #[{ on := 0, ground := Ground.data }, { on := 1, ground := Ground.data }], guard := none }) (v := ?_) rfl (by kernel_rfl) (by kernel_rfl) (by kernel_rfl) (fun _ _ _ h => h) (Or.inl ⟨by rfl, ?_⟩) (by assumption) ?_
              rotate_left
              · intro w hSw
                clear hSw
                go_simp
                all_goals with_reducible rfl
              simp only [Act.put, List.setIfInBounds_toArray, List.set_cons_zero, List.set_cons_succ]
              refine wpAnyH_take (i := 3) (oi := { dst := some 94, op := Op.load 22 (Operand.tmp 93), type := 22, pos := "ref.go:112", after := #[{ on := 2, ground := Ground.data }], guard := none }) (v := ?_) rfl (by kernel_rfl) (by kernel_rfl) (by kernel_rfl) (fun _ _ _ h => h) (Or.inl ⟨by rfl, ?_⟩) (by assumption) ?_
              rotate_left
              · intro w hSw
                have c4 := ((hSw.below _ (Nat.le_refl _) (fun _ _ e => e)).cell (p := ⟨bl, offl + k, none⟩) HLR.out).trans CX.out
                clear hSw
                go_simp
                all_goals with_reducible rfl
              simp only [Act.put, List.setIfInBounds_toArray, List.set_cons_zero, List.set_cons_succ]
              refine wpAnyH_take (i := 4) (oi := { dst := some 95, op := Op.convert 22 9 (Operand.tmp 94), type := 9, pos := "ref.go:112", after := #[{ on := 3, ground := Ground.data }], guard := none }) (v := ?_) rfl (by kernel_rfl) (by kernel_rfl) (by kernel_rfl) (fun _ _ _ h => h) (Or.inl ⟨by rfl, ?_⟩) (by assumption) ?_
              rotate_left
              · intro w hSw
                have c4 := KA1.out w (hSw.below _ (Nat.le_refl _) (fun _ _ e => e))
                clear hSw
                go_simp
                all_goals with_reducible rfl
              simp only [Act.put, List.setIfInBounds_toArray, List.set_cons_zero, List.set_cons_succ]
              refine wpAnyH_take (i := 5) (oi := { dst := some 96, op := Op.move (Operand.tmp 19), type := 39, pos := "ref.go:112", after := #[], guard := none }) (v := ?_) rfl (by kernel_rfl) (by kernel_rfl) (by kernel_rfl) (fun _ _ _ h => h) (Or.inl ⟨by rfl, ?_⟩) (by assumption) ?_
              rotate_left
              · intro w hSw
                clear hSw
                go_simp
                all_goals with_reducible rfl
              simp only [Act.put, List.setIfInBounds_toArray, List.set_cons_zero, List.set_cons_succ]
              refine wpAnyH_take (i := 6) (oi := { dst := some 97, op := Op.move (Operand.tmp 22), type := 3, pos := "ref.go:112", after := #[], guard := none }) (v := ?_) rfl (by kernel_rfl) (by kernel_rfl) (by kernel_rfl) (fun _ _ _ h => h) (Or.inl ⟨by rfl, ?_⟩) (by assumption) ?_
              rotate_left
              · intro w hSw
                clear hSw
                go_simp
                all_goals with_reducible rfl
              simp only [Act.put, List.setIfInBounds_toArray, List.set_cons_zero, List.set_cons_succ]
              refine wpAnyH_take (i := 7) (oi := { dst := some 98, op := Op.indexAddr 39 (Operand.tmp 96) (Operand.tmp 97), type := 0, pos := "ref.go:112", after := #[{ on := 5, ground := Ground.data }, { on := 6, ground := Ground.data }], guard := none }) (v := ?_) rfl (by kernel_rfl) (by kernel_rfl) (by kernel_rfl) (fun _ _ _ h => h) (Or.inl ⟨by rfl, ?_⟩) (by assumption) ?_
              rotate_left
              · intro w hSw
                clear hSw
                go_simp
                all_goals with_reducible rfl
              simp only [Act.put, List.setIfInBounds_toArray, List.set_cons_zero, List.set_cons_succ]
              refine wpAnyH_take (i := 8) (oi := { dst := some 99, op := Op.load 22 (Operand.tmp 98), type := 22, pos := "ref.go:112", after := #[{ on := 7, ground := Ground.data }], guard := none }) (v := ?_) rfl (by kernel_rfl) (by kernel_rfl) (by kernel_rfl) (fun _ _ _ h => h) (Or.inl ⟨by rfl, ?_⟩) (by assumption) ?_
              rotate_left
              · intro w hSw
                have c4 := ((hSw.below _ (Nat.le_refl _) (fun _ _ e => e)).cell (p := ⟨bk, offk + k, none⟩) HKR.out).trans CY.out
                clear hSw
                go_simp
                all_goals with_reducible rfl
              simp only [Act.put, List.setIfInBounds_toArray, List.set_cons_zero, List.set_cons_succ]
              refine wpAnyH_take (i := 9) (oi := { dst := some 100, op := Op.convert 22 9 (Operand.tmp 99), type := 9, pos := "ref.go:112", after := #[{ on := 8, ground := Ground.data }], guard := none }) (v := ?_) rfl (by kernel_rfl) (by kernel_rfl) (by kernel_rfl) (fun _ _ _ h => h) (Or.inl ⟨by rfl, ?_⟩) (by assumption) ?_
              rotate_left
              · intro w hSw
                have c4 := KA2.out w (hSw.below _ (Nat.le_refl _) (fun _ _ e => e))
                clear hSw
                go_simp
                all_goals with_reducible rfl
              simp only [Act.put, List.setIfInBounds_toArray, List.set_cons_zero, List.set_cons_succ]
              refine wpAnyH_take (i := 10) (oi := { dst := some 101, op := Op.binOp BinOp.neq 9 (Operand.tmp 95) (Operand.tmp 100) 9, type := 4, pos := "ref.go:112", after := #[{ on := 4, ground := Ground.data }, { on := 9, ground := Ground.data }], guard := none }) (v := ?_) rfl (by kernel_rfl) (by kernel_rfl) (by kernel_rfl) (fun _ _ _ h => h) (Or.inl ⟨by rfl, ?_⟩) (by assumption) ?_
              rotate_left
              · intro w hSw
                clear hSw
                go_simp
                all_goals with_reducible rfl
              simp only [Act.put, List.setIfInBounds_toArray, List.set_cons_zero, List.set_cons_succ]
              refine wpAnyH_take (i := 11) (oi := { dst := some 102, op := Op.move (Operand.tmp 101), type := 4, pos := "ref.go:112", after := #[{ on := 10, ground := Ground.data }], guard := none }) (v := ?_) rfl (by kernel_rfl) (by kernel_rfl) (by kernel_rfl) (fun _ _ _ h => h) (Or.inl ⟨by rfl, ?_⟩) (by assumption) ?_
              rotate_left
              · intro w hSw
                clear hSw
                go_simp
                all_goals with_reducible rfl
              simp only [Act.put, List.setIfInBounds_toArray, List.set_cons_zero, List.set_cons_succ]
              refine wpAnyH_take (i := 12) (oi := { dst := some 103, op := Op.move (Operand.tmp 0), type := 25, pos := "ref.go:112", after := #[{ on := 11, ground := Ground.guard }], guard := some (11, true) }) (v := ?_) rfl (by kernel_rfl) (by kernel_rfl) (by kernel_rfl) (fun _ _ _ h => h) (Or.inl ⟨by rfl, ?_⟩) (by assumption) ?_
              rotate_left
              · intro w hSw
                clear hSw
                go_simp
                all_goals with_reducible rfl
              simp only [Act.put, List.setIfInBounds_toArray, List.set_cons_zero, List.set_cons_succ]
              refine wpAnyH_take (i := 13) (oi := { dst := some 104, op := Op.nilCheck (Operand.tmp 103), type := 0, pos := "ref.go:112", after := #[{ on := 12, ground := Ground.data }, { on := 11, ground := Ground.guard }], guard := some (11, true) }) (v := ?_) rfl (by kernel_rfl) (by kernel_rfl) (by kernel_rfl) (fun _ _ _ h => h) (Or.inl ⟨by rfl, ?_⟩) (by assumption) ?_
              rotate_left
              · intro w hSw
                clear hSw
                go_simp
                all_goals with_reducible rfl
              simp only [Act.put, List.setIfInBounds_toArray, List.set_cons_zero, List.set_cons_succ]
              refine wpAnyH_take (i := 14) (oi := { dst := some 105, op := Op.fieldAddr 36 (Operand.tmp 104) 0, type := 0, pos := "ref.go:112", after := #[{ on := 13, ground := Ground.data }, { on := 11, ground := Ground.guard }], guard := some (11, true) }) (v := ?_) rfl (by kernel_rfl) (by kernel_rfl) (by kernel_rfl) (fun _ _ _ h => h) (Or.inl ⟨by rfl, ?_⟩) (by assumption) ?_
              rotate_left
              · intro w hSw
                clear hSw
                go_simp
                all_goals with_reducible rfl
              simp only [Act.put, List.setIfInBounds_toArray, List.set_cons_zero, List.set_cons_succ]
              refine wpAnyH_take (i := 15) (oi := { dst := some 106, op := Op.load 34 (Operand.tmp 105), type := 34, pos := "ref.go:112", after := #[{ on := 14, ground := Ground.data }, { on := 11, ground := Ground.guard }], guard := some (11, true) }) (v := ?_) rfl (by kernel_rfl) (by kernel_rfl) (by kernel_rfl) (fun _ _ _ h => h) (Or.inl ⟨by rfl, ?_⟩) (by assumption) ?_
              rotate_left
              · intro w hSw
                have c4 := (cells2 (HHr.out.below (hSw.below _ (Nat.le_refl _) (fun _ _ e => e)) (Nat.le_refl _)).h).1
                clear hSw
                go_simp
                all_goals with_reducible rfl
              simp only [Act.put, List.setIfInBounds_toArray, List.set_cons_zero, List.set_cons_succ]
              refine wpAnyH_take (i := 16) (oi := { dst := some 107, op := Op.move (Operand.tmp 17), type := 39, pos := "ref.go:112", after := #[{ on := 11, ground := Ground.guard }], guard := some (11, true) }) (v := ?_) rfl (by kernel_rfl) (by kernel_rfl) (by kernel_rfl) (fun _ _ _ h => h) (Or.inl ⟨by rfl, ?_⟩) (by assumption) ?_
              rotate_left
              · intro w hSw
                clear hSw
                go_simp
                all_goals with_reducible rfl
              simp only [Act.put, List.setIfInBounds_toArray, List.set_cons_zero, List.set_cons_succ]
              refine wpAnyH_take (i := 17) (oi := { dst := some 108, op := Op.move (Operand.tmp 22), type := 3, pos := "ref.go:112", after := #[{ on := 11, ground := Ground.guard }], guard := some (11, true) }) (v := ?_) rfl (by kernel_rfl) (by kernel_rfl) (by kernel_rfl) (fun _ _ _ h => h) (Or.inl ⟨by rfl, ?_⟩) (by assumption) ?_
              rotate_left
              · intro w hSw
                clear hSw
                go_simp
                all_goals with_reducible rfl
              simp only [Act.put, List.setIfInBounds_toArray, List.set_cons_zero, List.set_cons_succ]
              refine wpAnyH_take (i := 18) (oi := { dst := some 109, op := Op.indexAddr 39 (Operand.tmp 107) (Operand.tmp 108), type := 0, pos := "ref.go:112", after := #[{ on := 16, ground := Ground.data }, { on := 17, ground := Ground.data }, { on := 11, ground := Ground.guard }], guard := some (11, true) }) (v := ?_) rfl (by kernel_rfl) (by kernel_rfl) (by kernel_rfl) (fun _ _ _ h => h) (Or.inl ⟨by rfl, ?_⟩) (by assumption) ?_
              rotate_left
              · intro w hSw
                clear hSw
                go_simp
                all_goals with_reducible rfl
              simp only [Act.put, List.setIfInBounds_toArray, List.set_cons_zero, List.set_cons_succ]
              refine wpAnyH_take (i := 19) (oi := { dst := some 110, op := Op.load 22 (Operand.tmp 109), type := 22, pos := "ref.go:112", after := #[{ on := 18, ground := Ground.data }, { on := 11, ground := Ground.guard }], guard := some (11, true) }) (v := ?_) rfl (by kernel_rfl) (by kernel_rfl) (by kernel_rfl) (fun _ _ _ h => h) (Or.inl ⟨by rfl, ?_⟩) (by assumption) ?_
              rotate_left
              · intro w hSw
                have c4 := ((hSw.below _ (Nat.le_refl _) (fun _ _ e => e)).cell (p := ⟨bl, offl + k, none⟩) HLR.out).trans CX.out
                clear hSw
                go_simp
                all_goals with_reducible rfl
              simp only [Act.put, List.setIfInBounds_toArray, List.set_cons_zero, List.set_cons_succ]
              refine wpAnyH_take (i := 21) (oi := { dst := some 112, op := Op.move (Operand.tmp 0), type := 25, pos := "ref.go:112", after := #[{ on := 11, ground := Ground.guard }], guard := some (11, true) }) (v := ?_) rfl (by kernel_rfl) (by kernel_rfl) (by kernel_rfl) (fun _ _ _ h => h) (Or.inl ⟨by rfl, ?_⟩) (by assumption) ?_
              rotate_left
              · intro w hSw
                clear hSw
                go_simp
                all_goals with_reducible rfl
              simp only [Act.put, List.setIfInBounds_toArray, List.set_cons_zero, List.set_cons_succ]
              refine wpAnyH_take (i := 22) (oi := { dst := some 113, op := Op.nilCheck (Operand.tmp 112), type := 0, pos := "ref.go:112", after := #[{ on := 21, ground := Ground.data }, { on := 11, ground := Ground.guard }], guard := some (11, true) }) (v := ?_) rfl (by kernel_rfl) (by kernel_rfl) (by kernel_rfl) (fun _ _ _ h => h) (Or.inl ⟨by rfl, ?_⟩) (by assumption) ?_
              rotate_left
              · intro w hSw
                clear hSw
                go_simp
                all_goals with_reducible rfl
              simp only [Act.put, List.setIfInBounds_toArray, List.set_cons_zero, List.set_cons_succ]
              refine wpAnyH_take (i := 23) (oi := { dst := some 114, op := Op.fieldAddr 36 (Operand.tmp 113) 1, type := 0, pos := "ref.go:112", after := #[{ on := 22, ground := Ground.data }, { on := 11, ground := Ground.guard }], guard := some (11, true) }) (v := ?_) rfl (by kernel_rfl) (by kernel_rfl) (by kernel_rfl) (fun _ _ _ h => h) (Or.inl ⟨by rfl, ?_⟩) (by assumption) ?_
              rotate_left
              · intro w hSw
                clear hSw
                go_simp
                all_goals with_reducible rfl
              simp only [Act.put, List.setIfInBounds_toArray, List.set_cons_zero, List.set_cons_succ]
              refine wpAnyH_take (i := 24) (oi := { dst := some 115, op := Op.load 3 (Operand.tmp 114), type := 3, pos := "ref.go:112", after := #[{ on := 23, ground := Ground.data }, { on := 11, ground := Ground.guard }], guard := some (11, true) }) (v := ?_) rfl (by kernel_rfl) (by kernel_rfl) (by kernel_rfl) (fun _ _ _ h => h) (Or.inl ⟨by rfl, ?_⟩) (by assumption) ?_
              rotate_left
              · intro w hSw
                have c4 : w.cell? ⟨gh, 1, none⟩ = some (.int .i64 (cwa : Int)) := by rw [HCW.out]; exact (cells2 (HHr.out.below (hSw.below _ (Nat.le_refl _) (fun _ _ e => e)) (Nat.le_refl _)).h).2
                clear hSw
                go_simp
                all_goals with_reducible rfl
              simp only [Act.put, List.setIfInBounds_toArray, List.set_cons_zero, List.set_cons_succ]
              refine wpAnyH_take (i := 26) (oi := { dst := some 117, op := Op.move (Operand.tmp 0), type := 25, pos := "ref.go:112", after := #[{ on := 11, ground := Ground.guard }], guard := some (11, true) }) (v := ?_) rfl (by kernel_rfl) (by kernel_rfl) (by kernel_rfl) (fun _ _ _ h => h) (Or.inl ⟨by rfl, ?_⟩) (by assumption) ?_
              rotate_left
              · intro w hSw
                clear hSw
                go_simp
                all_goals with_reducible rfl
              simp only [Act.put, List.setIfInBounds_toArray, List.set_cons_zero, List.set_cons_succ]
              refine wpAnyH_take (i := 27) (oi := { dst := some 118, op := Op.nilCheck (Operand.tmp 117), type := 0, pos := "ref.go:112", after := #[{ on := 26, ground := Ground.data }, { on := 11, ground := Ground.guard }], guard := some (11, true) }) (v := ?_) rfl (by kernel_rfl) (by kernel_rfl) (by kernel_rfl) (fun _ _ _ h => h) (Or.inl ⟨by rfl, ?_⟩) (by assumption) ?_
              rotate_left
              · intro w hSw
                clear hSw
                go_simp
                all_goals with_reducible rfl
              simp only [Act.put, List.setIfInBounds_toArray, List.set_cons_zero, List.set_cons_succ]
              refine wpAnyH_take (i := 28) (oi := { dst := some 119, op := Op.fieldAddr 36 (Operand.tmp 118) 0, type := 0, pos := "ref.go:112", after := #[{ on := 27, ground := Ground.data }, { on := 11, ground := Ground.guard }], guard := some (11, true) }) (v := ?_) rfl (by kernel_rfl) (by kernel_rfl) (by kernel_rfl) (fun _ _ _ h => h) (Or.inl ⟨by rfl, ?_⟩) (by assumption) ?_
              rotate_left
              · intro w hSw
                clear hSw
                go_simp
                all_goals with_reducible rfl
              simp only [Act.put, List.setIfInBounds_toArray, List.set_cons_zero, List.set_cons_succ]
              refine wpAnyH_take (i := 29) (oi := { dst := some 120, op := Op.load 34 (Operand.tmp 119), type := 34, pos := "ref.go:112", after := #[{ on := 28, ground := Ground.data }, { on := 11, ground := Ground.guard }], guard := some (11, true) }) (v := ?_) rfl (by kernel_rfl) (by kernel_rfl) (by kernel_rfl) (fun _ _ _ h => h) (Or.inl ⟨by rfl, ?_⟩) (by assumption) ?_
              rotate_left
              · intro w hSw
                have c4 := (cells2 (HHr.out.below (hSw.below _ (Nat.le_refl _) (fun _ _ e => e)) (Nat.le_refl _)).h).1
                clear hSw
                go_simp
                all_goals with_reducible rfl
              simp only [Act.put, List.setIfInBounds_toArray, List.set_cons_zero, List.set_cons_succ]
              refine wpAnyH_take (i := 30) (oi := { dst := some 121, op := Op.move (Operand.tmp 19), type := 39, pos := "ref.go:112", after := #[{ on := 11, ground := Ground.guard }], guard := some (11, true) }) (v := ?_) rfl (by kernel_rfl) (by kernel_rfl) (by kernel_rfl) (fun _ _ _ h => h) (Or.inl ⟨by rfl, ?_⟩) (by assumption) ?_
              rotate_left
              · intro w hSw
                clear hSw
                go_simp
                all_goals with_reducible rfl
              simp only [Act.put, List.setIfInBounds_toArray, List.set_cons_zero, List.set_cons_succ]
              refine wpAnyH_take (i := 31) (oi := { dst := some 122, op := Op.move (Operand.tmp 22), type := 3, pos := "ref.go:112", after := #[{ on := 11, ground := Ground.guard }], guard := some (11, true) }) (v := ?_) rfl (by kernel_rfl) (by kernel_rfl) (by kernel_rfl) (fun _ _ _ h => h) (Or.inl ⟨by rfl, ?_⟩) (by assumption) ?_
              rotate_left
              · intro w hSw
                clear hSw
                go_simp
                all_goals with_reducible rfl
              simp only [Act.put, List.setIfInBounds_toArray, List.set_cons_zero, List.set_cons_succ]
              refine wpAnyH_take (i := 32) (oi := { dst := some 123, op := Op.indexAddr 39 (Operand.tmp 121) (Operand.tmp 122), type := 0, pos := "ref.go:112", after := #[{ on := 30, ground := Ground.data }, { on := 31, ground := Ground.data }, { on := 11, ground := Ground.guard }], guard := some (11, true) }) (v := ?_) rfl (by kernel_rfl) (by kernel_rfl) (by kernel_rfl) (fun _ _ _ h => h) (Or.inl ⟨by rfl, ?_⟩) (by assumption) ?_
              rotate_left
              · intro w hSw
                clear hSw
                go_simp
                all_goals with_reducible rfl
              simp only [Act.put, List.setIfInBounds_toArray, List.set_cons_zero, List.set_cons_succ]
              refine wpAnyH_take (i := 33) (oi := { dst := some 124, op := Op.load 22 (Operand.tmp 123), type := 22, pos := "ref.go:112", after := #[{ on := 32, ground := Ground.data }, { on := 11, ground := Ground.guard }], guard := some (11, true) }) (v := ?_) rfl (by kernel_rfl) (by kernel_rfl) (by kernel_rfl) (fun _ _ _ h => h) (Or.inl ⟨by rfl, ?_⟩) (by assumption) ?_
              rotate_left
              · intro w hSw
                have c4 := ((hSw.below _ (Nat.le_refl _) (fun _ _ e => e)).cell (p := ⟨bk, offk + k, none⟩) HKR.out).trans CY.out
                clear hSw
                go_simp
                all_goals with_reducible rfl
              simp only [Act.put, List.setIfInBounds_toArray, List.set_cons_zero, List.set_cons_succ]
              refine wpAnyH_take (i := 35) (oi := { dst := some 126, op := Op.move (Operand.tmp 0), type := 25, pos := "ref.go:112", after := #[{ on := 11, ground := Ground.guard }], guard := some (11, true) }) (v := ?_) rfl (by kernel_rfl) (by kernel_rfl) (by kernel_rfl) (fun _ _ _ h => h) (Or.inl ⟨by rfl, ?_⟩) (by assumption) ?_
              rotate_left
              · intro w hSw
                clear hSw
                go_simp
                all_goals with_reducible rfl
              simp only [Act.put, List.setIfInBounds_toArray, List.set_cons_zero, List.set_cons_succ]
              refine wpAnyH_take (i := 36) (oi := { dst := some 127, op := Op.nilCheck (Operand.tmp 126), type := 0, pos := "ref.go:112", after := #[{ on := 35, ground := Ground.data }, { on := 11, ground := Ground.guard }], guard := some (11, true) }) (v := ?_) rfl (by kernel_rfl) (by kernel_rfl) (by kernel_rfl) (fun _ _ _ h => h) (Or.inl ⟨by rfl, ?_⟩) (by assumption) ?_
              rotate_left
              · intro w hSw
                clear hSw
                go_simp
                all_goals with_reducible rfl
              simp only [Act.put, List.setIfInBounds_toArray, List.set_cons_zero, List.set_cons_succ]
              refine wpAnyH_take (i := 37) (oi := { dst := some 128, op := Op.fieldAddr 36 (Operand.tmp 127) 1, type := 0, pos := "ref.go:112", after := #[{ on := 36, ground := Ground.data }, { on := 11, ground := Ground.guard }], guard := some (11, true) }) (v := ?_) rfl (by kernel_rfl) (by kernel_rfl) (by kernel_rfl) (fun _ _ _ h => h) (Or.inl ⟨by rfl, ?_⟩) (by assumption) ?_
              rotate_left
              · intro w hSw
                clear hSw
                go_simp
                all_goals with_reducible rfl
              simp only [Act.put, List.setIfInBounds_toArray, List.set_cons_zero, List.set_cons_succ]
              refine wpAnyH_take (i := 38) (oi := { dst := some 129, op := Op.load 3 (Operand.tmp 128), type := 3, pos := "ref.go:112", after := #[{ on := 37, ground := Ground.data }, { on := 11, ground := Ground.guard }], guard := some (11, true) }) (v := ?_) rfl (by kernel_rfl) (by kernel_rfl) (by kernel_rfl) (fun _ _ _ h => h) (Or.inl ⟨by rfl, ?_⟩) (by assumption) ?_
              rotate_left
              · intro w hSw
                have c4 : w.cell? ⟨gh, 1, none⟩ = some (.int .i64 (cwa : Int)) := by rw [HCW.out]; exact (cells2 (HHr.out.below (hSw.below _ (Nat.le_refl _) (fun _ _ e => e)) (Nat.le_refl _)).h).2
                clear hSw
                go_simp
                all_goals with_reducible rfl
              simp only [Act.put, List.setIfInBounds_toArray, List.set_cons_zero, List.set_cons_succ]
              refine wpAnyH_ready (rs := [20]) (by kernel_rfl) (by simp) ?_
              refine AllReadyH.cons (o := { dst := some 111, op := Op.call { callee := Callee.value (Operand.func 18), args := #[Operand.tmp 106, Operand.tmp 110], argTypes := #[34, 22] }, type := 31, pos := "ref.go:112", after := #[{ on := 15, ground := Ground.data }, { on := 19, ground := Ground.data }, { on := 11, ground := Ground.chain }, { on := 11, ground := Ground.guard }], guard := some (11, true) }) rfl (fun K hK => ?_) AllReadyH.nil
              go_simp
              refine (rsum_any gT _ X Z0 (HHr.out.below (CZ0.out.below _ (Nat.le_refl _) (fun _ _ e => e)) (Nat.le_refl _)).t (XS.out.below (CZ0.out.below _ (Nat.le_refl _) (fun _ _ e => e)) (Nat.le_refl _)) HTL.out).mono ?_
              rintro e Z1 ⟨rfl, hb2⟩
              obtain ⟨D0, hD0⟩ : ∃ D, D = S.sum X := ⟨_, rfl⟩
              have LD0 := hide (show D0.length = 32 by rw [hD0, S.sum_length])
              rw [← hD0]
              have ED0 := hide hD0
              clear hD0
              have CZ1 : Hid (Chg (fun _ => False) wr Z1) := CZ0.out.then hb2
              clear hb2 CZ0
              clear hHeld
              refine hK.out _ _ CZ1.out (fun hHeld => ?_)
              clear hK K
              try simp only [Act.put, List.setIfInBounds_toArray, List.set_cons_zero, List.set_cons_succ]
              refine wpAnyH_ready (rs := [25]) (by kernel_rfl) (by simp) ?_
              refine AllReadyH.cons (o := { dst := some 116, op := Op.call { callee := Callee.value (Operand.func 26), args := #[Operand.tmp 111, Operand.tmp 115], argTypes := #[31, 3] }, type := 31, pos := "ref.go:112", after := #[{ on := 20, ground := Ground.data }, { on := 24, ground := Ground.data }, { on := 20, ground := Ground.chain }, { on := 11, ground := Ground.guard }], guard := some (11, true) }) rfl (fun K hK => ?_) AllReadyH.nil
              go_simp
              refine (rcut_all D0 LD0.out (cwa : Int) Z1).mono ?_
              rintro e Z2 ⟨rfl, hb2⟩
              rw [show S.cut D0 (cwa : Int).toNat = D by rw [ED0.out, ED.out, HCW.out]; rfl]
              have CZ2 : Hid (Chg (fun _ => False) wr Z2) := CZ1.out.then hb2
              clear hb2 CZ1
              clear hHeld
              refine hK.out _ _ CZ2.out (fun hHeld => ?_)
              clear hK K
              try simp only [Act.put, List.setIfInBounds_toArray, List.set_cons_zero, List.set_cons_succ]
              refine wpAnyH_ready (rs := [34]) (by kernel_rfl) (by simp) ?_
              refine AllReadyH.cons (o := { dst := some 125, op := Op.call { callee := Callee.value (Operand.func 18), args := #[Operand.tmp 120, Operand.tmp 124], argTypes := #[34, 22] }, type := 31, pos := "ref.go:112", after := #[{ on := 29, ground := Ground.data }, { on := 33, ground := Ground.data }, { on := 25, ground := Ground.chain }, { on := 11, ground := Ground.guard }], guard := some (11, true) }) rfl (fun K hK => ?_) AllReadyH.nil
              go_simp
              refine (rsum_any gT _ Y Z2 (HHr.out.below (CZ2.out.below _ (Nat.le_refl _) (fun _ _ e => e)) (Nat.le_refl _)).t (YS.out.below (CZ2.out.below _ (Nat.le_refl _) (fun _ _ e => e)) (Nat.le_refl _)) HUL.out).mono ?_
              rintro e Z3 ⟨rfl, hb2⟩
              obtain ⟨E0, hE0⟩ : ∃ D, D = S.sum Y := ⟨_, rfl⟩
              have LE0 := hide (show E0.length = 32 by rw [hE0, S.sum_length])
              rw [← hE0]
              have EE0 := hide hE0
              clear hE0
              have CZ3 : Hid (Chg (fun _ => False) wr Z3) := CZ2.out.then hb2
              clear hb2 CZ2
              clear hHeld
              refine hK.out _ _ CZ3.out (fun hHeld => ?_)
              clear hK K
              try simp only [Act.put, List.setIfInBounds_toArray, List.set_cons_zero, List.set_cons_succ]
              refine wpAnyH_ready (rs := [39]) (by kernel_rfl) (by simp) ?_
              refine AllReadyH.cons (o := { dst := some 130, op := Op.call { callee := Callee.value (Operand.func 26), args := #[Operand.tmp 125, Operand.tmp 129], argTypes := #[31, 3] }, type := 31, pos := "ref.go:112", after := #[{ on := 34, ground := Ground.data }, { on := 38, ground := Ground.data }, { on := 34, ground := Ground.chain }, { on := 11, ground := Ground.guard }], guard := some (11, true) }) rfl (fun K hK => ?_) AllReadyH.nil
              go_simp
              refine (rcut_all E0 LE0.out (cwa : Int) Z3).mono ?_
              rintro e Z4 ⟨rfl, hb2⟩
              rw [show S.cut E0 (cwa : Int).toNat = E by rw [EE0.out, EE.out, HCW.out]; rfl]
              have CZ4 : Hid (Chg (fun _ => False) wr Z4) := CZ3.out.then hb2
              clear hb2 CZ3
              clear hHeld
              refine hK.out _ _ CZ4.out (fun hHeld => ?_)
              clear hK K
              try simp only [Act.put, List.setIfInBounds_toArray, List.set_cons_zero, List.set_cons_succ]
              refine wpAnyH_take (i := 40) (oi := { dst := some 131, op := Op.binOp BinOp.eql 31 (Operand.tmp 116) (Operand.tmp 130) 31, type := 4, pos := "ref.go:112", after := #[{ on := 25, ground := Ground.data }, { on := 39, ground := Ground.data }, { on := 11, ground := Ground.guard }], guard := some (11, true) }) (v := ?_) rfl (by kernel_rfl) (by kernel_rfl) (by kernel_rfl) (fun _ _ _ h => h) (Or.inl ⟨by rfl, ?_⟩) (by assumption) ?_
              rotate_left
              · intro w hSw
                clear hSw
                go_simp
                all_goals with_reducible rfl
              simp only [Act.put, List.setIfInBounds_toArray, List.set_cons_zero, List.set_cons_succ]
              refine wpAnyH_take (i := 41) (oi := { dst := some 132, op := Op.pick (Operand.tmp 102) (Operand.tmp 131) (Operand.const (Value.bool false)), type := 4, pos := "ref.go:112", after := #[{ on := 11, ground := Ground.data }, { on := 40, ground := Ground.data }], guard := none }) (v := ?_) rfl (by kernel_rfl) (by kernel_rfl) (by kernel_rfl) (fun _ _ _ h => h) (Or.inl ⟨by rfl, ?_⟩) (by assumption) ?_
              rotate_left
              · intro w hSw
                clear hSw
                go_simp
                all_goals with_reducible rfl
              simp only [Act.put, List.setIfInBounds_toArray, List.set_cons_zero, List.set_cons_succ]
              refine wpAnyH_done (by kernel_rfl) ?_ _
              refine NoPanic.normal ?_
              clear hHeld
              obtain ⟨Zf, hZf⟩ : ∃ Z, Z = Z4 := ⟨_, rfl⟩
              rw [← hZf] at CZ4 ⊢
              clear hZf
              have BZ := hide (CZ4.out.below _ (Nat.le_refl _) (fun _ _ e => e))
              have BF := hide (BW.out.trans (CZ4.out.below w.heap.size BW.out.size (fun k hk e => e)))
              clear CZ4
              have BG := hide (BR.out.trans (BZ.out.mono BR.out.size))
              clear hnb2
              clear heqv
              cases eb with
              | false =>
                have HO6 := hide (show O = S.coll a (ts.drop (k + 1)) (us.drop (k + 1)) by rw [HST2.out, if_neg (fun h => by have := HEB.out; rw [h.2] at this; simp at this)])
                clear HST2 HEB
                go_wp2_with fail
                go_roundg gO
                case measure => omega
                case rel => exact ⟨k + 1, by have := HM1.out; omega, by first | rfl | simp, HO6, BG⟩
              | true =>
                have HO6 := hide (show O = some (X, Y) by rw [HST2.out, if_pos ⟨HXY.out, by have := HEB.out.symm; simpa using this⟩])
                have CX9 : Hid (Zf.cell? ⟨bl, offl + k, none⟩ = some (.slice xo xl xc)) := (BZ.out.cell (p := ⟨bl, offl + k, none⟩) HLR.out).trans CX.out
                have CY9 : Hid (Zf.cell? ⟨bk, offk + k, none⟩ = some (.slice yo yl yc)) := (BZ.out.cell (p := ⟨bk, offk + k, none⟩) HKR.out).trans CY.out
                have XS9 := hide (XS.out.below BZ.out (Nat.le_refl _))
                have YS9 := hide (YS.out.below BZ.out (Nat.le_refl _))
                have HLR9 := hide (Nat.lt_of_lt_of_le HLR.out BZ.out.size)
                have HKR9 := hide (Nat.lt_of_lt_of_le HKR.out BZ.out.size)
                have BF9 := hide BF.out
                clear HST2 HEB CX CY XS YS HLR HKR BZ BF BG
                go_upto_region 12 with fail
                refine wp_region_noPanic ?_
                refine wp_region_held_drew (S := (fun W => Chg (fun _ => False) Zf W)) follows ((Chg.refl _ _).drew) (fun hHeld => ?_)
                clear hHeld
                have hHeld : Chg (fun _ => False) Zf Zf.drew := (Chg.refl _ _).drew
                have CZ0 := hide hHeld
                generalize Zf.drew = Z0 at CZ0 hHeld ⊢
                refine wpAnyH_take (i := 0) (oi := { dst := some 133, op := Op.move (Operand.tmp 17), type := 39, pos := "ref.go:113", after := #[], guard := none }) (v := ?_) rfl (by kernel_rfl) (by kernel_rfl) (by kernel_rfl) (fun _ _ _ h => h) (Or.inl ⟨by rfl, ?_⟩) (by assumption) ?_
                rotate_left
                · intro w hSw
                  clear hSw
                  go_simp
                  all_goals with_reducible rfl
                simp only [Act.put, List.setIfInBounds_toArray, List.set_cons_zero, List.set_cons_succ]
                refine wpAnyH_take (i := 1) (oi := { dst := some 134, op := Op.move (Operand.tmp 22), type := 3, pos := "ref.go:113", after := #[], guard := none }) (v := ?_) rfl (by kernel_rfl) (by kernel_rfl) (by kernel_rfl) (fun _ _ _ h => h) (Or.inl ⟨by rfl, ?_⟩) (by assumption) ?_
                rotate_left
                · intro w hSw
                  clear hSw
                  go_simp
                  all_goals with_reducible rfl
                simp only [Act.put, List.setIfInBounds_toArray, List.set_cons_zero, List.set_cons_succ]
                refine wpAnyH_take (i := 2) (oi := { dst := some 135, op := Op.indexAddr 39 (Operand.tmp 133) (Operand.tmp 134), type := 0, pos := "ref.go:113", after := #[{ on := 0, ground := Ground.data }, { on := 1, ground := Ground.data }], guard := none }) (v := ?_) rfl (by kernel_rfl) (by kernel_rfl) (by kernel_rfl) (fun _ _ _ h => h) (Or.inl ⟨by rfl, ?_⟩) (by assumption) ?_
                rotate_left
                · intro w hSw
                  clear hSw
                  go_simp
                  all_goals with_reducible rfl
                simp only [Act.put, List.setIfInBounds_toArray, List.set_cons_zero, List.set_cons_succ]
                refine wpAnyH_take (i := 3) (oi := { dst := some 136, op := Op.load 22 (Operand.tmp 135), type := 22, pos := "ref.go:113", after := #[{ on := 2, ground := Ground.data }], guard := none }) (v := ?_) rfl (by kernel_rfl) (by kernel_rfl) (by kernel_rfl) (fun _ _ _ h => h) (Or.inl ⟨by rfl, ?_⟩) (by assumption) ?_
                rotate_left
                · intro w hSw
                  have c4 := ((hSw.below _ (Nat.le_refl _) (fun _ _ e => e)).cell (p := ⟨bl, offl + k, none⟩) HLR9.out).trans CX9.out
                  clear hSw
                  go_simp
                  all_goals with_reducible rfl
                simp only [Act.put, List.setIfInBounds_toArray, List.set_cons_zero, List.set_cons_succ]
                refine wpAnyH_take (i := 4) (oi := { dst := some 137, op := Op.move (Operand.tmp 19), type := 39, pos := "ref.go:113", after := #[{ on := 8, ground := Ground.gcOnly Departure.lateStores }], guard := none }) (v := ?_) rfl (by kernel_rfl) (by kernel_rfl) (by kernel_rfl) (fun _ _ _ h => h) (Or.inl ⟨by rfl, ?_⟩) (by assumption) ?_
                rotate_left
                · intro w hSw
                  clear hSw
                  go_simp
                  all_goals with_reducible rfl
                simp only [Act.put, List.setIfInBounds_toArray, List.set_cons_zero, List.set_cons_succ]
                refine wpAnyH_take (i := 5) (oi := { dst := some 138, op := Op.move (Operand.tmp 22), type := 3, pos := "ref.go:113", after := #[{ on := 8, ground := Ground.gcOnly Departure.lateStores }], guard := none }) (v := ?_) rfl (by kernel_rfl) (by kernel_rfl) (by kernel_rfl) (fun _ _ _ h => h) (Or.inl ⟨by rfl, ?_⟩) (by assumption) ?_
                rotate_left
                · intro w hSw
                  clear hSw
                  go_simp
                  all_goals with_reducible rfl
                simp only [Act.put, List.setIfInBounds_toArray, List.set_cons_zero, List.set_cons_succ]
                refine wpAnyH_take (i := 6) (oi := { dst := some 139, op := Op.indexAddr 39 (Operand.tmp 137) (Operand.tmp 138), type := 0, pos := "ref.go:113", after := #[{ on := 4, ground := Ground.data }, { on := 5, ground := Ground.data }, { on := 8, ground := Ground.gcOnly Departure.lateStores }], guard := none }) (v := ?_) rfl (by kernel_rfl) (by kernel_rfl) (by kernel_rfl) (fun _ _ _ h => h) (Or.inl ⟨by rfl, ?_⟩) (by assumption) ?_
                rotate_left
                · intro w hSw
                  clear hSw
                  go_simp
                  all_goals with_reducible rfl
                simp only [Act.put, List.setIfInBounds_toArray, List.set_cons_zero, List.set_cons_succ]
                refine wpAnyH_take (i := 7) (oi := { dst := some 140, op := Op.load 22 (Operand.tmp 139), type := 22, pos := "ref.go:113", after := #[{ on := 6, ground := Ground.data }, { on := 8, ground := Ground.gcOnly Departure.lateStores }], guard := none }) (v := ?_) rfl (by kernel_rfl) (by kernel_rfl) (by kernel_rfl) (fun _ _ _ h => h) (Or.inl ⟨by rfl, ?_⟩) (by assumption) ?_
                rotate_left
                · intro w hSw
                  have c4 := ((hSw.below _ (Nat.le_refl _) (fun _ _ e => e)).cell (p := ⟨bk, offk + k, none⟩) HKR9.out).trans CY9.out
                  clear hSw
                  go_simp
                  all_goals with_reducible rfl
                simp only [Act.put, List.setIfInBounds_toArray, List.set_cons_zero, List.set_cons_succ]
                refine wpAnyH_take (i := 8) (oi := { dst := some 14, op := Op.assign (Operand.tmp 136), type := 22, pos := "ref.go:113", after := #[{ on := 3, ground := Ground.data }, { on := 0, ground := Ground.phase }, { on := 1, ground := Ground.phase }, { on := 2, ground := Ground.phase }, { on := 3, ground := Ground.phase }, { on := 4, ground := Ground.textOnly Departure.lateStores }, { on := 5, ground := Ground.textOnly Departure.lateStores }, { on := 6, ground := Ground.textOnly Departure.lateStores }, { on := 7, ground := Ground.textOnly Departure.lateStores }], guard := none }) (v := ?_) rfl (by kernel_rfl) (by kernel_rfl) (by kernel_rfl) (fun _ _ _ h => h) (Or.inl ⟨by rfl, ?_⟩) (by assumption) ?_
                rotate_left
                · intro w hSw
                  clear hSw
                  go_simp
                  all_goals with_reducible rfl
                simp only [Act.put, List.setIfInBounds_toArray, List.set_cons_zero, List.set_cons_succ]
                refine wpAnyH_take (i := 9) (oi := { dst := some 15, op := Op.assign (Operand.tmp 140), type := 22, pos := "ref.go:113", after := #[{ on := 7, ground := Ground.data }, { on := 8, ground := Ground.chain }, { on := 0, ground := Ground.phase }, { on := 1, ground := Ground.phase }, { on := 2, ground := Ground.phase }, { on := 3, ground := Ground.phase }, { on := 4, ground := Ground.phase }, { on := 5, ground := Ground.phase }, { on := 6, ground := Ground.phase }, { on := 7, ground := Ground.phase }, { on := 8, ground := Ground.phase }], guard := none }) (v := ?_) rfl (by kernel_rfl) (by kernel_rfl) (by kernel_rfl) (fun _ _ _ h => h) (Or.inl ⟨by rfl, ?_⟩) (by assumption) ?_
                rotate_left
                · intro w hSw
                  clear hSw
                  go_simp
                  all_goals with_reducible rfl
                simp only [Act.put, List.setIfInBounds_toArray, List.set_cons_zero, List.set_cons_succ]
                refine wpAnyH_take (i := 10) (oi := { dst := some 16, op := Op.assign (Operand.const (Value.bool true)), type := 4, pos := "ref.go:113", after := #[{ on := 9, ground := Ground.chain }, { on := 0, ground := Ground.phase }, { on := 1, ground := Ground.phase }, { on := 2, ground := Ground.phase }, { on := 3, ground := Ground.phase }, { on := 4, ground := Ground.phase }, { on := 5, ground := Ground.phase }, { on := 6, ground := Ground.phase }, { on := 7, ground := Ground.phase }, { on := 8, ground := Ground.phase }, { on := 9, ground := Ground.phase }], guard := none }) (v := ?_) rfl (by kernel_rfl) (by kernel_rfl) (by kernel_rfl) (fun _ _ _ h => h) (Or.inl ⟨by rfl, ?_⟩) (by assumption) ?_
                rotate_left
                · intro w hSw
                  clear hSw
                  go_simp
                  all_goals with_reducible rfl
                simp only [Act.put, List.setIfInBounds_toArray, List.set_cons_zero, List.set_cons_succ]
                refine wpAnyH_done (by kernel_rfl) ?_ _
                refine NoPanic.normal ?_
                clear hHeld
                obtain ⟨Zf, hZf⟩ : ∃ Z, Z = Z0 := ⟨_, rfl⟩
                rw [← hZf] at CZ0 ⊢
                clear hZf
                have BZ := hide (CZ0.out.below _ (Nat.le_refl _) (fun _ _ e => e))
                have BF := hide (BF9.out.trans (CZ0.out.below w.heap.size BF9.out.size (fun k hk e => e)))
                clear CZ0
                go_wp2_with fail
                go_ret3
                rw [HO6.out]
                exact ⟨⟨xo, xl, xc, yo, yl, yc, rfl, XS9.out.below BZ.out (Nat.le_refl _), YS9.out.below BZ.out (Nat.le_refl _)⟩, BF.out⟩
end Go.Proofs.YtlbggkmblkhjoabDoor
