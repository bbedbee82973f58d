/- VerifyLong. -/
import Derived.Test.YtlbggkmblkhjoabDoorZe
import Derived.Test.YtlbggkmblkhjoabDoorWn
import Derived.Test.YtlbggkmblkhjoabDoorWj
import Derived.Test.YtlbggkmblkhjoabDoorArgg
import Derived.Test.YtlbggkmblkhjoabDoorWithin
import Derived.Deep.CutBlock
namespace Go.Proofs.YtlbggkmblkhjoabDoor
open Go.RowKit

theorem zero_dig1 (W : World) : (Instr.build 31 #[]).run Tryd.prog W = .ok (.agg (S.v8 (S.zeros 32))) W := congrFun zero_dig W
theorem leafv_none0 (a : Int) (v u : Value) (i : Nat) (z : Int) (rt : List UInt8) (w : World) (hz : z = 0) :
   Calls Tryd.prog 15 #[.int .i64 a, v, .int .u64 (i : Int), .int .u64 z, u, .agg (S.v8 rt)] w fun e w' => e = .returned (.bool false) ∧ Below w.heap.size w w' := by
  rw [hz]
  exact leafv_none a v u i 0 rt w (Nat.zero_le _)
theorem S.climb_not {a : Int} {b : List UInt8} {i n : Nat} {ps : List (List UInt8)} (hin : i < n) (h : S.climb a b i n ps = none) : ps.length ≠ V.need i (n - 1) := fun e => by
  rw [S.climb, if_pos hin] at h
  obtain ⟨l, hl⟩ := S.way_some a (n - 1) i (0 :: b) ps e
  rw [hl] at h
  cases h
theorem S.vLeaf_long {a : Int} {b : List UInt8} {i n : Nat} {ps : List (List UInt8)} (rt : List UInt8) (hi : i < 18446744073709551616) (h : ps.length ≠ V.need i (n - 1)) : S.vLeaf a b i n ps rt = false := by
  rw [S.vLeaf_climb a b i n ps rt hi]
  cases hc : S.climb a b i n ps with
  | none => rfl
  | some l => exact absurd (by have := S.climb_len hc; omega) h
theorem S.vLeaf_sum {b : List UInt8} {i n : Nat} {ps ts : List (List UInt8)} (hi : i < 18446744073709551616) (h : S.climb 32 b i n ps = some ts) : S.vLeaf 32 b i n ps (S.sum (S.lastOf ts)) = true := by
  rw [S.vLeaf_climb 32 b i n ps _ hi, h]
  exact beq_self_eq_true (S.cut (S.sum (S.lastOf ts)) (S.cw 32))
theorem DgAny.at {w : World} {v : Value} {ds : List (List UInt8)} (h : DgAny w v ds) (k : Nat) (hk : k < ds.length) : ∃ g off cap, v = .slice (some ⟨g, off, none⟩) ds.length cap ∧ g < w.heap.size ∧ w.rangeAt g (off + k * 32) (S.v8l (ds.getD k [])) ∧ (ds.getD k []).length = 32 := by
  obtain ⟨ao, cap, rfl, h1, h2, h3⟩ := h
  obtain ⟨g, off, rfl, h4, h5⟩ := h3 (by omega)
  exact ⟨g, off, cap, rfl, h4, h5 k hk, h2 _ (by rw [List.getD_eq_getElem?_getD, List.getElem?_eq_getElem hk]; exact List.getElem_mem hk)⟩
set_option maxHeartbeats 16000000 in
set_option maxRecDepth 10000 in
theorem verifyLong_walk (ix n : Nat) (vb vp : Value) (bs : List UInt8) (Ps : List (List UInt8)) (mo : Int) (w : World) (hx : ix < 18446744073709551616) (hn : n < 18446744073709551616) (hv : SliceAt w vb bs) (hl : bs.length + 1 ≤ 140737488355000) (hp : DgAny w vp Ps) (h1 : -9223372036854775808 ≤ mo) (h2 : mo ≤ 9223372036854775807) (hK : KAt w) :
   Calls Tryd.prog 5 #[.int .u64 (ix : Int), .int .u64 (n : Int), vb, vp, .int .i64 mo] w fun e w' => e = .returned (.bool true) ∧ Below w.heap.size w w' := by
  obtain ⟨ao, len, cap, rfl, hlen, _⟩ := hv.form
  obtain ⟨po, pc, rfl, hpc⟩ := hp.form
  obtain ⟨pn, hpn⟩ : ∃ m, m = Ps.length := ⟨_, rfl⟩
  rw [← hpn] at hp ⊢
  have HV := hide hv
  have P := hide hp
  have PL := hide hpn
  have HL1 := hide hl
  have HK := hide hK
  have h0 := hK.pos
  clear hv hp hl hK hlen hpn hpc
  by_cases hn0 : n = 0
  · subst hn0
    go_enter Tryd.func5, Tryd.ntmps5
    go_wp2_with (with_reducible refine at_op { dst := some 26, op := Op.build 31 #[], type := 31, pos := "law.go:205", after := #[], guard := none } ?_; refine wpList_build_known rfl 31 [] rfl (.agg (S.v8 (S.zeros 32))) (zero_dig1 _) ?_)

    refine (leafv_none0 32 _ _ ix 0 (S.zeros 32) w rfl).mono ?_
    rintro e w1 ⟨rfl, b1⟩
    have B1 := hide b1
    clear b1
    go_wp2_with fail
    refine (known9_any w1 (HK.out.below B1.out h0)).mono ?_
    rintro e wk ⟨rfl, bk⟩
    have BK := hide (B1.out.trans (bk.mono B1.out.size))
    clear bk
    go_wp2_with fail
    go_ret
    exact ⟨rfl, BK.out⟩
  obtain ⟨i, hi'⟩ : ∃ i, i = ix % n := ⟨_, rfl⟩
  have hin : i < n := by rw [hi']; exact Nat.mod_lt _ (by omega)
  have qi : (ix : Int) % (n : Int) = (i : Int) := by rw [hi']; rfl
  have qz : ((n : Int) == 0) = false := by simp; omega
  have qz2 : ¬ (n : Int) = 0 := by omega
  have qu : IntKind.u64.wrap (i : Int) = (i : Int) := by rw [IntKind.wrap_u64]; omega
  obtain ⟨M, hM⟩ : ∃ M, M = V.need i (n - 1) := ⟨_, rfl⟩
  have HM64 := hide (show M ≤ 64 by rw [hM]; exact V.need_le 64 i (n - 1) (by omega))
  have HM := hide hM
  clear hi' hn0 hM
  go_enter Tryd.func5, Tryd.ntmps5
  go_wp2_with fail
  rw [qi]
  clear qi qz qz2 qu
  refine (hasher_any 32 w).mono ?_
  rintro e w3 ⟨gh, gT, rfl, hs3, b3⟩
  have H3 := hide hs3
  have B3 := hide b3
  have V3 := hide (HV.out.below b3 (Nat.le_refl _))
  have P3 := hide (P.out.below b3)
  clear hs3 b3 HV P
  go_wp2_with fail
  go_loopg [12, 13] 67 (fun gk s12 s13 wr => ∃ k : Nat, k + gk = 67 ∧ s13 = .int .i64 (k : Int) ∧ ((k ≤ M ∧ s12 = .int .i64 (-1)) ∨ (M < k ∧ s12 = .int .i64 (M : Int))) ∧ Hid (Below w3.heap.size w3 wr))
  case atStart => exact ⟨0, by omega, rfl, Or.inl ⟨by omega, rfl⟩, Below.refl _ _⟩
  case round =>
    obtain ⟨k, hk, rfl, hor, BR⟩ := hrel
    rename World => W0
    have BW := hide (B3.out.trans (BR.out.mono B3.out.size))
    cases gk with
    | zero =>
      rcases hor with ⟨hkM, rfl⟩ | ⟨hkM, rfl⟩
      · exfalso; have := HM64.out; omega
      · have qk : ¬ (k : Int) ≤ 66 := by omega
        have qm0 : (M : Int) ≥ 0 := by omega
        have qm1 : (0 : Int) ≤ (M : Int) := by omega
        have qm2 : (M : Int) ≤ 64 := by have := HM64.out; omega
        clear hk hkM
        go_wp2_with fail
        refine (known9_any W0 (HK.out.below BW.out h0)).mono ?_
        rintro e wk ⟨rfl, bk⟩
        have BK := hide (BW.out.trans (bk.mono BW.out.size))
        clear bk
        go_wp2_with fail
        go_ret
        exact ⟨rfl, BK.out⟩
    | succ gO =>
      have qk : (k : Int) ≤ 66 := by omega
      have qk1 : IntKind.i64.wrap ((k : Int) + 1) = (k : Int) + 1 := by rw [IntKind.wrap_i64]; omega
      have hk66 : k ≤ 66 := by omega
      have H0 := hide (H3.out.below BR.out (Nat.le_refl _))
      have V0 := hide (V3.out.below BR.out (Nat.le_refl _))
      have P0 := hide (P3.out.below BR.out)
      obtain ⟨W1, hW1⟩ : ∃ W, W = W0.alloc (.cells (madeCells (S.v8 (S.zeros 32)) (k * 32)) 31) := ⟨_, rfl⟩
      have b1 : Below W0.heap.size W0 W1 := by rw [hW1]; exact (Below.refl _ _).alloc (Nat.le_refl _) _
      have hmk : (Instr.makeSlice 24 (.int .i64 (k : Int)) (.int .i64 (k : Int))).run Tryd.prog W0 = .ok (.slice (some ⟨W0.heap.size, 0, none⟩) k k) W1 := by rw [hW1]; exact make_digs k (by omega) W0
      have hrow : DgRow W0.heap.size W1 (.slice (some ⟨W0.heap.size, 0, none⟩) k k) (List.replicate k (S.zeros 32)) := by rw [hW1]; exact DgRow.made W0 k (by omega)
      obtain ⟨g, hg⟩ : ∃ g, g = W0.heap.size := ⟨_, rfl⟩
      rw [← hg] at hmk
      rw [show (Value.slice (some ⟨W0.heap.size, 0, none⟩) k k) = .slice (some ⟨g, 0, none⟩) k k by rw [hg]] at hrow
      have HG := hide hg
      have D1 := hide hrow
      have B01 := hide b1
      have HKK := hide hk
      have HOR := hide hor
      clear hW1 hrow hg b1 hk hor
      go_upto_block 2 with fail
      clear hmk
      go_cut [15] from 42 to 59 (fun s15 wc => ∃ ds : List (List UInt8), Hid (k = ds.length ∧ ∀ d ∈ ds, d.length = 32) ∧ Hid (DgRow W0.heap.size wc (.slice (some ⟨g, 0, none⟩) k k) ds) ∧ Hid (Below W0.heap.size W0 wc))
      case first =>
        go_wp2_with fail
        go_loopg [15] k (fun gk s15 wr => ∃ (j : Nat) (ds : List (List UInt8)), j + gk = k ∧ s15 = .int .i64 (j : Int) ∧ Hid (k = ds.length ∧ ∀ d ∈ ds, d.length = 32) ∧ Hid (DgRow W0.heap.size wr (.slice (some ⟨g, 0, none⟩) k k) ds) ∧ Hid (Below W0.heap.size W0 wr))
        case atStart => exact ⟨0, List.replicate k (S.zeros 32), by omega, rfl, hide ⟨by rw [List.length_replicate], fun d hd => by rw [List.eq_of_mem_replicate hd]; exact S.zeros_length _⟩, D1, B01⟩
        case round =>
          obtain ⟨j, ds, hj, rfl, HD, DR, B0r⟩ := hrel
          clear D1 B01
          cases gk with
          | zero =>
            have qj : ¬ (j : Int) < (k : Int) := by omega
            clear hj
            go_wp2_with fail
            go_meet
            exact ⟨ds, HD, DR, B0r⟩
          | succ gI =>
            have qj : (j : Int) < (k : Int) := by omega
            have qj0 : (0 : Int) ≤ (j : Int) := by omega
            have qj1 : IntKind.i64.wrap ((j : Int) + 1) = (j : Int) + 1 := by rw [IntKind.wrap_i64]; omega
            by_cases hjp : j < pn
            · have qjp : (j : Int) < (pn : Int) := by omega
              obtain ⟨pg, off, pc', e, hgl, hr, hz0⟩ := (P0.out.below B0r.out).at j (by rw [← PL.out]; exact hjp)
              simp only [Value.slice.injEq] at e
              obtain ⟨rfl, e2, rfl⟩ := e
              obtain ⟨D, hD⟩ : ∃ D, D = Ps.getD j [] := ⟨_, rfl⟩
              rw [← hD] at hr hz0
              obtain ⟨w', hst, hrow, hch⟩ := DgRow.set DR.out HD.out.2 j (by rw [← HD.out.1]; omega) D hz0
              have hsz2 : (Tryd.prog.info? 31).map (·.size) = some (S.v8l D).length := by rw [S.v8l_length, hz0]; exact size23
              rw [S.v8_eq] at hst
              have DR2 := hide hrow
              have HD2 : Hid (k = (ds.set j D).length ∧ ∀ d ∈ ds.set j D, d.length = 32) := ⟨by rw [List.length_set]; exact HD.out.1, fun d hd => by
                rcases List.mem_or_eq_of_mem_set hd with hd | rfl
                · exact HD.out.2 d hd
                · exact hz0⟩
              have B0r2 := hide (B0r.out.trans (hch.below _ B0r.out.size (fun q hq e => by have := HG.out; omega)))
              have HJ := hide hj
              have HR := hide hr
              obtain ⟨cs, hcs⟩ : ∃ cs, cs = S.v8l D := ⟨_, rfl⟩
              rw [← hcs] at hst HR hsz2
              clear e2 hr hrow hch hj hD hz0 hgl hcs HD DR B0r
              go_wp2_with (first | (with_reducible refine at_op { dst := some 58, op := Op.load 31 (Operand.tmp 57), type := 31, pos := "law.go:213", after := #[{ on := 4, ground := Ground.data }], guard := none } ?_; refine wpList_load_mid rfl 31 (.tmp 57) rfl pg (off + j * 32) rfl cs _ HR.out Tryd.underlying31 rfl hsz2 ?_) | (with_reducible refine at_op { dst := none, op := Op.store 31 (Operand.tmp 59) (Operand.tmp 58), type := 0, pos := "law.go:213", after := #[{ on := 6, ground := Ground.data }, { on := 5, ground := Ground.data }, { on := 0, ground := Ground.phase }, { on := 1, ground := Ground.phase }, { on := 2, ground := Ground.phase }, { on := 3, ground := Ground.phase }, { on := 4, ground := Ground.phase }, { on := 5, ground := Ground.phase }], guard := none } ?_; refine wpList_store_as rfl 31 (.tmp 59) (.tmp 58) rfl (.pointer (some ⟨g, j * 32, none⟩)) (.agg cs.toArray) rfl rfl w' hst ?_))
              clear hst
              go_roundg gI
              case measure => omega
              case rel => exact ⟨j + 1, ds.set j D, by have := HJ.out; omega, by first | rfl | simp, HD2, DR2, B0r2⟩
            · have qjp : ¬ (j : Int) < (pn : Int) := by omega
              clear hj
              go_wp2_with fail
              go_meet
              exact ⟨ds, HD, DR, B0r⟩
      case rest =>
      obtain ⟨ds, HD, DR, B0c⟩ := hcut
      clear D1 B01
      have BC := hide (BW.out.trans (B0c.out.mono BW.out.size))
      have HC := hide (H0.out.below B0c.out (Nat.le_refl _))
      have VC := hide (V0.out.below B0c.out (Nat.le_refl _))
      have PC := hide (DR.out.dgAt (by rw [← HD.out.1]; omega) HD.out.2)
      have B3c := hide (BR.out.trans (B0c.out.mono BR.out.size))
      clear H0 V0 P0
      go_wp2_with fail
      refine (rway_any gh gT 32 _ _ bs i n ds wc hin hn HC.out VC.out HL1.out PC.out (by rw [← HD.out.1]; omega)).mono ?_
      rintro e w5 ⟨so, sl, sc, rfl, hts, b5⟩
      have B35 := hide (B3c.out.trans (b5.mono B3c.out.size))
      cases hc : S.climb 32 bs i n ds with
      | none =>
        simp only [Option.isSome_none]
        have hne := S.climb_not hin hc
        have HNE := hide (show k ≠ M by rw [HD.out.1, HM.out]; exact hne)
        clear hc hne hts b5 DR HD PC
        rcases HOR.out with ⟨hkM, rfl⟩ | ⟨hkM, rfl⟩
        · have HKM := hide hkM
          clear hkM
          go_wp2_with fail
          go_roundg gO
          case measure => omega
          case rel => exact ⟨k + 1, by have := HKK.out; omega, by first | rfl | simp, Or.inl ⟨by have := HNE.out; have := HKM.out; omega, rfl⟩, B35⟩
        · have HKM := hide hkM
          clear hkM
          go_wp2_with fail
          go_roundg gO
          case measure => omega
          case rel => exact ⟨k + 1, by have := HKK.out; omega, by first | rfl | simp, Or.inr ⟨by have := HNE.out; have := HKM.out; omega, rfl⟩, B35⟩
      | some ts =>
        simp only [Option.isSome_some]
        have hlen := S.climb_len hc
        have HEQ := hide (show k = M by rw [HD.out.1, HM.out]; omega)
        rcases HOR.out with ⟨hkM, rfl⟩ | ⟨hkM, rfl⟩
        rotate_left
        · exfalso; have := HEQ.out; omega
        have htx := hts ts hc
        have hfit := S.climb_fit2 hc HL1.out (ts.length - 1)
        rw [S.getD_last] at hfit
        obtain ⟨m, hm⟩ : ∃ m, m = ts.length - 1 := ⟨_, rfl⟩
        obtain ⟨bl, offl, cl, e9, e9', e9b, hcl⟩ := htx.bsAt.src (by omega)
        simp only [Value.slice.injEq] at e9
        obtain ⟨rfl, e9n, rfl⟩ := e9
        obtain ⟨x, hx9, hxs⟩ := hcl m (by omega)
        rw [hm, S.getD_last] at hxs
        obtain ⟨xo, xl, xc, rfl, hxl, hxm⟩ := hxs.form
        have CX := hide hx9
        have XS := hide hxs
        have HBLT := hide e9b
        have HTL := hide hfit
        have e1 : IntKind.i64.wrap ((sl : Int) - 1) = (m : Int) := by rw [IntKind.wrap_i64]; have := HD.out.1; omega
        have qk0 : (0 : Int) ≤ (m : Int) := by omega
        have qkm : (m : Int) < (sl : Int) := by omega
        obtain ⟨D, hD⟩ : ∃ D, D = S.sum (S.lastOf ts) := ⟨_, rfl⟩
        have LD := hide (show D.length = 32 by rw [hD, S.sum_length])
        have ED := hide hD
        have TK := hide (show S.vLeaf 32 bs i n ds D = true by rw [hD]; exact S.vLeaf_sum (by omega) hc)
        have B5 := hide (BC.out.trans (b5.mono BC.out.size))
        have BC5 := hide b5
        have H5 := hide (HC.out.below b5 (Nat.le_refl _))
        clear hkM hlen hts hc htx hfit hm e9n e9' e9b hcl hx9 hxs hxl hxm hD b5
        go_upto_region 19 with fail
        go_cut [18] from 74 to 84 (fun p18 wc => ∃ g18, p18 = .pointer (some ⟨g18, 0, none⟩) ∧ Hid (wc.heap[g18]? = some (.cells (S.v8 D) 31 (0, 0))) ∧ Hid (Below w5.heap.size w5 wc))
        case first =>
          refine wp_region_noPanic ?_
          refine wp_region_held_drew (S := (fun W => Chg (fun _ => False) w5 W)) follows ((Chg.refl _ _).drew) (fun hHeld => ?_)
          clear hHeld
          have hHeld : Chg (fun _ => False) w5 w5.drew := (Chg.refl _ _).drew
          have CZ0 := hide hHeld
          generalize w5.drew = Z0 at CZ0 hHeld ⊢
          refine wpAnyH_take (i := 0) (oi := { dst := some 74, op := Op.move (Operand.tmp 11), type := 25, pos := "law.go:223", after := #[], guard := none }) (v := ?_) rfl (by kernel_rfl) (by kernel_rfl) (by kernel_rfl) (fun _ _ _ h => h) (Or.inl ⟨by rfl, ?_⟩) (by assumption) ?_
          rotate_left
          · intro w hSw
            clear hSw
            go_simp
            all_goals with_reducible rfl
          simp only [Act.put, List.setIfInBounds_toArray, List.set_cons_zero, List.set_cons_succ]
          refine wpAnyH_take (i := 1) (oi := { dst := some 75, op := Op.nilCheck (Operand.tmp 74), type := 0, pos := "law.go:223", after := #[{ on := 0, ground := Ground.data }], guard := none }) (v := ?_) rfl (by kernel_rfl) (by kernel_rfl) (by kernel_rfl) (fun _ _ _ h => h) (Or.inl ⟨by rfl, ?_⟩) (by assumption) ?_
          rotate_left
          · intro w hSw
            clear hSw
            go_simp
            all_goals with_reducible rfl
          simp only [Act.put, List.setIfInBounds_toArray, List.set_cons_zero, List.set_cons_succ]
          refine wpAnyH_take (i := 2) (oi := { dst := some 76, op := Op.fieldAddr 36 (Operand.tmp 75) 0, type := 0, pos := "law.go:223", after := #[{ on := 1, ground := Ground.data }], guard := none }) (v := ?_) rfl (by kernel_rfl) (by kernel_rfl) (by kernel_rfl) (fun _ _ _ h => h) (Or.inl ⟨by rfl, ?_⟩) (by assumption) ?_
          rotate_left
          · intro w hSw
            clear hSw
            go_simp
            all_goals with_reducible rfl
          simp only [Act.put, List.setIfInBounds_toArray, List.set_cons_zero, List.set_cons_succ]
          refine wpAnyH_take (i := 3) (oi := { dst := some 77, op := Op.load 34 (Operand.tmp 76), type := 34, pos := "law.go:223", after := #[{ on := 2, ground := Ground.data }], guard := none }) (v := ?_) rfl (by kernel_rfl) (by kernel_rfl) (by kernel_rfl) (fun _ _ _ h => h) (Or.inl ⟨by rfl, ?_⟩) (by assumption) ?_
          rotate_left
          · intro w hSw
            have c4 := (cells2 (H5.out.below (hSw.below _ (Nat.le_refl _) (fun _ _ e => e)) (Nat.le_refl _)).h).1
            clear hSw
            go_simp
            all_goals with_reducible rfl
          simp only [Act.put, List.setIfInBounds_toArray, List.set_cons_zero, List.set_cons_succ]
          refine wpAnyH_take (i := 4) (oi := { dst := some 78, op := Op.move (Operand.tmp 16), type := 39, pos := "law.go:223", after := #[], guard := none }) (v := ?_) rfl (by kernel_rfl) (by kernel_rfl) (by kernel_rfl) (fun _ _ _ h => h) (Or.inl ⟨by rfl, ?_⟩) (by assumption) ?_
          rotate_left
          · intro w hSw
            clear hSw
            go_simp
            all_goals with_reducible rfl
          simp only [Act.put, List.setIfInBounds_toArray, List.set_cons_zero, List.set_cons_succ]
          refine wpAnyH_take (i := 5) (oi := { dst := some 79, op := Op.move (Operand.tmp 16), type := 39, pos := "law.go:223", after := #[], guard := none }) (v := ?_) rfl (by kernel_rfl) (by kernel_rfl) (by kernel_rfl) (fun _ _ _ h => h) (Or.inl ⟨by rfl, ?_⟩) (by assumption) ?_
          rotate_left
          · intro w hSw
            clear hSw
            go_simp
            all_goals with_reducible rfl
          simp only [Act.put, List.setIfInBounds_toArray, List.set_cons_zero, List.set_cons_succ]
          refine wpAnyH_take (i := 6) (oi := { dst := some 80, op := Op.call { callee := Callee.builtin Builtin.len, args := #[Operand.tmp 79], argTypes := #[39] }, type := 3, pos := "law.go:223", after := #[{ on := 5, ground := Ground.data }], guard := none }) (v := ?_) rfl (by kernel_rfl) (by kernel_rfl) (by kernel_rfl) (fun _ _ _ h => h) (Or.inl ⟨by rfl, ?_⟩) (by assumption) ?_
          rotate_left
          · intro w hSw
            clear hSw
            go_simp
            all_goals with_reducible rfl
          simp only [Act.put, List.setIfInBounds_toArray, List.set_cons_zero, List.set_cons_succ]
          refine wpAnyH_take (i := 7) (oi := { dst := some 81, op := Op.binOp BinOp.sub 3 (Operand.tmp 80) (Operand.const (Value.int IntKind.i64 1)) 3, type := 3, pos := "law.go:223", after := #[{ on := 6, ground := Ground.data }], guard := none }) (v := ?_) rfl (by kernel_rfl) (by kernel_rfl) (by kernel_rfl) (fun _ _ _ h => h) (Or.inl ⟨by rfl, ?_⟩) (by assumption) ?_
          rotate_left
          · intro w hSw
            clear hSw
            go_simp
            all_goals with_reducible rfl
          simp only [Act.put, List.setIfInBounds_toArray, List.set_cons_zero, List.set_cons_succ]
          refine wpAnyH_take (i := 8) (oi := { dst := some 82, op := Op.indexAddr 39 (Operand.tmp 78) (Operand.tmp 81), type := 0, pos := "law.go:223", after := #[{ on := 4, ground := Ground.data }, { on := 7, ground := Ground.data }], guard := none }) (v := ?_) rfl (by kernel_rfl) (by kernel_rfl) (by kernel_rfl) (fun _ _ _ h => h) (Or.inl ⟨by rfl, ?_⟩) (by assumption) ?_
          rotate_left
          · intro w hSw
            clear hSw
            go_simp
            all_goals with_reducible rfl
          simp only [Act.put, List.setIfInBounds_toArray, List.set_cons_zero, List.set_cons_succ]
          refine wpAnyH_take (i := 9) (oi := { dst := some 83, op := Op.load 22 (Operand.tmp 82), type := 22, pos := "law.go:223", after := #[{ on := 8, ground := Ground.data }], guard := none }) (v := ?_) rfl (by kernel_rfl) (by kernel_rfl) (by kernel_rfl) (fun _ _ _ h => h) (Or.inl ⟨by rfl, ?_⟩) (by assumption) ?_
          rotate_left
          · intro w hSw
            have c4 := ((hSw.below _ (Nat.le_refl _) (fun _ _ e => e)).cell (p := ⟨bl, offl + m, none⟩) HBLT.out).trans CX.out
            clear hSw
            go_simp
            all_goals with_reducible rfl
          simp only [Act.put, List.setIfInBounds_toArray, List.set_cons_zero, List.set_cons_succ]
          refine wpAnyH_ready (rs := [10, 11]) (by kernel_rfl) (by simp) ?_
          refine AllReadyH.cons (o := { dst := some 84, op := Op.call { callee := Callee.value (Operand.func 18), args := #[Operand.tmp 77, Operand.tmp 83], argTypes := #[34, 22] }, type := 31, pos := "law.go:223", after := #[{ on := 3, ground := Ground.data }, { on := 9, ground := Ground.data }], guard := none }) rfl (fun K hK => ?_) ?_
          · skip
            go_simp
            refine (rsum_any gT _ (S.lastOf ts) Z0 (H5.out.below (CZ0.out.below _ (Nat.le_refl _) (fun _ _ e => e)) (Nat.le_refl _)).t (XS.out.below (CZ0.out.below _ (Nat.le_refl _) (fun _ _ e => e)) (Nat.le_refl _)) HTL.out).mono ?_
            rintro e Z1 ⟨rfl, hb2⟩
            rw [← ED.out]
            have CZ1 : Hid (Chg (fun _ => False) w5 Z1) := CZ0.out.then hb2
            clear hb2 CZ0
            clear hHeld
            refine hK.out _ _ CZ1.out (fun hHeld => ?_)
            clear hK K
            try simp only [Act.put, List.setIfInBounds_toArray, List.set_cons_zero, List.set_cons_succ]
            refine wpAnyH_ready (rs := [11]) (by kernel_rfl) (by simp) ?_
            refine step_alloc_as (o := { dst := some 18, op := Op.alloc 31, type := 0, pos := "law.go:223", after := #[], guard := none }) rfl rfl 31 rfl _ _ (alloc31 Z1) AllReadyH.nil ⟨CZ1.out.alloc _, fun hHeld => ?_⟩
            clear hHeld
            simp only [Act.put, List.setIfInBounds_toArray, List.set_cons_zero, List.set_cons_succ]
            obtain ⟨g18, hg18⟩ : ∃ gg, gg = Z1.heap.size := ⟨_, rfl⟩
            rw [← hg18]
            generalize hZ : Z1.alloc _ = Z2
            have hb2 : Below Z1.heap.size Z1 Z2 := by rw [← hZ]; exact (Below.refl _ _).alloc (Nat.le_refl _) _
            have Rg18 : Hid (Z2.heap[g18]? = some (.cells (S.v8 (S.zeros 32)) 31 (0, 0))) := by rw [← hZ, hg18]; exact heap_alloc_new _ _
            have Gg18 := hide (show w5.heap.size ≤ g18 by rw [hg18]; exact CZ1.out.size)
            clear hZ hg18
            have CZ2 : Hid (Chg (fun _ => False) w5 Z2) := CZ1.out.then hb2
            clear hb2 CZ1
            have hHeld := CZ2.out
            refine wpAnyH_ready (rs := [12]) (by kernel_rfl) (by simp) ?_
            obtain ⟨Z3, hst, r6, C6, s6⟩ := store_dig Rg18.out (S.zeros_length _) LD.out
            refine step_store_as (o := { dst := none, op := Op.store 31 (Operand.tmp 18) (Operand.tmp 84), type := 0, pos := "law.go:223", after := #[{ on := 11, ground := Ground.data }, { on := 10, ground := Ground.data }, { on := 10, ground := Ground.chain }, { on := 0, ground := Ground.phase }, { on := 1, ground := Ground.phase }, { on := 2, ground := Ground.phase }, { on := 3, ground := Ground.phase }, { on := 4, ground := Ground.phase }, { on := 5, ground := Ground.phase }, { on := 6, ground := Ground.phase }, { on := 7, ground := Ground.phase }, { on := 8, ground := Ground.phase }, { on := 9, ground := Ground.phase }, { on := 10, ground := Ground.phase }, { on := 11, ground := Ground.phase }], guard := none }) rfl rfl 31 (.tmp 18) (.tmp 84) rfl _ _ rfl rfl Z3 hst AllReadyH.nil ⟨CZ2.out.trans C6 (fun k hk e => by have := Gg18.out; omega), fun hHeld => ?_⟩
            replace Rg18 : Hid (Z3.heap[g18]? = some (.cells (S.v8 D) 31 (0, 0))) := r6
            have CZ3 : Hid (Chg (fun _ => False) w5 Z3) := CZ2.out.trans C6 (fun k hk e => by have := Gg18.out; omega)
            clear hst r6 C6 s6 CZ2
            simp only [Act.put]
            refine wpAnyH_done (by kernel_rfl) ?_ _
            refine NoPanic.normal ?_
            clear hHeld
            have BF := hide (show Below w5.heap.size w5 Z3 from (CZ3.out.below _ (Nat.le_refl _) (fun _ _ e => e)))
            go_wp2_with fail
            go_meet
            case rel => exact ⟨g18, rfl, Rg18, BF⟩
          refine step_alloc_as (o := { dst := some 18, op := Op.alloc 31, type := 0, pos := "law.go:223", after := #[], guard := none }) rfl rfl 31 rfl _ _ (alloc31 Z0) AllReadyH.nil ⟨CZ0.out.alloc _, fun hHeld => ?_⟩
          clear hHeld
          simp only [Act.put, List.setIfInBounds_toArray, List.set_cons_zero, List.set_cons_succ]
          obtain ⟨g18, hg18⟩ : ∃ gg, gg = Z0.heap.size := ⟨_, rfl⟩
          rw [← hg18]
          generalize hZ : Z0.alloc _ = Z1
          have hb2 : Below Z0.heap.size Z0 Z1 := by rw [← hZ]; exact (Below.refl _ _).alloc (Nat.le_refl _) _
          have Rg18 : Hid (Z1.heap[g18]? = some (.cells (S.v8 (S.zeros 32)) 31 (0, 0))) := by rw [← hZ, hg18]; exact heap_alloc_new _ _
          have Gg18 := hide (show w5.heap.size ≤ g18 by rw [hg18]; exact CZ0.out.size)
          clear hZ hg18
          have CZ1 : Hid (Chg (fun _ => False) w5 Z1) := CZ0.out.then hb2
          clear hb2 CZ0
          have hHeld := CZ1.out
          refine wpAnyH_ready (rs := [10]) (by kernel_rfl) (by simp) ?_
          refine AllReadyH.cons (o := { dst := some 84, op := Op.call { callee := Callee.value (Operand.func 18), args := #[Operand.tmp 77, Operand.tmp 83], argTypes := #[34, 22] }, type := 31, pos := "law.go:223", after := #[{ on := 3, ground := Ground.data }, { on := 9, ground := Ground.data }], guard := none }) rfl (fun K hK => ?_) AllReadyH.nil
          go_simp
          refine (rsum_any gT _ (S.lastOf ts) Z1 (H5.out.below (CZ1.out.below _ (Nat.le_refl _) (fun _ _ e => e)) (Nat.le_refl _)).t (XS.out.below (CZ1.out.below _ (Nat.le_refl _) (fun _ _ e => e)) (Nat.le_refl _)) HTL.out).mono ?_
          rintro e Z2 ⟨rfl, hb2⟩
          rw [← ED.out]
          replace Rg18 : Hid (Z2.heap[g18]? = some (.cells (S.v8 (S.zeros 32)) 31 (0, 0))) := (hb2.block _ (block_lt_of_row Rg18.out)).trans Rg18.out
          have CZ2 : Hid (Chg (fun _ => False) w5 Z2) := CZ1.out.then hb2
          clear hb2 CZ1
          clear hHeld
          refine hK.out _ _ CZ2.out (fun hHeld => ?_)
          clear hK K
          try simp only [Act.put, List.setIfInBounds_toArray, List.set_cons_zero, List.set_cons_succ]
          refine wpAnyH_ready (rs := [12]) (by kernel_rfl) (by simp) ?_
          obtain ⟨Z3, hst, r6, C6, s6⟩ := store_dig Rg18.out (S.zeros_length _) LD.out
          refine step_store_as (o := { dst := none, op := Op.store 31 (Operand.tmp 18) (Operand.tmp 84), type := 0, pos := "law.go:223", after := #[{ on := 11, ground := Ground.data }, { on := 10, ground := Ground.data }, { on := 10, ground := Ground.chain }, { on := 0, ground := Ground.phase }, { on := 1, ground := Ground.phase }, { on := 2, ground := Ground.phase }, { on := 3, ground := Ground.phase }, { on := 4, ground := Ground.phase }, { on := 5, ground := Ground.phase }, { on := 6, ground := Ground.phase }, { on := 7, ground := Ground.phase }, { on := 8, ground := Ground.phase }, { on := 9, ground := Ground.phase }, { on := 10, ground := Ground.phase }, { on := 11, ground := Ground.phase }], guard := none }) rfl rfl 31 (.tmp 18) (.tmp 84) rfl _ _ rfl rfl Z3 hst AllReadyH.nil ⟨CZ2.out.trans C6 (fun k hk e => by have := Gg18.out; omega), fun hHeld => ?_⟩
          replace Rg18 : Hid (Z3.heap[g18]? = some (.cells (S.v8 D) 31 (0, 0))) := r6
          have CZ3 : Hid (Chg (fun _ => False) w5 Z3) := CZ2.out.trans C6 (fun k hk e => by have := Gg18.out; omega)
          clear hst r6 C6 s6 CZ2
          simp only [Act.put]
          refine wpAnyH_done (by kernel_rfl) ?_ _
          refine NoPanic.normal ?_
          clear hHeld
          have BF := hide (show Below w5.heap.size w5 Z3 from (CZ3.out.below _ (Nat.le_refl _) (fun _ _ e => e)))
          go_wp2_with fail
          go_meet
          case rel => exact ⟨g18, rfl, Rg18, BF⟩
        case rest =>
        rename World => w6
        obtain ⟨g18, rfl, R18, B56⟩ := hcut
        have B6 := hide (B5.out.trans (B56.out.mono B5.out.size))
        have b06 : Below wc.heap.size wc w6 := BC5.out.trans (B56.out.mono BC5.out.size)
        have V6 := hide (VC.out.below b06 (Nat.le_refl _))
        have P6 := hide (PC.out.below b06)
        have B36 := hide (B3c.out.trans (b06.mono B3c.out.size))
        have HPD := hide (show ds.length ≤ 1000 by rw [← HD.out.1]; omega)
        clear b06 CX XS e1 qk0 qkm H5 B56 B5 BC5 BC HC DR B35 PC VC
        go_wp2_with (with_reducible refine at_op { dst := some 89, op := Op.load 31 (Operand.tmp 18), type := 31, pos := "law.go:224", after := #[], guard := none } ?_; refine load_dig_when rfl (.tmp 18) rfl g18 rfl D R18.out LD.out ?_)
        refine (leafv_any 32 _ _ bs i n ds D LD.out w6 (by omega) (by omega) V6.out (by have := HL1.out; omega) P6.out (by have := HPD.out; omega) (HK.out.below B6.out h0)).mono ?_
        rintro e w7 ⟨rfl, b7⟩
        rw [TK.out]
        have V7 := hide (V6.out.below b7 (Nat.le_refl _))
        have P7 := hide (P6.out.below b7)
        have R7 : Hid (w7.heap[g18]? = some (.cells (S.v8 D) 31 (0, 0))) := (b7.block _ (block_lt_of_row R18.out)).trans R18.out
        have B7 := hide (B6.out.trans (b7.mono B6.out.size))
        have B37 := hide (B36.out.trans (b7.mono B36.out.size))
        clear b7 V6 P6 R18 B6 B36 TK
        obtain ⟨r, hr⟩ : ∃ r, r = S.within mo 3 := ⟨_, rfl⟩
        have hr3 : r ≤ 3 := by have := S.within_le mo 3 (by omega); omega
        have HR := hide hr
        obtain ⟨mm, hmm⟩ : ∃ m, m = r + 1 := ⟨_, rfl⟩
        have qr : IntKind.i64.wrap (1 + (r : Int)) = (mm : Int) := by rw [IntKind.wrap_i64]; omega
        have HMM := hide (show mm ≤ 65 ∧ ¬ mm = 0 by omega)
        obtain ⟨X0, hX0⟩ : ∃ W, W = w7.alloc (.cells #[] 31) := ⟨_, rfl⟩
        have bX : Below w7.heap.size w7 X0 := by rw [hX0]; exact (Below.refl _ _).alloc (Nat.le_refl _) _
        have rX : X0.heap[w7.heap.size]? = some (.cells #[] 31 (0, 0)) := by rw [hX0]; exact heap_alloc_new _ _
        have KC := hide (run_copied_digs 24 rX (P7.out.below bX) HPD.out)
        have BX := hide bX
        rw [hX0] at KC
        rw [← HD.out.1] at KC
        have HX0 := hide hX0
        clear hr hmm hX0 bX rX hr3
        go_wp2_with (at_builtin; (refine wpList_append_known rfl (.tmp 92) (.tmp 93) 24 24 rfl _ _ rfl rfl KC.out ?_; rintro v8 w8 ⟨hr8, ⟨g8, c8, rfl⟩, hb8⟩))
        have b78 : Below w7.heap.size w7 w8 := BX.out.trans (by rw [HX0.out]; exact hb8)
        have hr8' : DgRow w7.heap.size w8 (.slice (some ⟨g8, 0, none⟩) ds.length c8) ds := by rw [← HD.out.1]; exact hr8
        have KZ := hide (run_append_dzeros mm 24 hr8' HD.out.2 HMM.out.1 HMM.out.2 HPD.out b78.size)
        rw [← HD.out.1] at KZ
        have B78 := hide b78
        clear hr8 hb8 b78 hr8' KC HX0 BX
        refine (within_any mo 3 w8 h1 h2 (by omega) (by omega)).mono ?_
        rintro e w8' ⟨rfl, rfl⟩
        rw [← HR.out]
        have R8 : Hid (w8.heap[g18]? = some (.cells (S.v8 D) 31 (0, 0))) := (B78.out.block _ (block_lt_of_row R7.out)).trans R7.out
        have GL := hide (block_lt_of_row R7.out)
        go_upto_region 23 with (at_builtin; (refine wpList_append_known rfl (.tmp 94) (.tmp 97) 24 3 rfl _ _ rfl rfl KZ.out ?_; rintro v9 w9 ⟨hr9, hb9⟩; obtain ⟨o9, c9, rfl⟩ := hr9.form; obtain ⟨q9, hq9⟩ : ∃ q, q = (ds ++ List.replicate mm (S.zeros 32)).length := ⟨_, rfl⟩; rw [← hq9] at hr9 ⊢; have HQ9 := hide hq9; have R9 := hide hr9; have HB9 := hide hb9; clear hr9 hb9 hq9))
        have B79 := hide (B78.out.trans HB9.out)
        have RD9 : Hid (w9.heap[g18]? = some (.cells (S.v8 D) 31 (0, 0))) := (HB9.out.block _ GL.out).trans R8.out
        have P9 := hide (R9.out.dgAt (by rw [List.length_append, List.length_replicate]; have := HPD.out; have := HMM.out.1; omega) (fun d hd => by
          rw [List.mem_append] at hd
          rcases hd with hd | hd
          · exact HD.out.2 d hd
          · rw [List.eq_of_mem_replicate hd]; exact S.zeros_length _))
        have FK := hide (show S.vLeaf 32 bs i n (ds ++ List.replicate mm (S.zeros 32)) D = false from S.vLeaf_long D (by omega) (by rw [List.length_append, List.length_replicate, ← HD.out.1, ← HM.out]; have := HMM.out.2; have := HEQ.out; omega))
        have PL9 := hide (show (ds ++ List.replicate mm (S.zeros 32)).length ≤ 90000 by rw [List.length_append, List.length_replicate]; have := HPD.out; have := HMM.out.1; omega)
        have V9 := hide (V7.out.below B79.out (Nat.le_refl _))
        have B9 := hide (B7.out.trans (B79.out.mono B7.out.size))
        have B39 := hide (B37.out.trans (B79.out.mono B37.out.size))
        clear KZ R8 R9 HB9 B78 R7 V7 P7 B7 B37 qr GL
        go_wp2_with (with_reducible refine at_op { dst := some 103, op := Op.load 31 (Operand.tmp 18), type := 31, pos := "law.go:228", after := #[], guard := none } ?_; refine load_dig_when rfl (.tmp 18) rfl g18 rfl D RD9.out LD.out ?_)
        refine (leafv_any 32 _ _ bs i n (ds ++ List.replicate mm (S.zeros 32)) D LD.out w9 (by omega) (by omega) V9.out (by have := HL1.out; omega) P9.out PL9.out (HK.out.below B9.out h0)).mono ?_
        rintro e w10 ⟨rfl, b10⟩
        rw [FK.out]
        have BX := hide (B39.out.trans (b10.mono B39.out.size))
        clear b10 P9 V9 B9 B39 RD9 FK
        go_wp2_with fail
        go_roundg gO
        case measure => omega
        case rel => exact ⟨k + 1, by have := HKK.out; omega, by first | rfl | simp, Or.inr ⟨by have := HEQ.out; omega, by rw [HEQ.out]⟩, BX⟩
end Go.Proofs.YtlbggkmblkhjoabDoor
