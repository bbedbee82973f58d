/- KeysRing. -/
import Derived.Test.YtllcnppcncegpaaDoorKz
namespace Go.Proofs.YtllcnppcncegpaaDoor
open Go.RowKit

theorem sz_row {w : World} {g : Nat} {y : S.Sg} (v : Nat) (hr : w.heap[g]? = some (.cells (encG y).toArray 34 (0, 0))) : (w.setCell ⟨g, 2, none⟩ (.int .u64 (v : Int))).heap[g]? = some (.cells (encG ⟨⟨y.h.tree, y.h.epoch, v, y.h.clock, y.h.root⟩, y.tag⟩).toArray 34 (0, 0)) := by
  rw [heap_setCell_same _ _ _ _ _ _ hr]
  congr 2
theorem ck_row {w : World} {g : Nat} {y : S.Sg} (v : Nat) (hr : w.heap[g]? = some (.cells (encG y).toArray 34 (0, 0))) : (w.setCell ⟨g, 3, none⟩ (.int .u64 (v : Int))).heap[g]? = some (.cells (encG ⟨⟨y.h.tree, y.h.epoch, y.h.size, v, y.h.root⟩, y.tag⟩).toArray 34 (0, 0)) := by
  rw [heap_setCell_same _ _ _ _ _ _ hr]
  congr 2
theorem eg_row {w : World} {g : Nat} {y : S.Sg} (v : Int) (hr : w.heap[g]? = some (.cells (encG y).toArray 34 (0, 0))) : (w.setCell ⟨g, 1, none⟩ (.int .i64 v)).heap[g]? = some (.cells (encG ⟨⟨y.h.tree, v, y.h.size, y.h.clock, y.h.root⟩, y.tag⟩).toArray 34 (0, 0)) := by
  rw [heap_setCell_same _ _ _ _ _ _ hr]
  congr 2
theorem tg_row {w : World} {g : Nat} {y : S.Sg} (v : UInt8) (hy : y.h.root.length = 32) (hr : w.heap[g]? = some (.cells (encG y).toArray 34 (0, 0))) : (w.setCell ⟨g, 39, none⟩ (.int .u8 (v.toNat : Int))).heap[g]? = some (.cells (encG ⟨y.h, y.tag.set 3 v⟩).toArray 34 (0, 0)) := by
  rw [heap_setCell_same _ _ _ _ _ _ hr]
  congr 2
  apply Array.ext'
  rw [Array.toList_setIfInBounds]
  show (encG y).set 39 _ = encG ⟨y.h, y.tag.set 3 v⟩
  rw [encG, encG, List.set_append, if_neg (by rw [encH_length _ hy]; omega), encH_length _ hy]
  show _ ++ (S.v8l y.tag).set 3 _ = _ ++ S.v8l (y.tag.set 3 v)
  rw [S.v8l, S.v8l, List.map_set]
theorem tg_cell {w : World} {g : Nat} {y : S.Sg} (hy : y.h.root.length = 32) (ht : y.tag.length = 32) (hr : w.heap[g]? = some (.cells (encG y).toArray 34 (0, 0))) : w.cell? ⟨g, 39, none⟩ = some (.int .u8 ((y.tag.getD 3 0).toNat : Int)) := by
  have := g_tag hr hy 3 (.int .u8 ((y.tag.getD 3 0).toNat : Int)) (by simp [S.v8l, List.getElem?_map, List.getElem?_eq_getElem (show 3 < y.tag.length by omega), List.getD_eq_getElem?_getD])
  exact this
theorem load_sl56 {w : World} {p : Addr} {v : Value} (h : w.cell? p = some v) : (Instr.loadAt 56 (.pointer (some p))).run Tryd.prog w = .ok v w := by
  go_simp
theorem dw_cell {w : World} {gd : Nat} {vs : List Value} (h : w.heap[gd]? = some (.cells vs.toArray 57 (0, 0))) (hv : vs.length = 16) (i : Nat) (hi : i < 16) : w.cell? ⟨gd, i, none⟩ = some (vs.getD i undef) := by
  rw [cell_of_row w gd i _ _ _ h]
  simp [List.getD_eq_getElem?_getD, List.getElem?_eq_getElem (show i < vs.length by omega)]
theorem isT_of {n : Nat} (h : n < 16) : S.isT (n : Int) = true := by simp only [S.isT, decide_eq_true_eq]; omega
set_option maxHeartbeats 200000000 in
set_option maxRecDepth 10000 in
theorem keysRing_walk (sv lv : Value) (ks0 : List UInt8) (xs : List S.Ak) (w : World) (hs : SliceAt w sv ks0) (hl : RowAt 40 encA w lv xs) (hx : ∀ x ∈ xs, x.Ok) (hK : KAt w) :
   Calls Tryd.prog 5 #[sv, lv] w fun e w' => e = .returned (.bool true) ∧ Below w.heap.size w w' := by
  obtain ⟨so, sn, sc, rfl, hsn, hsm⟩ := hs.form
  obtain ⟨xo, xc, hxv, hxc, hx3⟩ := hl
  subst hxv
  have hcap := hs.le_cap
  have HS := hide hs
  have HSN := hide hsn
  have HX3 := hide hx3
  have HXO := hide hx
  have HK := hide hK
  have h0 := hK.pos
  obtain ⟨xn, hxn⟩ : ∃ n, n = xs.length := ⟨_, rfl⟩
  rw [← hxn] at HX3 ⊢
  have HXN := hide hxn
  clear hs hK hsn hx hx3 hxn hxc
  go_enter Tryd.func5, Tryd.ntmps5
  go_wp2_with fail
  refine (new_any w).mono ?_
  rintro r W2 ⟨gT, rfl, hgT, hrT, hbT⟩
  have B2 := hide hbT
  have RT := hide hrT
  have S2 := hide (HS.out.below B2.out (Nat.le_refl _))
  clear hgT hrT hbT
  go_upto_if 24 with fail
  go_cut [0] (fun v wc => W2 = wc ∧ ∃ (a : Option Addr) (l c : Nat) (bs : List UInt8), v = .slice a l c ∧ l = bs.length ∧ l ≤ 64 ∧ Hid (SliceAt w (.slice a l c) bs))
  case first =>
    by_cases hlt : 64 < sn
    · have q1 : (64 : Int) < (sn : Int) := by omega
      have q2 : (64 : Int) ≤ (sc : Int) := by omega
      have Z := hide (part_to HS.out 64 (by omega))
      have ZL := hide (show 64 = (ks0.take 64).length by rw [List.length_take, ← HSN.out]; omega)
      go_wp2_with fail
      go_meet
      exact ⟨rfl, so, 64, sc, ks0.take 64, rfl, ZL.out, Nat.le_refl _, Z⟩
    · have q1 : ¬ ((64 : Int) < (sn : Int)) := by omega
      go_wp2_with fail
      go_meet
      exact ⟨rfl, so, sn, sc, ks0, rfl, HSN.out, by omega, HS⟩
  case rest =>
    obtain ⟨rfl, a, l, c, ks, rfl, hl, hl2, SB⟩ := hcut
    clear HSN S2 hsm hcap HS
    have HL := hide hl
    have KSL := hide (show ks.length ≤ 64 by rw [← hl]; exact hl2)
    clear hl hl2
    have DU := hide (run_dup W2 W2.heap.size (.slice a l c) ks 41 (SB.out.below B2.out (Nat.le_refl _)) (by have := KSL.out; omega) (Nat.le_refl _))
    go_wp2_with (at_builtin; (refine wpList_append_known rfl (.tmp 27) (.tmp 28) 41 41 rfl _ _ rfl rfl DU.out ?_; rintro v3 W3 ⟨ho3, hb3⟩; obtain ⟨g3, c3, rfl⟩ := ho3.form))
    obtain ⟨n3, hn3⟩ : ∃ n, n = ks.length := ⟨_, rfl⟩
    rw [← hn3] at ho3 ⊢
    have S3 := hide (ho3.sliceAt (by have := KSL.out; omega))
    obtain ⟨cur3, hc3, hn3c⟩ : ∃ cur, W3.heap[g3]? = some (.cells cur 5 (0, 0)) ∧ n3 ≤ cur.size := by
      rcases ho3.1.2 with ⟨e, _⟩ | ⟨g, cap, cur, e, _, h4, h5, _, h6, _⟩
      · simp at e
      · simp only [Value.slice.injEq, Option.some.injEq, Addr.mk.injEq, and_true] at e
        obtain ⟨rfl, rfl, rfl⟩ := e
        exact ⟨cur, h4, by omega⟩
    have G3 := hide (show W2.heap.size ≤ g3 from (ho3.1.lt g3 rfl).1)
    have GW3 := hide (show w.heap.size ≤ g3 from Nat.le_trans B2.out.size (ho3.1.lt g3 rfl).1)
    have B3 := hide (B2.out.trans (hb3.mono B2.out.size))
    have RT3 := hide ((hb3.block _ (block_lt_of_row RT.out)).trans RT.out)
    have N3 := hide (show n3 ≤ 1000000 by have := KSL.out; omega)
    have C3 := hide hc3
    have N3C := hide hn3c
    have LT3 := hide (block_lt_of_row RT.out)
    clear ho3 hb3 DU hn3 hc3 hn3c B2 RT
    refine (newRing_any (.slice (some ⟨g3, 0, none⟩) n3 c3) ks W3 S3.out (by have := KSL.out; omega)).mono ?_
    rintro r W4 ⟨o, rfl, ra1, fa1, -, hb1⟩
    obtain ⟨gr, hgr⟩ : ∃ g, g = o.gr := ⟨_, rfl⟩
    rw [← hgr]
    have X4 : Hid (∀ W, Chg (fun k => k = g3) W4 W → Ring w.heap.size W gr ks S.T0) := fun W hc => ⟨o, ra1.chg hc (fun k hk e => by have := fa1 k (Or.inl hk); have := block_lt_of_row C3.out; omega) (fun k hk e => by have := fa1 k (Or.inr hk); have := block_lt_of_row C3.out; omega), hgr.symm, fun k hk => Nat.le_trans B3.out.size (fa1 k (Or.inl hk))⟩
    have B4 := hide (B3.out.trans (hb1.mono B3.out.size))
    have RT4 := hide ((hb1.block _ (block_lt_of_row RT3.out)).trans RT3.out)
    have C4 := hide ((hb1.block _ (block_lt_of_row C3.out)).trans C3.out)
    clear ra1 fa1 hb1 hgr S3 B3 RT3 C3
    go_wp2_with fail
    refine (over_any g3 n3 c3 cur3 W4 C4.out N3C.out N3.out).mono ?_
    rintro r W5 ⟨rfl, hc5⟩
    have R5 := hide (X4.out W5 hc5)
    have B5 := hide (B4.out.trans (hc5.below w.heap.size B4.out.size (fun k hk e => by have := GW3.out; omega)))
    have RT5 := hide (hc5.row RT4.out (by have := G3.out; have := LT3.out; omega))
    clear hc5 X4 B4 RT4 C4 G3 GW3 N3 N3C LT3
    have al := alloc57 W5
    obtain ⟨W6, hW6⟩ : ∃ W, W = W5.alloc (.cells (List.replicate 16 (Value.slice none 0 0)).toArray 57) := ⟨_, rfl⟩
    obtain ⟨gd, hgd⟩ : ∃ g, g = W5.heap.size := ⟨_, rfl⟩
    rw [← hW6, ← hgd] at al
    have hb6 : Below W5.heap.size W5 W6 := by rw [hW6]; exact (Below.refl _ _).alloc (Nat.le_refl _) _
    have r6 : W6.heap[gd]? = some (.cells (List.replicate 16 (Value.slice none 0 0)).toArray 57 (0, 0)) := by rw [hW6, hgd]; exact heap_alloc_new _ _
    obtain ⟨dw, df⟩ := dw_start r6
    obtain ⟨vs0, hvs0⟩ : ∃ vs, vs = List.replicate 16 (Value.slice none 0 0) := ⟨_, rfl⟩
    rw [← hvs0] at dw df
    have KS6 : Hid (Kst w W6 gr gT gd ks S.T0 vs0 (List.replicate 16 []) (.slice none 0 0) []) := ⟨R5.out.below hb6, (hb6.block _ (block_lt_of_row RT5.out)).trans RT5.out, dw, fun k hk => by rw [df k hk, hgd]; exact B5.out.size, Rw.nil _ _ _ _ _, (fun x hx => by cases hx), B5.out.trans (hb6.mono B5.out.size)⟩
    have MA := hide (S.Match.start ks)
    clear hW6 hgd hb6 r6 dw df hvs0 R5 B5 RT5
    go_upto_region 10 with (with_reducible refine at_op { dst := some 8, op := Op.alloc 57, type := 0, pos := "law.go:101", after := #[], guard := none } ?_; refine wpList_alloc_known rfl 57 rfl _ _ al ?_)
    clear al
    obtain ⟨M, hM⟩ : ∃ M, M = min xn 40 := ⟨_, rfl⟩
    go_wp2_with fail
    go_loopg [9, 10] M (fun gk s9 s10 wr => ∃ (i : Nat) (so' : Option Addr) (sn' sc' : Nat) (T : List (List (List UInt8))) (vs : List Value) (D : List (List Nat)) (L : List S.Sg), i + gk = M ∧ s10 = .int .i64 (i : Int) ∧ s9 = .slice so' sn' sc' ∧ sn' = L.length ∧ sn' ≤ i ∧ Hid (Kst w wr gr gT gd ks T vs D (.slice so' sn' sc') L) ∧ Hid (S.Match ks T D))
    case atStart => exact ⟨0, none, 0, 0, S.T0, vs0, List.replicate 16 [], [], by omega, rfl, rfl, rfl, by omega, KS6, MA⟩
    case round =>
      clear KS6 MA
      obtain ⟨i, so', sn', sc', T, vs, D, L, hi, rfl, rfl, hsl, hsi, KS, MA⟩ := hrel
      have HSL := hide hsl
      clear hsl
      cases gk with
      | zero =>
        obtain rfl : i = M := by omega
        clear hi
        by_cases hlt : i < xn
        · have q1 : (i : Int) < (xn : Int) := by omega
          have q2 : ¬ (i : Int) < 40 := by omega
          clear hM
          go_wp2_with fail
          refine (known_any wr (HK.out.below KS.out.bw h0)).mono ?_
          rintro r v4 ⟨rfl, hb⟩
          have BF := hide (KS.out.bw.trans (hb.mono KS.out.bw.size))
          clear hb
          go_wp2_with fail
          go_ret
          exact ⟨rfl, BF.out⟩
        · have q1 : ¬ (i : Int) < (xn : Int) := by omega
          clear hM
          go_wp2_with fail
          refine (known_any wr (HK.out.below KS.out.bw h0)).mono ?_
          rintro r v4 ⟨rfl, hb⟩
          have BF := hide (KS.out.bw.trans (hb.mono KS.out.bw.size))
          clear hb
          go_wp2_with fail
          go_ret
          exact ⟨rfl, BF.out⟩
      | succ gO =>
        have q1 : (i : Int) < (xn : Int) := by omega
        have q2 : (i : Int) < 40 := by omega
        have q0 : (0 : Int) ≤ (i : Int) := by omega
        have qi : IntKind.i64.wrap ((i : Int) + 1) = (i : Int) + 1 := by rw [IntKind.wrap_i64]; omega
        obtain ⟨gx, ox, hxo, hgx, hxc⟩ := HX3.out (by have := HXN.out; omega)
        subst hxo
        obtain ⟨x, hx⟩ : ∃ x, xs[i]? = some x := ⟨_, List.getElem?_eq_getElem (by have := HXN.out; omega)⟩
        have XO := hide (HXO.out x (List.mem_of_getElem? hx))
        have rx := hxc i x hx
        have ld := run_loadAt_mid (P := Tryd.prog) wr gx (ox + i * 40) 60 (encA x) _ (fun j v hv => (KS.out.bw.cell (p := ⟨gx, ox + i * 40 + j, none⟩) hgx).trans (rx j v hv)) Tryd.underlying60 rfl (by rw [size_a _ XO.out.h.r, List.size_toArray])
        obtain ⟨A4, w1, ha4, hs4, hr4, hb4⟩ := lay_a wr x XO.out.h.r
        obtain ⟨ga, hga⟩ : ∃ g, g = wr.heap.size := ⟨_, rfl⟩
        rw [← hga] at ha4 hs4 hr4
        replace KS := hide (KS.out.below hb4)
        have AR := hide hr4
        clear hr4 hb4 hga rx hgx hx
        go_upto_region 14 with fail
        clear q2
        go_upto_region 15 with (first | (with_reducible refine at_op { dst := some 49, op := Op.load 60 (Operand.tmp 48), type := 60, pos := "law.go:104", after := #[{ on := 2, ground := Ground.data }], guard := none } ?_; refine wpList_load_as rfl 60 (.tmp 48) rfl (.pointer (some ⟨gx, ox + i * 40, none⟩)) rfl (.agg (encA x).toArray) ld ?_) | (with_reducible refine at_op { dst := some 11, op := Op.alloc 60, type := 0, pos := "law.go:104", after := #[], guard := none } ?_; refine wpList_alloc_known rfl 60 rfl _ _ ha4 ?_) | (with_reducible refine at_op { dst := none, op := Op.store 60 (Operand.tmp 11) (Operand.tmp 49), type := 0, pos := "law.go:104", after := #[{ on := 4, ground := Ground.data }, { on := 3, ground := Ground.data }, { on := 0, ground := Ground.phase }, { on := 1, ground := Ground.phase }, { on := 2, ground := Ground.phase }, { on := 3, ground := Ground.phase }, { on := 4, ground := Ground.phase }], guard := none } ?_; refine wpList_store_as rfl 60 (.tmp 11) (.tmp 49) rfl (.pointer (some ⟨ga, 0, none⟩)) (.agg (encA x).toArray) rfl rfl w1 hs4 ?_))
        clear ld ha4 hs4 A4
        by_cases hT : S.isT x.tree = true
        · obtain ⟨n, hn1, hn⟩ := S.isT_nat hT
          have HN1 := hide hn1
          have qn0 : (0 : Int) ≤ (n : Int) := by omega
          have qn1 : (n : Int) < 16 := by omega
          obtain ⟨c0, c1, c2, c3'⟩ := a_cells AR.out
          rw [hn1] at c1
          go_upto_region 16 with fail
          clear hT hn1
          by_cases hk1 : x.kind = 1
          · as_aux_lemma =>
              have qk : x.kind = 1 := hk1
              rw [qk] at c0
              go_upto_region 18 with fail
              clear hk1 qk
              have hfew := KS.out.dw.few n
              have hep := MA.out.eps n hn
              have HEP := hide hep
              have DR := hide XO.out.d2
              go_wp2_with fail
              refine (turn_r (n : Int) x.draw w1 KS.out.ring DR.out KS.out.bw.size (HK.out.below KS.out.bw h0)).mono ?_
              rintro r w2 ⟨rfl, hr, hb, hk⟩
              have K2 := hide (KS.out.turned (n : Int) x.draw hr hb hk)
              have A2 := hide (hk _ _ _ _ (by decide) (by decide) AR.out)
              have hTE : S.turnE T (n : Int) = 0 ∨ S.turnE T (n : Int) = 4 := by rw [S.turnE, if_pos (isT_of hn)]; by_cases q : S.eps T (n : Int) = 32; exact Or.inr (if_pos q); exact Or.inl (if_neg q)
              obtain ⟨T2, hT2⟩ : ∃ T2, T2 = S.turnT ks T (n : Int) x.draw := ⟨_, rfl⟩
              rw [← hT2] at K2
              have HT2 := hide hT2
              clear hr hb hk hT2 c0 c1 c2 c3' KS AR
              obtain ⟨c0, c1, c2, c3'⟩ := a_cells A2.out
              rw [HN1.out] at c1
              have cd := K2.out.dw.cell n hn
              obtain ⟨eo, ec, hev⟩ := K2.out.dw.form n hn
              have HEV := hide hev
              rw [hev, ← hep] at cd
              have TF := hide (show S.eps T (n : Int) ≤ 32 by rw [hep]; exact hfew)
              clear hev hep hfew
              go_wp2_with fail
              refine (turned_any T (n : Int) (isT_of hn) TF.out w2).mono ?_
              rintro r _ ⟨rfl, rfl⟩
              rcases hTE with hTE | hTE
              · have MA2 := hide (show S.Match ks T2 (D.set n (D.getD n [] ++ [x.draw])) by rw [HT2.out]; exact MA.out.turn n x.draw hn hTE)
                have hlt := (S.turnE_0 hTE).2
                have HLT := hide (show (D.getD n []).length < 32 by rw [← HEP.out]; have := TF.out; omega)
                rw [hTE]
                obtain ⟨tn, htn⟩ : ∃ z, z = S.turnN T (n : Int) := ⟨_, rfl⟩
                rw [← htn]
                clear htn hTE hlt cd
                go_upto_region 25 with fail
                clear c0 c1 c2 c3'
                have HD := hide (K2.out.dw.rows n hn)
                rw [HEV.out] at HD
                have DRW := hide K2.out.dw.row
                have DVN := hide K2.out.dw.vn
                have BWW : Hid (Below w2.heap.size w2 w2) := Below.refl _ _
                have GNE := hide (show ga ≠ gd from fun e => by have := A2.out; rw [e, K2.out.dw.row] at this; simp at this)
                have ANV := hide (show ¬ (Value.slice eo (D.getD n []).length ec).ownBlock = some ga from Rw.apart HD.out A2.out (by decide))
                obtain ⟨em, hem⟩ : ∃ em, em = (D.getD n []).length := ⟨_, rfl⟩
                rw [← hem] at HD HEV ANV
                have HEM := hide hem
                clear hem
                refine wp_region_noPanic ?_
                refine wp_region_held_drew (S := (fun W => Chg (fun k => k = gd ∨ (Value.slice eo em ec).ownBlock = some k) w2 W)) follows ((Chg.refl _ _).drew) (fun hHeld => ?_)
                clear hHeld
                have hHeld : Chg (fun k => k = gd ∨ (Value.slice eo em ec).ownBlock = some k) w2 w2.drew := (Chg.refl _ _).drew
                have CZ0 := hide hHeld
                have DRW' : Hid (w2.drew.heap[gd]? = some (.cells vs.toArray 57 (0, 0))) := DRW.out
                have HD' : Hid (VRow 0 w2.drew (.slice eo em ec) (D.getD n [])) := Rw.below HD.out ((Below.refl _ _).drew)
                have BWW' : Hid (Below w2.heap.size w2 w2.drew) := BWW.out.trans (((Below.refl _ _).drew).mono BWW.out.size)
                generalize w2.drew = Z0 at CZ0 hHeld DRW' HD' BWW' ⊢
                refine wpAnyH_take (i := 0) (oi := { dst := some 86, op := Op.fieldAddr 60 (Operand.tmp 11) 1, type := 0, pos := "law.go:119", after := #[], guard := none }) (v := ?_) rfl (by kernel_rfl) (by kernel_rfl) (by kernel_rfl) (fun _ _ _ h => h) (Or.inl ⟨by rfl, ?_⟩) (by assumption) ?_
                rotate_left
                · intro w hSw
                  clear hSw
                  go_simp
                  all_goals with_reducible rfl
                simp only [Act.put, List.setIfInBounds_toArray, List.set_cons_zero, List.set_cons_succ]
                refine wpAnyH_take (i := 1) (oi := { dst := some 87, op := Op.load 3 (Operand.tmp 86), type := 3, pos := "law.go:119", after := #[{ on := 0, ground := Ground.data }], guard := none }) (v := ?_) rfl (by kernel_rfl) (by kernel_rfl) (by kernel_rfl) (fun _ _ _ h => h) (Or.inl ⟨by rfl, ?_⟩) (by assumption) ?_
                rotate_left
                · intro w hSw
                  obtain ⟨c0, c1, c2, c3'⟩ := a_cells (hSw.row A2.out (fun e => by rcases e with e | e; exact GNE.out e; exact ANV.out e))
                  rw [HN1.out] at c1
                  clear hSw
                  go_simp
                  all_goals with_reducible rfl
                simp only [Act.put, List.setIfInBounds_toArray, List.set_cons_zero, List.set_cons_succ]
                refine wpAnyH_take (i := 2) (oi := { dst := some 88, op := Op.fieldAddr 60 (Operand.tmp 11) 1, type := 0, pos := "law.go:119", after := #[], guard := none }) (v := ?_) rfl (by kernel_rfl) (by kernel_rfl) (by kernel_rfl) (fun _ _ _ h => h) (Or.inl ⟨by rfl, ?_⟩) (by assumption) ?_
                rotate_left
                · intro w hSw
                  clear hSw
                  go_simp
                  all_goals with_reducible rfl
                simp only [Act.put, List.setIfInBounds_toArray, List.set_cons_zero, List.set_cons_succ]
                refine wpAnyH_take (i := 3) (oi := { dst := some 89, op := Op.load 3 (Operand.tmp 88), type := 3, pos := "law.go:119", after := #[{ on := 2, ground := Ground.data }], guard := none }) (v := ?_) rfl (by kernel_rfl) (by kernel_rfl) (by kernel_rfl) (fun _ _ _ h => h) (Or.inl ⟨by rfl, ?_⟩) (by assumption) ?_
                rotate_left
                · intro w hSw
                  obtain ⟨c0, c1, c2, c3'⟩ := a_cells (hSw.row A2.out (fun e => by rcases e with e | e; exact GNE.out e; exact ANV.out e))
                  rw [HN1.out] at c1
                  clear hSw
                  go_simp
                  all_goals with_reducible rfl
                simp only [Act.put, List.setIfInBounds_toArray, List.set_cons_zero, List.set_cons_succ]
                refine wpAnyH_take (i := 4) (oi := { dst := some 90, op := Op.indexAddr 57 (Operand.tmp 8) (Operand.tmp 89), type := 0, pos := "law.go:119", after := #[{ on := 3, ground := Ground.data }], guard := none }) (v := ?_) rfl (by kernel_rfl) (by kernel_rfl) (by kernel_rfl) (fun _ _ _ h => h) (Or.inl ⟨by rfl, ?_⟩) (by assumption) ?_
                rotate_left
                · intro w hSw
                  clear hSw
                  go_simp
                  all_goals with_reducible rfl
                simp only [Act.put, List.setIfInBounds_toArray, List.set_cons_zero, List.set_cons_succ]
                refine wpAnyH_take (i := 6) (oi := { dst := some 92, op := Op.fieldAddr 60 (Operand.tmp 11) 3, type := 0, pos := "law.go:119", after := #[], guard := none }) (v := ?_) rfl (by kernel_rfl) (by kernel_rfl) (by kernel_rfl) (fun _ _ _ h => h) (Or.inl ⟨by rfl, ?_⟩) (by assumption) ?_
                rotate_left
                · intro w hSw
                  clear hSw
                  go_simp
                  all_goals with_reducible rfl
                simp only [Act.put, List.setIfInBounds_toArray, List.set_cons_zero, List.set_cons_succ]
                refine wpAnyH_take (i := 7) (oi := { dst := some 93, op := Op.load 27 (Operand.tmp 92), type := 27, pos := "law.go:119", after := #[{ on := 6, ground := Ground.data }], guard := none }) (v := ?_) rfl (by kernel_rfl) (by kernel_rfl) (by kernel_rfl) (fun _ _ _ h => h) (Or.inl ⟨by rfl, ?_⟩) (by assumption) ?_
                rotate_left
                · intro w hSw
                  obtain ⟨c0, c1, c2, c3'⟩ := a_cells (hSw.row A2.out (fun e => by rcases e with e | e; exact GNE.out e; exact ANV.out e))
                  rw [HN1.out] at c1
                  clear hSw
                  go_simp
                  all_goals with_reducible rfl
                simp only [Act.put, List.setIfInBounds_toArray, List.set_cons_zero, List.set_cons_succ]
                refine wpAnyH_ready (rs := [5, 8]) (by kernel_rfl) (by simp) ?_
                refine step_load (o := { dst := some 91, op := Op.load 56 (Operand.tmp 90), type := 56, pos := "law.go:119", after := #[{ on := 4, ground := Ground.data }], guard := none }) rfl rfl 56 (.tmp 90) rfl (.slice eo em ec) (load_sl56 ((dw_cell DRW'.out DVN.out n hn).trans (by rw [HEV.out]))) ?_ ⟨CZ0.out, fun hHeld => ?_⟩
                rotate_left
                · skip
                  simp only [Act.put, List.setIfInBounds_toArray, List.set_cons_zero, List.set_cons_succ]
                  refine wpAnyH_ready (rs := [8]) (by kernel_rfl) (by simp) ?_
                  refine step_buildSlice_as (o := { dst := some 94, op := Op.buildSlice 56 1 #[(0, Operand.tmp 93)], type := 56, pos := "law.go:119", after := #[{ on := 7, ground := Ground.data }], guard := none }) rfl rfl 56 1 [(0, .tmp 93)] rfl [(0, .int .u32 (x.draw : Int))] rfl _ _ (bs27one Z0 x.draw) AllReadyH.nil ⟨CZ0.out.alloc _, fun hHeld => ?_⟩
                  clear hHeld
                  simp only [Act.put, List.setIfInBounds_toArray, List.set_cons_zero, List.set_cons_succ]
                  obtain ⟨gy, hgy⟩ : ∃ gg, gg = Z0.heap.size := ⟨_, rfl⟩
                  rw [← hgy]
                  generalize hZ : Z0.alloc _ = Z1
                  have hb2 : Below Z0.heap.size Z0 Z1 := by rw [← hZ]; exact (Below.refl _ _).alloc (Nat.le_refl _) _
                  have Rgy : Hid (Z1.heap[gy]? = some (.cells (encN x.draw).toArray 27 (0, 0))) := by rw [← hZ, hgy]; exact heap_alloc_new _ _
                  have Ggy := hide (show w2.heap.size ≤ gy by rw [hgy]; exact CZ0.out.size)
                  clear hZ hgy
                  replace DRW' : Hid (Z1.heap[gd]? = some (.cells vs.toArray 57 (0, 0))) := (hb2.block _ (block_lt_of_row DRW'.out)).trans DRW'.out
                  replace HD' : Hid (VRow 0 Z1 (.slice eo em ec) (D.getD n [])) := Rw.below HD'.out hb2
                  replace BWW' : Hid (Below w2.heap.size w2 Z1) := BWW'.out.trans (hb2.mono BWW'.out.size)
                  have CZ1 : Hid (Chg (fun k => k = gd ∨ (Value.slice eo em ec).ownBlock = some k) w2 Z1) := CZ0.out.then hb2
                  clear hb2 CZ0
                  have hHeld := CZ1.out
                  refine wpAnyH_ready (rs := [9]) (by kernel_rfl) (by simp) ?_
                  obtain ⟨vn, Z2, hst, hd2, C6, ho2⟩ := run_append_vn Z1 gy (.slice eo em ec) (D.getD n []) x.draw 56 HD'.out Rgy.out (by have := HLT.out; omega)
                  refine step_append_as (o := { dst := some 95, op := Op.call { callee := Callee.builtin Builtin.append, args := #[Operand.tmp 91, Operand.tmp 94], argTypes := #[56, 56] }, type := 56, pos := "law.go:119", after := #[{ on := 5, ground := Ground.data }, { on := 8, ground := Ground.data }], guard := none }) rfl rfl (.tmp 91) (.tmp 94) 56 56 rfl (.slice eo em ec) (.slice (some ⟨gy, 0, none⟩) 1 1) rfl rfl vn Z2 hst AllReadyH.nil ⟨CZ1.out.trans C6 (fun k hk e => Or.inr e), fun hHeld => ?_⟩
                  have CZ2 : Hid (Chg (fun k => k = gd ∨ (Value.slice eo em ec).ownBlock = some k) w2 Z2) := CZ1.out.trans C6 (fun k hk e => Or.inr e)
                  have HC : Hid (Chg (fun j => (Value.slice eo em ec).ownBlock = some j) w2 Z2) := (Chg.ofBelow' BWW'.out).trans C6 (fun k hk e => e)
                  have HOW : Hid (∀ k, vn.ownBlock = some k → (Value.slice eo em ec).ownBlock = some k ∨ w2.heap.size ≤ k) := fun k hk => (ho2 k hk).imp id (fun h => Nat.le_trans BWW'.out.size h)
                  replace DRW' : Hid (Z2.heap[gd]? = some (.cells vs.toArray 57 (0, 0))) := C6.row DRW'.out (Rw.apart HD'.out DRW'.out (by decide))
                  obtain ⟨vo2, vc2, rfl⟩ := Rw.form hd2
                  obtain ⟨LL, hLL⟩ : ∃ L, L = (D.getD n [] ++ [x.draw]).length := ⟨_, rfl⟩
                  rw [← hLL] at hd2 HOW ⊢
                  have HD2 := hide hd2
                  clear hst C6 CZ1 ho2 hd2 hLL Rgy HD' BWW'
                  simp only [Act.put, List.setIfInBounds_toArray, List.set_cons_zero, List.set_cons_succ]
                  refine wpAnyH_take (i := 10) (oi := { dst := some 96, op := Op.indexAddr 57 (Operand.tmp 8) (Operand.tmp 87), type := 0, pos := "law.go:119", after := #[{ on := 1, ground := Ground.data }, { on := 0, ground := Ground.phase }, { on := 1, ground := Ground.phase }, { on := 2, ground := Ground.phase }, { on := 3, ground := Ground.phase }, { on := 4, ground := Ground.phase }, { on := 5, ground := Ground.phase }, { on := 6, ground := Ground.phase }, { on := 7, ground := Ground.phase }, { on := 8, ground := Ground.phase }, { on := 9, ground := Ground.phase }], guard := none }) (v := ?_) rfl (by kernel_rfl) (by kernel_rfl) (by kernel_rfl) (fun _ _ _ h => h) (Or.inl ⟨by rfl, ?_⟩) (by assumption) ?_
                  rotate_left
                  · intro w hSw
                    clear hSw
                    go_simp
                    all_goals with_reducible rfl
                  simp only [Act.put, List.setIfInBounds_toArray, List.set_cons_zero, List.set_cons_succ]
                  refine wpAnyH_ready (rs := [11]) (by kernel_rfl) (by simp) ?_
                  refine AllReadyH.cons (o := { dst := none, op := Op.store 56 (Operand.tmp 96) (Operand.tmp 95), type := 0, pos := "law.go:119", after := #[{ on := 10, ground := Ground.data }, { on := 9, ground := Ground.data }, { on := 9, ground := Ground.chain }, { on := 0, ground := Ground.phase }, { on := 1, ground := Ground.phase }, { on := 2, ground := Ground.phase }, { on := 3, ground := Ground.phase }, { on := 4, ground := Ground.phase }, { on := 5, ground := Ground.phase }, { on := 6, ground := Ground.phase }, { on := 7, ground := Ground.phase }, { on := 8, ground := Ground.phase }, { on := 9, ground := Ground.phase }], guard := none }) rfl (fun K hK => ?_) AllReadyH.nil
                  have c1 := dw_cell DRW'.out DVN.out n hn
                  rw [HEV.out] at c1
                  have f1 := frozen_of_row _ _ n _ _ DRW'.out
                  go_simp
                  refine hK.out _ _ (CZ2.out.setCell _ _ _ (fun _ => Or.inl rfl)) (fun hHeld => ?_)
                  clear hK K c1 f1 hHeld
                  try simp only [Act.put, List.setIfInBounds_toArray, List.set_cons_zero, List.set_cons_succ]
                  refine wpAnyH_done (by kernel_rfl) ?_ _
                  refine NoPanic.normal ?_
                  have PT := hide (K2.out.dw.put n hn (.slice vo2 LL vc2) x.draw DR.out HLT.out (by rw [HEV.out]; exact HC.out) HD2.out (by rw [HEV.out]; exact HOW.out))
                  generalize hY : Z2.setCell _ _ = w3 at PT ⊢
                  have A3 : Hid (w3.heap[ga]? = some (.cells (encA x).toArray 60 (0, 0))) := PT.out.2.row A2.out (K2.out.dw.apart A2.out (by decide) (by decide))
                  have DF : Hid (∀ k, dfoot gd (vs.set n (.slice vo2 LL vc2)) k → w.heap.size ≤ k) := fun k hk => by
                    rcases hk with hk | ⟨j, hj, hk⟩
                    · exact K2.out.df k (Or.inl hk)
                    · rw [getD_set' _ _ _ _ _ (by rw [DVN.out]; exact hn)] at hk
                      by_cases e : j = n
                      · rw [if_pos e] at hk
                        rcases HOW.out k hk with q | q
                        · exact K2.out.df k (Or.inr ⟨n, hn, by rw [HEV.out]; exact q⟩)
                        · exact Nat.le_trans K2.out.bw.size q
                      · rw [if_neg e] at hk
                        exact K2.out.df k (Or.inr ⟨j, hj, hk⟩)
                  have K3 := hide (K2.out.drawn PT.out.1 PT.out.2 DF.out)
                  obtain ⟨D2, hD2⟩ : ∃ D2, D2 = D.set n (D.getD n [] ++ [x.draw]) := ⟨_, rfl⟩
                  obtain ⟨vs2, hvs2⟩ : ∃ v2, v2 = vs.set n (.slice vo2 LL vc2) := ⟨_, rfl⟩
                  rw [← hD2, ← hvs2] at K3
                  rw [← hD2] at MA2
                  clear hY CZ2 HC HD2 HOW DRW' K2 A2 PT DF hD2 hvs2 HEV HEM HLT HD DRW DVN GNE ANV BWW TF HEP
                  obtain ⟨c0, c1, c2, c3'⟩ := a_cells A3.out
                  rw [HN1.out] at c1
                  have cd := K3.out.dw.cell n hn
                  obtain ⟨eo, ec, hev⟩ := K3.out.dw.form n hn
                  rw [hev] at cd
                  have hep := MA2.out.eps n hn
                  have hfw := K3.out.dw.few n
                  obtain ⟨m, hm⟩ : ∃ m, m = (D2.getD n []).length := ⟨_, rfl⟩
                  rw [← hm] at cd hep hfw
                  have qm : IntKind.i64.wrap ((m : Int) - 1) = (m : Int) - 1 := by rw [IntKind.wrap_i64]; omega
                  have RNG := hide K3.out.ring
                  have HEP := hide hep
                  clear hev hm hep
                  by_cases hm0 : m = 0
                  · have eB : S.epB T2 (n : Int) = false := by rw [S.epB, HEP.out, hm0]; simp
                    have eN : S.epN T2 (n : Int) = 0 := by rw [S.epN, eB]; rfl
                    have EB := hide eB
                    have EN := hide eN
                    clear eB eN HEP
                    subst hm0
                    go_wp2_with fail
                    refine (epoch_r (n : Int) w3 RNG.out).mono ?_
                    rintro r _ ⟨rfl, rfl⟩
                    rw [EB.out, EN.out]
                    go_wp2_with fail
                    go_roundg gO
                    case measure => omega
                    case rel => exact ⟨i + 1, so', sn', sc', T2, vs2, D2, L, by omega, by first | rfl | simp, rfl, HSL.out, by omega, K3, MA2⟩
                  · have eB : S.epB T2 (n : Int) = true := by rw [S.epB, HEP.out, isT_of hn]; simp; omega
                    have eN : S.epN T2 (n : Int) = (m : Int) - 1 := by rw [S.epN, eB, HEP.out]; rfl
                    have EB := hide eB
                    have EN := hide eN
                    have q5 : (0 : Int) < (m : Int) := by omega
                    clear eB eN HEP
                    go_wp2_with fail
                    refine (epoch_r (n : Int) w3 RNG.out).mono ?_
                    rintro r _ ⟨rfl, rfl⟩
                    rw [EB.out, EN.out]
                    go_wp2_with fail
                    go_roundg gO
                    case measure => omega
                    case rel => exact ⟨i + 1, so', sn', sc', T2, vs2, D2, L, by omega, by first | rfl | simp, rfl, HSL.out, by omega, K3, MA2⟩
                refine step_buildSlice_as (o := { dst := some 94, op := Op.buildSlice 56 1 #[(0, Operand.tmp 93)], type := 56, pos := "law.go:119", after := #[{ on := 7, ground := Ground.data }], guard := none }) rfl rfl 56 1 [(0, .tmp 93)] rfl [(0, .int .u32 (x.draw : Int))] rfl _ _ (bs27one Z0 x.draw) AllReadyH.nil ⟨CZ0.out.alloc _, fun hHeld => ?_⟩
                clear hHeld
                simp only [Act.put, List.setIfInBounds_toArray, List.set_cons_zero, List.set_cons_succ]
                obtain ⟨gy, hgy⟩ : ∃ gg, gg = Z0.heap.size := ⟨_, rfl⟩
                rw [← hgy]
                generalize hZ : Z0.alloc _ = Z1
                have hb2 : Below Z0.heap.size Z0 Z1 := by rw [← hZ]; exact (Below.refl _ _).alloc (Nat.le_refl _) _
                have Rgy : Hid (Z1.heap[gy]? = some (.cells (encN x.draw).toArray 27 (0, 0))) := by rw [← hZ, hgy]; exact heap_alloc_new _ _
                have Ggy := hide (show w2.heap.size ≤ gy by rw [hgy]; exact CZ0.out.size)
                clear hZ hgy
                replace DRW' : Hid (Z1.heap[gd]? = some (.cells vs.toArray 57 (0, 0))) := (hb2.block _ (block_lt_of_row DRW'.out)).trans DRW'.out
                replace HD' : Hid (VRow 0 Z1 (.slice eo em ec) (D.getD n [])) := Rw.below HD'.out hb2
                replace BWW' : Hid (Below w2.heap.size w2 Z1) := BWW'.out.trans (hb2.mono BWW'.out.size)
                have CZ1 : Hid (Chg (fun k => k = gd ∨ (Value.slice eo em ec).ownBlock = some k) w2 Z1) := CZ0.out.then hb2
                clear hb2 CZ0
                have hHeld := CZ1.out
                refine wpAnyH_ready (rs := [5]) (by kernel_rfl) (by simp) ?_
                refine step_load (o := { dst := some 91, op := Op.load 56 (Operand.tmp 90), type := 56, pos := "law.go:119", after := #[{ on := 4, ground := Ground.data }], guard := none }) rfl rfl 56 (.tmp 90) rfl (.slice eo em ec) (load_sl56 ((dw_cell DRW'.out DVN.out n hn).trans (by rw [HEV.out]))) AllReadyH.nil ⟨CZ1.out, fun hHeld => ?_⟩
                simp only [Act.put, List.setIfInBounds_toArray, List.set_cons_zero, List.set_cons_succ]
                refine wpAnyH_ready (rs := [9]) (by kernel_rfl) (by simp) ?_
                obtain ⟨vn, Z2, hst, hd2, C6, ho2⟩ := run_append_vn Z1 gy (.slice eo em ec) (D.getD n []) x.draw 56 HD'.out Rgy.out (by have := HLT.out; omega)
                refine step_append_as (o := { dst := some 95, op := Op.call { callee := Callee.builtin Builtin.append, args := #[Operand.tmp 91, Operand.tmp 94], argTypes := #[56, 56] }, type := 56, pos := "law.go:119", after := #[{ on := 5, ground := Ground.data }, { on := 8, ground := Ground.data }], guard := none }) rfl rfl (.tmp 91) (.tmp 94) 56 56 rfl (.slice eo em ec) (.slice (some ⟨gy, 0, none⟩) 1 1) rfl rfl vn Z2 hst AllReadyH.nil ⟨CZ1.out.trans C6 (fun k hk e => Or.inr e), fun hHeld => ?_⟩
                have CZ2 : Hid (Chg (fun k => k = gd ∨ (Value.slice eo em ec).ownBlock = some k) w2 Z2) := CZ1.out.trans C6 (fun k hk e => Or.inr e)
                have HC : Hid (Chg (fun j => (Value.slice eo em ec).ownBlock = some j) w2 Z2) := (Chg.ofBelow' BWW'.out).trans C6 (fun k hk e => e)
                have HOW : Hid (∀ k, vn.ownBlock = some k → (Value.slice eo em ec).ownBlock = some k ∨ w2.heap.size ≤ k) := fun k hk => (ho2 k hk).imp id (fun h => Nat.le_trans BWW'.out.size h)
                replace DRW' : Hid (Z2.heap[gd]? = some (.cells vs.toArray 57 (0, 0))) := C6.row DRW'.out (Rw.apart HD'.out DRW'.out (by decide))
                obtain ⟨vo2, vc2, rfl⟩ := Rw.form hd2
                obtain ⟨LL, hLL⟩ : ∃ L, L = (D.getD n [] ++ [x.draw]).length := ⟨_, rfl⟩
                rw [← hLL] at hd2 HOW ⊢
                have HD2 := hide hd2
                clear hst C6 CZ1 ho2 hd2 hLL Rgy HD' BWW'
                simp only [Act.put, List.setIfInBounds_toArray, List.set_cons_zero, List.set_cons_succ]
                refine wpAnyH_take (i := 10) (oi := { dst := some 96, op := Op.indexAddr 57 (Operand.tmp 8) (Operand.tmp 87), type := 0, pos := "law.go:119", after := #[{ on := 1, ground := Ground.data }, { on := 0, ground := Ground.phase }, { on := 1, ground := Ground.phase }, { on := 2, ground := Ground.phase }, { on := 3, ground := Ground.phase }, { on := 4, ground := Ground.phase }, { on := 5, ground := Ground.phase }, { on := 6, ground := Ground.phase }, { on := 7, ground := Ground.phase }, { on := 8, ground := Ground.phase }, { on := 9, ground := Ground.phase }], guard := none }) (v := ?_) rfl (by kernel_rfl) (by kernel_rfl) (by kernel_rfl) (fun _ _ _ h => h) (Or.inl ⟨by rfl, ?_⟩) (by assumption) ?_
                rotate_left
                · intro w hSw
                  clear hSw
                  go_simp
                  all_goals with_reducible rfl
                simp only [Act.put, List.setIfInBounds_toArray, List.set_cons_zero, List.set_cons_succ]
                refine wpAnyH_ready (rs := [11]) (by kernel_rfl) (by simp) ?_
                refine AllReadyH.cons (o := { dst := none, op := Op.store 56 (Operand.tmp 96) (Operand.tmp 95), type := 0, pos := "law.go:119", after := #[{ on := 10, ground := Ground.data }, { on := 9, ground := Ground.data }, { on := 9, ground := Ground.chain }, { on := 0, ground := Ground.phase }, { on := 1, ground := Ground.phase }, { on := 2, ground := Ground.phase }, { on := 3, ground := Ground.phase }, { on := 4, ground := Ground.phase }, { on := 5, ground := Ground.phase }, { on := 6, ground := Ground.phase }, { on := 7, ground := Ground.phase }, { on := 8, ground := Ground.phase }, { on := 9, ground := Ground.phase }], guard := none }) rfl (fun K hK => ?_) AllReadyH.nil
                have c1 := dw_cell DRW'.out DVN.out n hn
                rw [HEV.out] at c1
                have f1 := frozen_of_row _ _ n _ _ DRW'.out
                go_simp
                refine hK.out _ _ (CZ2.out.setCell _ _ _ (fun _ => Or.inl rfl)) (fun hHeld => ?_)
                clear hK K c1 f1 hHeld
                try simp only [Act.put, List.setIfInBounds_toArray, List.set_cons_zero, List.set_cons_succ]
                refine wpAnyH_done (by kernel_rfl) ?_ _
                refine NoPanic.normal ?_
                have PT := hide (K2.out.dw.put n hn (.slice vo2 LL vc2) x.draw DR.out HLT.out (by rw [HEV.out]; exact HC.out) HD2.out (by rw [HEV.out]; exact HOW.out))
                generalize hY : Z2.setCell _ _ = w3 at PT ⊢
                have A3 : Hid (w3.heap[ga]? = some (.cells (encA x).toArray 60 (0, 0))) := PT.out.2.row A2.out (K2.out.dw.apart A2.out (by decide) (by decide))
                have DF : Hid (∀ k, dfoot gd (vs.set n (.slice vo2 LL vc2)) k → w.heap.size ≤ k) := fun k hk => by
                  rcases hk with hk | ⟨j, hj, hk⟩
                  · exact K2.out.df k (Or.inl hk)
                  · rw [getD_set' _ _ _ _ _ (by rw [DVN.out]; exact hn)] at hk
                    by_cases e : j = n
                    · rw [if_pos e] at hk
                      rcases HOW.out k hk with q | q
                      · exact K2.out.df k (Or.inr ⟨n, hn, by rw [HEV.out]; exact q⟩)
                      · exact Nat.le_trans K2.out.bw.size q
                    · rw [if_neg e] at hk
                      exact K2.out.df k (Or.inr ⟨j, hj, hk⟩)
                have K3 := hide (K2.out.drawn PT.out.1 PT.out.2 DF.out)
                obtain ⟨D2, hD2⟩ : ∃ D2, D2 = D.set n (D.getD n [] ++ [x.draw]) := ⟨_, rfl⟩
                obtain ⟨vs2, hvs2⟩ : ∃ v2, v2 = vs.set n (.slice vo2 LL vc2) := ⟨_, rfl⟩
                rw [← hD2, ← hvs2] at K3
                rw [← hD2] at MA2
                clear hY CZ2 HC HD2 HOW DRW' K2 A2 PT DF hD2 hvs2 HEV HEM HLT HD DRW DVN GNE ANV BWW TF HEP
                obtain ⟨c0, c1, c2, c3'⟩ := a_cells A3.out
                rw [HN1.out] at c1
                have cd := K3.out.dw.cell n hn
                obtain ⟨eo, ec, hev⟩ := K3.out.dw.form n hn
                rw [hev] at cd
                have hep := MA2.out.eps n hn
                have hfw := K3.out.dw.few n
                obtain ⟨m, hm⟩ : ∃ m, m = (D2.getD n []).length := ⟨_, rfl⟩
                rw [← hm] at cd hep hfw
                have qm : IntKind.i64.wrap ((m : Int) - 1) = (m : Int) - 1 := by rw [IntKind.wrap_i64]; omega
                have RNG := hide K3.out.ring
                have HEP := hide hep
                clear hev hm hep
                by_cases hm0 : m = 0
                · have eB : S.epB T2 (n : Int) = false := by rw [S.epB, HEP.out, hm0]; simp
                  have eN : S.epN T2 (n : Int) = 0 := by rw [S.epN, eB]; rfl
                  have EB := hide eB
                  have EN := hide eN
                  clear eB eN HEP
                  subst hm0
                  go_wp2_with fail
                  refine (epoch_r (n : Int) w3 RNG.out).mono ?_
                  rintro r _ ⟨rfl, rfl⟩
                  rw [EB.out, EN.out]
                  go_wp2_with fail
                  go_roundg gO
                  case measure => omega
                  case rel => exact ⟨i + 1, so', sn', sc', T2, vs2, D2, L, by omega, by first | rfl | simp, rfl, HSL.out, by omega, K3, MA2⟩
                · have eB : S.epB T2 (n : Int) = true := by rw [S.epB, HEP.out, isT_of hn]; simp; omega
                  have eN : S.epN T2 (n : Int) = (m : Int) - 1 := by rw [S.epN, eB, HEP.out]; rfl
                  have EB := hide eB
                  have EN := hide eN
                  have q5 : (0 : Int) < (m : Int) := by omega
                  clear eB eN HEP
                  go_wp2_with fail
                  refine (epoch_r (n : Int) w3 RNG.out).mono ?_
                  rintro r _ ⟨rfl, rfl⟩
                  rw [EB.out, EN.out]
                  go_wp2_with fail
                  go_roundg gO
                  case measure => omega
                  case rel => exact ⟨i + 1, so', sn', sc', T2, vs2, D2, L, by omega, by first | rfl | simp, rfl, HSL.out, by omega, K3, MA2⟩
              · rw [hTE]
                obtain ⟨tn, htn⟩ : ∃ z, z = S.turnN T (n : Int) := ⟨_, rfl⟩
                rw [← htn]
                have hsame : T2 = T := by rw [HT2.out]; exact turnT_no (by rw [hTE]; omega)
                subst hsame
                clear htn hTE cd HEV TF HEP c0 c1 c2 c3'
                obtain ⟨c0, c1, c2, c3'⟩ := a_cells A2.out
                rw [HN1.out] at c1
                have cd := K2.out.dw.cell n hn
                obtain ⟨eo, ec, hev⟩ := K2.out.dw.form n hn
                rw [hev] at cd
                have hep := MA.out.eps n hn
                have hfw := K2.out.dw.few n
                obtain ⟨m, hm⟩ : ∃ m, m = (D.getD n []).length := ⟨_, rfl⟩
                rw [← hm] at cd hep hfw
                have qm : IntKind.i64.wrap ((m : Int) - 1) = (m : Int) - 1 := by rw [IntKind.wrap_i64]; omega
                have RNG := hide K2.out.ring
                have HEP := hide hep
                clear hev hm hep
                by_cases hm0 : m = 0
                · have eB : S.epB T2 (n : Int) = false := by rw [S.epB, HEP.out, hm0]; simp
                  have eN : S.epN T2 (n : Int) = 0 := by rw [S.epN, eB]; rfl
                  have EB := hide eB
                  have EN := hide eN
                  clear eB eN HEP
                  subst hm0
                  go_wp2_with fail
                  refine (epoch_r (n : Int) w2 RNG.out).mono ?_
                  rintro r _ ⟨rfl, rfl⟩
                  rw [EB.out, EN.out]
                  go_wp2_with fail
                  go_roundg gO
                  case measure => omega
                  case rel => exact ⟨i + 1, so', sn', sc', T2, vs, D, L, by omega, by first | rfl | simp, rfl, HSL.out, by omega, K2, MA⟩
                · have eB : S.epB T2 (n : Int) = true := by rw [S.epB, HEP.out, isT_of hn]; simp; omega
                  have eN : S.epN T2 (n : Int) = (m : Int) - 1 := by rw [S.epN, eB, HEP.out]; rfl
                  have EB := hide eB
                  have EN := hide eN
                  have q5 : (0 : Int) < (m : Int) := by omega
                  clear eB eN HEP
                  go_wp2_with fail
                  refine (epoch_r (n : Int) w2 RNG.out).mono ?_
                  rintro r _ ⟨rfl, rfl⟩
                  rw [EB.out, EN.out]
                  go_wp2_with fail
                  go_roundg gO
                  case measure => omega
                  case rel => exact ⟨i + 1, so', sn', sc', T2, vs, D, L, by omega, by first | rfl | simp, rfl, HSL.out, by omega, K2, MA⟩
          · by_cases hk2 : x.kind = 2
            · as_aux_lemma =>
                have qk : x.kind = 2 := hk2
                rw [qk] at c0
                clear hk1 hk2 qk
                have qk1 : ((2 : Int) == 1) = false := by decide
                go_upto_region 27 with fail
                clear c0 qk1
                have ld := load_ah AR.out XO.out.h.r
                obtain ⟨A4, w2, ha4, hs4, hr4, hb4⟩ := lay_h w1 x.h XO.out.h.r
                obtain ⟨gh, hgh⟩ : ∃ g, g = w1.heap.size := ⟨_, rfl⟩
                rw [← hgh] at ha4 hs4 hr4
                have GH := hide (show w1.heap.size ≤ gh by omega)
                have HR2 := hide hr4
                have BL2 := hide hb4
                clear hr4 hb4 hgh
                go_upto_region 28 with (first | (with_reducible refine at_op { dst := some 100, op := Op.load 32 (Operand.tmp 99), type := 32, pos := "law.go:122", after := #[{ on := 0, ground := Ground.data }], guard := none } ?_; refine wpList_load_as rfl 32 (.tmp 99) rfl (.pointer (some ⟨ga, 4, none⟩)) rfl (.agg (encH x.h).toArray) ld ?_) | (with_reducible refine at_op { dst := some 15, op := Op.alloc 32, type := 0, pos := "law.go:122", after := #[], guard := none } ?_; refine wpList_alloc_known rfl 32 rfl _ _ ha4 ?_) | (with_reducible refine at_op { dst := none, op := Op.store 32 (Operand.tmp 15) (Operand.tmp 100), type := 0, pos := "law.go:122", after := #[{ on := 2, ground := Ground.data }, { on := 1, ground := Ground.data }, { on := 0, ground := Ground.phase }, { on := 1, ground := Ground.phase }, { on := 2, ground := Ground.phase }], guard := none } ?_; refine wpList_store_as rfl 32 (.tmp 15) (.tmp 100) rfl (.pointer (some ⟨gh, 0, none⟩)) (.agg (encH x.h).toArray) rfl rfl w2 hs4 ?_))
                clear ld ha4 hs4 A4 c1 c2 c3'
                have AR2 := hide ((BL2.out.block _ (block_lt_of_row AR.out)).trans AR.out)
                obtain ⟨c0, c1, c2, c3'⟩ := a_cells AR2.out
                rw [HN1.out] at c1
                obtain ⟨d0, d1, d2, d3⟩ := h_cells HR2.out
                have f1 := frozen_of_row _ _ 0 _ _ HR2.out
                go_upto_region 29 with fail
                generalize hX : w2.setCell _ _ = w3
                obtain ⟨H, hH⟩ : ∃ H : S.Hd, H = ⟨(n : Int), x.h.epoch, x.h.size, x.h.clock, x.h.root⟩ := ⟨_, rfl⟩
                have HR3 : Hid (w3.heap[gh]? = some (.cells (encH H).toArray 32 (0, 0))) := by rw [← hX, hH]; exact tree_h ((n : Int)) HR2.out
                have cX : Chg (fun k => k = gh) w2 w3 := by rw [← hX]; exact (Chg.refl _ _).setCell _ _ _ (fun _ => rfl)
                have BL3 := hide (BL2.out.trans (cX.below w1.heap.size BL2.out.size (fun k hk e => by have := GH.out; omega)))
                have HOK := hide (show H.Ok by rw [hH]; exact ⟨(show -9223372036854775808 ≤ (n : Int) by omega), (show (n : Int) ≤ 9223372036854775807 by omega), XO.out.h.e1, XO.out.h.e2, XO.out.h.s2, XO.out.h.c2, XO.out.h.r⟩)
                have HT := hide (show H.tree = (n : Int) by rw [hH])
                have K3 := hide (KS.out.below BL3.out)
                clear hX cX BL2 HR2 c0 c1 c2 c3' d0 d1 d2 d3 f1 hH AR2
                have ld := load_h HR3.out HOK.out.r
                go_wp2_with (with_reducible refine at_op { dst := some 106, op := Op.load 32 (Operand.tmp 15), type := 32, pos := "law.go:124", after := #[], guard := none } ?_; refine wpList_load_as rfl 32 (.tmp 15) rfl (.pointer (some ⟨gh, 0, none⟩)) rfl (.agg (encH H).toArray) ld ?_)
                refine (sign_r H w3 K3.out.ring HOK.out (HK.out.below K3.out.bw h0)).mono ?_
                rintro r w4 ⟨rfl, hb⟩
                have hGl := S.signG_len T H HOK.out.r
                obtain ⟨G, hG⟩ : ∃ G, G = S.signG T H := ⟨_, rfl⟩
                rw [← hG] at hGl ⊢
                obtain ⟨E, hE⟩ : ∃ E, E = S.signE T H := ⟨_, rfl⟩
                rw [← hE]
                have HG := hide hG
                have HE := hide hE
                have GL := hide hGl
                obtain ⟨A5, w5, ha5, hs5, hr5, hb5, -⟩ := lay_g w4 G hGl.1 hGl.2
                obtain ⟨g16, hg16⟩ : ∃ g, g = w4.heap.size := ⟨_, rfl⟩
                rw [← hg16] at ha5 hs5 hr5
                have hbb := hb.trans (hb5.mono hb.size)
                have BL5 := hide (BL3.out.trans (hbb.mono BL3.out.size))
                have HR5 := hide ((hbb.block _ (block_lt_of_row HR3.out)).trans HR3.out)
                have SR5 := hide hr5
                have NE := hide (show gh ≠ g16 by have := block_lt_of_row HR3.out; have := hb.size; omega)
                clear hb hb5 hbb hr5 hg16 hG hE hGl ld K3 BL3 HR3
                go_upto_region 30 with (first | (with_reducible refine at_op { dst := some 16, op := Op.alloc 34, type := 0, pos := "law.go:124", after := #[], guard := none } ?_; refine wpList_alloc_known rfl 34 rfl _ _ ha5 ?_) | (with_reducible refine at_op { dst := none, op := Op.store 34 (Operand.tmp 16) (Operand.tmp 108), type := 0, pos := "law.go:124", after := #[{ on := 6, ground := Ground.data }, { on := 4, ground := Ground.data }, { on := 2, ground := Ground.chain }, { on := 0, ground := Ground.phase }, { on := 1, ground := Ground.phase }, { on := 2, ground := Ground.phase }, { on := 3, ground := Ground.phase }, { on := 4, ground := Ground.phase }, { on := 5, ground := Ground.textOnly Departure.lateStores }, { on := 6, ground := Ground.phase }], guard := none } ?_; refine wpList_store_as rfl 34 (.tmp 16) (.tmp 108) rfl (.pointer (some ⟨g16, 0, none⟩)) (.agg (encG G).toArray) rfl rfl w5 hs5 ?_))
                clear ha5 hs5 A5
                have K5 := hide (KS.out.below BL5.out)
                have AR5 := hide ((BL5.out.block _ (block_lt_of_row AR.out)).trans AR.out)
                obtain ⟨c0, c1, c2, c3'⟩ := a_cells AR5.out
                rw [HN1.out] at c1
                have cd := K5.out.dw.cell n hn
                obtain ⟨eo, ec, hev⟩ := K5.out.dw.form n hn
                have HEV := hide hev
                rw [hev] at cd
                have hep := MA.out.eps n hn
                have hfw := K5.out.dw.few n
                obtain ⟨m, hm⟩ : ∃ m, m = (D.getD n []).length := ⟨_, rfl⟩
                rw [← hm] at cd hep hfw HEV
                have HEP := hide hep
                have HMM := hide hm
                clear hev hm hep
                by_cases hm0 : m = 0
                · as_aux_lemma =>
                    have e23 : E = 23 := by rw [HE.out, S.signE, HT.out, if_pos (isT_of hn), if_pos (by rw [HEP.out, hm0])]
                    subst e23
                    subst hm0
                    have hgz : G = S.g0 := by rw [HG.out, S.signG, if_neg (by rw [← HE.out]; omega)]
                    subst hgz
                    have ld := load_g SR5.out GL.out.1 GL.out.2
                    have zg := zero_g w5
                    have eqg := equal_gs S.g0 GL.out.1 GL.out.2
                    go_wp2_with (first | (with_reducible refine at_op { dst := some 123, op := Op.load 34 (Operand.tmp 16), type := 34, pos := "law.go:126", after := #[{ on := 2, ground := Ground.guard }], guard := some (2, false) } ?_; refine load_when rfl 34 (.tmp 16) rfl (.pointer (some ⟨g16, 0, none⟩)) rfl (.agg (encG S.g0).toArray) ld ?_) | (with_reducible refine at_op { dst := some 124, op := Op.build 34 #[], type := 34, pos := "law.go:126", after := #[{ on := 2, ground := Ground.guard }], guard := some (2, false) } ?_; refine build_when rfl 34 [] rfl [] rfl (.agg (encG S.g0).toArray) zg ?_))
                    go_roundg gO
                    case measure => omega
                    case rel => exact ⟨i + 1, so', sn', sc', T, vs, D, L, by omega, by first | rfl | simp, rfl, HSL.out, by omega, K5, MA⟩
                · as_aux_lemma =>
                    have e0 : E = 0 := by rw [HE.out, S.signE, HT.out, if_pos (isT_of hn), if_neg (by rw [HEP.out]; exact hm0)]
                    subst e0
                    have sk := S.sign_ok (T := T) (h := H) HE.out.symm
                    rw [← HG.out] at sk
                    obtain ⟨e, he⟩ : ∃ e, e = m - 1 := ⟨_, rfl⟩
                    have hGh : G.h = S.ep H (e : Int) := by rw [sk.2, HT.out, HEP.out, show (m : Int) - 1 = (e : Int) by omega]
                    have qm : IntKind.i64.wrap ((m : Int) - 1) = (e : Int) := by rw [IntKind.wrap_i64]; omega
                    have hlt : e < (D.getD n []).length := by rw [← HMM.out]; omega
                    obtain ⟨gv, vc, hv, hgv, hcv⟩ := K5.out.dw.at_ n e hn hlt
                    have hkey := MA.out.at_ n e hn hlt
                    obtain ⟨d, hd⟩ : ∃ d, d = (D.getD n []).getD e 0 := ⟨_, rfl⟩
                    rw [← hd] at hcv hkey
                    have HDD := hide (show d < 4294967296 by rw [hd]; exact K5.out.dw.ok n _ (getD_some' _ 0 e hlt).2)
                    have hGS : G = S.sign (S.key ks (n : Int) (e : Int) d) (S.ep H (e : Int)) := by
                      rw [HG.out, S.signG, if_pos HE.out.symm, HT.out, HEP.out, show (m : Int) - 1 = (e : Int) by omega, ← he, show S.keyAt T (n : Int) e = S.key ks (n : Int) (e : Int) d from hkey]
                    rw [← HMM.out] at hv
                    have HVV := hide hv
                    have GSG := hide hGS
                    have SOK := hide (show S.SgOk T G ∧ G.h.Ok ∧ G.tag.length = 32 from ⟨sk.1, by rw [hGh]; exact HOK.out.ep (e : Int) (by omega) (by omega), GL.out.2⟩)
                    have q5 : ¬ (m : Int) = 0 := by omega
                    have q6 : (e : Int) < (m : Int) := by omega
                    have q7 : (0 : Int) ≤ (e : Int) := by omega
                    have CVV := hide hcv
                    have LGV := hide hgv
                    clear sk hGh hlt hkey hd hGS hv hcv hgv he
                    obtain ⟨d0, d1, d2, d3⟩ := h_cells HR5.out
                    have f1 := frozen_of_row _ _ 1 _ _ HR5.out
                    go_upto_region 34 with fail
                    generalize hX : w5.setCell _ _ = w6
                    obtain ⟨H2, hH2⟩ : ∃ H2, H2 = S.ep H (e : Int) := ⟨_, rfl⟩
                    have HR6 : Hid (w6.heap[gh]? = some (.cells (encH H2).toArray 32 (0, 0))) := by rw [← hX, hH2]; exact ep_row (e : Int) HR5.out
                    have cX : Chg (fun k => k = gh) w5 w6 := by rw [← hX]; exact (Chg.refl _ _).setCell _ _ _ (fun _ => rfl)
                    have BL6 := hide (BL5.out.trans (cX.below w1.heap.size BL5.out.size (fun k hk e => by have := GH.out; omega)))
                    have SR6 := hide (cX.row SR5.out (fun e => NE.out e.symm))
                    have H2E := hide (show H2.epoch = (e : Int) by rw [hH2]; rfl)
                    have H2O := hide (show H2.Ok by rw [hH2]; exact HOK.out.ep (e : Int) (by omega) (by omega))
                    rw [← hH2] at GSG
                    have K6 := hide (KS.out.below BL6.out)
                    have AR6 := hide ((BL6.out.block _ (block_lt_of_row AR.out)).trans AR.out)
                    obtain ⟨gv2, vc2, hv2, hgv2, hcv2⟩ := K6.out.dw.at_ n e hn (by rw [← HMM.out]; omega)
                    rw [← HMM.out, HVV.out] at hv2
                    simp only [Value.slice.injEq, Option.some.injEq, Addr.mk.injEq, and_true, true_and] at hv2
                    obtain ⟨rfl, rfl⟩ := hv2
                    have hdd : (D.getD n []).getD e 0 = d := by
                      have h1 := CVV.out
                      obtain ⟨gv3, vc3, hv3, _, hcv3⟩ := K5.out.dw.at_ n e hn (by rw [← HMM.out]; omega)
                      rw [← HMM.out, HVV.out] at hv3
                      simp only [Value.slice.injEq, Option.some.injEq, Addr.mk.injEq, and_true, true_and] at hv3
                      obtain ⟨rfl, rfl⟩ := hv3
                      rw [h1] at hcv3
                      simp only [Option.some.injEq, Value.int.injEq, true_and] at hcv3
                      omega
                    rw [hdd] at hcv2
                    have CV6 := hide hcv2
                    have LG6 := hide hgv2
                    have CD6 := hide (K6.out.dw.cell n hn)
                    rw [HVV.out] at CD6
                    have LD6 := hide (block_lt_of_row K6.out.dw.row)
                    have SB6 := hide (SB.out.below K6.out.bw (Nat.le_refl _))
                    have KSS := hide (show ks.length ≤ 140737488355000 by have := KSL.out; omega)
                    have BW6 := hide K6.out.bw
                    clear hX cX hH2 hdd hcv2 hgv2 CVV LGV K5 HR5 SR5 BL5 AR5 c0 c1 c2 c3' d0 d1 d2 d3 f1 cd qm
                    refine wp_region_noPanic ?_
                    refine wp_region_held_drew (S := (fun W => Chg (fun _ => False) w6 W)) follows ((Chg.refl _ _).drew) (fun hHeld => ?_)
                    clear hHeld
                    have hHeld : Chg (fun _ => False) w6 w6.drew := (Chg.refl _ _).drew
                    have CZ0 := hide hHeld
                    generalize w6.drew = Z0 at CZ0 hHeld ⊢
                    refine wpAnyH_take (i := 0) (oi := { dst := some 140, op := Op.move (Operand.tmp 17), type := 24, pos := "law.go:132", after := #[], guard := none }) (v := ?_) rfl (by kernel_rfl) (by kernel_rfl) (by kernel_rfl) (fun _ _ _ h => h) (Or.inl ⟨by rfl, ?_⟩) (by assumption) ?_
                    rotate_left
                    · intro w hSw
                      clear hSw
                      go_simp
                      all_goals with_reducible rfl
                    simp only [Act.put, List.setIfInBounds_toArray, List.set_cons_zero, List.set_cons_succ]
                    refine wpAnyH_take (i := 1) (oi := { dst := some 141, op := Op.binOp BinOp.neq 24 (Operand.tmp 140) (Operand.const (Value.int IntKind.i64 0)) 24, type := 4, pos := "law.go:132", after := #[{ on := 0, ground := Ground.data }], guard := none }) (v := ?_) rfl (by kernel_rfl) (by kernel_rfl) (by kernel_rfl) (fun _ _ _ h => h) (Or.inl ⟨by rfl, ?_⟩) (by assumption) ?_
                    rotate_left
                    · intro w hSw
                      clear hSw
                      go_simp
                      all_goals with_reducible rfl
                    simp only [Act.put, List.setIfInBounds_toArray, List.set_cons_zero, List.set_cons_succ]
                    refine wpAnyH_take (i := 2) (oi := { dst := some 142, op := Op.move (Operand.tmp 141), type := 4, pos := "law.go:132", after := #[{ on := 1, ground := Ground.data }], guard := none }) (v := ?_) rfl (by kernel_rfl) (by kernel_rfl) (by kernel_rfl) (fun _ _ _ h => h) (Or.inl ⟨by rfl, ?_⟩) (by assumption) ?_
                    rotate_left
                    · intro w hSw
                      clear hSw
                      go_simp
                      all_goals with_reducible rfl
                    simp only [Act.put, List.setIfInBounds_toArray, List.set_cons_zero, List.set_cons_succ]
                    refine wpAnyH_take (i := 3) (oi := { dst := some 143, op := Op.load 34 (Operand.tmp 16), type := 34, pos := "law.go:132", after := #[{ on := 2, ground := Ground.guard }], guard := some (2, false) }) (v := .agg (encG G).toArray) rfl (by kernel_rfl) (by kernel_rfl) (by kernel_rfl) (fun _ _ _ h => h) (yieldsIf_load_mid (by rfl) _ _ rfl g16 0 rfl (encG G) _ (fun _ hSw => rangeAt_row (hSw.row SR6.out (fun e => e))) Tryd.underlying34 rfl (by rw [size_g _ GL.out.1 GL.out.2, List.size_toArray])) (by assumption) ?_
                    simp only [Act.put, List.setIfInBounds_toArray, List.set_cons_zero, List.set_cons_succ]
                    refine wpAnyH_take (i := 4) (oi := { dst := some 144, op := Op.move (Operand.tmp 5), type := 42, pos := "law.go:132", after := #[{ on := 2, ground := Ground.guard }], guard := some (2, false) }) (v := ?_) rfl (by kernel_rfl) (by kernel_rfl) (by kernel_rfl) (fun _ _ _ h => h) (Or.inl ⟨by rfl, ?_⟩) (by assumption) ?_
                    rotate_left
                    · intro w hSw
                      clear hSw
                      go_simp
                      all_goals with_reducible rfl
                    simp only [Act.put, List.setIfInBounds_toArray, List.set_cons_zero, List.set_cons_succ]
                    refine wpAnyH_take (i := 5) (oi := { dst := some 145, op := Op.move (Operand.tmp 5), type := 42, pos := "law.go:132", after := #[{ on := 2, ground := Ground.guard }], guard := some (2, false) }) (v := ?_) rfl (by kernel_rfl) (by kernel_rfl) (by kernel_rfl) (fun _ _ _ h => h) (Or.inl ⟨by rfl, ?_⟩) (by assumption) ?_
                    rotate_left
                    · intro w hSw
                      clear hSw
                      go_simp
                      all_goals with_reducible rfl
                    simp only [Act.put, List.setIfInBounds_toArray, List.set_cons_zero, List.set_cons_succ]
                    refine wpAnyH_take (i := 6) (oi := { dst := some 146, op := Op.move (Operand.tmp 0), type := 41, pos := "law.go:132", after := #[{ on := 2, ground := Ground.guard }], guard := some (2, false) }) (v := ?_) rfl (by kernel_rfl) (by kernel_rfl) (by kernel_rfl) (fun _ _ _ h => h) (Or.inl ⟨by rfl, ?_⟩) (by assumption) ?_
                    rotate_left
                    · intro w hSw
                      clear hSw
                      go_simp
                      all_goals with_reducible rfl
                    simp only [Act.put, List.setIfInBounds_toArray, List.set_cons_zero, List.set_cons_succ]
                    refine wpAnyH_take (i := 7) (oi := { dst := some 147, op := Op.fieldAddr 60 (Operand.tmp 11) 1, type := 0, pos := "law.go:132", after := #[{ on := 2, ground := Ground.guard }], guard := some (2, false) }) (v := ?_) rfl (by kernel_rfl) (by kernel_rfl) (by kernel_rfl) (fun _ _ _ h => h) (Or.inl ⟨by rfl, ?_⟩) (by assumption) ?_
                    rotate_left
                    · intro w hSw
                      clear hSw
                      go_simp
                      all_goals with_reducible rfl
                    simp only [Act.put, List.setIfInBounds_toArray, List.set_cons_zero, List.set_cons_succ]
                    refine wpAnyH_take (i := 8) (oi := { dst := some 148, op := Op.load 3 (Operand.tmp 147), type := 3, pos := "law.go:132", after := #[{ on := 7, ground := Ground.data }, { on := 2, ground := Ground.guard }], guard := some (2, false) }) (v := ?_) rfl (by kernel_rfl) (by kernel_rfl) (by kernel_rfl) (fun _ _ _ h => h) (Or.inl ⟨by rfl, ?_⟩) (by assumption) ?_
                    rotate_left
                    · intro w hSw
                      obtain ⟨c0, c1, c2, c3'⟩ := a_cells (hSw.row AR6.out (fun e => e))
                      rw [HN1.out] at c1
                      clear hSw
                      go_simp
                      all_goals with_reducible rfl
                    simp only [Act.put, List.setIfInBounds_toArray, List.set_cons_zero, List.set_cons_succ]
                    refine wpAnyH_take (i := 9) (oi := { dst := some 149, op := Op.fieldAddr 32 (Operand.tmp 15) 1, type := 0, pos := "law.go:132", after := #[{ on := 2, ground := Ground.guard }], guard := some (2, false) }) (v := ?_) rfl (by kernel_rfl) (by kernel_rfl) (by kernel_rfl) (fun _ _ _ h => h) (Or.inl ⟨by rfl, ?_⟩) (by assumption) ?_
                    rotate_left
                    · intro w hSw
                      clear hSw
                      go_simp
                      all_goals with_reducible rfl
                    simp only [Act.put, List.setIfInBounds_toArray, List.set_cons_zero, List.set_cons_succ]
                    refine wpAnyH_take (i := 10) (oi := { dst := some 150, op := Op.load 3 (Operand.tmp 149), type := 3, pos := "law.go:132", after := #[{ on := 9, ground := Ground.data }, { on := 2, ground := Ground.guard }], guard := some (2, false) }) (v := ?_) rfl (by kernel_rfl) (by kernel_rfl) (by kernel_rfl) (fun _ _ _ h => h) (Or.inl ⟨by rfl, ?_⟩) (by assumption) ?_
                    rotate_left
                    · intro w hSw
                      obtain ⟨d0, d1, d2, d3⟩ := h_cells (hSw.row HR6.out (fun e => e))
                      rw [H2E.out] at d1
                      clear hSw
                      go_simp
                      all_goals with_reducible rfl
                    simp only [Act.put, List.setIfInBounds_toArray, List.set_cons_zero, List.set_cons_succ]
                    refine wpAnyH_take (i := 11) (oi := { dst := some 151, op := Op.fieldAddr 60 (Operand.tmp 11) 1, type := 0, pos := "law.go:132", after := #[{ on := 2, ground := Ground.guard }], guard := some (2, false) }) (v := ?_) rfl (by kernel_rfl) (by kernel_rfl) (by kernel_rfl) (fun _ _ _ h => h) (Or.inl ⟨by rfl, ?_⟩) (by assumption) ?_
                    rotate_left
                    · intro w hSw
                      clear hSw
                      go_simp
                      all_goals with_reducible rfl
                    simp only [Act.put, List.setIfInBounds_toArray, List.set_cons_zero, List.set_cons_succ]
                    refine wpAnyH_take (i := 12) (oi := { dst := some 152, op := Op.load 3 (Operand.tmp 151), type := 3, pos := "law.go:132", after := #[{ on := 11, ground := Ground.data }, { on := 2, ground := Ground.guard }], guard := some (2, false) }) (v := ?_) rfl (by kernel_rfl) (by kernel_rfl) (by kernel_rfl) (fun _ _ _ h => h) (Or.inl ⟨by rfl, ?_⟩) (by assumption) ?_
                    rotate_left
                    · intro w hSw
                      obtain ⟨c0, c1, c2, c3'⟩ := a_cells (hSw.row AR6.out (fun e => e))
                      rw [HN1.out] at c1
                      clear hSw
                      go_simp
                      all_goals with_reducible rfl
                    simp only [Act.put, List.setIfInBounds_toArray, List.set_cons_zero, List.set_cons_succ]
                    refine wpAnyH_take (i := 13) (oi := { dst := some 153, op := Op.indexAddr 57 (Operand.tmp 8) (Operand.tmp 152), type := 0, pos := "law.go:132", after := #[{ on := 12, ground := Ground.data }, { on := 2, ground := Ground.guard }], guard := some (2, false) }) (v := ?_) rfl (by kernel_rfl) (by kernel_rfl) (by kernel_rfl) (fun _ _ _ h => h) (Or.inl ⟨by rfl, ?_⟩) (by assumption) ?_
                    rotate_left
                    · intro w hSw
                      clear hSw
                      go_simp
                      all_goals with_reducible rfl
                    simp only [Act.put, List.setIfInBounds_toArray, List.set_cons_zero, List.set_cons_succ]
                    refine wpAnyH_take (i := 14) (oi := { dst := some 154, op := Op.load 56 (Operand.tmp 153), type := 56, pos := "law.go:132", after := #[{ on := 13, ground := Ground.data }, { on := 2, ground := Ground.guard }], guard := some (2, false) }) (v := ?_) rfl (by kernel_rfl) (by kernel_rfl) (by kernel_rfl) (fun _ _ _ h => h) (Or.inl ⟨by rfl, ?_⟩) (by assumption) ?_
                    rotate_left
                    · intro w hSw
                      have c9 := (World.cell?_of_block (a := ⟨gd, n, none⟩) (hSw.block gd LD6.out (fun e => e))).trans CD6.out
                      clear hSw
                      go_simp
                      all_goals with_reducible rfl
                    simp only [Act.put, List.setIfInBounds_toArray, List.set_cons_zero, List.set_cons_succ]
                    refine wpAnyH_take (i := 15) (oi := { dst := some 155, op := Op.fieldAddr 32 (Operand.tmp 15) 1, type := 0, pos := "law.go:132", after := #[{ on := 2, ground := Ground.guard }], guard := some (2, false) }) (v := ?_) rfl (by kernel_rfl) (by kernel_rfl) (by kernel_rfl) (fun _ _ _ h => h) (Or.inl ⟨by rfl, ?_⟩) (by assumption) ?_
                    rotate_left
                    · intro w hSw
                      clear hSw
                      go_simp
                      all_goals with_reducible rfl
                    simp only [Act.put, List.setIfInBounds_toArray, List.set_cons_zero, List.set_cons_succ]
                    refine wpAnyH_take (i := 16) (oi := { dst := some 156, op := Op.load 3 (Operand.tmp 155), type := 3, pos := "law.go:132", after := #[{ on := 15, ground := Ground.data }, { on := 2, ground := Ground.guard }], guard := some (2, false) }) (v := ?_) rfl (by kernel_rfl) (by kernel_rfl) (by kernel_rfl) (fun _ _ _ h => h) (Or.inl ⟨by rfl, ?_⟩) (by assumption) ?_
                    rotate_left
                    · intro w hSw
                      obtain ⟨d0, d1, d2, d3⟩ := h_cells (hSw.row HR6.out (fun e => e))
                      rw [H2E.out] at d1
                      clear hSw
                      go_simp
                      all_goals with_reducible rfl
                    simp only [Act.put, List.setIfInBounds_toArray, List.set_cons_zero, List.set_cons_succ]
                    refine wpAnyH_take (i := 17) (oi := { dst := some 157, op := Op.indexAddr 56 (Operand.tmp 154) (Operand.tmp 156), type := 0, pos := "law.go:132", after := #[{ on := 14, ground := Ground.data }, { on := 16, ground := Ground.data }, { on := 2, ground := Ground.guard }], guard := some (2, false) }) (v := ?_) rfl (by kernel_rfl) (by kernel_rfl) (by kernel_rfl) (fun _ _ _ h => h) (Or.inl ⟨by rfl, ?_⟩) (by assumption) ?_
                    rotate_left
                    · intro w hSw
                      clear hSw
                      go_simp
                      all_goals with_reducible rfl
                    simp only [Act.put, List.setIfInBounds_toArray, List.set_cons_zero, List.set_cons_succ]
                    refine wpAnyH_take (i := 18) (oi := { dst := some 158, op := Op.load 27 (Operand.tmp 157), type := 27, pos := "law.go:132", after := #[{ on := 17, ground := Ground.data }, { on := 2, ground := Ground.guard }], guard := some (2, false) }) (v := ?_) rfl (by kernel_rfl) (by kernel_rfl) (by kernel_rfl) (fun _ _ _ h => h) (Or.inl ⟨by rfl, ?_⟩) (by assumption) ?_
                    rotate_left
                    · intro w hSw
                      have c9 := (World.cell?_of_block (a := ⟨gv, e, none⟩) (hSw.block gv LG6.out (fun e => e))).trans CV6.out
                      clear hSw
                      go_simp
                      all_goals with_reducible rfl
                    simp only [Act.put, List.setIfInBounds_toArray, List.set_cons_zero, List.set_cons_succ]
                    refine wpAnyH_take (i := 20) (oi := { dst := some 160, op := Op.load 32 (Operand.tmp 15), type := 32, pos := "law.go:132", after := #[{ on := 2, ground := Ground.guard }], guard := some (2, false) }) (v := .agg (encH H2).toArray) rfl (by kernel_rfl) (by kernel_rfl) (by kernel_rfl) (fun _ _ _ h => h) (yieldsIf_load_mid (by rfl) _ _ rfl gh 0 rfl (encH H2) _ (fun _ hSw => rangeAt_row (hSw.row HR6.out (fun e => e))) Tryd.underlying32 rfl (by rw [size_h _ H2O.out.r, List.size_toArray])) (by assumption) ?_
                    simp only [Act.put, List.setIfInBounds_toArray, List.set_cons_zero, List.set_cons_succ]
                    refine wpAnyH_ready (rs := [19]) (by kernel_rfl) (by simp) ?_
                    refine AllReadyH.cons (o := { dst := some 159, op := Op.call { callee := Callee.value (Operand.func 18), args := #[Operand.tmp 145, Operand.tmp 146, Operand.tmp 148, Operand.tmp 150, Operand.tmp 158], argTypes := #[42, 41, 3, 3, 27] }, type := 30, pos := "law.go:132", after := #[{ on := 5, ground := Ground.data }, { on := 6, ground := Ground.data }, { on := 8, ground := Ground.data }, { on := 10, ground := Ground.data }, { on := 18, ground := Ground.data }, { on := 2, ground := Ground.chain }, { on := 2, ground := Ground.guard }], guard := some (2, false) }) rfl (fun K hK => ?_) AllReadyH.nil
                    go_simp
                    refine (rkey_any gT (.slice a l c) ks (n : Int) (e : Int) d Z0 (CZ0.out.row K6.out.tab (fun e => e)) HDD.out (SB6.out.below (CZ0.out.below _ (Nat.le_refl _) (fun _ _ e => e)) (Nat.le_refl _)) KSS.out).mono ?_
                    rintro e Z1 ⟨rfl, hb2⟩
                    obtain ⟨Ky, hKy⟩ : ∃ DD, DD = S.key ks (n : Int) (e : Int) d := ⟨_, rfl⟩
                    rw [← hKy]
                    have LKy := hide (show Ky.length = 32 by rw [hKy]; exact S.key_length _ _ _ _)
                    have EKy := hide hKy
                    clear hKy
                    have CZ1 : Hid (Chg (fun _ => False) w6 Z1) := CZ0.out.then hb2
                    clear hb2 CZ0
                    clear hHeld
                    refine hK.out _ _ CZ1.out (fun hHeld => ?_)
                    clear hK K
                    try simp only [Act.put, List.setIfInBounds_toArray, List.set_cons_zero, List.set_cons_succ]
                    refine wpAnyH_ready (rs := [21]) (by kernel_rfl) (by simp) ?_
                    refine AllReadyH.cons (o := { dst := some 161, op := Op.call { callee := Callee.value (Operand.func 21), args := #[Operand.tmp 144, Operand.tmp 159, Operand.tmp 160], argTypes := #[42, 30, 32] }, type := 34, pos := "law.go:132", after := #[{ on := 4, ground := Ground.data }, { on := 19, ground := Ground.data }, { on := 20, ground := Ground.data }, { on := 19, ground := Ground.chain }, { on := 2, ground := Ground.guard }], guard := some (2, false) }) rfl (fun K hK => ?_) AllReadyH.nil
                    go_simp
                    refine (rsign_any gT Ky H2 Z1 (CZ1.out.row K6.out.tab (fun e => e)) LKy.out H2O.out).mono ?_
                    rintro e Z2 ⟨rfl, hb2⟩
                    rw [EKy.out, ← GSG.out]
                    have CZ2 : Hid (Chg (fun _ => False) w6 Z2) := CZ1.out.then hb2
                    clear hb2 CZ1
                    clear hHeld
                    refine hK.out _ _ CZ2.out (fun hHeld => ?_)
                    clear hK K
                    try simp only [Act.put, List.setIfInBounds_toArray, List.set_cons_zero, List.set_cons_succ]
                    refine wpAnyH_take (i := 22) (oi := { dst := some 162, op := Op.binOp BinOp.neq 34 (Operand.tmp 143) (Operand.tmp 161) 34, type := 4, pos := "law.go:132", after := #[{ on := 3, ground := Ground.data }, { on := 21, ground := Ground.data }, { on := 2, ground := Ground.guard }], guard := some (2, false) }) (v := ?_) rfl (by kernel_rfl) (by kernel_rfl) (by kernel_rfl) (fun _ _ _ h => h) (Or.inl ⟨by rfl, ?_⟩) (by assumption) ?_
                    rotate_left
                    · intro w hSw
                      have eq := equal_gs G GL.out.1 GL.out.2
                      clear hSw
                      go_simp
                      all_goals with_reducible rfl
                    simp only [Act.put, List.setIfInBounds_toArray, List.set_cons_zero, List.set_cons_succ]
                    refine wpAnyH_take (i := 23) (oi := { dst := some 163, op := Op.pick (Operand.tmp 142) (Operand.const (Value.bool true)) (Operand.tmp 162), type := 4, pos := "law.go:132", after := #[{ on := 2, ground := Ground.data }, { on := 22, ground := Ground.data }], guard := none }) (v := ?_) rfl (by kernel_rfl) (by kernel_rfl) (by kernel_rfl) (fun _ _ _ h => h) (Or.inl ⟨by rfl, ?_⟩) (by assumption) ?_
                    rotate_left
                    · intro w hSw
                      clear hSw
                      go_simp
                      all_goals with_reducible rfl
                    simp only [Act.put, List.setIfInBounds_toArray, List.set_cons_zero, List.set_cons_succ]
                    refine wpAnyH_done (by kernel_rfl) ?_ _
                    refine NoPanic.normal ?_
                    clear hHeld
                    have BY := hide (CZ2.out.below _ (Nat.le_refl _) (fun _ _ e => e))
                    generalize Z2 = w7 at BY ⊢
                    have BL7 := hide (BL6.out.trans (BY.out.mono BL6.out.size))
                    have SR7 := hide ((BY.out.block _ (block_lt_of_row SR6.out)).trans SR6.out)
                    clear CZ2 BY K6 HR6 SR6 BL6 AR6 CV6 LG6 CD6 LD6 SB6 BW6 H2E H2O GSG
                    have K7 := hide (KS.out.below BL7.out)
                    have ld := load_g SR7.out GL.out.1 GL.out.2
                    have bs := bs58one w7 G GL.out.1 GL.out.2
                    obtain ⟨w8, hw8⟩ : ∃ W, W = w7.alloc (.cells (encG G).toArray 34) := ⟨_, rfl⟩
                    rw [← hw8] at bs
                    have hb8 : Below w7.heap.size w7 w8 := by rw [hw8]; exact (Below.refl _ _).alloc (Nat.le_refl _) _
                    have r8 : w8.heap[w7.heap.size]? = some (.cells (encG G).toArray 34 (0, 0)) := by rw [hw8]; exact heap_alloc_new _ _
                    have K8 := hide (K7.out.below hb8)
                    have AP := hide (Rw.append kdG 58 K8.out.sg (Sce.of_row (c := 1) r8) (fun y hy => by rw [List.mem_singleton.1 hy]; exact encG_length G GL.out.1 GL.out.2) (by have := HSL.out; show L.length + 1 ≤ 100000; omega) K8.out.bw.size)
                    have A8 := hide ((BL7.out.trans (hb8.mono BL7.out.size)).block _ (block_lt_of_row AR.out))
                    clear hw8 hb8 r8
                    obtain ⟨g8, hg8⟩ : ∃ g, g = w7.heap.size := ⟨_, rfl⟩
                    rw [← hg8] at bs AP
                    clear hg8
                    go_upto_region 36 with fail
                    go_upto_region 53 with (first | (with_reducible refine at_op { dst := some 165, op := Op.load 34 (Operand.tmp 16), type := 34, pos := "law.go:135", after := #[], guard := none } ?_; refine wpList_load_as rfl 34 (.tmp 16) rfl (.pointer (some ⟨g16, 0, none⟩)) rfl (.agg (encG G).toArray) ld ?_) | (with_reducible refine at_op { dst := some 166, op := Op.buildSlice 58 1 #[(0, Operand.tmp 165)], type := 58, pos := "law.go:135", after := #[{ on := 1, ground := Ground.data }], guard := none } ?_; refine wpList_buildSlice_as rfl 58 1 [(0, .tmp 165)] rfl [(0, .agg (encG G).toArray)] rfl _ _ bs ?_) | (at_builtin; (refine wpList_append_known rfl (.tmp 164) (.tmp 166) 58 58 rfl _ _ rfl rfl AP.out ?_; rintro v9 w9 ⟨hr9, hc9⟩; obtain ⟨o9, c9, rfl⟩ := Rw.form hr9; obtain ⟨n9, hn9⟩ : ∃ n, n = (L ++ [G]).length := ⟨_, rfl⟩; rw [← hn9] at hr9 ⊢; have HN9 := hide hn9; clear hn9)))
                    have K9 := hide (K8.out.signed G SOK.out hr9 hc9)
                    have A9 := hide (hc9.row (A8.out.trans AR.out) (Rw.apart K8.out.sg (A8.out.trans AR.out) (by decide)))
                    have HN8 := hide (show n9 = sn' + 1 by rw [HN9.out, List.length_append, HSL.out]; rfl)
                    clear hr9 hc9 ld bs AP K8 K7 BL7 SR7 A8
                    obtain ⟨c0, c1, c2, c3'⟩ := a_cells A9.out
                    rw [HN1.out] at c1
                    have cd := K9.out.dw.cell n hn
                    obtain ⟨eo, ec, hev⟩ := K9.out.dw.form n hn
                    rw [hev] at cd
                    have hep := MA.out.eps n hn
                    have hfw := K9.out.dw.few n
                    obtain ⟨m, hm⟩ : ∃ m, m = (D.getD n []).length := ⟨_, rfl⟩
                    rw [← hm] at cd hep hfw
                    have qm : IntKind.i64.wrap ((m : Int) - 1) = (m : Int) - 1 := by rw [IntKind.wrap_i64]; omega
                    have RNG := hide K9.out.ring
                    have HEP := hide hep
                    clear hev hm hep
                    by_cases hm0 : m = 0
                    · have eB : S.epB T (n : Int) = false := by rw [S.epB, HEP.out, hm0]; simp
                      have eN : S.epN T (n : Int) = 0 := by rw [S.epN, eB]; rfl
                      have EB := hide eB
                      have EN := hide eN
                      clear eB eN HEP
                      subst hm0
                      go_wp2_with fail
                      refine (epoch_r (n : Int) w9 RNG.out).mono ?_
                      rintro r _ ⟨rfl, rfl⟩
                      rw [EB.out, EN.out]
                      go_wp2_with fail
                      go_roundg gO
                      case measure => omega
                      case rel => exact ⟨i + 1, o9, n9, c9, T, vs, D, (L ++ [G]), by omega, by first | rfl | simp, rfl, HN9.out, by have := HN8.out; omega, K9, MA⟩
                    · have eB : S.epB T (n : Int) = true := by rw [S.epB, HEP.out, isT_of hn]; simp; omega
                      have eN : S.epN T (n : Int) = (m : Int) - 1 := by rw [S.epN, eB, HEP.out]; rfl
                      have EB := hide eB
                      have EN := hide eN
                      have q5 : (0 : Int) < (m : Int) := by omega
                      clear eB eN HEP
                      go_wp2_with fail
                      refine (epoch_r (n : Int) w9 RNG.out).mono ?_
                      rintro r _ ⟨rfl, rfl⟩
                      rw [EB.out, EN.out]
                      go_wp2_with fail
                      go_roundg gO
                      case measure => omega
                      case rel => exact ⟨i + 1, o9, n9, c9, T, vs, D, (L ++ [G]), by omega, by first | rfl | simp, rfl, HN9.out, by have := HN8.out; omega, K9, MA⟩
            · by_cases hk3 : x.kind = 3
              · as_aux_lemma =>
                  have qk : x.kind = 3 := hk3
                  rw [qk] at c0
                  clear hk1 hk2 hk3 qk
                  go_upto_region 38 with fail
                  clear c0
                  by_cases hz : sn' = 0
                  · as_aux_lemma =>
                      subst hz
                      clear c1 c2 c3'
                      go_wp2_with fail
                      go_roundg gO
                      case measure => omega
                      case rel => exact ⟨i + 1, so', 0, sc', T, vs, D, L, by omega, by first | rfl | simp, rfl, HSL.out, by omega, KS, MA⟩
                  · as_aux_lemma =>
                      have q5 : ¬ (sn' : Int) = 0 := by omega
                      have qs : IntKind.i64.wrap ((sn' : Int) - 1) = (sn' : Int) - 1 := by rw [IntKind.wrap_i64]; omega
                      have u1 := XO.out.u1
                      have u2 := XO.out.u2
                      go_upto_region 39 with fail
                      clear q5
                      go_wp2_with fail
                      refine (within_any x.turn ((sn' : Int) - 1) w1 u1 u2 (by omega) (by omega)).mono ?_
                      rintro r _ ⟨rfl, rfl⟩
                      have hkl := S.within_le x.turn ((sn' : Int) - 1) (by omega)
                      obtain ⟨k, hk⟩ : ∃ k, k = S.within x.turn ((sn' : Int) - 1) := ⟨_, rfl⟩
                      rw [← hk] at hkl ⊢
                      clear hk qs u1 u2
                      have hkL : k < L.length := by have := HSL.out; omega
                      obtain ⟨y, hy⟩ : ∃ y, L[k]? = some y := ⟨_, List.getElem?_eq_getElem hkL⟩
                      obtain ⟨yk, yo, yt⟩ := KS.out.sok y (List.mem_of_getElem? hy)
                      obtain ⟨gs, gcap, hgv, hgs, _, hrg⟩ := Rw.at_ KS.out.sg (fun z hz => encG_length z (KS.out.sok z hz).2.1.r (KS.out.sok z hz).2.2) k y hy
                      have ld := run_loadAt_mid (P := Tryd.prog) w1 gs (k * 68) 34 (encG y) _ hrg Tryd.underlying34 rfl (by rw [size_g _ yo.r yt, List.size_toArray])
                      simp only [Value.slice.injEq] at hgv
                      obtain ⟨hso, -, -⟩ := hgv
                      obtain ⟨A4, w2, ha4, hs4, hr4, hb4, -⟩ := lay_g w1 y yo.r yt
                      obtain ⟨gq, hgq⟩ : ∃ g, g = w1.heap.size := ⟨_, rfl⟩
                      rw [← hgq] at ha4 hs4 hr4
                      have GQ := hide (show w1.heap.size ≤ gq by omega)
                      have BL2 := hide hb4
                      have Q2 := hide hr4
                      have YK := hide yk
                      have YO := hide yo
                      have YT := hide yt
                      have YH := hide yk.holds
                      have qk0 : (0 : Int) ≤ (k : Int) := by omega
                      have qk1 : (k : Int) < (sn' : Int) := by omega
                      have HSO := hide hso
                      clear hr4 hb4 hgq yk yo yt hrg hgs hy hkL hkl hso
                      subst HSO
                      go_upto_region 40 with (first | (with_reducible refine at_op { dst := some 181, op := Op.load 34 (Operand.tmp 180), type := 34, pos := "law.go:140", after := #[{ on := 7, ground := Ground.data }], guard := none } ?_; refine wpList_load_as rfl 34 (.tmp 180) rfl (.pointer (some ⟨gs, k * 68, none⟩)) rfl (.agg (encG y).toArray) ld ?_) | (with_reducible refine at_op { dst := some 18, op := Op.alloc 34, type := 0, pos := "law.go:140", after := #[], guard := none } ?_; refine wpList_alloc_known rfl 34 rfl _ _ ha4 ?_) | (with_reducible refine at_op { dst := none, op := Op.store 34 (Operand.tmp 18) (Operand.tmp 181), type := 0, pos := "law.go:140", after := #[{ on := 9, ground := Ground.data }, { on := 8, ground := Ground.data }, { on := 6, ground := Ground.chain }, { on := 0, ground := Ground.phase }, { on := 1, ground := Ground.phase }, { on := 2, ground := Ground.phase }, { on := 3, ground := Ground.phase }, { on := 4, ground := Ground.phase }, { on := 5, ground := Ground.phase }, { on := 6, ground := Ground.phase }, { on := 7, ground := Ground.phase }, { on := 8, ground := Ground.phase }, { on := 9, ground := Ground.phase }], guard := none } ?_; refine wpList_store_as rfl 34 (.tmp 18) (.tmp 181) rfl (.pointer (some ⟨gq, 0, none⟩)) (.agg (encG y).toArray) rfl rfl w2 hs4 ?_))
                      clear ld ha4 hs4 A4 qk0 qk1 c1 c2 c3'
                      have K2 := hide (KS.out.below BL2.out)
                      have ld := load_g Q2.out YO.out.r YT.out
                      go_wp2_with (with_reducible refine at_op { dst := some 183, op := Op.load 34 (Operand.tmp 18), type := 34, pos := "law.go:141", after := #[], guard := none } ?_; refine wpList_load_as rfl 34 (.tmp 18) rfl (.pointer (some ⟨gq, 0, none⟩)) rfl (.agg (encG y).toArray) ld ?_)
                      refine (holds_r y w2 K2.out.ring YO.out YT.out (HK.out.below K2.out.bw h0)).mono ?_
                      rintro r w3 ⟨rfl, hb3⟩
                      rw [YH.out]
                      have BL3 := hide (BL2.out.trans (hb3.mono BL2.out.size))
                      have Q3 := hide ((hb3.block _ (block_lt_of_row Q2.out)).trans Q2.out)
                      have AR3 := hide ((BL3.out.block _ (block_lt_of_row AR.out)).trans AR.out)
                      clear hb3 ld K2 Q2 BL2
                      obtain ⟨c0, c1, c2, c3'⟩ := a_cells AR3.out
                      obtain ⟨d0, d1, d2, d3⟩ := g_cells Q3.out
                      have KSS := hide (show ks.length ≤ 140737488355000 by have := KSL.out; omega)
                      by_cases e1 : x.turn.tmod 5 = 1
                      · as_aux_lemma =>
                          have f1 := frozen_of_row _ _ 2 _ _ Q3.out
                          have qv : IntKind.u64.wrap ((y.h.size : Int) + 1) = (((y.h.size + 1) % 18446744073709551616 : Nat) : Int) := by rw [IntKind.wrap_u64]; omega
                          go_upto_region 51 with fail
                          clear e1
                          generalize hX : w3.setCell _ _ = w4
                          obtain ⟨y2, hy2⟩ : ∃ y2 : S.Sg, y2 = ⟨⟨y.h.tree, y.h.epoch, (y.h.size + 1) % 18446744073709551616, y.h.clock, y.h.root⟩, y.tag⟩ := ⟨_, rfl⟩
                          have Q4 : Hid (w4.heap[gq]? = some (.cells (encG y2).toArray 34 (0, 0))) := by rw [← hX, hy2]; exact sz_row ((y.h.size + 1) % 18446744073709551616) Q3.out
                          have cX : Chg (fun k => k = gq) w3 w4 := by rw [← hX]; exact (Chg.refl _ _).setCell _ _ _ (fun _ => rfl)
                          have BL4 := hide (BL3.out.trans (cX.below w1.heap.size BL3.out.size (fun k hk e => by have := GQ.out; omega)))
                          have Y2O := hide (show y2.h.Ok by rw [hy2]; exact ⟨YO.out.t1, YO.out.t2, YO.out.e1, YO.out.e2, (show (y.h.size + 1) % 18446744073709551616 < 18446744073709551616 by omega), YO.out.c2, YO.out.r⟩)
                          have Y2T := hide (show y2.tag.length = 32 by rw [hy2]; exact YT.out)
                          have K4 := hide (KS.out.below BL4.out)
                          have BW4 := hide K4.out.bw
                          have SB4 := hide (SB.out.below K4.out.bw (Nat.le_refl _))
                          clear hX cX hy2 Q3 BL3 AR3 c0 c1 c2 c3' d0 d1 d2 d3 f1
                          refine wp_region_noPanic ?_
                          refine wp_region_held_drew (S := (fun W => Chg (fun _ => False) w4 W)) follows ((Chg.refl _ _).drew) (fun hHeld => ?_)
                          clear hHeld
                          have hHeld : Chg (fun _ => False) w4 w4.drew := (Chg.refl _ _).drew
                          have CZ0 := hide hHeld
                          generalize w4.drew = Z0 at CZ0 hHeld ⊢
                          refine wpAnyH_take (i := 0) (oi := { dst := some 221, op := Op.move (Operand.tmp 7), type := 22, pos := "law.go:156", after := #[], guard := none }) (v := ?_) rfl (by kernel_rfl) (by kernel_rfl) (by kernel_rfl) (fun _ _ _ h => h) (Or.inl ⟨by rfl, ?_⟩) (by assumption) ?_
                          rotate_left
                          · intro w hSw
                            clear hSw
                            go_simp
                            all_goals with_reducible rfl
                          simp only [Act.put, List.setIfInBounds_toArray, List.set_cons_zero, List.set_cons_succ]
                          refine wpAnyH_take (i := 1) (oi := { dst := some 222, op := Op.load 34 (Operand.tmp 18), type := 34, pos := "law.go:156", after := #[], guard := none }) (v := .agg (encG y2).toArray) rfl (by kernel_rfl) (by kernel_rfl) (by kernel_rfl) (fun _ _ _ h => h) (yieldsIf_load_mid (by rfl) _ _ rfl gq 0 rfl (encG y2) _ (fun _ hSw => rangeAt_row (hSw.row Q4.out (fun e => e))) Tryd.underlying34 rfl (by rw [size_g _ Y2O.out.r Y2T.out, List.size_toArray])) (by assumption) ?_
                          simp only [Act.put, List.setIfInBounds_toArray, List.set_cons_zero, List.set_cons_succ]
                          refine wpAnyH_take (i := 3) (oi := { dst := some 224, op := Op.move (Operand.tmp 5), type := 42, pos := "law.go:156", after := #[], guard := none }) (v := ?_) rfl (by kernel_rfl) (by kernel_rfl) (by kernel_rfl) (fun _ _ _ h => h) (Or.inl ⟨by rfl, ?_⟩) (by assumption) ?_
                          rotate_left
                          · intro w hSw
                            clear hSw
                            go_simp
                            all_goals with_reducible rfl
                          simp only [Act.put, List.setIfInBounds_toArray, List.set_cons_zero, List.set_cons_succ]
                          refine wpAnyH_take (i := 4) (oi := { dst := some 225, op := Op.move (Operand.tmp 0), type := 41, pos := "law.go:156", after := #[], guard := none }) (v := ?_) rfl (by kernel_rfl) (by kernel_rfl) (by kernel_rfl) (fun _ _ _ h => h) (Or.inl ⟨by rfl, ?_⟩) (by assumption) ?_
                          rotate_left
                          · intro w hSw
                            clear hSw
                            go_simp
                            all_goals with_reducible rfl
                          simp only [Act.put, List.setIfInBounds_toArray, List.set_cons_zero, List.set_cons_succ]
                          refine wpAnyH_take (i := 5) (oi := { dst := some 226, op := Op.slice 57 (Operand.tmp 8) none none none, type := 64, pos := "law.go:156", after := #[], guard := none }) (v := ?_) rfl (by kernel_rfl) (by kernel_rfl) (by kernel_rfl) (fun _ _ _ h => h) (Or.inl ⟨by rfl, ?_⟩) (by assumption) ?_
                          rotate_left
                          · intro w hSw
                            clear hSw
                            go_simp
                            all_goals with_reducible rfl
                          simp only [Act.put, List.setIfInBounds_toArray, List.set_cons_zero, List.set_cons_succ]
                          refine wpAnyH_take (i := 6) (oi := { dst := some 227, op := Op.load 34 (Operand.tmp 18), type := 34, pos := "law.go:156", after := #[], guard := none }) (v := .agg (encG y2).toArray) rfl (by kernel_rfl) (by kernel_rfl) (by kernel_rfl) (fun _ _ _ h => h) (yieldsIf_load_mid (by rfl) _ _ rfl gq 0 rfl (encG y2) _ (fun _ hSw => rangeAt_row (hSw.row Q4.out (fun e => e))) Tryd.underlying34 rfl (by rw [size_g _ Y2O.out.r Y2T.out, List.size_toArray])) (by assumption) ?_
                          simp only [Act.put, List.setIfInBounds_toArray, List.set_cons_zero, List.set_cons_succ]
                          refine wpAnyH_ready (rs := [2]) (by kernel_rfl) (by simp) ?_
                          refine AllReadyH.cons (o := { dst := some 223, op := Op.call { callee := Callee.value (Operand.func 12), args := #[Operand.tmp 221, Operand.tmp 222], argTypes := #[22, 34] }, type := 4, pos := "law.go:156", after := #[{ on := 0, ground := Ground.data }, { on := 1, ground := Ground.data }], guard := none }) rfl (fun K hK => ?_) AllReadyH.nil
                          go_simp
                          refine (holds_r y2 Z0 (K4.out.ring.below (CZ0.out.below _ (Nat.le_refl _) (fun _ _ e => e))) Y2O.out Y2T.out (HK.out.below (BW4.out.trans (CZ0.out.below w.heap.size BW4.out.size (fun k hk e => by omega))) h0)).mono ?_
                          rintro e Z1 ⟨rfl, hb2⟩
                          obtain ⟨b, hb⟩ : ∃ b, b = S.rholds T y2 := ⟨_, rfl⟩
                          rw [← hb]
                          have EB := hide hb
                          clear hb
                          have CZ1 : Hid (Chg (fun _ => False) w4 Z1) := CZ0.out.then hb2
                          clear hb2 CZ0
                          clear hHeld
                          refine hK.out _ _ CZ1.out (fun hHeld => ?_)
                          clear hK K
                          try simp only [Act.put, List.setIfInBounds_toArray, List.set_cons_zero, List.set_cons_succ]
                          refine wpAnyH_ready (rs := [7]) (by kernel_rfl) (by simp) ?_
                          refine AllReadyH.cons (o := { dst := some 228, op := Op.call { callee := Callee.value (Operand.func 28), args := #[Operand.tmp 224, Operand.tmp 225, Operand.tmp 226, Operand.tmp 227], argTypes := #[42, 41, 64, 34] }, type := 4, pos := "law.go:156", after := #[{ on := 3, ground := Ground.data }, { on := 4, ground := Ground.data }, { on := 5, ground := Ground.data }, { on := 6, ground := Ground.data }, { on := 2, ground := Ground.chain }], guard := none }) rfl (fun K hK => ?_) AllReadyH.nil
                          go_simp
                          refine (lholds_any gT gd (.slice a l c) ks T vs D y2 Z1 (CZ1.out.row K4.out.tab (fun e => e)) (SB4.out.below (CZ1.out.below _ (Nat.le_refl _) (fun _ _ e => e)) (Nat.le_refl _)) KSS.out (K4.out.below (CZ1.out.below _ (Nat.le_refl _) (fun _ _ e => e))).dw MA.out Y2O.out Y2T.out).mono ?_
                          rintro e Z2 ⟨rfl, hb2⟩
                          rw [← EB.out]
                          have CZ2 : Hid (Chg (fun _ => False) w4 Z2) := CZ1.out.then hb2
                          clear hb2 CZ1
                          clear hHeld
                          refine hK.out _ _ CZ2.out (fun hHeld => ?_)
                          clear hK K
                          try simp only [Act.put, List.setIfInBounds_toArray, List.set_cons_zero, List.set_cons_succ]
                          refine wpAnyH_take (i := 8) (oi := { dst := some 229, op := Op.binOp BinOp.neq 4 (Operand.tmp 223) (Operand.tmp 228) 4, type := 4, pos := "law.go:156", after := #[{ on := 2, ground := Ground.data }, { on := 7, ground := Ground.data }], guard := none }) (v := ?_) rfl (by kernel_rfl) (by kernel_rfl) (by kernel_rfl) (fun _ _ _ h => h) (Or.inl ⟨by rfl, ?_⟩) (by assumption) ?_
                          rotate_left
                          · intro w hSw
                            clear hSw
                            go_simp
                            all_goals with_reducible rfl
                          simp only [Act.put, List.setIfInBounds_toArray, List.set_cons_zero, List.set_cons_succ]
                          refine wpAnyH_done (by kernel_rfl) ?_ _
                          refine NoPanic.normal ?_
                          clear hHeld
                          have BY := hide (CZ2.out.below _ (Nat.le_refl _) (fun _ _ e => e))
                          generalize Z2 = w5 at BY ⊢
                          have BL5 := hide (BL4.out.trans (BY.out.mono BL4.out.size))
                          clear CZ2 BY K4 BW4 SB4 Q4 BL4 EB
                          have K5 := hide (KS.out.below BL5.out)
                          have A5 := hide ((BL5.out.block _ (block_lt_of_row AR.out)).trans AR.out)
                          go_upto_region 53 with fail
                          obtain ⟨c0, c1, c2, c3'⟩ := a_cells A5.out
                          rw [HN1.out] at c1
                          have cd := K5.out.dw.cell n hn
                          obtain ⟨eo, ec, hev⟩ := K5.out.dw.form n hn
                          rw [hev] at cd
                          have hep := MA.out.eps n hn
                          have hfw := K5.out.dw.few n
                          obtain ⟨m, hm⟩ : ∃ m, m = (D.getD n []).length := ⟨_, rfl⟩
                          rw [← hm] at cd hep hfw
                          have qm : IntKind.i64.wrap ((m : Int) - 1) = (m : Int) - 1 := by rw [IntKind.wrap_i64]; omega
                          have RNG := hide K5.out.ring
                          have HEP := hide hep
                          clear hev hm hep
                          by_cases hm0 : m = 0
                          · have eB : S.epB T (n : Int) = false := by rw [S.epB, HEP.out, hm0]; simp
                            have eN : S.epN T (n : Int) = 0 := by rw [S.epN, eB]; rfl
                            have EB := hide eB
                            have EN := hide eN
                            clear eB eN HEP
                            subst hm0
                            go_wp2_with fail
                            refine (epoch_r (n : Int) w5 RNG.out).mono ?_
                            rintro r _ ⟨rfl, rfl⟩
                            rw [EB.out, EN.out]
                            go_wp2_with fail
                            go_roundg gO
                            case measure => omega
                            case rel => exact ⟨i + 1, (some ⟨gs, 0, none⟩), sn', sc', T, vs, D, L, by omega, by first | rfl | simp, rfl, HSL.out, by omega, K5, MA⟩
                          · have eB : S.epB T (n : Int) = true := by rw [S.epB, HEP.out, isT_of hn]; simp; omega
                            have eN : S.epN T (n : Int) = (m : Int) - 1 := by rw [S.epN, eB, HEP.out]; rfl
                            have EB := hide eB
                            have EN := hide eN
                            have q5 : (0 : Int) < (m : Int) := by omega
                            clear eB eN HEP
                            go_wp2_with fail
                            refine (epoch_r (n : Int) w5 RNG.out).mono ?_
                            rintro r _ ⟨rfl, rfl⟩
                            rw [EB.out, EN.out]
                            go_wp2_with fail
                            go_roundg gO
                            case measure => omega
                            case rel => exact ⟨i + 1, (some ⟨gs, 0, none⟩), sn', sc', T, vs, D, L, by omega, by first | rfl | simp, rfl, HSL.out, by omega, K5, MA⟩
                      · by_cases e2 : x.turn.tmod 5 = 2
                        · as_aux_lemma =>
                            have f1 := frozen_of_row _ _ 39 _ _ Q3.out
                            have ct := tg_cell YO.out.r YT.out Q3.out
                            obtain ⟨tb, htb⟩ : ∃ b, b = y.tag.getD 3 0 := ⟨_, rfl⟩
                            rw [← htb] at ct
                            have qx : bits .xor .u8 (tb.toNat : Int) 1 = ((tb ^^^ 1).toNat : Int) := u8_xor_cast tb 1
                            clear htb
                            go_upto_region 51 with fail
                            clear e2
                            generalize hX : w3.setCell _ _ = w4
                            obtain ⟨y2, hy2⟩ : ∃ y2 : S.Sg, y2 = ⟨y.h, y.tag.set 3 (tb ^^^ 1)⟩ := ⟨_, rfl⟩
                            have Q4 : Hid (w4.heap[gq]? = some (.cells (encG y2).toArray 34 (0, 0))) := by rw [← hX, hy2]; exact tg_row (tb ^^^ 1) YO.out.r Q3.out
                            have cX : Chg (fun k => k = gq) w3 w4 := by rw [← hX]; exact (Chg.refl _ _).setCell _ _ _ (fun _ => rfl)
                            have BL4 := hide (BL3.out.trans (cX.below w1.heap.size BL3.out.size (fun k hk e => by have := GQ.out; omega)))
                            have Y2O := hide (show y2.h.Ok by rw [hy2]; exact YO.out)
                            have Y2T := hide (show y2.tag.length = 32 by rw [hy2]; rw [List.length_set]; exact YT.out)
                            have K4 := hide (KS.out.below BL4.out)
                            have BW4 := hide K4.out.bw
                            have SB4 := hide (SB.out.below K4.out.bw (Nat.le_refl _))
                            clear hX cX hy2 Q3 BL3 AR3 c0 c1 c2 c3' d0 d1 d2 d3 f1
                            refine wp_region_noPanic ?_
                            refine wp_region_held_drew (S := (fun W => Chg (fun _ => False) w4 W)) follows ((Chg.refl _ _).drew) (fun hHeld => ?_)
                            clear hHeld
                            have hHeld : Chg (fun _ => False) w4 w4.drew := (Chg.refl _ _).drew
                            have CZ0 := hide hHeld
                            generalize w4.drew = Z0 at CZ0 hHeld ⊢
                            refine wpAnyH_take (i := 0) (oi := { dst := some 221, op := Op.move (Operand.tmp 7), type := 22, pos := "law.go:156", after := #[], guard := none }) (v := ?_) rfl (by kernel_rfl) (by kernel_rfl) (by kernel_rfl) (fun _ _ _ h => h) (Or.inl ⟨by rfl, ?_⟩) (by assumption) ?_
                            rotate_left
                            · intro w hSw
                              clear hSw
                              go_simp
                              all_goals with_reducible rfl
                            simp only [Act.put, List.setIfInBounds_toArray, List.set_cons_zero, List.set_cons_succ]
                            refine wpAnyH_take (i := 1) (oi := { dst := some 222, op := Op.load 34 (Operand.tmp 18), type := 34, pos := "law.go:156", after := #[], guard := none }) (v := .agg (encG y2).toArray) rfl (by kernel_rfl) (by kernel_rfl) (by kernel_rfl) (fun _ _ _ h => h) (yieldsIf_load_mid (by rfl) _ _ rfl gq 0 rfl (encG y2) _ (fun _ hSw => rangeAt_row (hSw.row Q4.out (fun e => e))) Tryd.underlying34 rfl (by rw [size_g _ Y2O.out.r Y2T.out, List.size_toArray])) (by assumption) ?_
                            simp only [Act.put, List.setIfInBounds_toArray, List.set_cons_zero, List.set_cons_succ]
                            refine wpAnyH_take (i := 3) (oi := { dst := some 224, op := Op.move (Operand.tmp 5), type := 42, pos := "law.go:156", after := #[], guard := none }) (v := ?_) rfl (by kernel_rfl) (by kernel_rfl) (by kernel_rfl) (fun _ _ _ h => h) (Or.inl ⟨by rfl, ?_⟩) (by assumption) ?_
                            rotate_left
                            · intro w hSw
                              clear hSw
                              go_simp
                              all_goals with_reducible rfl
                            simp only [Act.put, List.setIfInBounds_toArray, List.set_cons_zero, List.set_cons_succ]
                            refine wpAnyH_take (i := 4) (oi := { dst := some 225, op := Op.move (Operand.tmp 0), type := 41, pos := "law.go:156", after := #[], guard := none }) (v := ?_) rfl (by kernel_rfl) (by kernel_rfl) (by kernel_rfl) (fun _ _ _ h => h) (Or.inl ⟨by rfl, ?_⟩) (by assumption) ?_
                            rotate_left
                            · intro w hSw
                              clear hSw
                              go_simp
                              all_goals with_reducible rfl
                            simp only [Act.put, List.setIfInBounds_toArray, List.set_cons_zero, List.set_cons_succ]
                            refine wpAnyH_take (i := 5) (oi := { dst := some 226, op := Op.slice 57 (Operand.tmp 8) none none none, type := 64, pos := "law.go:156", after := #[], guard := none }) (v := ?_) rfl (by kernel_rfl) (by kernel_rfl) (by kernel_rfl) (fun _ _ _ h => h) (Or.inl ⟨by rfl, ?_⟩) (by assumption) ?_
                            rotate_left
                            · intro w hSw
                              clear hSw
                              go_simp
                              all_goals with_reducible rfl
                            simp only [Act.put, List.setIfInBounds_toArray, List.set_cons_zero, List.set_cons_succ]
                            refine wpAnyH_take (i := 6) (oi := { dst := some 227, op := Op.load 34 (Operand.tmp 18), type := 34, pos := "law.go:156", after := #[], guard := none }) (v := .agg (encG y2).toArray) rfl (by kernel_rfl) (by kernel_rfl) (by kernel_rfl) (fun _ _ _ h => h) (yieldsIf_load_mid (by rfl) _ _ rfl gq 0 rfl (encG y2) _ (fun _ hSw => rangeAt_row (hSw.row Q4.out (fun e => e))) Tryd.underlying34 rfl (by rw [size_g _ Y2O.out.r Y2T.out, List.size_toArray])) (by assumption) ?_
                            simp only [Act.put, List.setIfInBounds_toArray, List.set_cons_zero, List.set_cons_succ]
                            refine wpAnyH_ready (rs := [2]) (by kernel_rfl) (by simp) ?_
                            refine AllReadyH.cons (o := { dst := some 223, op := Op.call { callee := Callee.value (Operand.func 12), args := #[Operand.tmp 221, Operand.tmp 222], argTypes := #[22, 34] }, type := 4, pos := "law.go:156", after := #[{ on := 0, ground := Ground.data }, { on := 1, ground := Ground.data }], guard := none }) rfl (fun K hK => ?_) AllReadyH.nil
                            go_simp
                            refine (holds_r y2 Z0 (K4.out.ring.below (CZ0.out.below _ (Nat.le_refl _) (fun _ _ e => e))) Y2O.out Y2T.out (HK.out.below (BW4.out.trans (CZ0.out.below w.heap.size BW4.out.size (fun k hk e => by omega))) h0)).mono ?_
                            rintro e Z1 ⟨rfl, hb2⟩
                            obtain ⟨b, hb⟩ : ∃ b, b = S.rholds T y2 := ⟨_, rfl⟩
                            rw [← hb]
                            have EB := hide hb
                            clear hb
                            have CZ1 : Hid (Chg (fun _ => False) w4 Z1) := CZ0.out.then hb2
                            clear hb2 CZ0
                            clear hHeld
                            refine hK.out _ _ CZ1.out (fun hHeld => ?_)
                            clear hK K
                            try simp only [Act.put, List.setIfInBounds_toArray, List.set_cons_zero, List.set_cons_succ]
                            refine wpAnyH_ready (rs := [7]) (by kernel_rfl) (by simp) ?_
                            refine AllReadyH.cons (o := { dst := some 228, op := Op.call { callee := Callee.value (Operand.func 28), args := #[Operand.tmp 224, Operand.tmp 225, Operand.tmp 226, Operand.tmp 227], argTypes := #[42, 41, 64, 34] }, type := 4, pos := "law.go:156", after := #[{ on := 3, ground := Ground.data }, { on := 4, ground := Ground.data }, { on := 5, ground := Ground.data }, { on := 6, ground := Ground.data }, { on := 2, ground := Ground.chain }], guard := none }) rfl (fun K hK => ?_) AllReadyH.nil
                            go_simp
                            refine (lholds_any gT gd (.slice a l c) ks T vs D y2 Z1 (CZ1.out.row K4.out.tab (fun e => e)) (SB4.out.below (CZ1.out.below _ (Nat.le_refl _) (fun _ _ e => e)) (Nat.le_refl _)) KSS.out (K4.out.below (CZ1.out.below _ (Nat.le_refl _) (fun _ _ e => e))).dw MA.out Y2O.out Y2T.out).mono ?_
                            rintro e Z2 ⟨rfl, hb2⟩
                            rw [← EB.out]
                            have CZ2 : Hid (Chg (fun _ => False) w4 Z2) := CZ1.out.then hb2
                            clear hb2 CZ1
                            clear hHeld
                            refine hK.out _ _ CZ2.out (fun hHeld => ?_)
                            clear hK K
                            try simp only [Act.put, List.setIfInBounds_toArray, List.set_cons_zero, List.set_cons_succ]
                            refine wpAnyH_take (i := 8) (oi := { dst := some 229, op := Op.binOp BinOp.neq 4 (Operand.tmp 223) (Operand.tmp 228) 4, type := 4, pos := "law.go:156", after := #[{ on := 2, ground := Ground.data }, { on := 7, ground := Ground.data }], guard := none }) (v := ?_) rfl (by kernel_rfl) (by kernel_rfl) (by kernel_rfl) (fun _ _ _ h => h) (Or.inl ⟨by rfl, ?_⟩) (by assumption) ?_
                            rotate_left
                            · intro w hSw
                              clear hSw
                              go_simp
                              all_goals with_reducible rfl
                            simp only [Act.put, List.setIfInBounds_toArray, List.set_cons_zero, List.set_cons_succ]
                            refine wpAnyH_done (by kernel_rfl) ?_ _
                            refine NoPanic.normal ?_
                            clear hHeld
                            have BY := hide (CZ2.out.below _ (Nat.le_refl _) (fun _ _ e => e))
                            generalize Z2 = w5 at BY ⊢
                            have BL5 := hide (BL4.out.trans (BY.out.mono BL4.out.size))
                            clear CZ2 BY K4 BW4 SB4 Q4 BL4 EB
                            have K5 := hide (KS.out.below BL5.out)
                            have A5 := hide ((BL5.out.block _ (block_lt_of_row AR.out)).trans AR.out)
                            go_upto_region 53 with fail
                            obtain ⟨c0, c1, c2, c3'⟩ := a_cells A5.out
                            rw [HN1.out] at c1
                            have cd := K5.out.dw.cell n hn
                            obtain ⟨eo, ec, hev⟩ := K5.out.dw.form n hn
                            rw [hev] at cd
                            have hep := MA.out.eps n hn
                            have hfw := K5.out.dw.few n
                            obtain ⟨m, hm⟩ : ∃ m, m = (D.getD n []).length := ⟨_, rfl⟩
                            rw [← hm] at cd hep hfw
                            have qm : IntKind.i64.wrap ((m : Int) - 1) = (m : Int) - 1 := by rw [IntKind.wrap_i64]; omega
                            have RNG := hide K5.out.ring
                            have HEP := hide hep
                            clear hev hm hep
                            by_cases hm0 : m = 0
                            · have eB : S.epB T (n : Int) = false := by rw [S.epB, HEP.out, hm0]; simp
                              have eN : S.epN T (n : Int) = 0 := by rw [S.epN, eB]; rfl
                              have EB := hide eB
                              have EN := hide eN
                              clear eB eN HEP
                              subst hm0
                              go_wp2_with fail
                              refine (epoch_r (n : Int) w5 RNG.out).mono ?_
                              rintro r _ ⟨rfl, rfl⟩
                              rw [EB.out, EN.out]
                              go_wp2_with fail
                              go_roundg gO
                              case measure => omega
                              case rel => exact ⟨i + 1, (some ⟨gs, 0, none⟩), sn', sc', T, vs, D, L, by omega, by first | rfl | simp, rfl, HSL.out, by omega, K5, MA⟩
                            · have eB : S.epB T (n : Int) = true := by rw [S.epB, HEP.out, isT_of hn]; simp; omega
                              have eN : S.epN T (n : Int) = (m : Int) - 1 := by rw [S.epN, eB, HEP.out]; rfl
                              have EB := hide eB
                              have EN := hide eN
                              have q5 : (0 : Int) < (m : Int) := by omega
                              clear eB eN HEP
                              go_wp2_with fail
                              refine (epoch_r (n : Int) w5 RNG.out).mono ?_
                              rintro r _ ⟨rfl, rfl⟩
                              rw [EB.out, EN.out]
                              go_wp2_with fail
                              go_roundg gO
                              case measure => omega
                              case rel => exact ⟨i + 1, (some ⟨gs, 0, none⟩), sn', sc', T, vs, D, L, by omega, by first | rfl | simp, rfl, HSL.out, by omega, K5, MA⟩
                        · by_cases e3 : x.turn.tmod 5 = 3
                          · as_aux_lemma =>
                              have f1 := frozen_of_row _ _ 1 _ _ Q3.out
                              obtain ⟨n', hn', hn16⟩ := S.isT_nat YK.out.tr
                              have he1 := YK.out.e1
                              rw [hn', MA.out.eps n' hn16] at he1
                              have he2 := KS.out.dw.few n'
                              have he0 := YK.out.e0
                              have qv : IntKind.i64.wrap (y.h.epoch + 1) = y.h.epoch + 1 := by rw [IntKind.wrap_i64]; omega
                              have QE := hide (show -9223372036854775808 ≤ y.h.epoch + 1 ∧ y.h.epoch + 1 ≤ 9223372036854775807 by omega)
                              clear hn' hn16 he1 he2 he0
                              go_upto_region 51 with fail
                              clear e3
                              generalize hX : w3.setCell _ _ = w4
                              obtain ⟨y2, hy2⟩ : ∃ y2 : S.Sg, y2 = ⟨⟨y.h.tree, y.h.epoch + 1, y.h.size, y.h.clock, y.h.root⟩, y.tag⟩ := ⟨_, rfl⟩
                              have Q4 : Hid (w4.heap[gq]? = some (.cells (encG y2).toArray 34 (0, 0))) := by rw [← hX, hy2]; exact eg_row (y.h.epoch + 1) Q3.out
                              have cX : Chg (fun k => k = gq) w3 w4 := by rw [← hX]; exact (Chg.refl _ _).setCell _ _ _ (fun _ => rfl)
                              have BL4 := hide (BL3.out.trans (cX.below w1.heap.size BL3.out.size (fun k hk e => by have := GQ.out; omega)))
                              have Y2O := hide (show y2.h.Ok by rw [hy2]; exact ⟨YO.out.t1, YO.out.t2, QE.out.1, QE.out.2, YO.out.s2, YO.out.c2, YO.out.r⟩)
                              have Y2T := hide (show y2.tag.length = 32 by rw [hy2]; exact YT.out)
                              have K4 := hide (KS.out.below BL4.out)
                              have BW4 := hide K4.out.bw
                              have SB4 := hide (SB.out.below K4.out.bw (Nat.le_refl _))
                              clear hX cX hy2 Q3 BL3 AR3 c0 c1 c2 c3' d0 d1 d2 d3 f1
                              refine wp_region_noPanic ?_
                              refine wp_region_held_drew (S := (fun W => Chg (fun _ => False) w4 W)) follows ((Chg.refl _ _).drew) (fun hHeld => ?_)
                              clear hHeld
                              have hHeld : Chg (fun _ => False) w4 w4.drew := (Chg.refl _ _).drew
                              have CZ0 := hide hHeld
                              generalize w4.drew = Z0 at CZ0 hHeld ⊢
                              refine wpAnyH_take (i := 0) (oi := { dst := some 221, op := Op.move (Operand.tmp 7), type := 22, pos := "law.go:156", after := #[], guard := none }) (v := ?_) rfl (by kernel_rfl) (by kernel_rfl) (by kernel_rfl) (fun _ _ _ h => h) (Or.inl ⟨by rfl, ?_⟩) (by assumption) ?_
                              rotate_left
                              · intro w hSw
                                clear hSw
                                go_simp
                                all_goals with_reducible rfl
                              simp only [Act.put, List.setIfInBounds_toArray, List.set_cons_zero, List.set_cons_succ]
                              refine wpAnyH_take (i := 1) (oi := { dst := some 222, op := Op.load 34 (Operand.tmp 18), type := 34, pos := "law.go:156", after := #[], guard := none }) (v := .agg (encG y2).toArray) rfl (by kernel_rfl) (by kernel_rfl) (by kernel_rfl) (fun _ _ _ h => h) (yieldsIf_load_mid (by rfl) _ _ rfl gq 0 rfl (encG y2) _ (fun _ hSw => rangeAt_row (hSw.row Q4.out (fun e => e))) Tryd.underlying34 rfl (by rw [size_g _ Y2O.out.r Y2T.out, List.size_toArray])) (by assumption) ?_
                              simp only [Act.put, List.setIfInBounds_toArray, List.set_cons_zero, List.set_cons_succ]
                              refine wpAnyH_take (i := 3) (oi := { dst := some 224, op := Op.move (Operand.tmp 5), type := 42, pos := "law.go:156", after := #[], guard := none }) (v := ?_) rfl (by kernel_rfl) (by kernel_rfl) (by kernel_rfl) (fun _ _ _ h => h) (Or.inl ⟨by rfl, ?_⟩) (by assumption) ?_
                              rotate_left
                              · intro w hSw
                                clear hSw
                                go_simp
                                all_goals with_reducible rfl
                              simp only [Act.put, List.setIfInBounds_toArray, List.set_cons_zero, List.set_cons_succ]
                              refine wpAnyH_take (i := 4) (oi := { dst := some 225, op := Op.move (Operand.tmp 0), type := 41, pos := "law.go:156", after := #[], guard := none }) (v := ?_) rfl (by kernel_rfl) (by kernel_rfl) (by kernel_rfl) (fun _ _ _ h => h) (Or.inl ⟨by rfl, ?_⟩) (by assumption) ?_
                              rotate_left
                              · intro w hSw
                                clear hSw
                                go_simp
                                all_goals with_reducible rfl
                              simp only [Act.put, List.setIfInBounds_toArray, List.set_cons_zero, List.set_cons_succ]
                              refine wpAnyH_take (i := 5) (oi := { dst := some 226, op := Op.slice 57 (Operand.tmp 8) none none none, type := 64, pos := "law.go:156", after := #[], guard := none }) (v := ?_) rfl (by kernel_rfl) (by kernel_rfl) (by kernel_rfl) (fun _ _ _ h => h) (Or.inl ⟨by rfl, ?_⟩) (by assumption) ?_
                              rotate_left
                              · intro w hSw
                                clear hSw
                                go_simp
                                all_goals with_reducible rfl
                              simp only [Act.put, List.setIfInBounds_toArray, List.set_cons_zero, List.set_cons_succ]
                              refine wpAnyH_take (i := 6) (oi := { dst := some 227, op := Op.load 34 (Operand.tmp 18), type := 34, pos := "law.go:156", after := #[], guard := none }) (v := .agg (encG y2).toArray) rfl (by kernel_rfl) (by kernel_rfl) (by kernel_rfl) (fun _ _ _ h => h) (yieldsIf_load_mid (by rfl) _ _ rfl gq 0 rfl (encG y2) _ (fun _ hSw => rangeAt_row (hSw.row Q4.out (fun e => e))) Tryd.underlying34 rfl (by rw [size_g _ Y2O.out.r Y2T.out, List.size_toArray])) (by assumption) ?_
                              simp only [Act.put, List.setIfInBounds_toArray, List.set_cons_zero, List.set_cons_succ]
                              refine wpAnyH_ready (rs := [2]) (by kernel_rfl) (by simp) ?_
                              refine AllReadyH.cons (o := { dst := some 223, op := Op.call { callee := Callee.value (Operand.func 12), args := #[Operand.tmp 221, Operand.tmp 222], argTypes := #[22, 34] }, type := 4, pos := "law.go:156", after := #[{ on := 0, ground := Ground.data }, { on := 1, ground := Ground.data }], guard := none }) rfl (fun K hK => ?_) AllReadyH.nil
                              go_simp
                              refine (holds_r y2 Z0 (K4.out.ring.below (CZ0.out.below _ (Nat.le_refl _) (fun _ _ e => e))) Y2O.out Y2T.out (HK.out.below (BW4.out.trans (CZ0.out.below w.heap.size BW4.out.size (fun k hk e => by omega))) h0)).mono ?_
                              rintro e Z1 ⟨rfl, hb2⟩
                              obtain ⟨b, hb⟩ : ∃ b, b = S.rholds T y2 := ⟨_, rfl⟩
                              rw [← hb]
                              have EB := hide hb
                              clear hb
                              have CZ1 : Hid (Chg (fun _ => False) w4 Z1) := CZ0.out.then hb2
                              clear hb2 CZ0
                              clear hHeld
                              refine hK.out _ _ CZ1.out (fun hHeld => ?_)
                              clear hK K
                              try simp only [Act.put, List.setIfInBounds_toArray, List.set_cons_zero, List.set_cons_succ]
                              refine wpAnyH_ready (rs := [7]) (by kernel_rfl) (by simp) ?_
                              refine AllReadyH.cons (o := { dst := some 228, op := Op.call { callee := Callee.value (Operand.func 28), args := #[Operand.tmp 224, Operand.tmp 225, Operand.tmp 226, Operand.tmp 227], argTypes := #[42, 41, 64, 34] }, type := 4, pos := "law.go:156", after := #[{ on := 3, ground := Ground.data }, { on := 4, ground := Ground.data }, { on := 5, ground := Ground.data }, { on := 6, ground := Ground.data }, { on := 2, ground := Ground.chain }], guard := none }) rfl (fun K hK => ?_) AllReadyH.nil
                              go_simp
                              refine (lholds_any gT gd (.slice a l c) ks T vs D y2 Z1 (CZ1.out.row K4.out.tab (fun e => e)) (SB4.out.below (CZ1.out.below _ (Nat.le_refl _) (fun _ _ e => e)) (Nat.le_refl _)) KSS.out (K4.out.below (CZ1.out.below _ (Nat.le_refl _) (fun _ _ e => e))).dw MA.out Y2O.out Y2T.out).mono ?_
                              rintro e Z2 ⟨rfl, hb2⟩
                              rw [← EB.out]
                              have CZ2 : Hid (Chg (fun _ => False) w4 Z2) := CZ1.out.then hb2
                              clear hb2 CZ1
                              clear hHeld
                              refine hK.out _ _ CZ2.out (fun hHeld => ?_)
                              clear hK K
                              try simp only [Act.put, List.setIfInBounds_toArray, List.set_cons_zero, List.set_cons_succ]
                              refine wpAnyH_take (i := 8) (oi := { dst := some 229, op := Op.binOp BinOp.neq 4 (Operand.tmp 223) (Operand.tmp 228) 4, type := 4, pos := "law.go:156", after := #[{ on := 2, ground := Ground.data }, { on := 7, ground := Ground.data }], guard := none }) (v := ?_) rfl (by kernel_rfl) (by kernel_rfl) (by kernel_rfl) (fun _ _ _ h => h) (Or.inl ⟨by rfl, ?_⟩) (by assumption) ?_
                              rotate_left
                              · intro w hSw
                                clear hSw
                                go_simp
                                all_goals with_reducible rfl
                              simp only [Act.put, List.setIfInBounds_toArray, List.set_cons_zero, List.set_cons_succ]
                              refine wpAnyH_done (by kernel_rfl) ?_ _
                              refine NoPanic.normal ?_
                              clear hHeld
                              have BY := hide (CZ2.out.below _ (Nat.le_refl _) (fun _ _ e => e))
                              generalize Z2 = w5 at BY ⊢
                              have BL5 := hide (BL4.out.trans (BY.out.mono BL4.out.size))
                              clear CZ2 BY K4 BW4 SB4 Q4 BL4 EB
                              have K5 := hide (KS.out.below BL5.out)
                              have A5 := hide ((BL5.out.block _ (block_lt_of_row AR.out)).trans AR.out)
                              go_upto_region 53 with fail
                              obtain ⟨c0, c1, c2, c3'⟩ := a_cells A5.out
                              rw [HN1.out] at c1
                              have cd := K5.out.dw.cell n hn
                              obtain ⟨eo, ec, hev⟩ := K5.out.dw.form n hn
                              rw [hev] at cd
                              have hep := MA.out.eps n hn
                              have hfw := K5.out.dw.few n
                              obtain ⟨m, hm⟩ : ∃ m, m = (D.getD n []).length := ⟨_, rfl⟩
                              rw [← hm] at cd hep hfw
                              have qm : IntKind.i64.wrap ((m : Int) - 1) = (m : Int) - 1 := by rw [IntKind.wrap_i64]; omega
                              have RNG := hide K5.out.ring
                              have HEP := hide hep
                              clear hev hm hep
                              by_cases hm0 : m = 0
                              · have eB : S.epB T (n : Int) = false := by rw [S.epB, HEP.out, hm0]; simp
                                have eN : S.epN T (n : Int) = 0 := by rw [S.epN, eB]; rfl
                                have EB := hide eB
                                have EN := hide eN
                                clear eB eN HEP
                                subst hm0
                                go_wp2_with fail
                                refine (epoch_r (n : Int) w5 RNG.out).mono ?_
                                rintro r _ ⟨rfl, rfl⟩
                                rw [EB.out, EN.out]
                                go_wp2_with fail
                                go_roundg gO
                                case measure => omega
                                case rel => exact ⟨i + 1, (some ⟨gs, 0, none⟩), sn', sc', T, vs, D, L, by omega, by first | rfl | simp, rfl, HSL.out, by omega, K5, MA⟩
                              · have eB : S.epB T (n : Int) = true := by rw [S.epB, HEP.out, isT_of hn]; simp; omega
                                have eN : S.epN T (n : Int) = (m : Int) - 1 := by rw [S.epN, eB, HEP.out]; rfl
                                have EB := hide eB
                                have EN := hide eN
                                have q5 : (0 : Int) < (m : Int) := by omega
                                clear eB eN HEP
                                go_wp2_with fail
                                refine (epoch_r (n : Int) w5 RNG.out).mono ?_
                                rintro r _ ⟨rfl, rfl⟩
                                rw [EB.out, EN.out]
                                go_wp2_with fail
                                go_roundg gO
                                case measure => omega
                                case rel => exact ⟨i + 1, (some ⟨gs, 0, none⟩), sn', sc', T, vs, D, L, by omega, by first | rfl | simp, rfl, HSL.out, by omega, K5, MA⟩
                          · by_cases e4 : x.turn.tmod 5 = 4
                            · as_aux_lemma =>
                                have f1 := frozen_of_row _ _ 3 _ _ Q3.out
                                have qv : IntKind.u64.wrap ((y.h.clock : Int) + 1) = (((y.h.clock + 1) % 18446744073709551616 : Nat) : Int) := by rw [IntKind.wrap_u64]; omega
                                go_upto_region 51 with fail
                                clear e4
                                generalize hX : w3.setCell _ _ = w4
                                obtain ⟨y2, hy2⟩ : ∃ y2 : S.Sg, y2 = ⟨⟨y.h.tree, y.h.epoch, y.h.size, (y.h.clock + 1) % 18446744073709551616, y.h.root⟩, y.tag⟩ := ⟨_, rfl⟩
                                have Q4 : Hid (w4.heap[gq]? = some (.cells (encG y2).toArray 34 (0, 0))) := by rw [← hX, hy2]; exact ck_row ((y.h.clock + 1) % 18446744073709551616) Q3.out
                                have cX : Chg (fun k => k = gq) w3 w4 := by rw [← hX]; exact (Chg.refl _ _).setCell _ _ _ (fun _ => rfl)
                                have BL4 := hide (BL3.out.trans (cX.below w1.heap.size BL3.out.size (fun k hk e => by have := GQ.out; omega)))
                                have Y2O := hide (show y2.h.Ok by rw [hy2]; exact ⟨YO.out.t1, YO.out.t2, YO.out.e1, YO.out.e2, YO.out.s2, (show (y.h.clock + 1) % 18446744073709551616 < 18446744073709551616 by omega), YO.out.r⟩)
                                have Y2T := hide (show y2.tag.length = 32 by rw [hy2]; exact YT.out)
                                have K4 := hide (KS.out.below BL4.out)
                                have BW4 := hide K4.out.bw
                                have SB4 := hide (SB.out.below K4.out.bw (Nat.le_refl _))
                                clear hX cX hy2 Q3 BL3 AR3 c0 c1 c2 c3' d0 d1 d2 d3 f1
                                refine wp_region_noPanic ?_
                                refine wp_region_held_drew (S := (fun W => Chg (fun _ => False) w4 W)) follows ((Chg.refl _ _).drew) (fun hHeld => ?_)
                                clear hHeld
                                have hHeld : Chg (fun _ => False) w4 w4.drew := (Chg.refl _ _).drew
                                have CZ0 := hide hHeld
                                generalize w4.drew = Z0 at CZ0 hHeld ⊢
                                refine wpAnyH_take (i := 0) (oi := { dst := some 221, op := Op.move (Operand.tmp 7), type := 22, pos := "law.go:156", after := #[], guard := none }) (v := ?_) rfl (by kernel_rfl) (by kernel_rfl) (by kernel_rfl) (fun _ _ _ h => h) (Or.inl ⟨by rfl, ?_⟩) (by assumption) ?_
                                rotate_left
                                · intro w hSw
                                  clear hSw
                                  go_simp
                                  all_goals with_reducible rfl
                                simp only [Act.put, List.setIfInBounds_toArray, List.set_cons_zero, List.set_cons_succ]
                                refine wpAnyH_take (i := 1) (oi := { dst := some 222, op := Op.load 34 (Operand.tmp 18), type := 34, pos := "law.go:156", after := #[], guard := none }) (v := .agg (encG y2).toArray) rfl (by kernel_rfl) (by kernel_rfl) (by kernel_rfl) (fun _ _ _ h => h) (yieldsIf_load_mid (by rfl) _ _ rfl gq 0 rfl (encG y2) _ (fun _ hSw => rangeAt_row (hSw.row Q4.out (fun e => e))) Tryd.underlying34 rfl (by rw [size_g _ Y2O.out.r Y2T.out, List.size_toArray])) (by assumption) ?_
                                simp only [Act.put, List.setIfInBounds_toArray, List.set_cons_zero, List.set_cons_succ]
                                refine wpAnyH_take (i := 3) (oi := { dst := some 224, op := Op.move (Operand.tmp 5), type := 42, pos := "law.go:156", after := #[], guard := none }) (v := ?_) rfl (by kernel_rfl) (by kernel_rfl) (by kernel_rfl) (fun _ _ _ h => h) (Or.inl ⟨by rfl, ?_⟩) (by assumption) ?_
                                rotate_left
                                · intro w hSw
                                  clear hSw
                                  go_simp
                                  all_goals with_reducible rfl
                                simp only [Act.put, List.setIfInBounds_toArray, List.set_cons_zero, List.set_cons_succ]
                                refine wpAnyH_take (i := 4) (oi := { dst := some 225, op := Op.move (Operand.tmp 0), type := 41, pos := "law.go:156", after := #[], guard := none }) (v := ?_) rfl (by kernel_rfl) (by kernel_rfl) (by kernel_rfl) (fun _ _ _ h => h) (Or.inl ⟨by rfl, ?_⟩) (by assumption) ?_
                                rotate_left
                                · intro w hSw
                                  clear hSw
                                  go_simp
                                  all_goals with_reducible rfl
                                simp only [Act.put, List.setIfInBounds_toArray, List.set_cons_zero, List.set_cons_succ]
                                refine wpAnyH_take (i := 5) (oi := { dst := some 226, op := Op.slice 57 (Operand.tmp 8) none none none, type := 64, pos := "law.go:156", after := #[], guard := none }) (v := ?_) rfl (by kernel_rfl) (by kernel_rfl) (by kernel_rfl) (fun _ _ _ h => h) (Or.inl ⟨by rfl, ?_⟩) (by assumption) ?_
                                rotate_left
                                · intro w hSw
                                  clear hSw
                                  go_simp
                                  all_goals with_reducible rfl
                                simp only [Act.put, List.setIfInBounds_toArray, List.set_cons_zero, List.set_cons_succ]
                                refine wpAnyH_take (i := 6) (oi := { dst := some 227, op := Op.load 34 (Operand.tmp 18), type := 34, pos := "law.go:156", after := #[], guard := none }) (v := .agg (encG y2).toArray) rfl (by kernel_rfl) (by kernel_rfl) (by kernel_rfl) (fun _ _ _ h => h) (yieldsIf_load_mid (by rfl) _ _ rfl gq 0 rfl (encG y2) _ (fun _ hSw => rangeAt_row (hSw.row Q4.out (fun e => e))) Tryd.underlying34 rfl (by rw [size_g _ Y2O.out.r Y2T.out, List.size_toArray])) (by assumption) ?_
                                simp only [Act.put, List.setIfInBounds_toArray, List.set_cons_zero, List.set_cons_succ]
                                refine wpAnyH_ready (rs := [2]) (by kernel_rfl) (by simp) ?_
                                refine AllReadyH.cons (o := { dst := some 223, op := Op.call { callee := Callee.value (Operand.func 12), args := #[Operand.tmp 221, Operand.tmp 222], argTypes := #[22, 34] }, type := 4, pos := "law.go:156", after := #[{ on := 0, ground := Ground.data }, { on := 1, ground := Ground.data }], guard := none }) rfl (fun K hK => ?_) AllReadyH.nil
                                go_simp
                                refine (holds_r y2 Z0 (K4.out.ring.below (CZ0.out.below _ (Nat.le_refl _) (fun _ _ e => e))) Y2O.out Y2T.out (HK.out.below (BW4.out.trans (CZ0.out.below w.heap.size BW4.out.size (fun k hk e => by omega))) h0)).mono ?_
                                rintro e Z1 ⟨rfl, hb2⟩
                                obtain ⟨b, hb⟩ : ∃ b, b = S.rholds T y2 := ⟨_, rfl⟩
                                rw [← hb]
                                have EB := hide hb
                                clear hb
                                have CZ1 : Hid (Chg (fun _ => False) w4 Z1) := CZ0.out.then hb2
                                clear hb2 CZ0
                                clear hHeld
                                refine hK.out _ _ CZ1.out (fun hHeld => ?_)
                                clear hK K
                                try simp only [Act.put, List.setIfInBounds_toArray, List.set_cons_zero, List.set_cons_succ]
                                refine wpAnyH_ready (rs := [7]) (by kernel_rfl) (by simp) ?_
                                refine AllReadyH.cons (o := { dst := some 228, op := Op.call { callee := Callee.value (Operand.func 28), args := #[Operand.tmp 224, Operand.tmp 225, Operand.tmp 226, Operand.tmp 227], argTypes := #[42, 41, 64, 34] }, type := 4, pos := "law.go:156", after := #[{ on := 3, ground := Ground.data }, { on := 4, ground := Ground.data }, { on := 5, ground := Ground.data }, { on := 6, ground := Ground.data }, { on := 2, ground := Ground.chain }], guard := none }) rfl (fun K hK => ?_) AllReadyH.nil
                                go_simp
                                refine (lholds_any gT gd (.slice a l c) ks T vs D y2 Z1 (CZ1.out.row K4.out.tab (fun e => e)) (SB4.out.below (CZ1.out.below _ (Nat.le_refl _) (fun _ _ e => e)) (Nat.le_refl _)) KSS.out (K4.out.below (CZ1.out.below _ (Nat.le_refl _) (fun _ _ e => e))).dw MA.out Y2O.out Y2T.out).mono ?_
                                rintro e Z2 ⟨rfl, hb2⟩
                                rw [← EB.out]
                                have CZ2 : Hid (Chg (fun _ => False) w4 Z2) := CZ1.out.then hb2
                                clear hb2 CZ1
                                clear hHeld
                                refine hK.out _ _ CZ2.out (fun hHeld => ?_)
                                clear hK K
                                try simp only [Act.put, List.setIfInBounds_toArray, List.set_cons_zero, List.set_cons_succ]
                                refine wpAnyH_take (i := 8) (oi := { dst := some 229, op := Op.binOp BinOp.neq 4 (Operand.tmp 223) (Operand.tmp 228) 4, type := 4, pos := "law.go:156", after := #[{ on := 2, ground := Ground.data }, { on := 7, ground := Ground.data }], guard := none }) (v := ?_) rfl (by kernel_rfl) (by kernel_rfl) (by kernel_rfl) (fun _ _ _ h => h) (Or.inl ⟨by rfl, ?_⟩) (by assumption) ?_
                                rotate_left
                                · intro w hSw
                                  clear hSw
                                  go_simp
                                  all_goals with_reducible rfl
                                simp only [Act.put, List.setIfInBounds_toArray, List.set_cons_zero, List.set_cons_succ]
                                refine wpAnyH_done (by kernel_rfl) ?_ _
                                refine NoPanic.normal ?_
                                clear hHeld
                                have BY := hide (CZ2.out.below _ (Nat.le_refl _) (fun _ _ e => e))
                                generalize Z2 = w5 at BY ⊢
                                have BL5 := hide (BL4.out.trans (BY.out.mono BL4.out.size))
                                clear CZ2 BY K4 BW4 SB4 Q4 BL4 EB
                                have K5 := hide (KS.out.below BL5.out)
                                have A5 := hide ((BL5.out.block _ (block_lt_of_row AR.out)).trans AR.out)
                                go_upto_region 53 with fail
                                obtain ⟨c0, c1, c2, c3'⟩ := a_cells A5.out
                                rw [HN1.out] at c1
                                have cd := K5.out.dw.cell n hn
                                obtain ⟨eo, ec, hev⟩ := K5.out.dw.form n hn
                                rw [hev] at cd
                                have hep := MA.out.eps n hn
                                have hfw := K5.out.dw.few n
                                obtain ⟨m, hm⟩ : ∃ m, m = (D.getD n []).length := ⟨_, rfl⟩
                                rw [← hm] at cd hep hfw
                                have qm : IntKind.i64.wrap ((m : Int) - 1) = (m : Int) - 1 := by rw [IntKind.wrap_i64]; omega
                                have RNG := hide K5.out.ring
                                have HEP := hide hep
                                clear hev hm hep
                                by_cases hm0 : m = 0
                                · have eB : S.epB T (n : Int) = false := by rw [S.epB, HEP.out, hm0]; simp
                                  have eN : S.epN T (n : Int) = 0 := by rw [S.epN, eB]; rfl
                                  have EB := hide eB
                                  have EN := hide eN
                                  clear eB eN HEP
                                  subst hm0
                                  go_wp2_with fail
                                  refine (epoch_r (n : Int) w5 RNG.out).mono ?_
                                  rintro r _ ⟨rfl, rfl⟩
                                  rw [EB.out, EN.out]
                                  go_wp2_with fail
                                  go_roundg gO
                                  case measure => omega
                                  case rel => exact ⟨i + 1, (some ⟨gs, 0, none⟩), sn', sc', T, vs, D, L, by omega, by first | rfl | simp, rfl, HSL.out, by omega, K5, MA⟩
                                · have eB : S.epB T (n : Int) = true := by rw [S.epB, HEP.out, isT_of hn]; simp; omega
                                  have eN : S.epN T (n : Int) = (m : Int) - 1 := by rw [S.epN, eB, HEP.out]; rfl
                                  have EB := hide eB
                                  have EN := hide eN
                                  have q5 : (0 : Int) < (m : Int) := by omega
                                  clear eB eN HEP
                                  go_wp2_with fail
                                  refine (epoch_r (n : Int) w5 RNG.out).mono ?_
                                  rintro r _ ⟨rfl, rfl⟩
                                  rw [EB.out, EN.out]
                                  go_wp2_with fail
                                  go_roundg gO
                                  case measure => omega
                                  case rel => exact ⟨i + 1, (some ⟨gs, 0, none⟩), sn', sc', T, vs, D, L, by omega, by first | rfl | simp, rfl, HSL.out, by omega, K5, MA⟩
                            · as_aux_lemma =>
                                have b1 : (x.turn.tmod 5 == 1) = false := by simp; omega
                                have b2 : (x.turn.tmod 5 == 2) = false := by simp; omega
                                have b3 : (x.turn.tmod 5 == 3) = false := by simp; omega
                                have b4 : (x.turn.tmod 5 == 4) = false := by simp; omega
                                have K3 := hide (KS.out.below BL3.out)
                                go_wp2_with fail
                                go_roundg gO
                                case measure => omega
                                case rel => exact ⟨i + 1, (some ⟨gs, 0, none⟩), sn', sc', T, vs, D, L, by omega, by first | rfl | simp, rfl, HSL.out, by omega, K3, MA⟩
              · as_aux_lemma =>
                  have q4 : (x.kind == 1) = false := by simp; omega
                  have q5 : (x.kind == 2) = false := by simp; omega
                  have q6 : (x.kind == 3) = false := by simp; omega
                  go_upto_region 53 with fail
                  clear c0 c1 c2 c3'
                  obtain ⟨c0, c1, c2, c3'⟩ := a_cells AR.out
                  rw [HN1.out] at c1
                  have cd := KS.out.dw.cell n hn
                  obtain ⟨eo, ec, hev⟩ := KS.out.dw.form n hn
                  rw [hev] at cd
                  have hep := MA.out.eps n hn
                  have hfw := KS.out.dw.few n
                  obtain ⟨m, hm⟩ : ∃ m, m = (D.getD n []).length := ⟨_, rfl⟩
                  rw [← hm] at cd hep hfw
                  have qm : IntKind.i64.wrap ((m : Int) - 1) = (m : Int) - 1 := by rw [IntKind.wrap_i64]; omega
                  have RNG := hide KS.out.ring
                  have HEP := hide hep
                  clear hev hm hep
                  by_cases hm0 : m = 0
                  · have eB : S.epB T (n : Int) = false := by rw [S.epB, HEP.out, hm0]; simp
                    have eN : S.epN T (n : Int) = 0 := by rw [S.epN, eB]; rfl
                    have EB := hide eB
                    have EN := hide eN
                    clear eB eN HEP
                    subst hm0
                    go_wp2_with fail
                    refine (epoch_r (n : Int) w1 RNG.out).mono ?_
                    rintro r _ ⟨rfl, rfl⟩
                    rw [EB.out, EN.out]
                    go_wp2_with fail
                    go_roundg gO
                    case measure => omega
                    case rel => exact ⟨i + 1, so', sn', sc', T, vs, D, L, by omega, by first | rfl | simp, rfl, HSL.out, by omega, KS, MA⟩
                  · have eB : S.epB T (n : Int) = true := by rw [S.epB, HEP.out, isT_of hn]; simp; omega
                    have eN : S.epN T (n : Int) = (m : Int) - 1 := by rw [S.epN, eB, HEP.out]; rfl
                    have EB := hide eB
                    have EN := hide eN
                    have q5 : (0 : Int) < (m : Int) := by omega
                    clear eB eN HEP
                    go_wp2_with fail
                    refine (epoch_r (n : Int) w1 RNG.out).mono ?_
                    rintro r _ ⟨rfl, rfl⟩
                    rw [EB.out, EN.out]
                    go_wp2_with fail
                    go_roundg gO
                    case measure => omega
                    case rel => exact ⟨i + 1, so', sn', sc', T, vs, D, L, by omega, by first | rfl | simp, rfl, HSL.out, by omega, KS, MA⟩
        · have hT2 : S.isT x.tree = false := by simpa using hT
          have HTF := hide hT2
          obtain ⟨c0, c1, c2, c3'⟩ := a_cells AR.out
          have hout : ¬ (0 ≤ x.tree ∧ x.tree < 16) := by simpa [S.isT] using hT2
          simp only [Act.put, List.setIfInBounds_toArray, List.set_cons_zero, List.set_cons_succ]
          go_cut [12] from 50 to 58 (fun v wc => w1 = wc ∧ v = .bool false)
          case first =>
            by_cases hneg : 0 ≤ x.tree
            · have q3 : ¬ x.tree < 16 := fun e => hout ⟨hneg, e⟩
              go_upto_region 16 with fail
              go_meet
              exact ⟨rfl, rfl⟩
            · go_upto_region 16 with fail
              go_meet
              exact ⟨rfl, rfl⟩
          case rest =>
            obtain ⟨rfl, rfl⟩ := hcut
            clear hT hT2 hout
            by_cases hk1 : x.kind = 1
            · as_aux_lemma =>
                have qk : x.kind = 1 := hk1
                rw [qk] at c0
                have DR := hide XO.out.d2
                have TE := hide (show S.turnE T x.tree = 1 by rw [S.turnE, HTF.out]; rfl)
                go_upto_region 18 with fail
                clear hk1 qk
                go_wp2_with fail
                refine (turn_r x.tree x.draw w1 KS.out.ring DR.out KS.out.bw.size (HK.out.below KS.out.bw h0)).mono ?_
                rintro r w2 ⟨rfl, hr, hb, hk⟩
                rw [TE.out]
                have K2 := hide (KS.out.turned x.tree x.draw hr hb hk)
                rw [turnT_no (by rw [TE.out]; omega)] at K2
                obtain ⟨tn, htn⟩ : ∃ z, z = S.turnN T x.tree := ⟨_, rfl⟩
                rw [← htn]
                clear htn hr hb hk c0 c1 c2 c3' KS AR
                go_wp2_with fail
                go_roundg gO
                case measure => omega
                case rel => exact ⟨i + 1, so', sn', sc', T, vs, D, L, by omega, by first | rfl | simp, rfl, HSL.out, by omega, K2, MA⟩
            · by_cases hk2 : x.kind = 2
              · as_aux_lemma =>
                  have qk : x.kind = 2 := hk2
                  rw [qk] at c0
                  clear hk1 hk2 qk
                  have qk1 : ((2 : Int) == 1) = false := by decide
                  go_upto_region 27 with fail
                  clear c0 qk1
                  have ld := load_ah AR.out XO.out.h.r
                  obtain ⟨A4, w2, ha4, hs4, hr4, hb4⟩ := lay_h w1 x.h XO.out.h.r
                  obtain ⟨gh, hgh⟩ : ∃ g, g = w1.heap.size := ⟨_, rfl⟩
                  rw [← hgh] at ha4 hs4 hr4
                  have GH := hide (show w1.heap.size ≤ gh by omega)
                  have HR2 := hide hr4
                  have BL2 := hide hb4
                  clear hr4 hb4 hgh
                  go_upto_region 28 with (first | (with_reducible refine at_op { dst := some 100, op := Op.load 32 (Operand.tmp 99), type := 32, pos := "law.go:122", after := #[{ on := 0, ground := Ground.data }], guard := none } ?_; refine wpList_load_as rfl 32 (.tmp 99) rfl (.pointer (some ⟨ga, 4, none⟩)) rfl (.agg (encH x.h).toArray) ld ?_) | (with_reducible refine at_op { dst := some 15, op := Op.alloc 32, type := 0, pos := "law.go:122", after := #[], guard := none } ?_; refine wpList_alloc_known rfl 32 rfl _ _ ha4 ?_) | (with_reducible refine at_op { dst := none, op := Op.store 32 (Operand.tmp 15) (Operand.tmp 100), type := 0, pos := "law.go:122", after := #[{ on := 2, ground := Ground.data }, { on := 1, ground := Ground.data }, { on := 0, ground := Ground.phase }, { on := 1, ground := Ground.phase }, { on := 2, ground := Ground.phase }], guard := none } ?_; refine wpList_store_as rfl 32 (.tmp 15) (.tmp 100) rfl (.pointer (some ⟨gh, 0, none⟩)) (.agg (encH x.h).toArray) rfl rfl w2 hs4 ?_))
                  clear ld ha4 hs4 A4 c1 c2 c3'
                  have AR2 := hide ((BL2.out.block _ (block_lt_of_row AR.out)).trans AR.out)
                  obtain ⟨c0, c1, c2, c3'⟩ := a_cells AR2.out
                  obtain ⟨d0, d1, d2, d3⟩ := h_cells HR2.out
                  have f1 := frozen_of_row _ _ 0 _ _ HR2.out
                  go_upto_region 29 with fail
                  generalize hX : w2.setCell _ _ = w3
                  obtain ⟨H, hH⟩ : ∃ H : S.Hd, H = ⟨x.tree, x.h.epoch, x.h.size, x.h.clock, x.h.root⟩ := ⟨_, rfl⟩
                  have HR3 : Hid (w3.heap[gh]? = some (.cells (encH H).toArray 32 (0, 0))) := by rw [← hX, hH]; exact tree_h (x.tree) HR2.out
                  have cX : Chg (fun k => k = gh) w2 w3 := by rw [← hX]; exact (Chg.refl _ _).setCell _ _ _ (fun _ => rfl)
                  have BL3 := hide (BL2.out.trans (cX.below w1.heap.size BL2.out.size (fun k hk e => by have := GH.out; omega)))
                  have HOK := hide (show H.Ok by rw [hH]; exact ⟨XO.out.t1, XO.out.t2, XO.out.h.e1, XO.out.h.e2, XO.out.h.s2, XO.out.h.c2, XO.out.h.r⟩)
                  have HT := hide (show H.tree = x.tree by rw [hH])
                  have K3 := hide (KS.out.below BL3.out)
                  clear hX cX BL2 HR2 c0 c1 c2 c3' d0 d1 d2 d3 f1 hH AR2
                  have ld := load_h HR3.out HOK.out.r
                  go_wp2_with (with_reducible refine at_op { dst := some 106, op := Op.load 32 (Operand.tmp 15), type := 32, pos := "law.go:124", after := #[], guard := none } ?_; refine wpList_load_as rfl 32 (.tmp 15) rfl (.pointer (some ⟨gh, 0, none⟩)) rfl (.agg (encH H).toArray) ld ?_)
                  refine (sign_r H w3 K3.out.ring HOK.out (HK.out.below K3.out.bw h0)).mono ?_
                  rintro r w4 ⟨rfl, hb⟩
                  have hGl := S.signG_len T H HOK.out.r
                  obtain ⟨G, hG⟩ : ∃ G, G = S.signG T H := ⟨_, rfl⟩
                  rw [← hG] at hGl ⊢
                  obtain ⟨E, hE⟩ : ∃ E, E = S.signE T H := ⟨_, rfl⟩
                  rw [← hE]
                  have HG := hide hG
                  have HE := hide hE
                  have GL := hide hGl
                  obtain ⟨A5, w5, ha5, hs5, hr5, hb5, -⟩ := lay_g w4 G hGl.1 hGl.2
                  obtain ⟨g16, hg16⟩ : ∃ g, g = w4.heap.size := ⟨_, rfl⟩
                  rw [← hg16] at ha5 hs5 hr5
                  have hbb := hb.trans (hb5.mono hb.size)
                  have BL5 := hide (BL3.out.trans (hbb.mono BL3.out.size))
                  have HR5 := hide ((hbb.block _ (block_lt_of_row HR3.out)).trans HR3.out)
                  have SR5 := hide hr5
                  have NE := hide (show gh ≠ g16 by have := block_lt_of_row HR3.out; have := hb.size; omega)
                  clear hb hb5 hbb hr5 hg16 hG hE hGl ld K3 BL3 HR3
                  go_upto_region 30 with (first | (with_reducible refine at_op { dst := some 16, op := Op.alloc 34, type := 0, pos := "law.go:124", after := #[], guard := none } ?_; refine wpList_alloc_known rfl 34 rfl _ _ ha5 ?_) | (with_reducible refine at_op { dst := none, op := Op.store 34 (Operand.tmp 16) (Operand.tmp 108), type := 0, pos := "law.go:124", after := #[{ on := 6, ground := Ground.data }, { on := 4, ground := Ground.data }, { on := 2, ground := Ground.chain }, { on := 0, ground := Ground.phase }, { on := 1, ground := Ground.phase }, { on := 2, ground := Ground.phase }, { on := 3, ground := Ground.phase }, { on := 4, ground := Ground.phase }, { on := 5, ground := Ground.textOnly Departure.lateStores }, { on := 6, ground := Ground.phase }], guard := none } ?_; refine wpList_store_as rfl 34 (.tmp 16) (.tmp 108) rfl (.pointer (some ⟨g16, 0, none⟩)) (.agg (encG G).toArray) rfl rfl w5 hs5 ?_))
                  clear ha5 hs5 A5
                  have K5 := hide (KS.out.below BL5.out)
                  have AR5 := hide ((BL5.out.block _ (block_lt_of_row AR.out)).trans AR.out)
                  have e1 : E = 1 := by rw [HE.out, S.signE, HT.out, HTF.out]; rfl
                  subst e1
                  have hgz : G = S.g0 := by rw [HG.out, S.signG, if_neg (by rw [← HE.out]; omega)]
                  subst hgz
                  have ld := load_g SR5.out GL.out.1 GL.out.2
                  have zg := zero_g w5
                  have eqg := equal_gs S.g0 GL.out.1 GL.out.2
                  go_wp2_with (first | (with_reducible refine at_op { dst := some 123, op := Op.load 34 (Operand.tmp 16), type := 34, pos := "law.go:126", after := #[{ on := 2, ground := Ground.guard }], guard := some (2, false) } ?_; refine load_when rfl 34 (.tmp 16) rfl (.pointer (some ⟨g16, 0, none⟩)) rfl (.agg (encG S.g0).toArray) ld ?_) | (with_reducible refine at_op { dst := some 124, op := Op.build 34 #[], type := 34, pos := "law.go:126", after := #[{ on := 2, ground := Ground.guard }], guard := some (2, false) } ?_; refine build_when rfl 34 [] rfl [] rfl (.agg (encG S.g0).toArray) zg ?_))
                  go_roundg gO
                  case measure => omega
                  case rel => exact ⟨i + 1, so', sn', sc', T, vs, D, L, by omega, by first | rfl | simp, rfl, HSL.out, by omega, K5, MA⟩
              · by_cases hk3 : x.kind = 3
                · as_aux_lemma =>
                    have qk : x.kind = 3 := hk3
                    rw [qk] at c0
                    clear hk1 hk2 hk3 qk
                    go_upto_region 38 with fail
                    clear c0
                    by_cases hz : sn' = 0
                    · as_aux_lemma =>
                        subst hz
                        clear c1 c2 c3'
                        go_wp2_with fail
                        go_roundg gO
                        case measure => omega
                        case rel => exact ⟨i + 1, so', 0, sc', T, vs, D, L, by omega, by first | rfl | simp, rfl, HSL.out, by omega, KS, MA⟩
                    · as_aux_lemma =>
                        have q5 : ¬ (sn' : Int) = 0 := by omega
                        have qs : IntKind.i64.wrap ((sn' : Int) - 1) = (sn' : Int) - 1 := by rw [IntKind.wrap_i64]; omega
                        have u1 := XO.out.u1
                        have u2 := XO.out.u2
                        go_upto_region 39 with fail
                        clear q5
                        go_wp2_with fail
                        refine (within_any x.turn ((sn' : Int) - 1) w1 u1 u2 (by omega) (by omega)).mono ?_
                        rintro r _ ⟨rfl, rfl⟩
                        have hkl := S.within_le x.turn ((sn' : Int) - 1) (by omega)
                        obtain ⟨k, hk⟩ : ∃ k, k = S.within x.turn ((sn' : Int) - 1) := ⟨_, rfl⟩
                        rw [← hk] at hkl ⊢
                        clear hk qs u1 u2
                        have hkL : k < L.length := by have := HSL.out; omega
                        obtain ⟨y, hy⟩ : ∃ y, L[k]? = some y := ⟨_, List.getElem?_eq_getElem hkL⟩
                        obtain ⟨yk, yo, yt⟩ := KS.out.sok y (List.mem_of_getElem? hy)
                        obtain ⟨gs, gcap, hgv, hgs, _, hrg⟩ := Rw.at_ KS.out.sg (fun z hz => encG_length z (KS.out.sok z hz).2.1.r (KS.out.sok z hz).2.2) k y hy
                        have ld := run_loadAt_mid (P := Tryd.prog) w1 gs (k * 68) 34 (encG y) _ hrg Tryd.underlying34 rfl (by rw [size_g _ yo.r yt, List.size_toArray])
                        simp only [Value.slice.injEq] at hgv
                        obtain ⟨hso, -, -⟩ := hgv
                        obtain ⟨A4, w2, ha4, hs4, hr4, hb4, -⟩ := lay_g w1 y yo.r yt
                        obtain ⟨gq, hgq⟩ : ∃ g, g = w1.heap.size := ⟨_, rfl⟩
                        rw [← hgq] at ha4 hs4 hr4
                        have GQ := hide (show w1.heap.size ≤ gq by omega)
                        have BL2 := hide hb4
                        have Q2 := hide hr4
                        have YK := hide yk
                        have YO := hide yo
                        have YT := hide yt
                        have YH := hide yk.holds
                        have qk0 : (0 : Int) ≤ (k : Int) := by omega
                        have qk1 : (k : Int) < (sn' : Int) := by omega
                        have HSO := hide hso
                        clear hr4 hb4 hgq yk yo yt hrg hgs hy hkL hkl hso
                        subst HSO
                        go_upto_region 40 with (first | (with_reducible refine at_op { dst := some 181, op := Op.load 34 (Operand.tmp 180), type := 34, pos := "law.go:140", after := #[{ on := 7, ground := Ground.data }], guard := none } ?_; refine wpList_load_as rfl 34 (.tmp 180) rfl (.pointer (some ⟨gs, k * 68, none⟩)) rfl (.agg (encG y).toArray) ld ?_) | (with_reducible refine at_op { dst := some 18, op := Op.alloc 34, type := 0, pos := "law.go:140", after := #[], guard := none } ?_; refine wpList_alloc_known rfl 34 rfl _ _ ha4 ?_) | (with_reducible refine at_op { dst := none, op := Op.store 34 (Operand.tmp 18) (Operand.tmp 181), type := 0, pos := "law.go:140", after := #[{ on := 9, ground := Ground.data }, { on := 8, ground := Ground.data }, { on := 6, ground := Ground.chain }, { on := 0, ground := Ground.phase }, { on := 1, ground := Ground.phase }, { on := 2, ground := Ground.phase }, { on := 3, ground := Ground.phase }, { on := 4, ground := Ground.phase }, { on := 5, ground := Ground.phase }, { on := 6, ground := Ground.phase }, { on := 7, ground := Ground.phase }, { on := 8, ground := Ground.phase }, { on := 9, ground := Ground.phase }], guard := none } ?_; refine wpList_store_as rfl 34 (.tmp 18) (.tmp 181) rfl (.pointer (some ⟨gq, 0, none⟩)) (.agg (encG y).toArray) rfl rfl w2 hs4 ?_))
                        clear ld ha4 hs4 A4 qk0 qk1 c1 c2 c3'
                        have K2 := hide (KS.out.below BL2.out)
                        have ld := load_g Q2.out YO.out.r YT.out
                        go_wp2_with (with_reducible refine at_op { dst := some 183, op := Op.load 34 (Operand.tmp 18), type := 34, pos := "law.go:141", after := #[], guard := none } ?_; refine wpList_load_as rfl 34 (.tmp 18) rfl (.pointer (some ⟨gq, 0, none⟩)) rfl (.agg (encG y).toArray) ld ?_)
                        refine (holds_r y w2 K2.out.ring YO.out YT.out (HK.out.below K2.out.bw h0)).mono ?_
                        rintro r w3 ⟨rfl, hb3⟩
                        rw [YH.out]
                        have BL3 := hide (BL2.out.trans (hb3.mono BL2.out.size))
                        have Q3 := hide ((hb3.block _ (block_lt_of_row Q2.out)).trans Q2.out)
                        have AR3 := hide ((BL3.out.block _ (block_lt_of_row AR.out)).trans AR.out)
                        clear hb3 ld K2 Q2 BL2
                        obtain ⟨c0, c1, c2, c3'⟩ := a_cells AR3.out
                        obtain ⟨d0, d1, d2, d3⟩ := g_cells Q3.out
                        have KSS := hide (show ks.length ≤ 140737488355000 by have := KSL.out; omega)
                        by_cases e1 : x.turn.tmod 5 = 1
                        · as_aux_lemma =>
                            have f1 := frozen_of_row _ _ 2 _ _ Q3.out
                            have qv : IntKind.u64.wrap ((y.h.size : Int) + 1) = (((y.h.size + 1) % 18446744073709551616 : Nat) : Int) := by rw [IntKind.wrap_u64]; omega
                            go_upto_region 51 with fail
                            clear e1
                            generalize hX : w3.setCell _ _ = w4
                            obtain ⟨y2, hy2⟩ : ∃ y2 : S.Sg, y2 = ⟨⟨y.h.tree, y.h.epoch, (y.h.size + 1) % 18446744073709551616, y.h.clock, y.h.root⟩, y.tag⟩ := ⟨_, rfl⟩
                            have Q4 : Hid (w4.heap[gq]? = some (.cells (encG y2).toArray 34 (0, 0))) := by rw [← hX, hy2]; exact sz_row ((y.h.size + 1) % 18446744073709551616) Q3.out
                            have cX : Chg (fun k => k = gq) w3 w4 := by rw [← hX]; exact (Chg.refl _ _).setCell _ _ _ (fun _ => rfl)
                            have BL4 := hide (BL3.out.trans (cX.below w1.heap.size BL3.out.size (fun k hk e => by have := GQ.out; omega)))
                            have Y2O := hide (show y2.h.Ok by rw [hy2]; exact ⟨YO.out.t1, YO.out.t2, YO.out.e1, YO.out.e2, (show (y.h.size + 1) % 18446744073709551616 < 18446744073709551616 by omega), YO.out.c2, YO.out.r⟩)
                            have Y2T := hide (show y2.tag.length = 32 by rw [hy2]; exact YT.out)
                            have K4 := hide (KS.out.below BL4.out)
                            have BW4 := hide K4.out.bw
                            have SB4 := hide (SB.out.below K4.out.bw (Nat.le_refl _))
                            clear hX cX hy2 Q3 BL3 AR3 c0 c1 c2 c3' d0 d1 d2 d3 f1
                            refine wp_region_noPanic ?_
                            refine wp_region_held_drew (S := (fun W => Chg (fun _ => False) w4 W)) follows ((Chg.refl _ _).drew) (fun hHeld => ?_)
                            clear hHeld
                            have hHeld : Chg (fun _ => False) w4 w4.drew := (Chg.refl _ _).drew
                            have CZ0 := hide hHeld
                            generalize w4.drew = Z0 at CZ0 hHeld ⊢
                            refine wpAnyH_take (i := 0) (oi := { dst := some 221, op := Op.move (Operand.tmp 7), type := 22, pos := "law.go:156", after := #[], guard := none }) (v := ?_) rfl (by kernel_rfl) (by kernel_rfl) (by kernel_rfl) (fun _ _ _ h => h) (Or.inl ⟨by rfl, ?_⟩) (by assumption) ?_
                            rotate_left
                            · intro w hSw
                              clear hSw
                              go_simp
                              all_goals with_reducible rfl
                            simp only [Act.put, List.setIfInBounds_toArray, List.set_cons_zero, List.set_cons_succ]
                            refine wpAnyH_take (i := 1) (oi := { dst := some 222, op := Op.load 34 (Operand.tmp 18), type := 34, pos := "law.go:156", after := #[], guard := none }) (v := .agg (encG y2).toArray) rfl (by kernel_rfl) (by kernel_rfl) (by kernel_rfl) (fun _ _ _ h => h) (yieldsIf_load_mid (by rfl) _ _ rfl gq 0 rfl (encG y2) _ (fun _ hSw => rangeAt_row (hSw.row Q4.out (fun e => e))) Tryd.underlying34 rfl (by rw [size_g _ Y2O.out.r Y2T.out, List.size_toArray])) (by assumption) ?_
                            simp only [Act.put, List.setIfInBounds_toArray, List.set_cons_zero, List.set_cons_succ]
                            refine wpAnyH_take (i := 3) (oi := { dst := some 224, op := Op.move (Operand.tmp 5), type := 42, pos := "law.go:156", after := #[], guard := none }) (v := ?_) rfl (by kernel_rfl) (by kernel_rfl) (by kernel_rfl) (fun _ _ _ h => h) (Or.inl ⟨by rfl, ?_⟩) (by assumption) ?_
                            rotate_left
                            · intro w hSw
                              clear hSw
                              go_simp
                              all_goals with_reducible rfl
                            simp only [Act.put, List.setIfInBounds_toArray, List.set_cons_zero, List.set_cons_succ]
                            refine wpAnyH_take (i := 4) (oi := { dst := some 225, op := Op.move (Operand.tmp 0), type := 41, pos := "law.go:156", after := #[], guard := none }) (v := ?_) rfl (by kernel_rfl) (by kernel_rfl) (by kernel_rfl) (fun _ _ _ h => h) (Or.inl ⟨by rfl, ?_⟩) (by assumption) ?_
                            rotate_left
                            · intro w hSw
                              clear hSw
                              go_simp
                              all_goals with_reducible rfl
                            simp only [Act.put, List.setIfInBounds_toArray, List.set_cons_zero, List.set_cons_succ]
                            refine wpAnyH_take (i := 5) (oi := { dst := some 226, op := Op.slice 57 (Operand.tmp 8) none none none, type := 64, pos := "law.go:156", after := #[], guard := none }) (v := ?_) rfl (by kernel_rfl) (by kernel_rfl) (by kernel_rfl) (fun _ _ _ h => h) (Or.inl ⟨by rfl, ?_⟩) (by assumption) ?_
                            rotate_left
                            · intro w hSw
                              clear hSw
                              go_simp
                              all_goals with_reducible rfl
                            simp only [Act.put, List.setIfInBounds_toArray, List.set_cons_zero, List.set_cons_succ]
                            refine wpAnyH_take (i := 6) (oi := { dst := some 227, op := Op.load 34 (Operand.tmp 18), type := 34, pos := "law.go:156", after := #[], guard := none }) (v := .agg (encG y2).toArray) rfl (by kernel_rfl) (by kernel_rfl) (by kernel_rfl) (fun _ _ _ h => h) (yieldsIf_load_mid (by rfl) _ _ rfl gq 0 rfl (encG y2) _ (fun _ hSw => rangeAt_row (hSw.row Q4.out (fun e => e))) Tryd.underlying34 rfl (by rw [size_g _ Y2O.out.r Y2T.out, List.size_toArray])) (by assumption) ?_
                            simp only [Act.put, List.setIfInBounds_toArray, List.set_cons_zero, List.set_cons_succ]
                            refine wpAnyH_ready (rs := [2]) (by kernel_rfl) (by simp) ?_
                            refine AllReadyH.cons (o := { dst := some 223, op := Op.call { callee := Callee.value (Operand.func 12), args := #[Operand.tmp 221, Operand.tmp 222], argTypes := #[22, 34] }, type := 4, pos := "law.go:156", after := #[{ on := 0, ground := Ground.data }, { on := 1, ground := Ground.data }], guard := none }) rfl (fun K hK => ?_) AllReadyH.nil
                            go_simp
                            refine (holds_r y2 Z0 (K4.out.ring.below (CZ0.out.below _ (Nat.le_refl _) (fun _ _ e => e))) Y2O.out Y2T.out (HK.out.below (BW4.out.trans (CZ0.out.below w.heap.size BW4.out.size (fun k hk e => by omega))) h0)).mono ?_
                            rintro e Z1 ⟨rfl, hb2⟩
                            obtain ⟨b, hb⟩ : ∃ b, b = S.rholds T y2 := ⟨_, rfl⟩
                            rw [← hb]
                            have EB := hide hb
                            clear hb
                            have CZ1 : Hid (Chg (fun _ => False) w4 Z1) := CZ0.out.then hb2
                            clear hb2 CZ0
                            clear hHeld
                            refine hK.out _ _ CZ1.out (fun hHeld => ?_)
                            clear hK K
                            try simp only [Act.put, List.setIfInBounds_toArray, List.set_cons_zero, List.set_cons_succ]
                            refine wpAnyH_ready (rs := [7]) (by kernel_rfl) (by simp) ?_
                            refine AllReadyH.cons (o := { dst := some 228, op := Op.call { callee := Callee.value (Operand.func 28), args := #[Operand.tmp 224, Operand.tmp 225, Operand.tmp 226, Operand.tmp 227], argTypes := #[42, 41, 64, 34] }, type := 4, pos := "law.go:156", after := #[{ on := 3, ground := Ground.data }, { on := 4, ground := Ground.data }, { on := 5, ground := Ground.data }, { on := 6, ground := Ground.data }, { on := 2, ground := Ground.chain }], guard := none }) rfl (fun K hK => ?_) AllReadyH.nil
                            go_simp
                            refine (lholds_any gT gd (.slice a l c) ks T vs D y2 Z1 (CZ1.out.row K4.out.tab (fun e => e)) (SB4.out.below (CZ1.out.below _ (Nat.le_refl _) (fun _ _ e => e)) (Nat.le_refl _)) KSS.out (K4.out.below (CZ1.out.below _ (Nat.le_refl _) (fun _ _ e => e))).dw MA.out Y2O.out Y2T.out).mono ?_
                            rintro e Z2 ⟨rfl, hb2⟩
                            rw [← EB.out]
                            have CZ2 : Hid (Chg (fun _ => False) w4 Z2) := CZ1.out.then hb2
                            clear hb2 CZ1
                            clear hHeld
                            refine hK.out _ _ CZ2.out (fun hHeld => ?_)
                            clear hK K
                            try simp only [Act.put, List.setIfInBounds_toArray, List.set_cons_zero, List.set_cons_succ]
                            refine wpAnyH_take (i := 8) (oi := { dst := some 229, op := Op.binOp BinOp.neq 4 (Operand.tmp 223) (Operand.tmp 228) 4, type := 4, pos := "law.go:156", after := #[{ on := 2, ground := Ground.data }, { on := 7, ground := Ground.data }], guard := none }) (v := ?_) rfl (by kernel_rfl) (by kernel_rfl) (by kernel_rfl) (fun _ _ _ h => h) (Or.inl ⟨by rfl, ?_⟩) (by assumption) ?_
                            rotate_left
                            · intro w hSw
                              clear hSw
                              go_simp
                              all_goals with_reducible rfl
                            simp only [Act.put, List.setIfInBounds_toArray, List.set_cons_zero, List.set_cons_succ]
                            refine wpAnyH_done (by kernel_rfl) ?_ _
                            refine NoPanic.normal ?_
                            clear hHeld
                            have BY := hide (CZ2.out.below _ (Nat.le_refl _) (fun _ _ e => e))
                            generalize Z2 = w5 at BY ⊢
                            have BL5 := hide (BL4.out.trans (BY.out.mono BL4.out.size))
                            clear CZ2 BY K4 BW4 SB4 Q4 BL4 EB
                            have K5 := hide (KS.out.below BL5.out)
                            have A5 := hide ((BL5.out.block _ (block_lt_of_row AR.out)).trans AR.out)
                            go_wp2_with fail
                            go_roundg gO
                            case measure => omega
                            case rel => exact ⟨i + 1, (some ⟨gs, 0, none⟩), sn', sc', T, vs, D, L, by omega, by first | rfl | simp, rfl, HSL.out, by omega, K5, MA⟩
                        · by_cases e2 : x.turn.tmod 5 = 2
                          · as_aux_lemma =>
                              have f1 := frozen_of_row _ _ 39 _ _ Q3.out
                              have ct := tg_cell YO.out.r YT.out Q3.out
                              obtain ⟨tb, htb⟩ : ∃ b, b = y.tag.getD 3 0 := ⟨_, rfl⟩
                              rw [← htb] at ct
                              have qx : bits .xor .u8 (tb.toNat : Int) 1 = ((tb ^^^ 1).toNat : Int) := u8_xor_cast tb 1
                              clear htb
                              go_upto_region 51 with fail
                              clear e2
                              generalize hX : w3.setCell _ _ = w4
                              obtain ⟨y2, hy2⟩ : ∃ y2 : S.Sg, y2 = ⟨y.h, y.tag.set 3 (tb ^^^ 1)⟩ := ⟨_, rfl⟩
                              have Q4 : Hid (w4.heap[gq]? = some (.cells (encG y2).toArray 34 (0, 0))) := by rw [← hX, hy2]; exact tg_row (tb ^^^ 1) YO.out.r Q3.out
                              have cX : Chg (fun k => k = gq) w3 w4 := by rw [← hX]; exact (Chg.refl _ _).setCell _ _ _ (fun _ => rfl)
                              have BL4 := hide (BL3.out.trans (cX.below w1.heap.size BL3.out.size (fun k hk e => by have := GQ.out; omega)))
                              have Y2O := hide (show y2.h.Ok by rw [hy2]; exact YO.out)
                              have Y2T := hide (show y2.tag.length = 32 by rw [hy2]; rw [List.length_set]; exact YT.out)
                              have K4 := hide (KS.out.below BL4.out)
                              have BW4 := hide K4.out.bw
                              have SB4 := hide (SB.out.below K4.out.bw (Nat.le_refl _))
                              clear hX cX hy2 Q3 BL3 AR3 c0 c1 c2 c3' d0 d1 d2 d3 f1
                              refine wp_region_noPanic ?_
                              refine wp_region_held_drew (S := (fun W => Chg (fun _ => False) w4 W)) follows ((Chg.refl _ _).drew) (fun hHeld => ?_)
                              clear hHeld
                              have hHeld : Chg (fun _ => False) w4 w4.drew := (Chg.refl _ _).drew
                              have CZ0 := hide hHeld
                              generalize w4.drew = Z0 at CZ0 hHeld ⊢
                              refine wpAnyH_take (i := 0) (oi := { dst := some 221, op := Op.move (Operand.tmp 7), type := 22, pos := "law.go:156", after := #[], guard := none }) (v := ?_) rfl (by kernel_rfl) (by kernel_rfl) (by kernel_rfl) (fun _ _ _ h => h) (Or.inl ⟨by rfl, ?_⟩) (by assumption) ?_
                              rotate_left
                              · intro w hSw
                                clear hSw
                                go_simp
                                all_goals with_reducible rfl
                              simp only [Act.put, List.setIfInBounds_toArray, List.set_cons_zero, List.set_cons_succ]
                              refine wpAnyH_take (i := 1) (oi := { dst := some 222, op := Op.load 34 (Operand.tmp 18), type := 34, pos := "law.go:156", after := #[], guard := none }) (v := .agg (encG y2).toArray) rfl (by kernel_rfl) (by kernel_rfl) (by kernel_rfl) (fun _ _ _ h => h) (yieldsIf_load_mid (by rfl) _ _ rfl gq 0 rfl (encG y2) _ (fun _ hSw => rangeAt_row (hSw.row Q4.out (fun e => e))) Tryd.underlying34 rfl (by rw [size_g _ Y2O.out.r Y2T.out, List.size_toArray])) (by assumption) ?_
                              simp only [Act.put, List.setIfInBounds_toArray, List.set_cons_zero, List.set_cons_succ]
                              refine wpAnyH_take (i := 3) (oi := { dst := some 224, op := Op.move (Operand.tmp 5), type := 42, pos := "law.go:156", after := #[], guard := none }) (v := ?_) rfl (by kernel_rfl) (by kernel_rfl) (by kernel_rfl) (fun _ _ _ h => h) (Or.inl ⟨by rfl, ?_⟩) (by assumption) ?_
                              rotate_left
                              · intro w hSw
                                clear hSw
                                go_simp
                                all_goals with_reducible rfl
                              simp only [Act.put, List.setIfInBounds_toArray, List.set_cons_zero, List.set_cons_succ]
                              refine wpAnyH_take (i := 4) (oi := { dst := some 225, op := Op.move (Operand.tmp 0), type := 41, pos := "law.go:156", after := #[], guard := none }) (v := ?_) rfl (by kernel_rfl) (by kernel_rfl) (by kernel_rfl) (fun _ _ _ h => h) (Or.inl ⟨by rfl, ?_⟩) (by assumption) ?_
                              rotate_left
                              · intro w hSw
                                clear hSw
                                go_simp
                                all_goals with_reducible rfl
                              simp only [Act.put, List.setIfInBounds_toArray, List.set_cons_zero, List.set_cons_succ]
                              refine wpAnyH_take (i := 5) (oi := { dst := some 226, op := Op.slice 57 (Operand.tmp 8) none none none, type := 64, pos := "law.go:156", after := #[], guard := none }) (v := ?_) rfl (by kernel_rfl) (by kernel_rfl) (by kernel_rfl) (fun _ _ _ h => h) (Or.inl ⟨by rfl, ?_⟩) (by assumption) ?_
                              rotate_left
                              · intro w hSw
                                clear hSw
                                go_simp
                                all_goals with_reducible rfl
                              simp only [Act.put, List.setIfInBounds_toArray, List.set_cons_zero, List.set_cons_succ]
                              refine wpAnyH_take (i := 6) (oi := { dst := some 227, op := Op.load 34 (Operand.tmp 18), type := 34, pos := "law.go:156", after := #[], guard := none }) (v := .agg (encG y2).toArray) rfl (by kernel_rfl) (by kernel_rfl) (by kernel_rfl) (fun _ _ _ h => h) (yieldsIf_load_mid (by rfl) _ _ rfl gq 0 rfl (encG y2) _ (fun _ hSw => rangeAt_row (hSw.row Q4.out (fun e => e))) Tryd.underlying34 rfl (by rw [size_g _ Y2O.out.r Y2T.out, List.size_toArray])) (by assumption) ?_
                              simp only [Act.put, List.setIfInBounds_toArray, List.set_cons_zero, List.set_cons_succ]
                              refine wpAnyH_ready (rs := [2]) (by kernel_rfl) (by simp) ?_
                              refine AllReadyH.cons (o := { dst := some 223, op := Op.call { callee := Callee.value (Operand.func 12), args := #[Operand.tmp 221, Operand.tmp 222], argTypes := #[22, 34] }, type := 4, pos := "law.go:156", after := #[{ on := 0, ground := Ground.data }, { on := 1, ground := Ground.data }], guard := none }) rfl (fun K hK => ?_) AllReadyH.nil
                              go_simp
                              refine (holds_r y2 Z0 (K4.out.ring.below (CZ0.out.below _ (Nat.le_refl _) (fun _ _ e => e))) Y2O.out Y2T.out (HK.out.below (BW4.out.trans (CZ0.out.below w.heap.size BW4.out.size (fun k hk e => by omega))) h0)).mono ?_
                              rintro e Z1 ⟨rfl, hb2⟩
                              obtain ⟨b, hb⟩ : ∃ b, b = S.rholds T y2 := ⟨_, rfl⟩
                              rw [← hb]
                              have EB := hide hb
                              clear hb
                              have CZ1 : Hid (Chg (fun _ => False) w4 Z1) := CZ0.out.then hb2
                              clear hb2 CZ0
                              clear hHeld
                              refine hK.out _ _ CZ1.out (fun hHeld => ?_)
                              clear hK K
                              try simp only [Act.put, List.setIfInBounds_toArray, List.set_cons_zero, List.set_cons_succ]
                              refine wpAnyH_ready (rs := [7]) (by kernel_rfl) (by simp) ?_
                              refine AllReadyH.cons (o := { dst := some 228, op := Op.call { callee := Callee.value (Operand.func 28), args := #[Operand.tmp 224, Operand.tmp 225, Operand.tmp 226, Operand.tmp 227], argTypes := #[42, 41, 64, 34] }, type := 4, pos := "law.go:156", after := #[{ on := 3, ground := Ground.data }, { on := 4, ground := Ground.data }, { on := 5, ground := Ground.data }, { on := 6, ground := Ground.data }, { on := 2, ground := Ground.chain }], guard := none }) rfl (fun K hK => ?_) AllReadyH.nil
                              go_simp
                              refine (lholds_any gT gd (.slice a l c) ks T vs D y2 Z1 (CZ1.out.row K4.out.tab (fun e => e)) (SB4.out.below (CZ1.out.below _ (Nat.le_refl _) (fun _ _ e => e)) (Nat.le_refl _)) KSS.out (K4.out.below (CZ1.out.below _ (Nat.le_refl _) (fun _ _ e => e))).dw MA.out Y2O.out Y2T.out).mono ?_
                              rintro e Z2 ⟨rfl, hb2⟩
                              rw [← EB.out]
                              have CZ2 : Hid (Chg (fun _ => False) w4 Z2) := CZ1.out.then hb2
                              clear hb2 CZ1
                              clear hHeld
                              refine hK.out _ _ CZ2.out (fun hHeld => ?_)
                              clear hK K
                              try simp only [Act.put, List.setIfInBounds_toArray, List.set_cons_zero, List.set_cons_succ]
                              refine wpAnyH_take (i := 8) (oi := { dst := some 229, op := Op.binOp BinOp.neq 4 (Operand.tmp 223) (Operand.tmp 228) 4, type := 4, pos := "law.go:156", after := #[{ on := 2, ground := Ground.data }, { on := 7, ground := Ground.data }], guard := none }) (v := ?_) rfl (by kernel_rfl) (by kernel_rfl) (by kernel_rfl) (fun _ _ _ h => h) (Or.inl ⟨by rfl, ?_⟩) (by assumption) ?_
                              rotate_left
                              · intro w hSw
                                clear hSw
                                go_simp
                                all_goals with_reducible rfl
                              simp only [Act.put, List.setIfInBounds_toArray, List.set_cons_zero, List.set_cons_succ]
                              refine wpAnyH_done (by kernel_rfl) ?_ _
                              refine NoPanic.normal ?_
                              clear hHeld
                              have BY := hide (CZ2.out.below _ (Nat.le_refl _) (fun _ _ e => e))
                              generalize Z2 = w5 at BY ⊢
                              have BL5 := hide (BL4.out.trans (BY.out.mono BL4.out.size))
                              clear CZ2 BY K4 BW4 SB4 Q4 BL4 EB
                              have K5 := hide (KS.out.below BL5.out)
                              have A5 := hide ((BL5.out.block _ (block_lt_of_row AR.out)).trans AR.out)
                              go_wp2_with fail
                              go_roundg gO
                              case measure => omega
                              case rel => exact ⟨i + 1, (some ⟨gs, 0, none⟩), sn', sc', T, vs, D, L, by omega, by first | rfl | simp, rfl, HSL.out, by omega, K5, MA⟩
                          · by_cases e3 : x.turn.tmod 5 = 3
                            · as_aux_lemma =>
                                have f1 := frozen_of_row _ _ 1 _ _ Q3.out
                                obtain ⟨n', hn', hn16⟩ := S.isT_nat YK.out.tr
                                have he1 := YK.out.e1
                                rw [hn', MA.out.eps n' hn16] at he1
                                have he2 := KS.out.dw.few n'
                                have he0 := YK.out.e0
                                have qv : IntKind.i64.wrap (y.h.epoch + 1) = y.h.epoch + 1 := by rw [IntKind.wrap_i64]; omega
                                have QE := hide (show -9223372036854775808 ≤ y.h.epoch + 1 ∧ y.h.epoch + 1 ≤ 9223372036854775807 by omega)
                                clear hn' hn16 he1 he2 he0
                                go_upto_region 51 with fail
                                clear e3
                                generalize hX : w3.setCell _ _ = w4
                                obtain ⟨y2, hy2⟩ : ∃ y2 : S.Sg, y2 = ⟨⟨y.h.tree, y.h.epoch + 1, y.h.size, y.h.clock, y.h.root⟩, y.tag⟩ := ⟨_, rfl⟩
                                have Q4 : Hid (w4.heap[gq]? = some (.cells (encG y2).toArray 34 (0, 0))) := by rw [← hX, hy2]; exact eg_row (y.h.epoch + 1) Q3.out
                                have cX : Chg (fun k => k = gq) w3 w4 := by rw [← hX]; exact (Chg.refl _ _).setCell _ _ _ (fun _ => rfl)
                                have BL4 := hide (BL3.out.trans (cX.below w1.heap.size BL3.out.size (fun k hk e => by have := GQ.out; omega)))
                                have Y2O := hide (show y2.h.Ok by rw [hy2]; exact ⟨YO.out.t1, YO.out.t2, QE.out.1, QE.out.2, YO.out.s2, YO.out.c2, YO.out.r⟩)
                                have Y2T := hide (show y2.tag.length = 32 by rw [hy2]; exact YT.out)
                                have K4 := hide (KS.out.below BL4.out)
                                have BW4 := hide K4.out.bw
                                have SB4 := hide (SB.out.below K4.out.bw (Nat.le_refl _))
                                clear hX cX hy2 Q3 BL3 AR3 c0 c1 c2 c3' d0 d1 d2 d3 f1
                                refine wp_region_noPanic ?_
                                refine wp_region_held_drew (S := (fun W => Chg (fun _ => False) w4 W)) follows ((Chg.refl _ _).drew) (fun hHeld => ?_)
                                clear hHeld
                                have hHeld : Chg (fun _ => False) w4 w4.drew := (Chg.refl _ _).drew
                                have CZ0 := hide hHeld
                                generalize w4.drew = Z0 at CZ0 hHeld ⊢
                                refine wpAnyH_take (i := 0) (oi := { dst := some 221, op := Op.move (Operand.tmp 7), type := 22, pos := "law.go:156", after := #[], guard := none }) (v := ?_) rfl (by kernel_rfl) (by kernel_rfl) (by kernel_rfl) (fun _ _ _ h => h) (Or.inl ⟨by rfl, ?_⟩) (by assumption) ?_
                                rotate_left
                                · intro w hSw
                                  clear hSw
                                  go_simp
                                  all_goals with_reducible rfl
                                simp only [Act.put, List.setIfInBounds_toArray, List.set_cons_zero, List.set_cons_succ]
                                refine wpAnyH_take (i := 1) (oi := { dst := some 222, op := Op.load 34 (Operand.tmp 18), type := 34, pos := "law.go:156", after := #[], guard := none }) (v := .agg (encG y2).toArray) rfl (by kernel_rfl) (by kernel_rfl) (by kernel_rfl) (fun _ _ _ h => h) (yieldsIf_load_mid (by rfl) _ _ rfl gq 0 rfl (encG y2) _ (fun _ hSw => rangeAt_row (hSw.row Q4.out (fun e => e))) Tryd.underlying34 rfl (by rw [size_g _ Y2O.out.r Y2T.out, List.size_toArray])) (by assumption) ?_
                                simp only [Act.put, List.setIfInBounds_toArray, List.set_cons_zero, List.set_cons_succ]
                                refine wpAnyH_take (i := 3) (oi := { dst := some 224, op := Op.move (Operand.tmp 5), type := 42, pos := "law.go:156", after := #[], guard := none }) (v := ?_) rfl (by kernel_rfl) (by kernel_rfl) (by kernel_rfl) (fun _ _ _ h => h) (Or.inl ⟨by rfl, ?_⟩) (by assumption) ?_
                                rotate_left
                                · intro w hSw
                                  clear hSw
                                  go_simp
                                  all_goals with_reducible rfl
                                simp only [Act.put, List.setIfInBounds_toArray, List.set_cons_zero, List.set_cons_succ]
                                refine wpAnyH_take (i := 4) (oi := { dst := some 225, op := Op.move (Operand.tmp 0), type := 41, pos := "law.go:156", after := #[], guard := none }) (v := ?_) rfl (by kernel_rfl) (by kernel_rfl) (by kernel_rfl) (fun _ _ _ h => h) (Or.inl ⟨by rfl, ?_⟩) (by assumption) ?_
                                rotate_left
                                · intro w hSw
                                  clear hSw
                                  go_simp
                                  all_goals with_reducible rfl
                                simp only [Act.put, List.setIfInBounds_toArray, List.set_cons_zero, List.set_cons_succ]
                                refine wpAnyH_take (i := 5) (oi := { dst := some 226, op := Op.slice 57 (Operand.tmp 8) none none none, type := 64, pos := "law.go:156", after := #[], guard := none }) (v := ?_) rfl (by kernel_rfl) (by kernel_rfl) (by kernel_rfl) (fun _ _ _ h => h) (Or.inl ⟨by rfl, ?_⟩) (by assumption) ?_
                                rotate_left
                                · intro w hSw
                                  clear hSw
                                  go_simp
                                  all_goals with_reducible rfl
                                simp only [Act.put, List.setIfInBounds_toArray, List.set_cons_zero, List.set_cons_succ]
                                refine wpAnyH_take (i := 6) (oi := { dst := some 227, op := Op.load 34 (Operand.tmp 18), type := 34, pos := "law.go:156", after := #[], guard := none }) (v := .agg (encG y2).toArray) rfl (by kernel_rfl) (by kernel_rfl) (by kernel_rfl) (fun _ _ _ h => h) (yieldsIf_load_mid (by rfl) _ _ rfl gq 0 rfl (encG y2) _ (fun _ hSw => rangeAt_row (hSw.row Q4.out (fun e => e))) Tryd.underlying34 rfl (by rw [size_g _ Y2O.out.r Y2T.out, List.size_toArray])) (by assumption) ?_
                                simp only [Act.put, List.setIfInBounds_toArray, List.set_cons_zero, List.set_cons_succ]
                                refine wpAnyH_ready (rs := [2]) (by kernel_rfl) (by simp) ?_
                                refine AllReadyH.cons (o := { dst := some 223, op := Op.call { callee := Callee.value (Operand.func 12), args := #[Operand.tmp 221, Operand.tmp 222], argTypes := #[22, 34] }, type := 4, pos := "law.go:156", after := #[{ on := 0, ground := Ground.data }, { on := 1, ground := Ground.data }], guard := none }) rfl (fun K hK => ?_) AllReadyH.nil
                                go_simp
                                refine (holds_r y2 Z0 (K4.out.ring.below (CZ0.out.below _ (Nat.le_refl _) (fun _ _ e => e))) Y2O.out Y2T.out (HK.out.below (BW4.out.trans (CZ0.out.below w.heap.size BW4.out.size (fun k hk e => by omega))) h0)).mono ?_
                                rintro e Z1 ⟨rfl, hb2⟩
                                obtain ⟨b, hb⟩ : ∃ b, b = S.rholds T y2 := ⟨_, rfl⟩
                                rw [← hb]
                                have EB := hide hb
                                clear hb
                                have CZ1 : Hid (Chg (fun _ => False) w4 Z1) := CZ0.out.then hb2
                                clear hb2 CZ0
                                clear hHeld
                                refine hK.out _ _ CZ1.out (fun hHeld => ?_)
                                clear hK K
                                try simp only [Act.put, List.setIfInBounds_toArray, List.set_cons_zero, List.set_cons_succ]
                                refine wpAnyH_ready (rs := [7]) (by kernel_rfl) (by simp) ?_
                                refine AllReadyH.cons (o := { dst := some 228, op := Op.call { callee := Callee.value (Operand.func 28), args := #[Operand.tmp 224, Operand.tmp 225, Operand.tmp 226, Operand.tmp 227], argTypes := #[42, 41, 64, 34] }, type := 4, pos := "law.go:156", after := #[{ on := 3, ground := Ground.data }, { on := 4, ground := Ground.data }, { on := 5, ground := Ground.data }, { on := 6, ground := Ground.data }, { on := 2, ground := Ground.chain }], guard := none }) rfl (fun K hK => ?_) AllReadyH.nil
                                go_simp
                                refine (lholds_any gT gd (.slice a l c) ks T vs D y2 Z1 (CZ1.out.row K4.out.tab (fun e => e)) (SB4.out.below (CZ1.out.below _ (Nat.le_refl _) (fun _ _ e => e)) (Nat.le_refl _)) KSS.out (K4.out.below (CZ1.out.below _ (Nat.le_refl _) (fun _ _ e => e))).dw MA.out Y2O.out Y2T.out).mono ?_
                                rintro e Z2 ⟨rfl, hb2⟩
                                rw [← EB.out]
                                have CZ2 : Hid (Chg (fun _ => False) w4 Z2) := CZ1.out.then hb2
                                clear hb2 CZ1
                                clear hHeld
                                refine hK.out _ _ CZ2.out (fun hHeld => ?_)
                                clear hK K
                                try simp only [Act.put, List.setIfInBounds_toArray, List.set_cons_zero, List.set_cons_succ]
                                refine wpAnyH_take (i := 8) (oi := { dst := some 229, op := Op.binOp BinOp.neq 4 (Operand.tmp 223) (Operand.tmp 228) 4, type := 4, pos := "law.go:156", after := #[{ on := 2, ground := Ground.data }, { on := 7, ground := Ground.data }], guard := none }) (v := ?_) rfl (by kernel_rfl) (by kernel_rfl) (by kernel_rfl) (fun _ _ _ h => h) (Or.inl ⟨by rfl, ?_⟩) (by assumption) ?_
                                rotate_left
                                · intro w hSw
                                  clear hSw
                                  go_simp
                                  all_goals with_reducible rfl
                                simp only [Act.put, List.setIfInBounds_toArray, List.set_cons_zero, List.set_cons_succ]
                                refine wpAnyH_done (by kernel_rfl) ?_ _
                                refine NoPanic.normal ?_
                                clear hHeld
                                have BY := hide (CZ2.out.below _ (Nat.le_refl _) (fun _ _ e => e))
                                generalize Z2 = w5 at BY ⊢
                                have BL5 := hide (BL4.out.trans (BY.out.mono BL4.out.size))
                                clear CZ2 BY K4 BW4 SB4 Q4 BL4 EB
                                have K5 := hide (KS.out.below BL5.out)
                                have A5 := hide ((BL5.out.block _ (block_lt_of_row AR.out)).trans AR.out)
                                go_wp2_with fail
                                go_roundg gO
                                case measure => omega
                                case rel => exact ⟨i + 1, (some ⟨gs, 0, none⟩), sn', sc', T, vs, D, L, by omega, by first | rfl | simp, rfl, HSL.out, by omega, K5, MA⟩
                            · by_cases e4 : x.turn.tmod 5 = 4
                              · as_aux_lemma =>
                                  have f1 := frozen_of_row _ _ 3 _ _ Q3.out
                                  have qv : IntKind.u64.wrap ((y.h.clock : Int) + 1) = (((y.h.clock + 1) % 18446744073709551616 : Nat) : Int) := by rw [IntKind.wrap_u64]; omega
                                  go_upto_region 51 with fail
                                  clear e4
                                  generalize hX : w3.setCell _ _ = w4
                                  obtain ⟨y2, hy2⟩ : ∃ y2 : S.Sg, y2 = ⟨⟨y.h.tree, y.h.epoch, y.h.size, (y.h.clock + 1) % 18446744073709551616, y.h.root⟩, y.tag⟩ := ⟨_, rfl⟩
                                  have Q4 : Hid (w4.heap[gq]? = some (.cells (encG y2).toArray 34 (0, 0))) := by rw [← hX, hy2]; exact ck_row ((y.h.clock + 1) % 18446744073709551616) Q3.out
                                  have cX : Chg (fun k => k = gq) w3 w4 := by rw [← hX]; exact (Chg.refl _ _).setCell _ _ _ (fun _ => rfl)
                                  have BL4 := hide (BL3.out.trans (cX.below w1.heap.size BL3.out.size (fun k hk e => by have := GQ.out; omega)))
                                  have Y2O := hide (show y2.h.Ok by rw [hy2]; exact ⟨YO.out.t1, YO.out.t2, YO.out.e1, YO.out.e2, YO.out.s2, (show (y.h.clock + 1) % 18446744073709551616 < 18446744073709551616 by omega), YO.out.r⟩)
                                  have Y2T := hide (show y2.tag.length = 32 by rw [hy2]; exact YT.out)
                                  have K4 := hide (KS.out.below BL4.out)
                                  have BW4 := hide K4.out.bw
                                  have SB4 := hide (SB.out.below K4.out.bw (Nat.le_refl _))
                                  clear hX cX hy2 Q3 BL3 AR3 c0 c1 c2 c3' d0 d1 d2 d3 f1
                                  refine wp_region_noPanic ?_
                                  refine wp_region_held_drew (S := (fun W => Chg (fun _ => False) w4 W)) follows ((Chg.refl _ _).drew) (fun hHeld => ?_)
                                  clear hHeld
                                  have hHeld : Chg (fun _ => False) w4 w4.drew := (Chg.refl _ _).drew
                                  have CZ0 := hide hHeld
                                  generalize w4.drew = Z0 at CZ0 hHeld ⊢
                                  refine wpAnyH_take (i := 0) (oi := { dst := some 221, op := Op.move (Operand.tmp 7), type := 22, pos := "law.go:156", after := #[], guard := none }) (v := ?_) rfl (by kernel_rfl) (by kernel_rfl) (by kernel_rfl) (fun _ _ _ h => h) (Or.inl ⟨by rfl, ?_⟩) (by assumption) ?_
                                  rotate_left
                                  · intro w hSw
                                    clear hSw
                                    go_simp
                                    all_goals with_reducible rfl
                                  simp only [Act.put, List.setIfInBounds_toArray, List.set_cons_zero, List.set_cons_succ]
                                  refine wpAnyH_take (i := 1) (oi := { dst := some 222, op := Op.load 34 (Operand.tmp 18), type := 34, pos := "law.go:156", after := #[], guard := none }) (v := .agg (encG y2).toArray) rfl (by kernel_rfl) (by kernel_rfl) (by kernel_rfl) (fun _ _ _ h => h) (yieldsIf_load_mid (by rfl) _ _ rfl gq 0 rfl (encG y2) _ (fun _ hSw => rangeAt_row (hSw.row Q4.out (fun e => e))) Tryd.underlying34 rfl (by rw [size_g _ Y2O.out.r Y2T.out, List.size_toArray])) (by assumption) ?_
                                  simp only [Act.put, List.setIfInBounds_toArray, List.set_cons_zero, List.set_cons_succ]
                                  refine wpAnyH_take (i := 3) (oi := { dst := some 224, op := Op.move (Operand.tmp 5), type := 42, pos := "law.go:156", after := #[], guard := none }) (v := ?_) rfl (by kernel_rfl) (by kernel_rfl) (by kernel_rfl) (fun _ _ _ h => h) (Or.inl ⟨by rfl, ?_⟩) (by assumption) ?_
                                  rotate_left
                                  · intro w hSw
                                    clear hSw
                                    go_simp
                                    all_goals with_reducible rfl
                                  simp only [Act.put, List.setIfInBounds_toArray, List.set_cons_zero, List.set_cons_succ]
                                  refine wpAnyH_take (i := 4) (oi := { dst := some 225, op := Op.move (Operand.tmp 0), type := 41, pos := "law.go:156", after := #[], guard := none }) (v := ?_) rfl (by kernel_rfl) (by kernel_rfl) (by kernel_rfl) (fun _ _ _ h => h) (Or.inl ⟨by rfl, ?_⟩) (by assumption) ?_
                                  rotate_left
                                  · intro w hSw
                                    clear hSw
                                    go_simp
                                    all_goals with_reducible rfl
                                  simp only [Act.put, List.setIfInBounds_toArray, List.set_cons_zero, List.set_cons_succ]
                                  refine wpAnyH_take (i := 5) (oi := { dst := some 226, op := Op.slice 57 (Operand.tmp 8) none none none, type := 64, pos := "law.go:156", after := #[], guard := none }) (v := ?_) rfl (by kernel_rfl) (by kernel_rfl) (by kernel_rfl) (fun _ _ _ h => h) (Or.inl ⟨by rfl, ?_⟩) (by assumption) ?_
                                  rotate_left
                                  · intro w hSw
                                    clear hSw
                                    go_simp
                                    all_goals with_reducible rfl
                                  simp only [Act.put, List.setIfInBounds_toArray, List.set_cons_zero, List.set_cons_succ]
                                  refine wpAnyH_take (i := 6) (oi := { dst := some 227, op := Op.load 34 (Operand.tmp 18), type := 34, pos := "law.go:156", after := #[], guard := none }) (v := .agg (encG y2).toArray) rfl (by kernel_rfl) (by kernel_rfl) (by kernel_rfl) (fun _ _ _ h => h) (yieldsIf_load_mid (by rfl) _ _ rfl gq 0 rfl (encG y2) _ (fun _ hSw => rangeAt_row (hSw.row Q4.out (fun e => e))) Tryd.underlying34 rfl (by rw [size_g _ Y2O.out.r Y2T.out, List.size_toArray])) (by assumption) ?_
                                  simp only [Act.put, List.setIfInBounds_toArray, List.set_cons_zero, List.set_cons_succ]
                                  refine wpAnyH_ready (rs := [2]) (by kernel_rfl) (by simp) ?_
                                  refine AllReadyH.cons (o := { dst := some 223, op := Op.call { callee := Callee.value (Operand.func 12), args := #[Operand.tmp 221, Operand.tmp 222], argTypes := #[22, 34] }, type := 4, pos := "law.go:156", after := #[{ on := 0, ground := Ground.data }, { on := 1, ground := Ground.data }], guard := none }) rfl (fun K hK => ?_) AllReadyH.nil
                                  go_simp
                                  refine (holds_r y2 Z0 (K4.out.ring.below (CZ0.out.below _ (Nat.le_refl _) (fun _ _ e => e))) Y2O.out Y2T.out (HK.out.below (BW4.out.trans (CZ0.out.below w.heap.size BW4.out.size (fun k hk e => by omega))) h0)).mono ?_
                                  rintro e Z1 ⟨rfl, hb2⟩
                                  obtain ⟨b, hb⟩ : ∃ b, b = S.rholds T y2 := ⟨_, rfl⟩
                                  rw [← hb]
                                  have EB := hide hb
                                  clear hb
                                  have CZ1 : Hid (Chg (fun _ => False) w4 Z1) := CZ0.out.then hb2
                                  clear hb2 CZ0
                                  clear hHeld
                                  refine hK.out _ _ CZ1.out (fun hHeld => ?_)
                                  clear hK K
                                  try simp only [Act.put, List.setIfInBounds_toArray, List.set_cons_zero, List.set_cons_succ]
                                  refine wpAnyH_ready (rs := [7]) (by kernel_rfl) (by simp) ?_
                                  refine AllReadyH.cons (o := { dst := some 228, op := Op.call { callee := Callee.value (Operand.func 28), args := #[Operand.tmp 224, Operand.tmp 225, Operand.tmp 226, Operand.tmp 227], argTypes := #[42, 41, 64, 34] }, type := 4, pos := "law.go:156", after := #[{ on := 3, ground := Ground.data }, { on := 4, ground := Ground.data }, { on := 5, ground := Ground.data }, { on := 6, ground := Ground.data }, { on := 2, ground := Ground.chain }], guard := none }) rfl (fun K hK => ?_) AllReadyH.nil
                                  go_simp
                                  refine (lholds_any gT gd (.slice a l c) ks T vs D y2 Z1 (CZ1.out.row K4.out.tab (fun e => e)) (SB4.out.below (CZ1.out.below _ (Nat.le_refl _) (fun _ _ e => e)) (Nat.le_refl _)) KSS.out (K4.out.below (CZ1.out.below _ (Nat.le_refl _) (fun _ _ e => e))).dw MA.out Y2O.out Y2T.out).mono ?_
                                  rintro e Z2 ⟨rfl, hb2⟩
                                  rw [← EB.out]
                                  have CZ2 : Hid (Chg (fun _ => False) w4 Z2) := CZ1.out.then hb2
                                  clear hb2 CZ1
                                  clear hHeld
                                  refine hK.out _ _ CZ2.out (fun hHeld => ?_)
                                  clear hK K
                                  try simp only [Act.put, List.setIfInBounds_toArray, List.set_cons_zero, List.set_cons_succ]
                                  refine wpAnyH_take (i := 8) (oi := { dst := some 229, op := Op.binOp BinOp.neq 4 (Operand.tmp 223) (Operand.tmp 228) 4, type := 4, pos := "law.go:156", after := #[{ on := 2, ground := Ground.data }, { on := 7, ground := Ground.data }], guard := none }) (v := ?_) rfl (by kernel_rfl) (by kernel_rfl) (by kernel_rfl) (fun _ _ _ h => h) (Or.inl ⟨by rfl, ?_⟩) (by assumption) ?_
                                  rotate_left
                                  · intro w hSw
                                    clear hSw
                                    go_simp
                                    all_goals with_reducible rfl
                                  simp only [Act.put, List.setIfInBounds_toArray, List.set_cons_zero, List.set_cons_succ]
                                  refine wpAnyH_done (by kernel_rfl) ?_ _
                                  refine NoPanic.normal ?_
                                  clear hHeld
                                  have BY := hide (CZ2.out.below _ (Nat.le_refl _) (fun _ _ e => e))
                                  generalize Z2 = w5 at BY ⊢
                                  have BL5 := hide (BL4.out.trans (BY.out.mono BL4.out.size))
                                  clear CZ2 BY K4 BW4 SB4 Q4 BL4 EB
                                  have K5 := hide (KS.out.below BL5.out)
                                  have A5 := hide ((BL5.out.block _ (block_lt_of_row AR.out)).trans AR.out)
                                  go_wp2_with fail
                                  go_roundg gO
                                  case measure => omega
                                  case rel => exact ⟨i + 1, (some ⟨gs, 0, none⟩), sn', sc', T, vs, D, L, by omega, by first | rfl | simp, rfl, HSL.out, by omega, K5, MA⟩
                              · as_aux_lemma =>
                                  have b1 : (x.turn.tmod 5 == 1) = false := by simp; omega
                                  have b2 : (x.turn.tmod 5 == 2) = false := by simp; omega
                                  have b3 : (x.turn.tmod 5 == 3) = false := by simp; omega
                                  have b4 : (x.turn.tmod 5 == 4) = false := by simp; omega
                                  have K3 := hide (KS.out.below BL3.out)
                                  go_wp2_with fail
                                  go_roundg gO
                                  case measure => omega
                                  case rel => exact ⟨i + 1, (some ⟨gs, 0, none⟩), sn', sc', T, vs, D, L, by omega, by first | rfl | simp, rfl, HSL.out, by omega, K3, MA⟩
                · as_aux_lemma =>
                    have q4 : (x.kind == 1) = false := by simp; omega
                    have q5 : (x.kind == 2) = false := by simp; omega
                    have q6 : (x.kind == 3) = false := by simp; omega
                    go_upto_region 53 with fail
                    go_wp2_with fail
                    go_roundg gO
                    case measure => omega
                    case rel => exact ⟨i + 1, so', sn', sc', T, vs, D, L, by omega, by first | rfl | simp, rfl, HSL.out, by omega, KS, MA⟩
end Go.Proofs.YtllcnppcncegpaaDoor
