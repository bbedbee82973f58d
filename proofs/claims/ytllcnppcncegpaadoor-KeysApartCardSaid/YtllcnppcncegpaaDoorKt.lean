/- KeysApart. -/
import Derived.Test.YtllcnppcncegpaaDoorKs
import Derived.Deep.CutBlock
namespace Go.Proofs.YtllcnppcncegpaaDoor
open Go.RowKit

set_option maxHeartbeats 40000000 in
set_option maxRecDepth 10000 in
theorem keysApart_walk (sv : Value) (ks : List UInt8) (tr ep : Int) (draw : Nat) (h : S.Hd) (wh : Int) (w : World) (hs : SliceAt w sv ks) (t1 : -9223372036854775808 ≤ tr) (t2 : tr ≤ 9223372036854775807) (e1 : -9223372036854775808 ≤ ep) (e2 : ep ≤ 9223372036854775807) (hd : draw < 4294967296) (hok : h.Ok) (x1 : -9223372036854775808 ≤ wh) (x2 : wh ≤ 9223372036854775807) (hK : KAt w) :
   Calls Tryd.prog 6 #[sv, .int .i64 tr, .int .i64 ep, .int .u32 (draw : Int), .agg (encH h).toArray, .int .i64 wh] w fun e w' => e = .returned (.bool true) ∧ Below w.heap.size w w' := by
  obtain ⟨so, sn, sc, rfl, hsn, hsm⟩ := hs.form
  have HS := hide hs
  have HK := hide hK
  have h0 := hK.pos
  have HDR := hide hd
  have HOK := hide hok
  have HR := hide hok.r
  clear hs hK hok hsn hsm
  go_enter Tryd.func6, Tryd.ntmps6
  go_upto_region 1 with fail
  generalize hW0 : w.alloc _ = W0
  have B0 : Below w.heap.size w W0 := by rw [← hW0]; exact (Below.refl _ _).alloc (Nat.le_refl _) _
  have s0 : W0.heap.size = w.heap.size + 1 := by rw [← hW0]; simp
  have r0 : W0.heap[w.heap.size]? = some (.cells (encH h).toArray 32 (0, 0)) := by rw [← hW0]; exact heap_alloc_new _ _
  have BB : Hid (Below w.heap.size w W0) := B0
  have Q0 : Hid (W0.heap[w.heap.size]? = some (.cells (encH h).toArray 32 (0, 0))) := r0
  clear hW0 B0 s0 r0
  have BW0 := BB
  go_wp2_with fail
  refine (within_any tr 15 W0 t1 t2 (by omega) (by omega)).mono ?_
  rintro r _ ⟨rfl, rfl⟩
  have htl := S.within_le tr 15 (by omega)
  obtain ⟨t, ht⟩ : ∃ t, t = S.within tr 15 := ⟨_, rfl⟩
  rw [← ht] at htl ⊢
  clear ht
  go_wp2_with fail
  refine (within_any ep 1000 W0 e1 e2 (by omega) (by omega)).mono ?_
  rintro r _ ⟨rfl, rfl⟩
  have hel := S.within_le ep 1000 (by omega)
  obtain ⟨e, he⟩ : ∃ e, e = S.within ep 1000 := ⟨_, rfl⟩
  rw [← he] at hel ⊢
  clear he
  have qe : IntKind.i64.wrap ((e : Int) + 1) = (e : Int) + 1 := by rw [IntKind.wrap_i64]; omega
  have qt : IntKind.i64.wrap ((t : Int) + 1) = (t : Int) + 1 := by rw [IntKind.wrap_i64]; omega
  go_upto_region 3 with fail
  go_wp2_with fail
  refine (key_any (.slice so sn sc) ks (t : Int) (e : Int) draw W0 HDR.out (HS.out.below BW0.out (Nat.le_refl _)) (HK.out.below BW0.out h0)).mono ?_
  rintro r W1 ⟨rfl, hb4⟩
  obtain ⟨D, hD⟩ : ∃ D, D = S.key ks (t : Int) (e : Int) draw := ⟨_, rfl⟩
  rw [← hD]
  have LD := hide (show D.length = 32 by rw [hD, S.key_length])
  clear hD
  obtain ⟨A5, W2, ha5, hs5, hr5, hb5, -⟩ := lay_dig W1 D LD.out
  obtain ⟨g13, hg⟩ : ∃ g, g = W1.heap.size := ⟨_, rfl⟩
  rw [← hg] at ha5 hs5 hr5
  have hb45 := hb4.trans (hb5.mono hb4.size)
  have BW2 := hide (BW0.out.trans (hb45.mono BW0.out.size))
  have Rg13 := hide hr5
  have Gg13 := hide (show W0.heap.size ≤ g13 by rw [hg]; exact hb4.size)
  replace Q0 := hide ((hb45.block _ (block_lt_of_row Q0.out)).trans Q0.out)
  have hg13lt := block_lt_of_row hr5
  have hsz1 : w.heap.size + 1 ≤ W2.heap.size := block_lt_of_row Q0.out
  clear hb4 hb5 hb45 hr5 hg
  go_upto_region 4 with (first | (with_reducible refine at_op { dst := some 13, op := Op.alloc 30, type := 0, pos := "law.go:174", after := #[], guard := none } ?_; refine wpList_alloc_known rfl 30 rfl _ _ ha5 ?_) | (with_reducible refine at_op { dst := none, op := Op.store 30 (Operand.tmp 13) (Operand.tmp 25), type := 0, pos := "law.go:174", after := #[{ on := 5, ground := Ground.data }, { on := 4, ground := Ground.data }, { on := 4, ground := Ground.chain }, { on := 0, ground := Ground.phase }, { on := 1, ground := Ground.phase }, { on := 2, ground := Ground.phase }, { on := 3, ground := Ground.phase }, { on := 4, ground := Ground.phase }, { on := 5, ground := Ground.phase }], guard := none } ?_; refine wpList_store_as rfl 30 (.tmp 13) (.tmp 25) rfl (.pointer (some ⟨g13, 0, none⟩)) (.agg (S.v8 D)) rfl rfl W2 hs5 ?_))
  clear ha5 hs5 A5
  go_wp2_with fail
  refine (key_any (.slice so sn sc) ks (t : Int) ((e : Int) + 1) draw W2 HDR.out (HS.out.below BW2.out (Nat.le_refl _)) (HK.out.below BW2.out h0)).mono ?_
  rintro r W3 ⟨rfl, hb4⟩
  obtain ⟨D1, hD⟩ : ∃ D, D = S.key ks (t : Int) ((e : Int) + 1) draw := ⟨_, rfl⟩
  rw [← hD]
  have LD1 := hide (show D1.length = 32 by rw [hD, S.key_length])
  clear hD
  obtain ⟨A5, W4, ha5, hs5, hr5, hb5, -⟩ := lay_dig W3 D1 LD1.out
  obtain ⟨g14, hg⟩ : ∃ g, g = W3.heap.size := ⟨_, rfl⟩
  rw [← hg] at ha5 hs5 hr5
  have hb45 := hb4.trans (hb5.mono hb4.size)
  have BW4 := hide (BW2.out.trans (hb45.mono BW2.out.size))
  have Rg14 := hide hr5
  have Gg14 := hide (show W2.heap.size ≤ g14 by rw [hg]; exact hb4.size)
  replace Q0 := hide ((hb45.block _ (block_lt_of_row Q0.out)).trans Q0.out)
  replace Rg13 := hide ((hb45.block _ (block_lt_of_row Rg13.out)).trans Rg13.out)
  clear hb4 hb5 hb45 hr5 hg
  go_upto_region 5 with (first | (with_reducible refine at_op { dst := some 14, op := Op.alloc 30, type := 0, pos := "law.go:175", after := #[], guard := none } ?_; refine wpList_alloc_known rfl 30 rfl _ _ ha5 ?_) | (with_reducible refine at_op { dst := none, op := Op.store 30 (Operand.tmp 14) (Operand.tmp 31), type := 0, pos := "law.go:175", after := #[{ on := 6, ground := Ground.data }, { on := 5, ground := Ground.data }, { on := 5, ground := Ground.chain }, { on := 0, ground := Ground.phase }, { on := 1, ground := Ground.phase }, { on := 2, ground := Ground.phase }, { on := 3, ground := Ground.phase }, { on := 4, ground := Ground.phase }, { on := 5, ground := Ground.phase }, { on := 6, ground := Ground.phase }], guard := none } ?_; refine wpList_store_as rfl 30 (.tmp 14) (.tmp 31) rfl (.pointer (some ⟨g14, 0, none⟩)) (.agg (S.v8 D1)) rfl rfl W4 hs5 ?_))
  clear ha5 hs5 A5
  go_wp2_with fail
  refine (within_any wh 2 W4 x1 x2 (by omega) (by omega)).mono ?_
  rintro r _ ⟨rfl, rfl⟩
  have hkl := S.within_le wh 2 (by omega)
  obtain ⟨k, hk⟩ : ∃ k, k = S.within wh 2 := ⟨_, rfl⟩
  rw [← hk] at hkl ⊢
  clear hk
  have NE := hide (show g14 ≠ g13 by have := Gg14.out; have := block_lt_of_row Rg13.out; have := hg13lt; omega)
  have G14 := hide (show w.heap.size + 1 ≤ g14 by have := Gg14.out; have := BW2.out.size; have := hsz1; omega)
  clear hg13lt hsz1
  go_upto_block 0 with fail
  go_cut [] from 34 to 51 (fun wc => ∃ D2 : List UInt8, Hid (D2.length = 32) ∧ Hid (wc.heap[g14]? = some (.cells (S.v8 D2) 30 (0, 0))) ∧ Hid (wc.heap[g13]? = some (.cells (S.v8 D) 30 (0, 0))) ∧ Hid (wc.heap[w.heap.size]? = some (.cells (encH h).toArray 32 (0, 0))) ∧ Hid (Below w.heap.size w wc))
  case first =>
    have hcv : k = 0 ∨ k = 1 ∨ k = 2 := by omega
    clear hkl
    rcases hcv with rfl | rfl | rfl
    · go_wp2_with fail
      go_meet
      exact ⟨D1, LD1, Rg14, Rg13, Q0, BW4⟩
    · have qm : ((t : Int) + 1).tmod 16 = (((t + 1) % 16 : Nat) : Int) := by rw [Int.tmod_eq_emod_of_nonneg (by omega)]; omega
      have qn : ¬ (16 : Int) = 0 := by omega
      go_wp2_with fail
      refine (key_any (.slice so sn sc) ks (((t + 1) % 16 : Nat) : Int) (e : Int) draw W4 HDR.out (HS.out.below BW4.out (Nat.le_refl _)) (HK.out.below BW4.out h0)).mono ?_
      rintro r W5 ⟨rfl, hb4⟩
      obtain ⟨D2, hD⟩ : ∃ D, D = S.key ks (((t + 1) % 16 : Nat) : Int) (e : Int) draw := ⟨_, rfl⟩
      rw [← hD]
      have LD2 := hide (show D2.length = 32 by rw [hD, S.key_length])
      obtain ⟨W6, hs5, hr5, hc5, -⟩ := store_dig (D := D2) ((hb4.block _ (block_lt_of_row Rg14.out)).trans Rg14.out) LD1.out LD2.out
      have Z14 := hide hr5
      have Z13 := hide (hc5.row ((hb4.block _ (block_lt_of_row Rg13.out)).trans Rg13.out) (fun e => NE.out e.symm))
      have Z0 := hide (hc5.row ((hb4.block _ (block_lt_of_row Q0.out)).trans Q0.out) (fun e => by have := G14.out; omega))
      have ZB := hide ((BW4.out.trans (hb4.mono BW4.out.size)).trans (hc5.below w.heap.size (BW4.out.trans (hb4.mono BW4.out.size)).size (fun k hk e => by have := G14.out; omega)))
      clear hb4 hr5 hc5 hD
      go_wp2_with (with_reducible refine at_op { dst := none, op := Op.store 30 (Operand.tmp 14) (Operand.tmp 42), type := 0, pos := "law.go:178", after := #[{ on := 6, ground := Ground.data }, { on := 6, ground := Ground.chain }, { on := 0, ground := Ground.phase }, { on := 1, ground := Ground.phase }, { on := 2, ground := Ground.phase }, { on := 3, ground := Ground.phase }, { on := 4, ground := Ground.phase }, { on := 5, ground := Ground.phase }, { on := 6, ground := Ground.phase }], guard := none } ?_; refine wpList_store_as rfl 30 (.tmp 14) (.tmp 42) rfl (.pointer (some ⟨g14, 0, none⟩)) (.agg (S.v8 D2)) rfl rfl W6 hs5 ?_)
      go_meet
      exact ⟨D2, LD2, Z14, Z13, Z0, ZB⟩
    · have qd : IntKind.u32.wrap ((draw : Int) + 1) = (((draw + 1) % 4294967296 : Nat) : Int) := by rw [IntKind.wrap_u32']; omega
      go_wp2_with fail
      refine (key_any (.slice so sn sc) ks (t : Int) (e : Int) ((draw + 1) % 4294967296) W4 (by omega) (HS.out.below BW4.out (Nat.le_refl _)) (HK.out.below BW4.out h0)).mono ?_
      rintro r W5 ⟨rfl, hb4⟩
      obtain ⟨D2, hD⟩ : ∃ D, D = S.key ks (t : Int) (e : Int) ((draw + 1) % 4294967296) := ⟨_, rfl⟩
      rw [← hD]
      have LD2 := hide (show D2.length = 32 by rw [hD, S.key_length])
      obtain ⟨W6, hs5, hr5, hc5, -⟩ := store_dig (D := D2) ((hb4.block _ (block_lt_of_row Rg14.out)).trans Rg14.out) LD1.out LD2.out
      have Z14 := hide hr5
      have Z13 := hide (hc5.row ((hb4.block _ (block_lt_of_row Rg13.out)).trans Rg13.out) (fun e => NE.out e.symm))
      have Z0 := hide (hc5.row ((hb4.block _ (block_lt_of_row Q0.out)).trans Q0.out) (fun e => by have := G14.out; omega))
      have ZB := hide ((BW4.out.trans (hb4.mono BW4.out.size)).trans (hc5.below w.heap.size (BW4.out.trans (hb4.mono BW4.out.size)).size (fun k hk e => by have := G14.out; omega)))
      clear hb4 hr5 hc5 hD
      go_wp2_with (with_reducible refine at_op { dst := none, op := Op.store 30 (Operand.tmp 14) (Operand.tmp 50), type := 0, pos := "law.go:180", after := #[{ on := 5, ground := Ground.data }, { on := 5, ground := Ground.chain }, { on := 0, ground := Ground.phase }, { on := 1, ground := Ground.phase }, { on := 2, ground := Ground.phase }, { on := 3, ground := Ground.phase }, { on := 4, ground := Ground.phase }, { on := 5, ground := Ground.phase }], guard := none } ?_; refine wpList_store_as rfl 30 (.tmp 14) (.tmp 50) rfl (.pointer (some ⟨g14, 0, none⟩)) (.agg (S.v8 D2)) rfl rfl W6 hs5 ?_)
      go_meet
      exact ⟨D2, LD2, Z14, Z13, Z0, ZB⟩
  case rest =>
    obtain ⟨D2, LD2, C14, C13, C0, CB⟩ := hcut
    clear Rg14 Rg13 Q0 BW4 LD1 qe qt
    have ld1 := load_dig C13.out LD.out
    have ld2 := load_h C0.out HR.out
    go_wp2_with (first | (with_reducible refine at_op { dst := some 51, op := Op.load 30 (Operand.tmp 13), type := 30, pos := "law.go:182", after := #[], guard := none } ?_; refine wpList_load_as rfl 30 (.tmp 13) rfl (.pointer (some ⟨g13, 0, none⟩)) rfl (.agg (S.v8 D)) ld1 ?_) | (with_reducible refine at_op { dst := some 52, op := Op.load 32 (Operand.tmp 10), type := 32, pos := "law.go:182", after := #[], guard := none } ?_; refine wpList_load_as rfl 32 (.tmp 10) rfl (.pointer (some ⟨w.heap.size, 0, none⟩)) rfl (.agg (encH h).toArray) ld2 ?_))
    refine (sign_any D h wc LD.out HOK.out (HK.out.below CB.out h0)).mono ?_
    rintro r W6 ⟨rfl, hb6⟩
    obtain ⟨G, hG⟩ : ∃ G, G = S.sign D h := ⟨_, rfl⟩
    rw [← hG]
    have GH1 := hide (show G.h = h by rw [hG, S.sign_root])
    have GL1 := hide (show G.h.root.length = 32 by rw [GH1.out]; exact HR.out)
    have GL2 := hide (show G.tag.length = 32 by rw [hG]; exact S.sign_len _ _)
    have GOK := hide (show G.h.Ok by rw [GH1.out]; exact HOK.out)
    have GH := hide (show (S.mac D (S.hb G.h) == G.tag) = true by rw [hG]; exact S.sign_holds D h)
    clear hG
    obtain ⟨A7, W7, ha7, hs7, hr7, hb7, -⟩ := lay_g W6 G GL1.out GL2.out
    obtain ⟨g15, hg15⟩ : ∃ g, g = W6.heap.size := ⟨_, rfl⟩
    rw [← hg15] at ha7 hs7 hr7
    have hb67 := hb6.trans (hb7.mono hb6.size)
    have B7 := hide (CB.out.trans (hb67.mono CB.out.size))
    have R15 := hide hr7
    have V14 := hide ((hb67.block _ (block_lt_of_row C14.out)).trans C14.out)
    have V13 := hide ((hb67.block _ (block_lt_of_row C13.out)).trans C13.out)
    have V0 := hide ((hb67.block _ (block_lt_of_row C0.out)).trans C0.out)
    clear hb6 hb7 hb67 hr7 hg15 C14 C13 C0 CB ld1 ld2
    go_upto_region 11 with (first | (with_reducible refine at_op { dst := some 15, op := Op.alloc 34, type := 0, pos := "law.go:182", after := #[], guard := none } ?_; refine wpList_alloc_known rfl 34 rfl _ _ ha7 ?_) | (with_reducible refine at_op { dst := none, op := Op.store 34 (Operand.tmp 15) (Operand.tmp 53), type := 0, pos := "law.go:182", after := #[{ on := 3, ground := Ground.data }, { on := 2, ground := Ground.data }, { on := 2, ground := Ground.chain }, { on := 0, ground := Ground.phase }, { on := 1, ground := Ground.phase }, { on := 2, ground := Ground.phase }, { on := 3, ground := Ground.phase }], guard := none } ?_; refine wpList_store_as rfl 34 (.tmp 15) (.tmp 53) rfl (.pointer (some ⟨g15, 0, none⟩)) (.agg (encG G).toArray) rfl rfl W7 hs7 ?_))
    clear ha7 hs7 A7
    go_wp2_with fail
    refine (new_any W7).mono ?_
    rintro r W8 ⟨gT, rfl, hgT, hrT, hbT⟩
    have B8 := hide (B7.out.trans (hbT.mono B7.out.size))
    have RT := hide hrT
    have U15 := hide ((hbT.block _ (block_lt_of_row R15.out)).trans R15.out)
    have U14 := hide ((hbT.block _ (block_lt_of_row V14.out)).trans V14.out)
    have U13 := hide ((hbT.block _ (block_lt_of_row V13.out)).trans V13.out)
    have U0 := hide ((hbT.block _ (block_lt_of_row V0.out)).trans V0.out)
    clear hgT hrT hbT B7 R15 V14 V13 V0
    have ld3 := load_dig U14.out LD2.out
    have ld4 := load_g U15.out GL1.out GL2.out
    go_upto_region 12 with fail
    go_wp2_with (first | (with_reducible refine at_op { dst := some 56, op := Op.load 30 (Operand.tmp 14), type := 30, pos := "law.go:184", after := #[], guard := none } ?_; refine wpList_load_as rfl 30 (.tmp 14) rfl (.pointer (some ⟨g14, 0, none⟩)) rfl (.agg (S.v8 D2)) ld3 ?_) | (with_reducible refine at_op { dst := some 57, op := Op.load 34 (Operand.tmp 15), type := 34, pos := "law.go:184", after := #[], guard := none } ?_; refine wpList_load_as rfl 34 (.tmp 15) rfl (.pointer (some ⟨g15, 0, none⟩)) rfl (.agg (encG G).toArray) ld4 ?_))
    refine (rholds_any gT D2 G W8 RT.out LD2.out GOK.out GL2.out).mono ?_
    rintro r W9 ⟨rfl, hb9⟩
    have B9 := hide (B8.out.trans (hb9.mono B8.out.size))
    have T15 := hide ((hb9.block _ (block_lt_of_row U15.out)).trans U15.out)
    have T14 := hide ((hb9.block _ (block_lt_of_row U14.out)).trans U14.out)
    have T13 := hide ((hb9.block _ (block_lt_of_row U13.out)).trans U13.out)
    have T0 := hide ((hb9.block _ (block_lt_of_row U0.out)).trans U0.out)
    clear hb9 B8 U15 U14 U13 U0 ld3 ld4 RT
    obtain ⟨b, hb⟩ : ∃ b, b = (S.mac D2 (S.hb G.h) == G.tag) := ⟨_, rfl⟩
    rw [← hb]
    have EB := hide hb
    clear hb
    cases b with
    | true =>
      go_wp2_with fail
      refine (known_any W9 (HK.out.below B9.out h0)).mono ?_
      rintro r v4 ⟨rfl, hb⟩
      have BF := hide (B9.out.trans (hb.mono B9.out.size))
      clear hb
      go_wp2_with fail
      go_ret
      exact ⟨rfl, BF.out⟩
    | false =>
      go_upto_region 14 with fail
      have ld5 := load_dig T13.out LD.out
      have ld6 := load_g T15.out GL1.out GL2.out
      go_wp2_with (first | (with_reducible refine at_op { dst := some 60, op := Op.load 30 (Operand.tmp 13), type := 30, pos := "law.go:187", after := #[], guard := none } ?_; refine wpList_load_as rfl 30 (.tmp 13) rfl (.pointer (some ⟨g13, 0, none⟩)) rfl (.agg (S.v8 D)) ld5 ?_) | (with_reducible refine at_op { dst := some 61, op := Op.load 34 (Operand.tmp 15), type := 34, pos := "law.go:187", after := #[], guard := none } ?_; refine wpList_load_as rfl 34 (.tmp 15) rfl (.pointer (some ⟨g15, 0, none⟩)) rfl (.agg (encG G).toArray) ld6 ?_))
      refine (holds_any D G W9 LD.out GOK.out GL2.out (HK.out.below B9.out h0)).mono ?_
      rintro r Wa ⟨rfl, hba⟩
      rw [GH.out]
      have Ba := hide (B9.out.trans (hba.mono B9.out.size))
      have a15 := hide ((hba.block _ (block_lt_of_row T15.out)).trans T15.out)
      have a14 := hide ((hba.block _ (block_lt_of_row T14.out)).trans T14.out)
      have a0 := hide ((hba.block _ (block_lt_of_row T0.out)).trans T0.out)
      clear hba T15 T14 T13 T0 B9 ld5 ld6
      have ld7 := load_dig a14.out LD2.out
      have ld8 := load_g a15.out GL1.out GL2.out
      go_wp2_with (first | (with_reducible refine at_op { dst := some 64, op := Op.load 30 (Operand.tmp 14), type := 30, pos := "law.go:187", after := #[{ on := 3, ground := Ground.guard }], guard := some (3, true) } ?_; refine load_when rfl 30 (.tmp 14) rfl (.pointer (some ⟨g14, 0, none⟩)) rfl (.agg (S.v8 D2)) ld7 ?_) | (with_reducible refine at_op { dst := some 65, op := Op.load 34 (Operand.tmp 15), type := 34, pos := "law.go:187", after := #[{ on := 3, ground := Ground.guard }], guard := some (3, true) } ?_; refine load_when rfl 34 (.tmp 15) rfl (.pointer (some ⟨g15, 0, none⟩)) rfl (.agg (encG G).toArray) ld8 ?_))
      refine (holds_any D2 G Wa LD2.out GOK.out GL2.out (HK.out.below Ba.out h0)).mono ?_
      rintro r Wb ⟨rfl, hbb⟩
      rw [← EB.out]
      have Bb := hide (Ba.out.trans (hbb.mono Ba.out.size))
      have b15 := hide ((hbb.block _ (block_lt_of_row a15.out)).trans a15.out)
      have b0 := hide ((hbb.block _ (block_lt_of_row a0.out)).trans a0.out)
      clear hbb a15 a14 a0 Ba ld7 ld8
      have ld9 := load_gh b15.out GL1.out
      have lda := load_h b0.out HR.out
      have eqh := fun W => equal_hh G.h h GL1.out HR.out W
      rw [show G.h.eqb h = true by rw [GH1.out]; exact S.Hd.eqb_self h] at eqh
      go_wp2_with (first | (with_reducible refine at_op { dst := some 71, op := Op.load 32 (Operand.tmp 70), type := 32, pos := "law.go:187", after := #[{ on := 10, ground := Ground.data }, { on := 9, ground := Ground.guard }], guard := some (9, true) } ?_; refine load_when rfl 32 (.tmp 70) rfl (.pointer (some ⟨g15, 0, none⟩)) rfl (.agg (encH G.h).toArray) ld9 ?_) | (with_reducible refine at_op { dst := some 72, op := Op.load 32 (Operand.tmp 10), type := 32, pos := "law.go:187", after := #[{ on := 9, ground := Ground.guard }], guard := some (9, true) } ?_; refine load_when rfl 32 (.tmp 10) rfl (.pointer (some ⟨w.heap.size, 0, none⟩)) rfl (.agg (encH h).toArray) lda ?_))
      refine (known_any Wb (HK.out.below Bb.out h0)).mono ?_
      rintro r v4 ⟨rfl, hb⟩
      have BF := hide (Bb.out.trans (hb.mono Bb.out.size))
      clear hb eqh ld9 lda
      go_wp2_with fail
      go_ret
      exact ⟨rfl, BF.out⟩
end Go.Proofs.YtllcnppcncegpaaDoor
