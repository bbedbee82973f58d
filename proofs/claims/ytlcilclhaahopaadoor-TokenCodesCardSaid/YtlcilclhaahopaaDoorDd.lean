/- TokenCodes: tokens become bytes and back. -/
import Derived.Test.YtlcilclhaahopaaDoorDc
import Derived.Test.YtlcilclhaahopaaDoorDb
import Derived.Test.YtlcilclhaahopaaDoorDe
import Derived.Test.YtlcilclhaahopaaDoorTp
import Derived.Test.YtlcilclhaahopaaDoorTg
import Derived.Test.YtlcilclhaahopaaDoorIntact
import Derived.Deep.CutBlock
namespace Go.Proofs.YtlcilclhaahopaaDoor
open Go.RowKit

namespace S
theorem encode_len (t : Tk) (ht : t.Ok) : (encode t).1.length ≤ 57 := by
  unfold encode
  by_cases h1 : 4 < t.cs.length
  · rw [if_pos h1]; simp
  · rw [if_neg h1]
    by_cases h2 : t.cs.any odd = true
    · rw [if_pos h2]; simp
    · rw [if_neg h2]
      show (bytesOf t).length ≤ 57
      rw [bytesOf_length t ht.tl]
      omega
theorem readCav_ok (r : Rd) : (readCav r).2.Ok := by
  rw [readCav_eq]
  have h1 := number1_lt r
  have h2 := number4_lt (kindRd r)
  exact ⟨by simp only; omega, by simp only; omega, by simp only; omega⟩
theorem readMany_ok (n : Nat) (r : Rd) : ∀ c ∈ (readMany n r).2, c.Ok := by
  induction n with
  | zero => intro c hc; cases hc
  | succ n ih =>
    intro c hc
    have hc' : c ∈ (readMany n r).2 ++ [(readCav (readMany n r).1).2] := hc
    rcases List.mem_append.1 hc' with h | h
    · exact ih c h
    · rw [List.mem_singleton.1 h]; exact readCav_ok _
theorem readCavs_ok (r : Rd) : ∀ c ∈ (readCavs r).2, c.Ok := by
  unfold readCavs
  split
  · intro c hc; cases hc
  · exact readMany_ok _ _
theorem decode_ok (bs : List UInt8) : (decode bs).1.Ok := by
  unfold decode
  split
  · exact ⟨number4_lt _, Rd.digest_length _, readCavs_ok _, by have := readCavs_length ((⟨bs, 0, 0, 0⟩ : Rd).number 4).1; show (readCavs _).2.length ≤ _; omega⟩
  · exact t0_ok
theorem fin_zero (r : Rd) (h : r.fin.2 = 0) : r.fin.1 = 0 := by
  unfold Rd.fin at h ⊢
  by_cases h0 : r.why = 0
  · rw [if_pos h0] at h ⊢
    by_cases h1 : r.pl < r.bs.length
    · rw [if_pos h1] at h; cases h
    · rw [if_neg h1]
  · rw [if_neg h0] at h
    exact absurd h h0
end S
set_option maxHeartbeats 40000000 in
set_option maxRecDepth 10000 in
theorem tokenCodes_walk (t : S.Tk) (cv v : Value) (bs0 : List UInt8) (w : World) (ht : t.Ok) (hcv : CvAt w cv t.cs) (hv : SliceAt w v bs0) (hK : KAt w) :
   Calls Tryd.prog 5 #[.agg (encT t.id cv t.tag).toArray, v] w fun e w' => e = .returned (.bool true) ∧ Below w.heap.size w w' := by
  have HK := hide hK
  have h0 := hK.pos
  obtain ⟨co, cn, cc, rfl, -, -⟩ := hcv.form
  obtain ⟨ao0, n0, cap0, rfl, hn0, hmax0⟩ := hv.form
  have HT := hide ht
  obtain ⟨B, er, hE⟩ : ∃ B er, S.encode t = (B, er) := ⟨_, _, rfl⟩
  have ENC := hide hE
  have LB := hide (show B.length ≤ 57 by have := S.encode_len t ht; rw [hE] at this; exact this)
  have DEC := hide (show er = 0 → S.decode B = (t, (0, 0)) from fun h => by have := S.decode_encode t ht (by rw [hE]; exact h); rw [hE] at this; exact this)
  have hcap0 := hv.le_cap
  have HN0 := hide hn0
  have HV0 := hide hv
  have HCV0 := hide hcv
  clear hE ht hcv hK hv hn0
  go_enter Tryd.func5, Tryd.ntmps5
  go_upto_region 1 with fail
  generalize hW : w.alloc _ = W0
  have hb : Below w.heap.size w W0 := by rw [← hW]; exact (Below.refl _ _).alloc (Nat.le_refl _) _
  have RT : Hid (W0.heap[w.heap.size]? = some (.cells (encT t.id (.slice co cn cc) t.tag).toArray 27 (0, 0))) := by rw [← hW]; exact heap_alloc_new _ _
  have CV := hide (HCV0.out.below hb)
  have SV := hide (HV0.out.below hb (Nat.le_refl _))
  have BW := hide hb
  obtain ⟨gT, hgT⟩ : ∃ g, g = w.heap.size := ⟨_, rfl⟩
  rw [← hgT] at RT ⊢
  clear hW hb HV0 HCV0 hgT
  go_upto_if 21 with fail
  go_cut [1] (fun v1 wc => W0 = wc ∧ ∃ (a : Option Addr) (c : Nat) (ds : List UInt8), v1 = .slice a ds.length c ∧ ds.length ≤ 200 ∧ Hid (SliceAt W0 (.slice a ds.length c) ds))
  case first =>
    by_cases h : 200 < n0
    · have q1 : (200 : Int) < (n0 : Int) := by omega
      have q2 : (200 : Int) ≤ (cap0 : Int) := by omega
      obtain ⟨ds2, hds2⟩ : ∃ d, d = bs0.take 200 := ⟨_, rfl⟩
      have hl2 : 200 = ds2.length := by rw [hds2, List.length_take, ← HN0.out]; omega
      have Z := hide (show SliceAt W0 (.slice ao0 200 cap0) ds2 by rw [hds2]; exact part_to SV.out 200 (by omega))
      have ZL := hide hl2
      clear hds2 hl2
      go_wp2_with fail
      go_meet
      exact ⟨rfl, ao0, cap0, ds2, by rw [← ZL.out], by rw [← ZL.out]; omega, by rw [← ZL.out]; exact Z⟩
    · have q1 : ¬ ((200 : Int) < (n0 : Int)) := by omega
      have ZL := hide h
      clear h
      go_wp2_with fail
      go_meet
      exact ⟨rfl, ao0, cap0, bs0, by rw [← HN0.out], by rw [← HN0.out]; have := ZL.out; omega, by rw [← HN0.out]; exact SV⟩
  obtain ⟨rfl, ao, cap, bs, rfl, hbl, SB⟩ := hcut
  clear SV HN0 hcap0 hmax0
  obtain ⟨N, hN⟩ : ∃ N, N = bs.length := ⟨_, rfl⟩
  rw [← hN] at SB hbl ⊢
  have HN := hide hN
  have HBL := hide (show bs.length ≤ 200 by rw [← hN]; exact hbl)
  clear hN
  have ld1 := load_t RT.out HT.out.tl
  go_wp2_with (with_reducible refine at_op { dst := some 25, op := Op.load 27 (Operand.tmp 2), type := 27, pos := "law.go:87", after := #[], guard := none } ?_; refine wpList_load_as rfl 27 (.tmp 2) rfl (.pointer (some ⟨gT, 0, none⟩)) rfl (.agg (encT t.id (.slice co cn cc) t.tag).toArray) ld1 ?_)
  refine (encode_any t (.slice co cn cc) W0 HT.out CV.out).mono ?_
  rintro e w1 ⟨⟨vy, rfl, hU, -⟩, hb⟩
  rw [ENC.out] at hU ⊢
  dsimp only at hU ⊢
  obtain ⟨yo, yc, rfl⟩ := hU.shape
  clear ld1
  have RT_1 := hide ((hb.block _ (block_lt_of_row RT.out)).trans RT.out)
  have CV_1 := hide (CV.out.below hb)
  have SB_1 := hide (SB.out.below hb (Nat.le_refl _))
  have BW_1 := hide (BW.out.trans (hb.mono BW.out.size))
  clear hb RT CV SB BW
  have YB := hide (show SliceAt _ (.slice yo B.length yc) B from hU.sliceAt (by have := LB.out; omega))
  clear hU
  obtain ⟨M, hM⟩ : ∃ M, M = B.length := ⟨_, rfl⟩
  have HM := hide hM
  rw [← hM] at YB ⊢
  clear hM
  go_upto_region 4 with fail
  have ld1 := load_t RT_1.out HT.out.tl
  go_wp2_with (with_reducible refine at_op { dst := some 30, op := Op.load 27 (Operand.tmp 2), type := 27, pos := "law.go:88", after := #[], guard := none } ?_; refine wpList_load_as rfl 27 (.tmp 2) rfl (.pointer (some ⟨gT, 0, none⟩)) rfl (.agg (encT t.id (.slice co cn cc) t.tag).toArray) ld1 ?_)
  refine (rencode_any t (.slice co cn cc) w1 HT.out CV_1.out).mono ?_
  rintro e w2 ⟨⟨vz, rfl, hU⟩, hb⟩
  rw [ENC.out] at hU ⊢
  dsimp only at hU ⊢
  obtain ⟨zo, zc, rfl⟩ := hU.shape
  clear ld1
  have RT_2 := hide ((hb.block _ (block_lt_of_row RT_1.out)).trans RT_1.out)
  have CV_2 := hide (CV_1.out.below hb)
  have SB_2 := hide (SB_1.out.below hb (Nat.le_refl _))
  have BW_2 := hide (BW_1.out.trans (hb.mono BW_1.out.size))
  have YB_2 := hide (YB.out.below hb (Nat.le_refl _))
  clear hb RT_1 CV_1 SB_1 BW_1 YB
  have ZB := hide (show SliceAt _ (.slice zo B.length zc) B from hU.sliceAt (by have := LB.out; omega))
  clear hU
  rw [← HM.out] at ZB ⊢
  go_upto_region 5 with fail
  obtain ⟨TB, hTB⟩ : ∃ T, T = (⟨B.toArray⟩ : ByteArray) := ⟨_, rfl⟩
  have c1 := conv_slice YB_2.out
  have c2 := conv_slice ZB.out
  rw [← hTB] at c1 c2
  clear hTB ZB
  go_upto_region 7 with fail
  clear c1 c2
  go_upto_if 45 with fail
  go_cut [9, 10] (fun _v9 _v10 wc => Hid (Below w2.heap.size w2 wc))
  case first =>
    by_cases he : er = 0
    · subst he
      have BZ : Hid (Below w2.heap.size w2 w2) := Below.refl _ _
      have hdec := DEC.out rfl
      go_upto_region 8 with fail
      go_wp2_with fail
      refine (dec_ok (.slice yo M yc) B t w2 YB_2.out (by have := LB.out; omega) hdec).mono ?_
      rintro e w3 ⟨⟨uo, uc, rfl, hc⟩, hb⟩
      clear hdec
      have RT_3 := hide ((hb.block _ (block_lt_of_row RT_2.out)).trans RT_2.out)
      have CV_3 := hide (CV_2.out.below hb)
      have SB_3 := hide (SB_2.out.below hb (Nat.le_refl _))
      have BW_3 := hide (BW_2.out.trans (hb.mono BW_2.out.size))
      have YB_3 := hide (YB_2.out.below hb (Nat.le_refl _))
      have BZ_3 := hide (BZ.out.trans (hb.mono BZ.out.size))
      clear hb RT_2 CV_2 SB_2 BW_2 YB_2 BZ
      have CU := hide (CRow.at hc)
      clear hc
      generalize hnt : t.cs.length = nt at CU ⊢
      clear hnt
      obtain ⟨A4, w4, ha4, hs4, hr4, hb4, -⟩ := lay_t w3 t.id uo nt uc t.tag HT.out.tl
      obtain ⟨gU, hgg⟩ : ∃ g, g = w3.heap.size := ⟨_, rfl⟩
      rw [← hgg] at ha4 hs4 hr4
      clear hgg
      have RT_4 := hide ((hb4.block _ (block_lt_of_row RT_3.out)).trans RT_3.out)
      have CV_4 := hide (CV_3.out.below hb4)
      have SB_4 := hide (SB_3.out.below hb4 (Nat.le_refl _))
      have BW_4 := hide (BW_3.out.trans (hb4.mono BW_3.out.size))
      have YB_4 := hide (YB_3.out.below hb4 (Nat.le_refl _))
      have BZ_4 := hide (BZ_3.out.trans (hb4.mono BZ_3.out.size))
      have CU_4 := hide (CU.out.below hb4)
      clear hb4 RT_3 CV_3 SB_3 BW_3 YB_3 BZ_3 CU
      have RU := hide hr4
      clear hr4
      go_upto_region 9 with (first | (with_reducible refine at_op { dst := some 9, op := Op.alloc 27, type := 0, pos := "law.go:93", after := #[], guard := none } ?_; refine wpList_alloc_known rfl 27 rfl _ _ ha4 ?_) | (with_reducible refine at_op { dst := none, op := Op.store 27 (Operand.tmp 9) (Operand.tmp 49), type := 0, pos := "law.go:93", after := #[{ on := 5, ground := Ground.data }, { on := 3, ground := Ground.data }, { on := 1, ground := Ground.chain }, { on := 0, ground := Ground.phase }, { on := 1, ground := Ground.phase }, { on := 2, ground := Ground.phase }, { on := 3, ground := Ground.phase }, { on := 4, ground := Ground.textOnly Departure.lateStores }, { on := 5, ground := Ground.phase }], guard := none } ?_; refine wpList_store_as rfl 27 (.tmp 9) (.tmp 49) rfl (.pointer (some ⟨gU, 0, none⟩)) (.agg (encT t.id (.slice uo nt uc) t.tag).toArray) rfl rfl w4 hs4 ?_))
      clear ha4 hs4 A4
      have ld1 := load_t RT_4.out HT.out.tl
      have ld2 := load_t RU.out HT.out.tl
      go_wp2_with (first | (with_reducible refine at_op { dst := some 54, op := Op.load 27 (Operand.tmp 9), type := 27, pos := "law.go:94", after := #[{ on := 2, ground := Ground.guard }], guard := some (2, false) } ?_; refine wpList_load_when rfl 27 (.tmp 9) rfl (.pointer (some ⟨gU, 0, none⟩)) rfl (.agg (encT t.id (.slice uo nt uc) t.tag).toArray) ld2 ?_) | (with_reducible refine at_op { dst := some 55, op := Op.load 27 (Operand.tmp 2), type := 27, pos := "law.go:94", after := #[{ on := 2, ground := Ground.guard }], guard := some (2, false) } ?_; refine wpList_load_when rfl 27 (.tmp 2) rfl (.pointer (some ⟨gT, 0, none⟩)) rfl (.agg (encT t.id (.slice co cn cc) t.tag).toArray) ld1 ?_))
      refine (sameTok_any t (.slice uo nt uc) (.slice co cn cc) w4 HT.out CU_4.out CV_4.out).mono ?_
      rintro e w5 ⟨rfl, hb⟩
      clear ld1 ld2
      have RT_5 := hide ((hb.block _ (block_lt_of_row RT_4.out)).trans RT_4.out)
      have CV_5 := hide (CV_4.out.below hb)
      have SB_5 := hide (SB_4.out.below hb (Nat.le_refl _))
      have BW_5 := hide (BW_4.out.trans (hb.mono BW_4.out.size))
      have YB_5 := hide (YB_4.out.below hb (Nat.le_refl _))
      have BZ_5 := hide (BZ_4.out.trans (hb.mono BZ_4.out.size))
      have CU_5 := hide (CU_4.out.below hb)
      have RU_5 := hide ((hb.block _ (block_lt_of_row RU.out)).trans RU.out)
      clear hb RT_4 CV_4 SB_4 BW_4 YB_4 BZ_4 CU_4 RU
      go_wp2_with fail
      go_meet
      exact BZ_5
    · have he2 := he
      go_wp2_with fail
      go_meet
      exact hide (Below.refl _ _)
  have hb := hcut.out
  clear hcut
  have RT_6 := hide ((hb.block _ (block_lt_of_row RT_2.out)).trans RT_2.out)
  have CV_6 := hide (CV_2.out.below hb)
  have SB_6 := hide (SB_2.out.below hb (Nat.le_refl _))
  have BW_6 := hide (BW_2.out.trans (hb.mono BW_2.out.size))
  have YB_6 := hide (YB_2.out.below hb (Nat.le_refl _))
  clear hb RT_2 CV_2 SB_2 BW_2 YB_2
  go_upto_region 11 with fail
  clear YB_6
  clear CV_6
  clear RT_6
  go_wp2_with fail
  refine (roomy_any (.slice ao N cap) bs wc SB_6.out (by have := HBL.out; omega)).mono ?_
  rintro e w6 ⟨gF, rfl, -, hr, hb⟩
  rw [← HN.out]
  have SB_7 := hide (SB_6.out.below hb (Nat.le_refl _))
  have BW_7 := hide (BW_6.out.trans (hb.mono BW_6.out.size))
  clear hb SB_6 BW_6
  have RF := hide hr
  clear hr
  obtain ⟨NF, hNF⟩ : ∃ n, n = N + 80 := ⟨_, rfl⟩
  rw [← hNF]
  have HNF := hide hNF
  have q1 : (N : Int) ≤ (NF : Int) := by omega
  have q2 : N ≤ NF := by omega
  clear hNF
  obtain ⟨T, a, y, hD⟩ : ∃ T a y, S.decode bs = (T, (a, y)) := ⟨_, _, _, rfl⟩
  have HD := hide hD
  have HTO := hide (show T.Ok by have := S.decode_ok bs; rw [hD] at this; exact this)
  clear hD
  go_upto_region 12 with fail
  go_wp2_with fail
  have SP := hide (show SliceAt w6 (.slice (some ⟨gF, 0, none⟩) N NF) bs by rw [HN.out]; exact roomy_at RF.out (by have := HBL.out; omega) NF (by rw [← HN.out]; exact q2))
  by_cases hy : y = 0
  · skip
    subst hy
    have HA := hide (show a = 0 by have h1 := congrArg (fun z => z.2.1) HD.out; have h2 := congrArg (fun z => z.2.2) HD.out; unfold S.decode at h1 h2; by_cases hf : (S.readTok ⟨bs, 0, 0, 0⟩).1.fin.2 = 0 <;> simp only [hf, if_true, if_false] at h1 h2 <;> first | exact h1.symm | (exact absurd h2 hf))
    have ha := HA.out
    subst ha
    refine (dec_ok (.slice (some ⟨gF, 0, none⟩) N NF) bs T w6 SP.out (by have := HBL.out; omega) HD.out).mono ?_
    rintro e w7 ⟨⟨uo, uc, rfl, hc⟩, hb⟩
    clear SP
    have SB_8 := hide (SB_7.out.below hb (Nat.le_refl _))
    have BW_8 := hide (BW_7.out.trans (hb.mono BW_7.out.size))
    have RF_8 := hide ((hb.block _ (block_lt_of_row RF.out)).trans RF.out)
    clear hb SB_7 BW_7 RF
    have CU := hide (CRow.at hc)
    clear hc
    obtain ⟨nt, hnt⟩ : ∃ n, n = T.cs.length := ⟨_, rfl⟩
    rw [← hnt] at CU ⊢
    have HNT := hide hnt
    clear hnt q1 q2
    obtain ⟨A4, w8, ha4, hs4, hr4, hb4, -⟩ := lay_t w7 T.id uo nt uc T.tag HTO.out.tl
    obtain ⟨gU, hgg⟩ : ∃ g, g = w7.heap.size := ⟨_, rfl⟩
    rw [← hgg] at ha4 hs4 hr4
    clear hgg
    have SB_9 := hide (SB_8.out.below hb4 (Nat.le_refl _))
    have BW_9 := hide (BW_8.out.trans (hb4.mono BW_8.out.size))
    have RF_9 := hide ((hb4.block _ (block_lt_of_row RF_8.out)).trans RF_8.out)
    have CU_9 := hide (CU.out.below hb4)
    clear hb4 SB_8 BW_8 RF_8 CU
    have RU := hide hr4
    clear hr4
    go_upto_region 13 with (first | (with_reducible refine at_op { dst := some 12, op := Op.alloc 27, type := 0, pos := "law.go:99", after := #[], guard := none } ?_; refine wpList_alloc_known rfl 27 rfl _ _ ha4 ?_) | (with_reducible refine at_op { dst := none, op := Op.store 27 (Operand.tmp 12) (Operand.tmp 67), type := 0, pos := "law.go:99", after := #[{ on := 8, ground := Ground.data }, { on := 6, ground := Ground.data }, { on := 4, ground := Ground.chain }, { on := 0, ground := Ground.phase }, { on := 1, ground := Ground.phase }, { on := 2, ground := Ground.phase }, { on := 3, ground := Ground.phase }, { on := 4, ground := Ground.phase }, { on := 5, ground := Ground.phase }, { on := 6, ground := Ground.phase }, { on := 7, ground := Ground.textOnly Departure.lateStores }, { on := 8, ground := Ground.phase }], guard := none } ?_; refine wpList_store_as rfl 27 (.tmp 12) (.tmp 67) rfl (.pointer (some ⟨gU, 0, none⟩)) (.agg (encT T.id (.slice uo nt uc) T.tag).toArray) rfl rfl w8 hs4 ?_))
    clear ha4 hs4 A4
    go_wp2_with fail
    refine (rdecode_any (.slice ao N cap) bs w8 SB_9.out (by have := HBL.out; omega)).mono ?_
    rintro e w9 ⟨⟨cv2, rfl, hc⟩, hb⟩
    rw [HD.out] at hc ⊢
    obtain ⟨xo, xc, rfl⟩ := hc.form
    have SB_10 := hide (SB_9.out.below hb (Nat.le_refl _))
    have BW_10 := hide (BW_9.out.trans (hb.mono BW_9.out.size))
    have RF_10 := hide ((hb.block _ (block_lt_of_row RF_9.out)).trans RF_9.out)
    have CU_10 := hide (CU_9.out.below hb)
    have RU_10 := hide ((hb.block _ (block_lt_of_row RU.out)).trans RU.out)
    clear hb SB_9 BW_9 RF_9 CU_9 RU
    have CX := hide (CRow.at hc)
    clear hc
    simp only at CX ⊢
    rw [← HNT.out] at CX ⊢
    obtain ⟨A4, w10, ha4, hs4, hr4, hb4, -⟩ := lay_t w9 T.id xo nt xc T.tag HTO.out.tl
    obtain ⟨gX, hgg⟩ : ∃ g, g = w9.heap.size := ⟨_, rfl⟩
    rw [← hgg] at ha4 hs4 hr4
    clear hgg
    have SB_11 := hide (SB_10.out.below hb4 (Nat.le_refl _))
    have BW_11 := hide (BW_10.out.trans (hb4.mono BW_10.out.size))
    have RF_11 := hide ((hb4.block _ (block_lt_of_row RF_10.out)).trans RF_10.out)
    have CU_11 := hide (CU_10.out.below hb4)
    have RU_11 := hide ((hb4.block _ (block_lt_of_row RU_10.out)).trans RU_10.out)
    have CX_11 := hide (CX.out.below hb4)
    clear hb4 SB_10 BW_10 RF_10 CU_10 RU_10 CX
    have RX := hide hr4
    clear hr4
    go_upto_region 14 with (first | (with_reducible refine at_op { dst := some 14, op := Op.alloc 27, type := 0, pos := "law.go:100", after := #[], guard := none } ?_; refine wpList_alloc_known rfl 27 rfl _ _ ha4 ?_) | (with_reducible refine at_op { dst := none, op := Op.store 27 (Operand.tmp 14) (Operand.tmp 72), type := 0, pos := "law.go:100", after := #[{ on := 6, ground := Ground.data }, { on := 3, ground := Ground.data }, { on := 1, ground := Ground.chain }, { on := 0, ground := Ground.phase }, { on := 1, ground := Ground.phase }, { on := 2, ground := Ground.phase }, { on := 3, ground := Ground.phase }, { on := 4, ground := Ground.textOnly Departure.lateStores }, { on := 5, ground := Ground.textOnly Departure.lateStores }, { on := 6, ground := Ground.phase }], guard := none } ?_; refine wpList_store_as rfl 27 (.tmp 14) (.tmp 72) rfl (.pointer (some ⟨gX, 0, none⟩)) (.agg (encT T.id (.slice xo nt xc) T.tag).toArray) rfl rfl w10 hs4 ?_))
    clear ha4 hs4 A4
    go_wp2_with fail
    refine (refused_nil 0 w10).mono ?_
    rintro e wx ⟨rfl, rfl⟩
    have ld1 := load_t RU_11.out HTO.out.tl
    have ld2 := load_t RX.out HTO.out.tl
    go_wp2_with (first | (with_reducible refine at_op { dst := some 81, op := Op.load 27 (Operand.tmp 12), type := 27, pos := "law.go:101", after := #[{ on := 5, ground := Ground.guard }], guard := some (5, false) } ?_; refine wpList_load_when rfl 27 (.tmp 12) rfl (.pointer (some ⟨gU, 0, none⟩)) rfl (.agg (encT T.id (.slice uo nt uc) T.tag).toArray) ld1 ?_) | (with_reducible refine at_op { dst := some 82, op := Op.load 27 (Operand.tmp 14), type := 27, pos := "law.go:101", after := #[{ on := 5, ground := Ground.guard }], guard := some (5, false) } ?_; refine wpList_load_when rfl 27 (.tmp 14) rfl (.pointer (some ⟨gX, 0, none⟩)) rfl (.agg (encT T.id (.slice xo nt xc) T.tag).toArray) ld2 ?_))
    refine (sameTok_any T (.slice uo nt uc) (.slice xo nt xc) w10 HTO.out CU_11.out CX_11.out).mono ?_
    rintro e w11 ⟨rfl, hb⟩
    clear ld1 ld2
    have SB_12 := hide (SB_11.out.below hb (Nat.le_refl _))
    have BW_12 := hide (BW_11.out.trans (hb.mono BW_11.out.size))
    have RF_12 := hide ((hb.block _ (block_lt_of_row RF_11.out)).trans RF_11.out)
    have CU_12 := hide (CU_11.out.below hb)
    have RU_12 := hide ((hb.block _ (block_lt_of_row RU_11.out)).trans RU_11.out)
    have CX_12 := hide (CX_11.out.below hb)
    have RX_12 := hide ((hb.block _ (block_lt_of_row RX.out)).trans RX.out)
    clear hb SB_11 BW_11 RF_11 CU_11 RU_11 CX_11 RX
    go_wp2_with fail
    refine (intact_any gF (.slice ao N cap) bs NF w11 (by rw [HNF.out, HN.out]) SB_12.out (by have := HBL.out; omega) RF_12.out).mono ?_
    rintro e w12 ⟨rfl, hst⟩
    have hb := hst.below w11.heap.size
    clear hst
    have SB_13 := hide (SB_12.out.below hb (Nat.le_refl _))
    have BW_13 := hide (BW_12.out.trans (hb.mono BW_12.out.size))
    have RF_13 := hide ((hb.block _ (block_lt_of_row RF_12.out)).trans RF_12.out)
    have CU_13 := hide (CU_12.out.below hb)
    have RU_13 := hide ((hb.block _ (block_lt_of_row RU_12.out)).trans RU_12.out)
    have CX_13 := hide (CX_12.out.below hb)
    have RX_13 := hide ((hb.block _ (block_lt_of_row RX_12.out)).trans RX_12.out)
    clear hb SB_12 BW_12 RF_12 CU_12 RU_12 CX_12 RX_12
    go_upto_region 18 with fail
    have ld1 := load_t RU_13.out HTO.out.tl
    go_wp2_with (with_reducible refine at_op { dst := some 96, op := Op.load 27 (Operand.tmp 12), type := 27, pos := "law.go:107", after := #[], guard := none } ?_; refine wpList_load_as rfl 27 (.tmp 12) rfl (.pointer (some ⟨gU, 0, none⟩)) rfl (.agg (encT T.id (.slice uo nt uc) T.tag).toArray) ld1 ?_)
    have HEN := hide (show S.encode T = (bs, 0) by have := S.encode_decode bs (by rw [HD.out]); rw [HD.out] at this; exact this)
    refine (enc_ok T (.slice uo nt uc) bs w12 HTO.out CU_13.out HEN.out).mono ?_
    rintro e w13 ⟨⟨eo, ec, rfl, hU⟩, hb⟩
    clear ld1
    have SB_14 := hide (SB_13.out.below hb (Nat.le_refl _))
    have BW_14 := hide (BW_13.out.trans (hb.mono BW_13.out.size))
    have RF_14 := hide ((hb.block _ (block_lt_of_row RF_13.out)).trans RF_13.out)
    have CU_14 := hide (CU_13.out.below hb)
    have RU_14 := hide ((hb.block _ (block_lt_of_row RU_13.out)).trans RU_13.out)
    have CX_14 := hide (CX_13.out.below hb)
    have RX_14 := hide ((hb.block _ (block_lt_of_row RX_13.out)).trans RX_13.out)
    clear hb SB_13 BW_13 RF_13 CU_13 RU_13 CX_13 RX_13
    have EB := hide (hU.sliceAt (by have := HBL.out; omega))
    clear hU
    rw [← HN.out] at EB ⊢
    obtain ⟨TB2, hTB⟩ : ∃ T, T = (⟨bs.toArray⟩ : ByteArray) := ⟨_, rfl⟩
    go_upto_region 19 with fail
    have c1 := conv_slice SB_14.out
    have c2 := conv_slice EB.out
    rw [← hTB] at c1 c2
    clear hTB EB
    go_wp2_with fail
    refine (known_any w13 (HK.out.below BW_14.out h0)).mono ?_
    rintro e w14 ⟨rfl, hb⟩
    clear c1 c2
    have SB_15 := hide (SB_14.out.below hb (Nat.le_refl _))
    have BW_15 := hide (BW_14.out.trans (hb.mono BW_14.out.size))
    have RF_15 := hide ((hb.block _ (block_lt_of_row RF_14.out)).trans RF_14.out)
    have CU_15 := hide (CU_14.out.below hb)
    have RU_15 := hide ((hb.block _ (block_lt_of_row RU_14.out)).trans RU_14.out)
    have CX_15 := hide (CX_14.out.below hb)
    have RX_15 := hide ((hb.block _ (block_lt_of_row RX_14.out)).trans RX_14.out)
    clear hb SB_14 BW_14 RF_14 CU_14 RU_14 CX_14 RX_14
    go_wp2_with fail
    go_ret
    exact ⟨rfl, BW_15.out⟩
  · skip
    refine (dec_no (.slice (some ⟨gF, 0, none⟩) N NF) bs T a y w6 SP.out (by have := HBL.out; omega) HD.out hy).mono ?_
    rintro e w15 ⟨⟨uo, uc, q, rfl, hc, hq⟩, hb⟩
    clear SP
    have SB_16 := hide (SB_7.out.below hb (Nat.le_refl _))
    have BW_16 := hide (BW_7.out.trans (hb.mono BW_7.out.size))
    have RF_16 := hide ((hb.block _ (block_lt_of_row RF.out)).trans RF.out)
    clear hb SB_7 BW_7 RF
    have CU := hide (CRow.at hc)
    clear hc
    have RQ := hide hq
    clear hq
    obtain ⟨nt, hnt⟩ : ∃ n, n = T.cs.length := ⟨_, rfl⟩
    rw [← hnt] at CU ⊢
    have HNT := hide hnt
    clear hnt q1 q2
    obtain ⟨A4, w16, ha4, hs4, hr4, hb4, -⟩ := lay_t w15 T.id uo nt uc T.tag HTO.out.tl
    obtain ⟨gU, hgg⟩ : ∃ g, g = w15.heap.size := ⟨_, rfl⟩
    rw [← hgg] at ha4 hs4 hr4
    clear hgg
    have SB_17 := hide (SB_16.out.below hb4 (Nat.le_refl _))
    have BW_17 := hide (BW_16.out.trans (hb4.mono BW_16.out.size))
    have RF_17 := hide ((hb4.block _ (block_lt_of_row RF_16.out)).trans RF_16.out)
    have CU_17 := hide (CU.out.below hb4)
    have RQ_17 := hide (RQ.out.below hb4)
    clear hb4 SB_16 BW_16 RF_16 CU RQ
    have RU := hide hr4
    clear hr4
    go_upto_region 13 with (first | (with_reducible refine at_op { dst := some 12, op := Op.alloc 27, type := 0, pos := "law.go:99", after := #[], guard := none } ?_; refine wpList_alloc_known rfl 27 rfl _ _ ha4 ?_) | (with_reducible refine at_op { dst := none, op := Op.store 27 (Operand.tmp 12) (Operand.tmp 67), type := 0, pos := "law.go:99", after := #[{ on := 8, ground := Ground.data }, { on := 6, ground := Ground.data }, { on := 4, ground := Ground.chain }, { on := 0, ground := Ground.phase }, { on := 1, ground := Ground.phase }, { on := 2, ground := Ground.phase }, { on := 3, ground := Ground.phase }, { on := 4, ground := Ground.phase }, { on := 5, ground := Ground.phase }, { on := 6, ground := Ground.phase }, { on := 7, ground := Ground.textOnly Departure.lateStores }, { on := 8, ground := Ground.phase }], guard := none } ?_; refine wpList_store_as rfl 27 (.tmp 12) (.tmp 67) rfl (.pointer (some ⟨gU, 0, none⟩)) (.agg (encT T.id (.slice uo nt uc) T.tag).toArray) rfl rfl w16 hs4 ?_))
    clear ha4 hs4 A4
    go_wp2_with fail
    refine (rdecode_any (.slice ao N cap) bs w16 SB_17.out (by have := HBL.out; omega)).mono ?_
    rintro e w17 ⟨⟨cv2, rfl, hc⟩, hb⟩
    rw [HD.out] at hc ⊢
    obtain ⟨xo, xc, rfl⟩ := hc.form
    have SB_18 := hide (SB_17.out.below hb (Nat.le_refl _))
    have BW_18 := hide (BW_17.out.trans (hb.mono BW_17.out.size))
    have RF_18 := hide ((hb.block _ (block_lt_of_row RF_17.out)).trans RF_17.out)
    have CU_18 := hide (CU_17.out.below hb)
    have RQ_18 := hide (RQ_17.out.below hb)
    have RU_18 := hide ((hb.block _ (block_lt_of_row RU.out)).trans RU.out)
    clear hb SB_17 BW_17 RF_17 CU_17 RQ_17 RU
    have CX := hide (CRow.at hc)
    clear hc
    simp only at CX ⊢
    rw [← HNT.out] at CX ⊢
    obtain ⟨A4, w18, ha4, hs4, hr4, hb4, -⟩ := lay_t w17 T.id xo nt xc T.tag HTO.out.tl
    obtain ⟨gX, hgg⟩ : ∃ g, g = w17.heap.size := ⟨_, rfl⟩
    rw [← hgg] at ha4 hs4 hr4
    clear hgg
    have SB_19 := hide (SB_18.out.below hb4 (Nat.le_refl _))
    have BW_19 := hide (BW_18.out.trans (hb4.mono BW_18.out.size))
    have RF_19 := hide ((hb4.block _ (block_lt_of_row RF_18.out)).trans RF_18.out)
    have CU_19 := hide (CU_18.out.below hb4)
    have RQ_19 := hide (RQ_18.out.below hb4)
    have RU_19 := hide ((hb4.block _ (block_lt_of_row RU_18.out)).trans RU_18.out)
    have CX_19 := hide (CX.out.below hb4)
    clear hb4 SB_18 BW_18 RF_18 CU_18 RQ_18 RU_18 CX
    have RX := hide hr4
    clear hr4
    go_upto_region 14 with (first | (with_reducible refine at_op { dst := some 14, op := Op.alloc 27, type := 0, pos := "law.go:100", after := #[], guard := none } ?_; refine wpList_alloc_known rfl 27 rfl _ _ ha4 ?_) | (with_reducible refine at_op { dst := none, op := Op.store 27 (Operand.tmp 14) (Operand.tmp 72), type := 0, pos := "law.go:100", after := #[{ on := 6, ground := Ground.data }, { on := 3, ground := Ground.data }, { on := 1, ground := Ground.chain }, { on := 0, ground := Ground.phase }, { on := 1, ground := Ground.phase }, { on := 2, ground := Ground.phase }, { on := 3, ground := Ground.phase }, { on := 4, ground := Ground.textOnly Departure.lateStores }, { on := 5, ground := Ground.textOnly Departure.lateStores }, { on := 6, ground := Ground.phase }], guard := none } ?_; refine wpList_store_as rfl 27 (.tmp 14) (.tmp 72) rfl (.pointer (some ⟨gX, 0, none⟩)) (.agg (encT T.id (.slice xo nt xc) T.tag).toArray) rfl rfl w18 hs4 ?_))
    clear ha4 hs4 A4
    go_wp2_with fail
    refine (refused_yes q a y w18 RQ_19.out hy).mono ?_
    rintro e wx ⟨rfl, rfl⟩
    have ld1 := load_t RU_19.out HTO.out.tl
    have ld2 := load_t RX.out HTO.out.tl
    go_wp2_with (first | (with_reducible refine at_op { dst := some 81, op := Op.load 27 (Operand.tmp 12), type := 27, pos := "law.go:101", after := #[{ on := 5, ground := Ground.guard }], guard := some (5, false) } ?_; refine wpList_load_when rfl 27 (.tmp 12) rfl (.pointer (some ⟨gU, 0, none⟩)) rfl (.agg (encT T.id (.slice uo nt uc) T.tag).toArray) ld1 ?_) | (with_reducible refine at_op { dst := some 82, op := Op.load 27 (Operand.tmp 14), type := 27, pos := "law.go:101", after := #[{ on := 5, ground := Ground.guard }], guard := some (5, false) } ?_; refine wpList_load_when rfl 27 (.tmp 14) rfl (.pointer (some ⟨gX, 0, none⟩)) rfl (.agg (encT T.id (.slice xo nt xc) T.tag).toArray) ld2 ?_))
    refine (sameTok_any T (.slice uo nt uc) (.slice xo nt xc) w18 HTO.out CU_19.out CX_19.out).mono ?_
    rintro e w19 ⟨rfl, hb⟩
    clear ld1 ld2
    have SB_20 := hide (SB_19.out.below hb (Nat.le_refl _))
    have BW_20 := hide (BW_19.out.trans (hb.mono BW_19.out.size))
    have RF_20 := hide ((hb.block _ (block_lt_of_row RF_19.out)).trans RF_19.out)
    have CU_20 := hide (CU_19.out.below hb)
    have RQ_20 := hide (RQ_19.out.below hb)
    have RU_20 := hide ((hb.block _ (block_lt_of_row RU_19.out)).trans RU_19.out)
    have CX_20 := hide (CX_19.out.below hb)
    have RX_20 := hide ((hb.block _ (block_lt_of_row RX.out)).trans RX.out)
    clear hb SB_19 BW_19 RF_19 CU_19 RQ_19 RU_19 CX_19 RX
    go_wp2_with fail
    refine (intact_any gF (.slice ao N cap) bs NF w19 (by rw [HNF.out, HN.out]) SB_20.out (by have := HBL.out; omega) RF_20.out).mono ?_
    rintro e w20 ⟨rfl, hst⟩
    have hb := hst.below w19.heap.size
    clear hst
    have SB_21 := hide (SB_20.out.below hb (Nat.le_refl _))
    have BW_21 := hide (BW_20.out.trans (hb.mono BW_20.out.size))
    have RF_21 := hide ((hb.block _ (block_lt_of_row RF_20.out)).trans RF_20.out)
    have CU_21 := hide (CU_20.out.below hb)
    have RQ_21 := hide (RQ_20.out.below hb)
    have RU_21 := hide ((hb.block _ (block_lt_of_row RU_20.out)).trans RU_20.out)
    have CX_21 := hide (CX_20.out.below hb)
    have RX_21 := hide ((hb.block _ (block_lt_of_row RX_20.out)).trans RX_20.out)
    clear hb SB_20 BW_20 RF_20 CU_20 RQ_20 RU_20 CX_20 RX_20
    go_wp2_with fail
    refine (known_any w20 (HK.out.below BW_21.out h0)).mono ?_
    rintro e w21 ⟨rfl, hb⟩
    have SB_22 := hide (SB_21.out.below hb (Nat.le_refl _))
    have BW_22 := hide (BW_21.out.trans (hb.mono BW_21.out.size))
    have RF_22 := hide ((hb.block _ (block_lt_of_row RF_21.out)).trans RF_21.out)
    have CU_22 := hide (CU_21.out.below hb)
    have RQ_22 := hide (RQ_21.out.below hb)
    have RU_22 := hide ((hb.block _ (block_lt_of_row RU_21.out)).trans RU_21.out)
    have CX_22 := hide (CX_21.out.below hb)
    have RX_22 := hide ((hb.block _ (block_lt_of_row RX_21.out)).trans RX_21.out)
    clear hb SB_21 BW_21 RF_21 CU_21 RQ_21 RU_21 CX_21 RX_21
    go_wp2_with fail
    go_ret
    exact ⟨rfl, BW_22.out⟩
end Go.Proofs.YtlcilclhaahopaaDoor
