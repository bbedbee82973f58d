/- TokenNumbers. -/
import Derived.Test.YtlcilclhaahopaaDoorTx
import Derived.Test.YtlcilclhaahopaaDoorTp
import Derived.Test.YtlcilclhaahopaaDoorTr
import Derived.Test.YtlcilclhaahopaaDoorTq
import Derived.Test.YtlcilclhaahopaaDoorTo
import Derived.Deep.CutBlock
namespace Go.Proofs.YtlcilclhaahopaaDoor
open Go.RowKit

theorem S.n_all : ∃ (key : List UInt8) (T : S.Tk) (B : List UInt8) (F : Nat → S.Tk), key = S.root 2 ∧ T = S.mint key 0 ∧ S.encode T = (B, 0) ∧ B.length = 37 ∧ S.decode B = (T, (0, 0)) ∧ S.decode (B.take 36) = (S.t0, (36, 10)) ∧ (S.narrow T ⟨4, 0⟩).2 = 1 ∧ F 0 = T ∧ (∀ i, F (i + 1) = (S.narrow (F i) ⟨3, 9⟩).1) ∧ (∀ i, i ≤ 4 → (F i).Ok) ∧ (∀ i, i ≤ 4 → (F i).cs.length = i) ∧ (∀ i, i < 4 → (S.narrow (F i) ⟨3, 9⟩).2 = 0) ∧ (S.narrow (F 4) ⟨3, 0⟩).2 = 4 ∧ S.genuine key (F 4) = true ∧ S.genuine key ⟨(F 4).id, (F 4).cs.take 3, (F 4).tag⟩ = false ∧ S.holds (S.narrow T ⟨3, 0⟩).1.cs 1 1 0 = false ∧ S.holds (S.narrow T ⟨2, 1⟩).1.cs 1 1 0 = false ∧ S.genuine key T = true :=
  ⟨S.root 2, S.nT, S.nB, S.nF, rfl, rfl, S.n_enc, S.n_len, S.n_dec, S.n_cut, S.n_kind, rfl, fun _ => rfl, fun i h => (S.nF_cs i h).2.2, fun i h => by rw [(S.nF_cs i h).1, List.length_replicate], S.nF_err, S.n_full, S.n_gen, S.n_not, S.n_h3, S.n_h2, S.n_gen0⟩
theorem dec_ok (v : Value) (bs : List UInt8) (T : S.Tk) (w : World) (hv : SliceAt w v bs) (hb : bs.length ≤ 140737488355328) (h : S.decode bs = (T, (0, 0))) :
   Calls Tryd.prog 12 #[v] w fun e w' => (∃ ao cc, e = .returned (.tuple #[.agg (encT T.id (.slice ao T.cs.length cc) T.tag).toArray, .nilIface]) ∧ CRow w.heap.size w' (.slice ao T.cs.length cc) T.cs) ∧ Below w.heap.size w w' := by
  refine (decode_any v bs w hv hb).mono ?_
  rintro e w' ⟨cv, ev, rfl, hc, hev, hb2⟩
  rw [h] at hc hev ⊢
  obtain ⟨ao, cc, rfl⟩ := hc.form
  rcases hev with ⟨-, rfl⟩ | ⟨h1, -⟩
  · exact ⟨⟨ao, cc, rfl, hc⟩, hb2⟩
  · exact absurd rfl h1
theorem dec_no (v : Value) (bs : List UInt8) (T : S.Tk) (a y : Int) (w : World) (hv : SliceAt w v bs) (hb : bs.length ≤ 140737488355328) (h : S.decode bs = (T, (a, y))) (hy : y ≠ 0) :
   Calls Tryd.prog 12 #[v] w fun e w' => (∃ ao cc q, e = .returned (.tuple #[.agg (encT T.id (.slice ao T.cs.length cc) T.tag).toArray, .iface 93 (.pointer (some ⟨q, 0, none⟩))]) ∧ CRow w.heap.size w' (.slice ao T.cs.length cc) T.cs ∧ RefAt w' q a y) ∧ Below w.heap.size w w' := by
  refine (decode_any v bs w hv hb).mono ?_
  rintro e w' ⟨cv, ev, rfl, hc, hev, hb2⟩
  rw [h] at hc hev ⊢
  obtain ⟨ao, cc, rfl⟩ := hc.form
  rcases hev with ⟨h1, -⟩ | ⟨-, q, rfl, -, hr⟩
  · exact absurd h1 hy
  · exact ⟨⟨ao, cc, q, rfl, hc, hr⟩, hb2⟩
theorem enc_ok (t : S.Tk) (cv : Value) (B : List UInt8) (w : World) (ht : t.Ok) (hv : CvAt w cv t.cs) (h : S.encode t = (B, 0)) :
   Calls Tryd.prog 11 #[.agg (encT t.id cv t.tag).toArray] w fun e w' => (∃ ao cc, e = .returned (.tuple #[.slice ao B.length cc, .int .i64 0]) ∧ URow w' (.slice ao B.length cc) B) ∧ Below w.heap.size w w' := by
  refine (encode_any t cv w ht hv).mono ?_
  rintro e w' ⟨⟨v, rfl, hu, -⟩, hb⟩
  rw [h] at hu ⊢
  obtain ⟨ao, cc, rfl⟩ := hu.shape
  exact ⟨⟨ao, cc, rfl, hu⟩, hb⟩
theorem nar_ok (t : S.Tk) (cv : Value) (c : S.Cv) (u : S.Tk) (er : Int) (n : Nat) (w : World) (ht : t.Ok) (hc : c.Ok) (hv : CvAt w cv t.cs) (hK : KAt w) (hu : (S.narrow t c).1 = u) (he : (S.narrow t c).2 = er) (hn : u.cs.length = n) :
   Calls Tryd.prog 14 #[.agg (encT t.id cv t.tag).toArray, .agg (encC c).toArray] w fun e w' => (∃ ao cc, e = .returned (.tuple #[.agg (encT u.id (.slice ao n cc) u.tag).toArray, .int .i64 er]) ∧ CRow 0 w' (.slice ao n cc) u.cs) ∧ Below w.heap.size w w' := by
  refine (narrow_any t cv c w ht hc hv hK).mono ?_
  rintro e w' ⟨⟨nv, rfl, hcr⟩, hb⟩
  rw [hu] at hcr ⊢
  rw [he]
  obtain ⟨ao, cc, rfl⟩ := hcr.form
  rw [hn] at hcr ⊢
  exact ⟨⟨ao, cc, rfl, hcr.mono (Nat.zero_le _)⟩, hb⟩
theorem build42kn (k : Int) (n : Nat) (w : World) : (Instr.build 42 #[(0, .int .i64 k), (1, .int .u32 (n : Int))]).run Tryd.prog w = .ok (.agg (encC ⟨k, n⟩).toArray) w := run_build w 42 _ _ (by kernel_rfl)
theorem step_buildSlice_when {md : Region.Mode} {ops : Array Oper} {Q : Exit → Act → World → Prop} {S : World → Prop} {fuel : Nat} {listed : Array Bool} {a : Act} {w : World} {i : Nat} {o : Oper} {rs : List Nat} (ho : ops[i]? = some o) (hw : Region.wanted o (yielded ops a.tmps) = true) (t : TypeId) (n : Nat) (parts : List (Nat × Operand))
    (hop : o.op = .buildSlice t n parts.toArray) (vs : List (Nat × Value)) (hvs : (parts.map fun p => (p.1, a.eval p.2)) = vs) (v' : Value) (w' : World) (hr : (Instr.buildSlice t n vs.toArray).run Tryd.prog w = .ok v' w') (hrest : AllReadyH Tryd.prog md ops Q S fuel listed a w rs)
    (h : S w' ∧ (S w' → wpAnyH Tryd.prog md ops Q S fuel (listed.setIfInBounds i true) (a.put o.dst v') w')) : AllReadyH Tryd.prog md ops Q S fuel listed a w (i :: rs) := by
  subst hvs
  refine AllReadyH.cons ho (fun K hK => ?_) hrest
  rw [if_pos hw]
  unfold Oper.wp execOp
  simp only [hop, Sem.run_bind, List.map_toArray, hr, Result.andThen_ok]
  exact hK.out _ _ h.1 h.2
theorem info22u : (Tryd.prog.info? 22).map (fun i => (i.zero, i.size, i.bytes)) = some (some (.int .u32 0), 1, 4) := by kernel_rfl
theorem bs48two (W : World) (u v : Value) (hu : u.cells = #[u]) (hv : v.cells = #[v]) : (Instr.buildSlice 48 2 #[(0, u), (1, v)]).run Tryd.prog W = .ok (.slice (some ⟨W.heap.size, 0, none⟩) 2 2) (W.alloc (.cells #[u, v] 22)) := by
  obtain ⟨i, hi, hz, hs, _⟩ := info_parts info22u
  refine run_buildSlice W 48 22 2 _ _ i _ Tryd.underlying48 hi hz (by rw [hs]; omega) (by rw [hs]; omega) ?_
  have h := Great.fill_whole (s := 1) (by omega) [u, v] ((Array.range (2 * i.size)).map ((Value.int .u32 0).cells[· % (Value.int .u32 0).cells.size]!)) (fun x hx => by
    simp only [List.mem_cons, List.not_mem_nil, or_false] at hx
    rcases hx with rfl | rfl
    · rw [hu]; rfl
    · rw [hv]; rfl) (by simp [hs])
  rw [hs] at h ⊢
  refine h.trans ?_
  simp [hu, hv]
theorem row_five {W : World} {g : Nat} (h : W.heap[g]? = some (.cells #[.int .u32 5, .int .u32 0] 22 (0, 0))) : RowAt 1 encN W (.slice (some ⟨g, 0, none⟩) 2 2) [5, 0] := by
  refine ⟨_, 2, rfl, by decide, fun _ => ⟨g, 0, rfl, block_lt_of_row h, fun j x hx i u hu => ?_⟩⟩
  rw [cell_of_row _ _ _ _ _ _ h]
  match j, i, hx, hu with
  | 0, 0, hx, hu => cases hx; exact hu
  | 1, 0, hx, hu => cases hx; exact hu
  | 0, i + 1, hx, hu => simp [encN] at hu
  | 1, i + 1, hx, hu => simp [encN] at hu
  | j + 2, i, hx, hu => simp at hx
set_option maxHeartbeats 40000000 in
set_option maxRecDepth 10000 in
theorem tokenNumbers_walk (w : World) (hK : KAt w) :
   Calls Tryd.prog 3 #[] w fun e w' => e = .returned (.bool true) ∧ Below w.heap.size w w' := by
  have HK := hide hK
  have h0 := hK.pos
  obtain ⟨key, T, B, FF, hkey, hT, hENC, hLB, hDEC, hDCUT, hE4, hF0, hFS, hFO, hFL, hFE, hFULL, hGENF, hNOT, hH3, hH2, hGEN0⟩ := S.n_all
  have HKEY := hide (show key.length = 32 by rw [hkey]; exact S.root_length 2)
  have root2 : Hid (∀ W : World, Calls Tryd.prog 10 #[.int .u8 2] W fun e w' => e = .returned (.agg (S.v8 key)) ∧ Below W.heap.size W w') := fun W => by rw [hkey]; exact root_is 2 2 W rfl
  have mint0 : Hid (∀ W : World, KAt W → Calls Tryd.prog 9 #[.agg (S.v8 key), .int .u32 0] W fun e w' => e = .returned (.agg (encT T.id (.slice none 0 0) T.tag).toArray) ∧ Below W.heap.size W w') := fun W hW => by rw [hT]; exact mint_any key 0 W HKEY.out (by decide) hW
  have HTO := hide (show T.Ok by rw [hT]; exact S.mint_ok _ _ (by decide))
  have HTC := hide (show T.cs = [] by rw [hT]; rfl)
  have HTI := hide (show T.id = 0 by rw [hT]; rfl)
  have CVT : Hid (∀ W : World, CvAt W (.slice none 0 0) T.cs) := fun W => by rw [HTC.out]; exact CvAt.nil W
  have ENC := hide hENC
  have LB := hide hLB
  have DEC := hide hDEC
  have DCUT := hide hDCUT
  have E4 := hide hE4
  have F0 := hide hF0
  have FS := hide hFS
  have FO := hide hFO
  have FL := hide hFL
  have FE := hide hFE
  have FULL := hide hFULL
  have GENF := hide hGENF
  have NOT := hide hNOT
  have GEN0 := hide hGEN0
  have COK : Hid (S.Cv.Ok ⟨4, 0⟩ ∧ S.Cv.Ok ⟨3, 0⟩ ∧ S.Cv.Ok ⟨3, 9⟩ ∧ S.Cv.Ok ⟨2, 1⟩) := ⟨⟨by decide, by decide, by decide⟩, ⟨by decide, by decide, by decide⟩, ⟨by decide, by decide, by decide⟩, ⟨by decide, by decide, by decide⟩⟩
  obtain ⟨u4, hu4⟩ : ∃ u, (S.narrow T ⟨4, 0⟩).1 = u := ⟨_, rfl⟩
  obtain ⟨u3, hu3⟩ : ∃ u, (S.narrow T ⟨3, 0⟩).1 = u := ⟨_, rfl⟩
  obtain ⟨u2, hu2⟩ : ∃ u, (S.narrow T ⟨2, 1⟩).1 = u := ⟨_, rfl⟩
  obtain ⟨u5, hu5⟩ : ∃ u, (S.narrow (FF 4) ⟨3, 0⟩).1 = u := ⟨_, rfl⟩
  obtain ⟨e3, he3⟩ : ∃ u, (S.narrow T ⟨3, 0⟩).2 = u := ⟨_, rfl⟩
  obtain ⟨e2, he2⟩ : ∃ u, (S.narrow T ⟨2, 1⟩).2 = u := ⟨_, rfl⟩
  obtain ⟨n4, hn4⟩ : ∃ n, u4.cs.length = n := ⟨_, rfl⟩
  obtain ⟨n3, hn3⟩ : ∃ n, u3.cs.length = n := ⟨_, rfl⟩
  obtain ⟨n2, hn2⟩ : ∃ n, u2.cs.length = n := ⟨_, rfl⟩
  obtain ⟨n5, hn5⟩ : ∃ n, u5.cs.length = n := ⟨_, rfl⟩
  have U4 := hide hu4
  have U3 := hide hu3
  have U2 := hide hu2
  have U5 := hide hu5
  have N4 := hide hn4
  have N3 := hide hn3
  have N2 := hide hn2
  have N5 := hide hn5
  have E3 := hide he3
  have E2 := hide he2
  have H3 := hide (show S.holds u3.cs 1 1 0 = false by rw [← hu3]; exact hH3)
  have H2 := hide (show S.holds u2.cs 1 1 0 = false by rw [← hu2]; exact hH2)
  have UO4 := hide (show u4.Ok by rw [← hu4]; exact S.narrow_ok _ _ HTO.out COK.out.1)
  have UO3 := hide (show u3.Ok by rw [← hu3]; exact S.narrow_ok _ _ HTO.out COK.out.2.1)
  have UO2 := hide (show u2.Ok by rw [← hu2]; exact S.narrow_ok _ _ HTO.out COK.out.2.2.2)
  have UO5 := hide (show u5.Ok by rw [← hu5]; exact S.narrow_ok _ _ (FO.out 4 (by omega)) COK.out.2.1)
  clear hkey hT hENC hLB hDEC hDCUT hE4 hF0 hFS hFO hFL hFE hFULL hGENF hNOT hH3 hH2 hGEN0 hu4 hu3 hu2 hu5 he3 he2 hn4 hn3 hn2 hn5 hK
  go_enter Tryd.func3, Tryd.ntmps3
  go_upto_region 1 with fail
  go_wp2_with fail
  refine (root2.out w).mono ?_
  rintro e w1 ⟨rfl, hb⟩
  have BW := hide hb
  clear hb
  go_wp2_with fail
  refine (mint0.out w1 (HK.out.below BW.out h0)).mono ?_
  rintro e w2 ⟨rfl, hb⟩
  have BW_1 := hide (BW.out.trans (hb.mono BW.out.size))
  clear hb BW
  obtain ⟨A4, w3, ha4, hs4, hr4, hb4, -⟩ := lay_t w2 T.id none 0 0 T.tag HTO.out.tl
  obtain ⟨gT, hgg⟩ : ∃ g, g = w2.heap.size := ⟨_, rfl⟩
  rw [← hgg] at ha4 hs4 hr4
  have LT := hide (show w2.heap.size ≤ gT from Nat.le_of_eq hgg.symm)
  clear hgg
  have BW_2 := hide (BW_1.out.trans (hb4.mono BW_1.out.size))
  clear hb4 BW_1
  have RT := hide hr4
  clear hr4
  go_upto_region 2 with (first | (with_reducible refine at_op { dst := some 1, op := Op.alloc 27, type := 0, pos := "law.go:39", after := #[], guard := none } ?_; refine wpList_alloc_known rfl 27 rfl _ _ ha4 ?_) | (with_reducible refine at_op { dst := none, op := Op.store 27 (Operand.tmp 1) (Operand.tmp 20), type := 0, pos := "law.go:39", after := #[{ on := 2, ground := Ground.data }, { on := 1, ground := Ground.data }, { on := 1, ground := Ground.chain }, { on := 0, ground := Ground.phase }, { on := 1, ground := Ground.phase }, { on := 2, ground := Ground.phase }], guard := none } ?_; refine wpList_store_as rfl 27 (.tmp 1) (.tmp 20) rfl (.pointer (some ⟨gT, 0, none⟩)) (.agg (encT T.id (.slice none 0 0) T.tag).toArray) rfl rfl w3 hs4 ?_))
  clear ha4 hs4 A4
  have ld1 := load_t RT.out HTO.out.tl
  go_wp2_with (with_reducible refine at_op { dst := some 22, op := Op.load 27 (Operand.tmp 1), type := 27, pos := "law.go:40", after := #[], guard := none } ?_; refine wpList_load_as rfl 27 (.tmp 1) rfl (.pointer (some ⟨gT, 0, none⟩)) rfl (.agg (encT T.id (.slice none 0 0) T.tag).toArray) ld1 ?_)
  refine (enc_ok T (.slice none 0 0) B w3 HTO.out (CVT.out _) ENC.out).mono ?_
  rintro e w4 ⟨⟨bo, bc, rfl, hU⟩, hb⟩
  rw [LB.out] at hU ⊢
  clear ld1
  have BW_3 := hide (BW_2.out.trans (hb.mono BW_2.out.size))
  have RT_3 := hide ((hb.block _ (block_lt_of_row RT.out)).trans RT.out)
  clear hb BW_2 RT
  have UB := hide hU
  clear hU
  go_upto_region 3 with fail
  go_wp2_with fail
  refine (dec_ok (.slice bo 37 bc) B T w4 (UB.out.sliceAt (by rw [LB.out]; omega)) (by rw [LB.out]; omega) DEC.out).mono ?_
  rintro e w5 ⟨⟨uo, uc, rfl, hc⟩, hb⟩
  have hz : T.cs.length = 0 := by rw [HTC.out]; rfl
  rw [hz] at hc ⊢
  clear hz
  have SB := hide ((UB.out.sliceAt (by rw [LB.out]; omega)).below hb (Nat.le_refl _))
  clear UB
  have BW_4 := hide (BW_3.out.trans (hb.mono BW_3.out.size))
  have RT_4 := hide ((hb.block _ (block_lt_of_row RT_3.out)).trans RT_3.out)
  clear hb BW_3 RT_3
  have CU := hide hc
  clear hc
  obtain ⟨A4, w6, ha4, hs4, hr4, hb4, -⟩ := lay_t w5 T.id uo 0 uc T.tag HTO.out.tl
  obtain ⟨gU, hgg⟩ : ∃ g, g = w5.heap.size := ⟨_, rfl⟩
  rw [← hgg] at ha4 hs4 hr4
  have LU := hide (show w5.heap.size ≤ gU from Nat.le_of_eq hgg.symm)
  clear hgg
  have BW_5 := hide (BW_4.out.trans (hb4.mono BW_4.out.size))
  have RT_5 := hide ((hb4.block _ (block_lt_of_row RT_4.out)).trans RT_4.out)
  have CU_5 := hide (CU.out.below hb4)
  have SB' := hide (SB.out.below hb4 (Nat.le_refl _))
  clear hb4 BW_4 RT_4 CU SB
  have RU := hide hr4
  clear hr4
  go_upto_region 4 with (first | (with_reducible refine at_op { dst := some 4, op := Op.alloc 27, type := 0, pos := "law.go:41", after := #[], guard := none } ?_; refine wpList_alloc_known rfl 27 rfl _ _ ha4 ?_) | (with_reducible refine at_op { dst := none, op := Op.store 27 (Operand.tmp 4) (Operand.tmp 29), type := 0, pos := "law.go:41", after := #[{ on := 5, ground := Ground.data }, { on := 3, ground := Ground.data }, { on := 1, ground := Ground.chain }, { on := 0, ground := Ground.phase }, { on := 1, ground := Ground.phase }, { on := 2, ground := Ground.phase }, { on := 3, ground := Ground.phase }, { on := 4, ground := Ground.textOnly Departure.lateStores }, { on := 5, ground := Ground.phase }], guard := none } ?_; refine wpList_store_as rfl 27 (.tmp 4) (.tmp 29) rfl (.pointer (some ⟨gU, 0, none⟩)) (.agg (encT T.id (.slice uo 0 uc) T.tag).toArray) rfl rfl w6 hs4 ?_))
  clear ha4 hs4 A4
  have ld1 := load_t RT_5.out HTO.out.tl
  have ld2 := load_t RU.out HTO.out.tl
  go_wp2_with (first | (with_reducible refine at_op { dst := some 43, op := Op.load 27 (Operand.tmp 1), type := 27, pos := "law.go:42", after := #[{ on := 11, ground := Ground.guard }], guard := some (11, false) } ?_; refine wpList_load_when rfl 27 (.tmp 1) rfl (.pointer (some ⟨gT, 0, none⟩)) rfl (.agg (encT T.id (.slice none 0 0) T.tag).toArray) ld1 ?_) | (with_reducible refine at_op { dst := some 44, op := Op.load 27 (Operand.tmp 4), type := 27, pos := "law.go:42", after := #[{ on := 11, ground := Ground.guard }], guard := some (11, false) } ?_; refine wpList_load_when rfl 27 (.tmp 4) rfl (.pointer (some ⟨gU, 0, none⟩)) rfl (.agg (encT T.id (.slice uo 0 uc) T.tag).toArray) ld2 ?_))
  refine (sameTok_any T (.slice none 0 0) (.slice uo 0 uc) w6 HTO.out (CVT.out _) (CRow.at CU_5.out)).mono ?_
  rintro e w7 ⟨rfl, hb⟩
  clear ld1 ld2
  have BW_6 := hide (BW_5.out.trans (hb.mono BW_5.out.size))
  have RT_6 := hide ((hb.block _ (block_lt_of_row RT_5.out)).trans RT_5.out)
  have CU_6 := hide (CU_5.out.below hb)
  have RU_6 := hide ((hb.block _ (block_lt_of_row RU.out)).trans RU.out)
  have SB'' := hide (SB'.out.below hb (Nat.le_refl _))
  clear hb BW_5 RT_5 CU_5 RU SB'
  clear CU_6 RU_6
  have qc : 37 ≤ bc := SB''.out.le_cap
  have qd : (36 : Int) ≤ (bc : Int) := by omega
  have qe : 36 ≤ bc := by omega
  go_upto_region 6 with fail
  go_wp2_with fail
  refine (dec_no (.slice bo 36 bc) (B.take 36) S.t0 36 10 w7 (part_to SB''.out 36 (by omega)) (by rw [List.length_take]; omega) DCUT.out (by decide)).mono ?_
  rintro e w8 ⟨⟨xo, xc, q, rfl, -, hq⟩, hb⟩
  clear SB'' qc qd qe
  have BW_7 := hide (BW_6.out.trans (hb.mono BW_6.out.size))
  have RT_7 := hide ((hb.block _ (block_lt_of_row RT_6.out)).trans RT_6.out)
  clear hb BW_6 RT_6
  have RQ := hide hq
  clear hq
  obtain ⟨A4, w9, ha4, hs4, hr4, hb4, -⟩ := lay_t w8 S.t0.id xo S.t0.cs.length xc S.t0.tag S.t0_ok.tl
  obtain ⟨gV, hgg⟩ : ∃ g, g = w8.heap.size := ⟨_, rfl⟩
  rw [← hgg] at ha4 hs4 hr4
  have LV := hide (show w8.heap.size ≤ gV from Nat.le_of_eq hgg.symm)
  clear hgg
  have BW_8 := hide (BW_7.out.trans (hb4.mono BW_7.out.size))
  have RT_8 := hide ((hb4.block _ (block_lt_of_row RT_7.out)).trans RT_7.out)
  have RQ_8 := hide (RQ.out.below hb4)
  clear hb4 BW_7 RT_7 RQ
  have RV := hide hr4
  clear hr4
  go_upto_region 7 with (first | (with_reducible refine at_op { dst := some 6, op := Op.alloc 27, type := 0, pos := "law.go:45", after := #[], guard := none } ?_; refine wpList_alloc_known rfl 27 rfl _ _ ha4 ?_) | (with_reducible refine at_op { dst := none, op := Op.store 27 (Operand.tmp 6) (Operand.tmp 52), type := 0, pos := "law.go:45", after := #[{ on := 6, ground := Ground.data }, { on := 4, ground := Ground.data }, { on := 2, ground := Ground.chain }, { on := 0, ground := Ground.phase }, { on := 1, ground := Ground.phase }, { on := 2, ground := Ground.phase }, { on := 3, ground := Ground.phase }, { on := 4, ground := Ground.phase }, { on := 5, ground := Ground.textOnly Departure.lateStores }, { on := 6, ground := Ground.phase }], guard := none } ?_; refine wpList_store_as rfl 27 (.tmp 6) (.tmp 52) rfl (.pointer (some ⟨gV, 0, none⟩)) (.agg (encT S.t0.id (.slice xo S.t0.cs.length xc) S.t0.tag).toArray) rfl rfl w9 hs4 ?_))
  clear ha4 hs4 A4
  clear RV LV
  have ld1 := load_t RT_8.out HTO.out.tl
  have hbd := build42k 4 w9
  go_wp2_with (first | (with_reducible refine at_op { dst := some 55, op := Op.load 27 (Operand.tmp 1), type := 27, pos := "law.go:46", after := #[], guard := none } ?_; refine wpList_load_as rfl 27 (.tmp 1) rfl (.pointer (some ⟨gT, 0, none⟩)) rfl (.agg (encT T.id (.slice none 0 0) T.tag).toArray) ld1 ?_) | (with_reducible refine at_op { dst := some 56, op := Op.build 42 #[(0, Operand.const (Value.int IntKind.i64 4))], type := 42, pos := "law.go:46", after := #[], guard := none } ?_; refine wpList_build_as rfl 42 [(0, .const (.int .i64 4))] rfl [(0, .int .i64 4)] rfl (.agg (encC ⟨4, 0⟩).toArray) hbd ?_))
  refine (nar_ok T (.slice none 0 0) ⟨4, 0⟩ u4 1 n4 w9 HTO.out COK.out.1 (CVT.out _) (HK.out.below BW_8.out h0) U4.out E4.out N4.out).mono ?_
  rintro e w10 ⟨⟨Ao, Ac, rfl, hc⟩, hb⟩
  clear ld1 hbd
  have BW_9 := hide (BW_8.out.trans (hb.mono BW_8.out.size))
  have RT_9 := hide ((hb.block _ (block_lt_of_row RT_8.out)).trans RT_8.out)
  have RQ_9 := hide (RQ_8.out.below hb)
  clear hb BW_8 RT_8 RQ_8
  have CA := hide hc
  clear hc
  obtain ⟨A4, w11, ha4, hs4, hr4, hb4, -⟩ := lay_t w10 u4.id Ao n4 Ac u4.tag UO4.out.tl
  obtain ⟨gA, hgg⟩ : ∃ g, g = w10.heap.size := ⟨_, rfl⟩
  rw [← hgg] at ha4 hs4 hr4
  have LA := hide (show w10.heap.size ≤ gA from Nat.le_of_eq hgg.symm)
  clear hgg
  have BW_10 := hide (BW_9.out.trans (hb4.mono BW_9.out.size))
  have RT_10 := hide ((hb4.block _ (block_lt_of_row RT_9.out)).trans RT_9.out)
  have RQ_10 := hide (RQ_9.out.below hb4)
  have CA_10 := hide (CA.out.below hb4)
  clear hb4 BW_9 RT_9 RQ_9 CA
  have RA := hide hr4
  clear hr4
  go_upto_region 8 with (first | (with_reducible refine at_op { dst := some 8, op := Op.alloc 27, type := 0, pos := "law.go:46", after := #[], guard := none } ?_; refine wpList_alloc_known rfl 27 rfl _ _ ha4 ?_) | (with_reducible refine at_op { dst := none, op := Op.store 27 (Operand.tmp 8) (Operand.tmp 58), type := 0, pos := "law.go:46", after := #[{ on := 6, ground := Ground.data }, { on := 4, ground := Ground.data }, { on := 2, ground := Ground.chain }, { on := 0, ground := Ground.phase }, { on := 1, ground := Ground.phase }, { on := 2, ground := Ground.phase }, { on := 3, ground := Ground.phase }, { on := 4, ground := Ground.phase }, { on := 5, ground := Ground.textOnly Departure.lateStores }, { on := 6, ground := Ground.phase }], guard := none } ?_; refine wpList_store_as rfl 27 (.tmp 8) (.tmp 58) rfl (.pointer (some ⟨gA, 0, none⟩)) (.agg (encT u4.id (.slice Ao n4 Ac) u4.tag).toArray) rfl rfl w11 hs4 ?_))
  clear ha4 hs4 A4
  clear RA CA_10 LA
  have ld1 := load_t RT_10.out HTO.out.tl
  obtain ⟨A4, w12, ha4, hs4, hr4, hb4, -⟩ := lay_t w11 T.id none 0 0 T.tag HTO.out.tl
  obtain ⟨gX, hgg⟩ : ∃ g, g = w11.heap.size := ⟨_, rfl⟩
  rw [← hgg] at ha4 hs4 hr4
  have LG := hide (show gT < gX ∧ q < gX ∧ w.heap.size ≤ gX from ⟨by rw [hgg]; exact block_lt_of_row RT_10.out, by rw [hgg]; exact block_lt_of_row RQ_10.out, by rw [hgg]; exact BW_10.out.size⟩)
  clear hgg
  have BW_11 := hide (BW_10.out.trans (hb4.mono BW_10.out.size))
  have RT_11 := hide ((hb4.block _ (block_lt_of_row RT_10.out)).trans RT_10.out)
  have RQ_11 := hide (RQ_10.out.below hb4)
  clear hb4 BW_10 RT_10 RQ_10
  have RX := hide hr4
  clear hr4
  go_upto_region 9 with (first | (with_reducible refine at_op { dst := some 60, op := Op.load 27 (Operand.tmp 1), type := 27, pos := "law.go:47", after := #[], guard := none } ?_; refine wpList_load_as rfl 27 (.tmp 1) rfl (.pointer (some ⟨gT, 0, none⟩)) rfl (.agg (encT T.id (.slice none 0 0) T.tag).toArray) ld1 ?_) | (with_reducible refine at_op { dst := some 10, op := Op.alloc 27, type := 0, pos := "law.go:47", after := #[], guard := none } ?_; refine wpList_alloc_known rfl 27 rfl _ _ ha4 ?_) | (with_reducible refine at_op { dst := none, op := Op.store 27 (Operand.tmp 10) (Operand.tmp 60), type := 0, pos := "law.go:47", after := #[{ on := 1, ground := Ground.data }, { on := 0, ground := Ground.data }, { on := 0, ground := Ground.phase }, { on := 1, ground := Ground.phase }], guard := none } ?_; refine wpList_store_as rfl 27 (.tmp 10) (.tmp 60) rfl (.pointer (some ⟨gX, 0, none⟩)) (.agg (encT T.id (.slice none 0 0) T.tag).toArray) rfl rfl w12 hs4 ?_))
  clear ha4 hs4 A4 ld1
  go_wp2_with fail
  go_loopw [11] (fun s11 wr => ∃ (i : Nat) (xo : Option Addr) (xc : Nat), i ≤ 4 ∧ s11 = .int .i64 (i : Int) ∧ Hid (wr.heap[gX]? = some (.cells (encT (FF i).id (.slice xo i xc) (FF i).tag).toArray 27 (0, 0))) ∧ Hid (CRow 0 wr (.slice xo i xc) (FF i).cs) ∧ Hid (wr.heap[gT]? = some (.cells (encT T.id (.slice none 0 0) T.tag).toArray 27 (0, 0))) ∧ Hid (RefAt wr q 36 10) ∧ Hid (Below w.heap.size w wr)) (fun s11 _ => 4 - (intOf s11).toNat)
  case atStart => exact ⟨0, none, 0, by omega, rfl, by rw [F0.out]; exact RX, by rw [F0.out]; show Hid (CRow 0 _ _ T.cs); rw [HTC.out]; exact hide (Rw.nil _ _ _ _ _), RT_11, RQ_11, BW_11⟩
  case round =>
    clear RX RT_11 RQ_11 BW_11
    obtain ⟨i, xo, xc, hi4, rfl, RX, CX, RT, RQ, BW⟩ := hrel
    by_cases hgo : i < 4
    · have q2 : (i : Int) < 4 := by omega
      have qw : IntKind.i64.wrap ((i : Int) + 1) = (i : Int) + 1 := by rw [IntKind.wrap_i64]; omega
      have FOI := FO.out i (by omega)
      have FOJ := FO.out (i + 1) (by omega)
      have ld1 := load_t RX.out FOI.tl
      have hbd := build42kn 3 9 wr
      have HI := hide hgo
      clear hgo
      obtain ⟨x, hx⟩ : ∃ x, x = FF i := ⟨_, rfl⟩
      obtain ⟨y, hy⟩ : ∃ y, y = FF (i + 1) := ⟨_, rfl⟩
      have HX := hide hx
      have HY := hide hy
      rw [← hx] at RX CX FOI ld1
      rw [← hy] at FOJ
      have XO := hide FOI
      have YO := hide FOJ
      clear hx hy FOI FOJ
      go_wp2_with (first | (with_reducible refine at_op { dst := some 66, op := Op.load 27 (Operand.tmp 10), type := 27, pos := "law.go:49", after := #[], guard := none } ?_; refine wpList_load_as rfl 27 (.tmp 10) rfl (.pointer (some ⟨gX, 0, none⟩)) rfl (.agg (encT x.id (.slice xo i xc) x.tag).toArray) ld1 ?_) | (with_reducible refine at_op { dst := some 67, op := Op.build 42 #[(0, Operand.const (Value.int IntKind.i64 3)), (1, Operand.const (Value.int IntKind.u32 9))], type := 42, pos := "law.go:49", after := #[], guard := none } ?_; refine wpList_build_as rfl 42 [(0, .const (.int .i64 3)), (1, .const (.int .u32 9))] rfl [(0, .int .i64 3), (1, .int .u32 9)] rfl (.agg (encC ⟨3, 9⟩).toArray) hbd ?_))
      refine (nar_ok x (.slice xo i xc) ⟨3, 9⟩ y 0 (i + 1) wr XO.out COK.out.2.2.1 (CRow.at CX.out) (HK.out.below BW.out h0) (by rw [HX.out, HY.out, FS.out]) (by rw [HX.out]; exact FE.out i HI.out) (by rw [HY.out]; exact FL.out (i + 1) (by have := HI.out; omega))).mono ?_
      rintro e wa ⟨⟨yo, yc, rfl, hc⟩, hb⟩
      have RXa := hide ((hb.block _ (block_lt_of_row RX.out)).trans RX.out)
      have RTa := hide ((hb.block _ (block_lt_of_row RT.out)).trans RT.out)
      have RQa := hide (RQ.out.below hb)
      have BWa := hide (BW.out.trans (hb.mono BW.out.size))
      obtain ⟨w7, hs7, hr7, k7, -⟩ := store_t (id := y.id) (ao := yo) (n := i + 1) (m := yc) (tag := y.tag) RXa.out (by rw [List.size_toArray, encT_length _ _ _ XO.out.tl]) YO.out.tl
      have RXb := hide hr7
      have CXb := hide (hc.chg k7 (fun j e e2 => hc.apart RXa.out (by decide) (e2 ▸ e)))
      have RTb := hide (k7.row RTa.out (by have := LG.out; omega))
      have RQb : Hid (RefAt w7 q 36 10) := hide (k7.row RQa.out (by have := LG.out; omega))
      have BWb := hide (BWa.out.trans (k7.below w.heap.size BWa.out.size (fun k hk e => by have := LG.out; omega)))
      clear hc hb hr7 k7 RXa RTa RQa BWa RX CX RT RQ BW ld1 hbd
      go_wp2_with (with_reducible refine at_op { dst := none, op := Op.store 27 (Operand.tmp 10) (Operand.tmp 69), type := 0, pos := "law.go:49", after := #[{ on := 4, ground := Ground.data }, { on := 2, ground := Ground.chain }, { on := 0, ground := Ground.phase }, { on := 1, ground := Ground.phase }, { on := 2, ground := Ground.phase }, { on := 3, ground := Ground.phase }, { on := 4, ground := Ground.phase }, { on := 5, ground := Ground.textOnly Departure.lateStores }], guard := none } ?_; refine wpList_store_as rfl 27 (.tmp 10) (.tmp 69) rfl (.pointer (some ⟨gX, 0, none⟩)) (.agg (encT y.id (.slice yo (i + 1) yc) y.tag).toArray) rfl rfl w7 hs7 ?_)
      go_roundw
      case rel => exact ⟨i + 1, yo, yc, by omega, by first | rfl | simp, by rw [← HY.out]; exact RXb, by rw [← HY.out]; exact CXb, RTb, RQb, BWb⟩
      case measure => simp [intOf]; omega
    · obtain rfl : i = 4 := by omega
      clear hgo hi4
      obtain ⟨x, hx⟩ : ∃ x, x = FF 4 := ⟨_, rfl⟩
      have XO := hide (FO.out 4 (by omega))
      rw [← hx] at RX CX FULL GENF NOT U5 XO
      clear hx FS FL FE F0
      obtain ⟨gx, e0, -, -, -⟩ := CRow.isIn CX.out (by omega)
      subst e0
      go_upto_region 13 with fail
      have ld1 := load_t RX.out XO.out.tl
      have hbd := build42k 3 wr
      go_wp2_with (first | (with_reducible refine at_op { dst := some 72, op := Op.load 27 (Operand.tmp 10), type := 27, pos := "law.go:51", after := #[], guard := none } ?_; refine wpList_load_as rfl 27 (.tmp 10) rfl (.pointer (some ⟨gX, 0, none⟩)) rfl (.agg (encT x.id (.slice (some ⟨gx, 0, none⟩) 4 xc) x.tag).toArray) ld1 ?_) | (with_reducible refine at_op { dst := some 73, op := Op.build 42 #[(0, Operand.const (Value.int IntKind.i64 3))], type := 42, pos := "law.go:51", after := #[], guard := none } ?_; refine wpList_build_as rfl 42 [(0, .const (.int .i64 3))] rfl [(0, .int .i64 3)] rfl (.agg (encC ⟨3, 0⟩).toArray) hbd ?_))
      refine (nar_ok x (.slice (some ⟨gx, 0, none⟩) 4 xc) ⟨3, 0⟩ u5 4 n5 wr XO.out COK.out.2.1 (CRow.at CX.out) (HK.out.below BW.out h0) U5.out FULL.out N5.out).mono ?_
      rintro e w13 ⟨⟨Bo, Bc, rfl, hc⟩, hb⟩
      clear ld1 hbd
      have RX_12 := hide ((hb.block _ (block_lt_of_row RX.out)).trans RX.out)
      have CX_12 := hide (CX.out.below hb)
      have RT_12 := hide ((hb.block _ (block_lt_of_row RT.out)).trans RT.out)
      have RQ_12 := hide (RQ.out.below hb)
      have BW_12 := hide (BW.out.trans (hb.mono BW.out.size))
      clear hb RX CX RT RQ BW
      have CB := hide hc
      clear hc
      obtain ⟨A4, w14, ha4, hs4, hr4, hb4, -⟩ := lay_t w13 u5.id Bo n5 Bc u5.tag UO5.out.tl
      obtain ⟨gB, hgg⟩ : ∃ g, g = w13.heap.size := ⟨_, rfl⟩
      rw [← hgg] at ha4 hs4 hr4
      have LB := hide (show w13.heap.size ≤ gB from Nat.le_of_eq hgg.symm)
      clear hgg
      have RX_13 := hide ((hb4.block _ (block_lt_of_row RX_12.out)).trans RX_12.out)
      have CX_13 := hide (CX_12.out.below hb4)
      have RT_13 := hide ((hb4.block _ (block_lt_of_row RT_12.out)).trans RT_12.out)
      have RQ_13 := hide (RQ_12.out.below hb4)
      have BW_13 := hide (BW_12.out.trans (hb4.mono BW_12.out.size))
      have CB_13 := hide (CB.out.below hb4)
      clear hb4 RX_12 CX_12 RT_12 RQ_12 BW_12 CB
      have RB := hide hr4
      clear hr4
      go_upto_region 14 with (first | (with_reducible refine at_op { dst := some 12, op := Op.alloc 27, type := 0, pos := "law.go:51", after := #[], guard := none } ?_; refine wpList_alloc_known rfl 27 rfl _ _ ha4 ?_) | (with_reducible refine at_op { dst := none, op := Op.store 27 (Operand.tmp 12) (Operand.tmp 75), type := 0, pos := "law.go:51", after := #[{ on := 6, ground := Ground.data }, { on := 4, ground := Ground.data }, { on := 2, ground := Ground.chain }, { on := 0, ground := Ground.phase }, { on := 1, ground := Ground.phase }, { on := 2, ground := Ground.phase }, { on := 3, ground := Ground.phase }, { on := 4, ground := Ground.phase }, { on := 5, ground := Ground.textOnly Departure.lateStores }, { on := 6, ground := Ground.phase }], guard := none } ?_; refine wpList_store_as rfl 27 (.tmp 12) (.tmp 75) rfl (.pointer (some ⟨gB, 0, none⟩)) (.agg (encT u5.id (.slice Bo n5 Bc) u5.tag).toArray) rfl rfl w14 hs4 ?_))
      clear ha4 hs4 A4
      clear RB CB_13 LB
      have ld1 := load_t RX_13.out XO.out.tl
      obtain ⟨A4, w15, ha4, hs4, hr4, hb4, -⟩ := lay_t w14 x.id (some ⟨gx, 0, none⟩) 4 xc x.tag XO.out.tl
      obtain ⟨gC, hgg⟩ : ∃ g, g = w14.heap.size := ⟨_, rfl⟩
      rw [← hgg] at ha4 hs4 hr4
      replace LG := hide (show gT < gC ∧ q < gC ∧ gX < gC ∧ w.heap.size ≤ gC from ⟨by rw [hgg]; exact block_lt_of_row RT_13.out, by rw [hgg]; exact block_lt_of_row RQ_13.out, by rw [hgg]; exact block_lt_of_row RX_13.out, by rw [hgg]; exact BW_13.out.size⟩)
      clear hgg
      have RX_14 := hide ((hb4.block _ (block_lt_of_row RX_13.out)).trans RX_13.out)
      have CX_14 := hide (CX_13.out.below hb4)
      have RT_14 := hide ((hb4.block _ (block_lt_of_row RT_13.out)).trans RT_13.out)
      have RQ_14 := hide (RQ_13.out.below hb4)
      have BW_14 := hide (BW_13.out.trans (hb4.mono BW_13.out.size))
      clear hb4 RX_13 CX_13 RT_13 RQ_13 BW_13
      have RC := hide hr4
      clear hr4
      go_upto_region 15 with (first | (with_reducible refine at_op { dst := some 77, op := Op.load 27 (Operand.tmp 10), type := 27, pos := "law.go:52", after := #[], guard := none } ?_; refine wpList_load_as rfl 27 (.tmp 10) rfl (.pointer (some ⟨gX, 0, none⟩)) rfl (.agg (encT x.id (.slice (some ⟨gx, 0, none⟩) 4 xc) x.tag).toArray) ld1 ?_) | (with_reducible refine at_op { dst := some 14, op := Op.alloc 27, type := 0, pos := "law.go:52", after := #[], guard := none } ?_; refine wpList_alloc_known rfl 27 rfl _ _ ha4 ?_) | (with_reducible refine at_op { dst := none, op := Op.store 27 (Operand.tmp 14) (Operand.tmp 77), type := 0, pos := "law.go:52", after := #[{ on := 1, ground := Ground.data }, { on := 0, ground := Ground.data }, { on := 0, ground := Ground.phase }, { on := 1, ground := Ground.phase }], guard := none } ?_; refine wpList_store_as rfl 27 (.tmp 14) (.tmp 77) rfl (.pointer (some ⟨gC, 0, none⟩)) (.agg (encT x.id (.slice (some ⟨gx, 0, none⟩) 4 xc) x.tag).toArray) rfl rfl w15 hs4 ?_))
      clear ha4 hs4 A4 ld1
      obtain ⟨c0, c1⟩ := t_cells RX_14.out
      obtain ⟨d0, d1⟩ := t_cells RC.out
      have f1 := frozen_of_row _ _ 1 _ _ RC.out
      have hcap : 4 ≤ xc := by obtain ⟨_, _, _, e, _, h⟩ := (CRow.at CX_14.out).form; simp only [Value.slice.injEq] at e; omega
      have q1 : (3 : Int) ≤ (xc : Int) := by omega
      have q2 : 3 ≤ xc := by omega
      clear hcap
      have RC2 := hide (set_cv (.slice (some ⟨gx, 0, none⟩) 3 xc) RC.out)
      have C5 : Hid (Chg (fun j => j = gC) w15 (w15.setCell ⟨gC, 1, none⟩ (.slice (some ⟨gx, 0, none⟩) 3 xc))) := hide ((Chg.refl (fun j => j = gC) w15).setCell gC _ _ (fun _ => rfl))
      go_upto_region 16 with fail
      generalize w15.setCell ⟨gC, 1, none⟩ (.slice (some ⟨gx, 0, none⟩) 3 xc) = w16 at RC2 C5 ⊢
      clear c0 c1 d0 d1 f1 q1 q2
      have RX_15 := hide (C5.out.row RX_14.out (by have := LG.out; omega))
      have CX_15 := hide (CX_14.out.chg C5.out (fun j e e2 => CX_14.out.apart RC.out (by decide) (e2 ▸ e)))
      have RT_15 := hide (C5.out.row RT_14.out (by have := LG.out; omega))
      have RQ_15 := hide (show RefAt _ q 36 10 from C5.out.row RQ_14.out (by have := LG.out; omega))
      have BW_15 := hide (BW_14.out.trans (C5.out.below w.heap.size BW_14.out.size (fun k hk e => by have := LG.out; omega)))
      clear C5 RC RX_14 CX_14 RT_14 RQ_14 BW_14
      have RC := RC2
      clear RC2
      have ld1 := load_t RT_15.out HTO.out.tl
      have hbd := build42k 3 w16
      go_wp2_with (first | (with_reducible refine at_op { dst := some 83, op := Op.load 27 (Operand.tmp 1), type := 27, pos := "law.go:54", after := #[], guard := none } ?_; refine wpList_load_as rfl 27 (.tmp 1) rfl (.pointer (some ⟨gT, 0, none⟩)) rfl (.agg (encT T.id (.slice none 0 0) T.tag).toArray) ld1 ?_) | (with_reducible refine at_op { dst := some 84, op := Op.build 42 #[(0, Operand.const (Value.int IntKind.i64 3))], type := 42, pos := "law.go:54", after := #[], guard := none } ?_; refine wpList_build_as rfl 42 [(0, .const (.int .i64 3))] rfl [(0, .int .i64 3)] rfl (.agg (encC ⟨3, 0⟩).toArray) hbd ?_))
      refine (nar_ok T (.slice none 0 0) ⟨3, 0⟩ u3 e3 n3 w16 HTO.out COK.out.2.1 (CVT.out _) (HK.out.below BW_15.out h0) U3.out E3.out N3.out).mono ?_
      rintro e w17 ⟨⟨Do, Dc, rfl, hc⟩, hb⟩
      clear ld1 hbd
      have RX_16 := hide ((hb.block _ (block_lt_of_row RX_15.out)).trans RX_15.out)
      have CX_16 := hide (CX_15.out.below hb)
      have RT_16 := hide ((hb.block _ (block_lt_of_row RT_15.out)).trans RT_15.out)
      have RQ_16 := hide (RQ_15.out.below hb)
      have BW_16 := hide (BW_15.out.trans (hb.mono BW_15.out.size))
      have RC_16 := hide ((hb.block _ (block_lt_of_row RC.out)).trans RC.out)
      clear hb RX_15 CX_15 RT_15 RQ_15 BW_15 RC
      have CD := hide hc
      clear hc
      obtain ⟨A4, w18, ha4, hs4, hr4, hb4, -⟩ := lay_t w17 u3.id Do n3 Dc u3.tag UO3.out.tl
      obtain ⟨gD, hgg⟩ : ∃ g, g = w17.heap.size := ⟨_, rfl⟩
      rw [← hgg] at ha4 hs4 hr4
      have LD := hide (show w17.heap.size ≤ gD from Nat.le_of_eq hgg.symm)
      clear hgg
      have RX_17 := hide ((hb4.block _ (block_lt_of_row RX_16.out)).trans RX_16.out)
      have CX_17 := hide (CX_16.out.below hb4)
      have RT_17 := hide ((hb4.block _ (block_lt_of_row RT_16.out)).trans RT_16.out)
      have RQ_17 := hide (RQ_16.out.below hb4)
      have BW_17 := hide (BW_16.out.trans (hb4.mono BW_16.out.size))
      have RC_17 := hide ((hb4.block _ (block_lt_of_row RC_16.out)).trans RC_16.out)
      have CD_17 := hide (CD.out.below hb4)
      clear hb4 RX_16 CX_16 RT_16 RQ_16 BW_16 RC_16 CD
      have RD := hide hr4
      clear hr4
      go_upto_region 17 with (first | (with_reducible refine at_op { dst := some 15, op := Op.alloc 27, type := 0, pos := "law.go:54", after := #[], guard := none } ?_; refine wpList_alloc_known rfl 27 rfl _ _ ha4 ?_) | (with_reducible refine at_op { dst := none, op := Op.store 27 (Operand.tmp 15) (Operand.tmp 86), type := 0, pos := "law.go:54", after := #[{ on := 6, ground := Ground.data }, { on := 4, ground := Ground.data }, { on := 2, ground := Ground.chain }, { on := 0, ground := Ground.phase }, { on := 1, ground := Ground.phase }, { on := 2, ground := Ground.phase }, { on := 3, ground := Ground.phase }, { on := 4, ground := Ground.phase }, { on := 5, ground := Ground.textOnly Departure.lateStores }, { on := 6, ground := Ground.phase }], guard := none } ?_; refine wpList_store_as rfl 27 (.tmp 15) (.tmp 86) rfl (.pointer (some ⟨gD, 0, none⟩)) (.agg (encT u3.id (.slice Do n3 Dc) u3.tag).toArray) rfl rfl w18 hs4 ?_))
      clear ha4 hs4 A4
      have ld1 := load_t RT_17.out HTO.out.tl
      have hbd := build42kn 2 1 w18
      go_wp2_with (first | (with_reducible refine at_op { dst := some 89, op := Op.load 27 (Operand.tmp 1), type := 27, pos := "law.go:55", after := #[], guard := none } ?_; refine wpList_load_as rfl 27 (.tmp 1) rfl (.pointer (some ⟨gT, 0, none⟩)) rfl (.agg (encT T.id (.slice none 0 0) T.tag).toArray) ld1 ?_) | (with_reducible refine at_op { dst := some 90, op := Op.build 42 #[(0, Operand.const (Value.int IntKind.i64 2)), (1, Operand.const (Value.int IntKind.u32 1))], type := 42, pos := "law.go:55", after := #[], guard := none } ?_; refine wpList_build_as rfl 42 [(0, .const (.int .i64 2)), (1, .const (.int .u32 1))] rfl [(0, .int .i64 2), (1, .int .u32 1)] rfl (.agg (encC ⟨2, 1⟩).toArray) hbd ?_))
      refine (nar_ok T (.slice none 0 0) ⟨2, 1⟩ u2 e2 n2 w18 HTO.out COK.out.2.2.2 (CVT.out _) (HK.out.below BW_17.out h0) U2.out E2.out N2.out).mono ?_
      rintro e w19 ⟨⟨Eo, Ec, rfl, hc⟩, hb⟩
      clear ld1 hbd
      have RX_18 := hide ((hb.block _ (block_lt_of_row RX_17.out)).trans RX_17.out)
      have CX_18 := hide (CX_17.out.below hb)
      have RT_18 := hide ((hb.block _ (block_lt_of_row RT_17.out)).trans RT_17.out)
      have RQ_18 := hide (RQ_17.out.below hb)
      have BW_18 := hide (BW_17.out.trans (hb.mono BW_17.out.size))
      have RC_18 := hide ((hb.block _ (block_lt_of_row RC_17.out)).trans RC_17.out)
      have CD_18 := hide (CD_17.out.below hb)
      have RD_18 := hide ((hb.block _ (block_lt_of_row RD.out)).trans RD.out)
      clear hb RX_17 CX_17 RT_17 RQ_17 BW_17 RC_17 CD_17 RD
      have CE := hide hc
      clear hc
      obtain ⟨A4, w20, ha4, hs4, hr4, hb4, -⟩ := lay_t w19 u2.id Eo n2 Ec u2.tag UO2.out.tl
      obtain ⟨gE, hgg⟩ : ∃ g, g = w19.heap.size := ⟨_, rfl⟩
      rw [← hgg] at ha4 hs4 hr4
      have LE := hide (show w19.heap.size ≤ gE from Nat.le_of_eq hgg.symm)
      clear hgg
      have RX_19 := hide ((hb4.block _ (block_lt_of_row RX_18.out)).trans RX_18.out)
      have CX_19 := hide (CX_18.out.below hb4)
      have RT_19 := hide ((hb4.block _ (block_lt_of_row RT_18.out)).trans RT_18.out)
      have RQ_19 := hide (RQ_18.out.below hb4)
      have BW_19 := hide (BW_18.out.trans (hb4.mono BW_18.out.size))
      have RC_19 := hide ((hb4.block _ (block_lt_of_row RC_18.out)).trans RC_18.out)
      have CD_19 := hide (CD_18.out.below hb4)
      have RD_19 := hide ((hb4.block _ (block_lt_of_row RD_18.out)).trans RD_18.out)
      have CE_19 := hide (CE.out.below hb4)
      clear hb4 RX_18 CX_18 RT_18 RQ_18 BW_18 RC_18 CD_18 RD_18 CE
      have RE := hide hr4
      clear hr4
      go_upto_region 18 with (first | (with_reducible refine at_op { dst := some 17, op := Op.alloc 27, type := 0, pos := "law.go:55", after := #[], guard := none } ?_; refine wpList_alloc_known rfl 27 rfl _ _ ha4 ?_) | (with_reducible refine at_op { dst := none, op := Op.store 27 (Operand.tmp 17) (Operand.tmp 92), type := 0, pos := "law.go:55", after := #[{ on := 6, ground := Ground.data }, { on := 4, ground := Ground.data }, { on := 2, ground := Ground.chain }, { on := 0, ground := Ground.phase }, { on := 1, ground := Ground.phase }, { on := 2, ground := Ground.phase }, { on := 3, ground := Ground.phase }, { on := 4, ground := Ground.phase }, { on := 5, ground := Ground.textOnly Departure.lateStores }, { on := 6, ground := Ground.phase }], guard := none } ?_; refine wpList_store_as rfl 27 (.tmp 17) (.tmp 92) rfl (.pointer (some ⟨gE, 0, none⟩)) (.agg (encT u2.id (.slice Eo n2 Ec) u2.tag).toArray) rfl rfl w20 hs4 ?_))
      clear ha4 hs4 A4
      have CCUT := hide ((CRow.at CX_19.out).upto 3 (by omega))
      have OKC := hide (XO.out.of (x.cs.take 3) (by rw [List.length_take]; exact Nat.min_le_right _ _) (fun c hc => XO.out.cs c (List.mem_of_mem_take hc)))
      obtain ⟨Y, hY⟩ : ∃ l, l = x.cs.take 3 := ⟨_, rfl⟩
      rw [← hY] at CCUT OKC NOT
      clear hY
      have XF := hide (show (S.genuine key T && !(([] : List Nat).contains T.id)) = true by rw [GEN0.out]; rfl)
      have YF := hide (show (S.genuine key T && !([5, 0].contains T.id)) = false by rw [HTI.out, GEN0.out]; rfl)
      obtain ⟨we, hwe⟩ : ∃ we, we = w20 := ⟨_, rfl⟩
      rw [← hwe] at CCUT RX_19 CX_19 RT_19 RQ_19 BW_19 RC_19 CD_19 RD_19 CE_19 RE ⊢
      clear hwe
      refine wp_region_noPanic ?_
      refine wp_region_held_drew (S := (fun W => Chg (fun _ => False) we W)) follows ((Chg.refl _ _).drew) (fun hHeld => ?_)
      clear hHeld
      have hHeld : Chg (fun _ => False) we we.drew := (Chg.refl _ _).drew
      have CZ0 := hide hHeld
      generalize we.drew = Z0 at CZ0 hHeld ⊢
      refine wpAnyH_take (i := 0) (oi := { dst := some 94, op := Op.move (Operand.tmp 7), type := 35, pos := "law.go:56", after := #[], guard := none }) (v := ?_) rfl (by kernel_rfl) (by kernel_rfl) (by kernel_rfl) (fun _ _ _ h => h) (Or.inl ⟨by rfl, ?_⟩) (by assumption) ?_
      rotate_left
      · intro w hSw
        clear hSw
        go_simp
        all_goals with_reducible rfl
      simp only [Act.put, List.setIfInBounds_toArray, List.set_cons_zero, List.set_cons_succ]
      refine wpAnyH_ready (rs := [1]) (by kernel_rfl) (by simp) ?_
      refine AllReadyH.cons (o := { dst := some 95, op := Op.call { callee := Callee.value (Operand.func 15), args := #[Operand.tmp 94, Operand.const (Value.int IntKind.i64 36), Operand.const (Value.int IntKind.i64 10)], argTypes := #[35, 3, 3] }, type := 4, pos := "law.go:56", after := #[{ on := 0, ground := Ground.data }], guard := none }) rfl (fun K hK => ?_) AllReadyH.nil
      go_simp
      refine (refused_yes q 36 10 Z0 (CZ0.out.row RQ_19.out (fun e => e)) (by decide)).mono ?_
      rintro e Zx ⟨rfl, rfl⟩
      clear hHeld
      refine hK.out _ _ CZ0.out (fun hHeld => ?_)
      clear hK K
      try simp only [Act.put, List.setIfInBounds_toArray, List.set_cons_zero, List.set_cons_succ]
      refine wpAnyH_take (i := 2) (oi := { dst := some 96, op := Op.move (Operand.tmp 95), type := 4, pos := "law.go:56", after := #[{ on := 1, ground := Ground.data }, { on := 1, ground := Ground.chain }], guard := none }) (v := ?_) rfl (by kernel_rfl) (by kernel_rfl) (by kernel_rfl) (fun _ _ _ h => h) (Or.inl ⟨by rfl, ?_⟩) (by assumption) ?_
      rotate_left
      · intro w hSw
        clear hSw
        go_simp
        all_goals with_reducible rfl
      simp only [Act.put, List.setIfInBounds_toArray, List.set_cons_zero, List.set_cons_succ]
      refine wpAnyH_take (i := 3) (oi := { dst := some 97, op := Op.move (Operand.tmp 9), type := 31, pos := "law.go:56", after := #[{ on := 2, ground := Ground.guard }], guard := some (2, true) }) (v := ?_) rfl (by kernel_rfl) (by kernel_rfl) (by kernel_rfl) (fun _ _ _ h => h) (Or.inl ⟨by rfl, ?_⟩) (by assumption) ?_
      rotate_left
      · intro w hSw
        clear hSw
        go_simp
        all_goals with_reducible rfl
      simp only [Act.put, List.setIfInBounds_toArray, List.set_cons_zero, List.set_cons_succ]
      refine wpAnyH_take (i := 4) (oi := { dst := some 98, op := Op.binOp BinOp.eql 3 (Operand.tmp 97) (Operand.const (Value.int IntKind.i64 1)) 3, type := 4, pos := "law.go:56", after := #[{ on := 3, ground := Ground.data }, { on := 2, ground := Ground.guard }], guard := some (2, true) }) (v := ?_) rfl (by kernel_rfl) (by kernel_rfl) (by kernel_rfl) (fun _ _ _ h => h) (Or.inl ⟨by rfl, ?_⟩) (by assumption) ?_
      rotate_left
      · intro w hSw
        clear hSw
        go_simp
        all_goals with_reducible rfl
      simp only [Act.put, List.setIfInBounds_toArray, List.set_cons_zero, List.set_cons_succ]
      refine wpAnyH_take (i := 5) (oi := { dst := some 99, op := Op.pick (Operand.tmp 96) (Operand.tmp 98) (Operand.const (Value.bool false)), type := 4, pos := "law.go:56", after := #[{ on := 2, ground := Ground.data }, { on := 4, ground := Ground.data }], guard := none }) (v := ?_) rfl (by kernel_rfl) (by kernel_rfl) (by kernel_rfl) (fun _ _ _ h => h) (Or.inl ⟨by rfl, ?_⟩) (by assumption) ?_
      rotate_left
      · intro w hSw
        clear hSw
        go_simp
        all_goals with_reducible rfl
      simp only [Act.put, List.setIfInBounds_toArray, List.set_cons_zero, List.set_cons_succ]
      refine wpAnyH_take (i := 6) (oi := { dst := some 100, op := Op.move (Operand.tmp 99), type := 4, pos := "law.go:56", after := #[{ on := 5, ground := Ground.data }, { on := 2, ground := Ground.chain }], guard := none }) (v := ?_) rfl (by kernel_rfl) (by kernel_rfl) (by kernel_rfl) (fun _ _ _ h => h) (Or.inl ⟨by rfl, ?_⟩) (by assumption) ?_
      rotate_left
      · intro w hSw
        clear hSw
        go_simp
        all_goals with_reducible rfl
      simp only [Act.put, List.setIfInBounds_toArray, List.set_cons_zero, List.set_cons_succ]
      refine wpAnyH_take (i := 7) (oi := { dst := some 101, op := Op.move (Operand.tmp 13), type := 31, pos := "law.go:56", after := #[{ on := 6, ground := Ground.guard }], guard := some (6, true) }) (v := ?_) rfl (by kernel_rfl) (by kernel_rfl) (by kernel_rfl) (fun _ _ _ h => h) (Or.inl ⟨by rfl, ?_⟩) (by assumption) ?_
      rotate_left
      · intro w hSw
        clear hSw
        go_simp
        all_goals with_reducible rfl
      simp only [Act.put, List.setIfInBounds_toArray, List.set_cons_zero, List.set_cons_succ]
      refine wpAnyH_take (i := 8) (oi := { dst := some 102, op := Op.binOp BinOp.eql 3 (Operand.tmp 101) (Operand.const (Value.int IntKind.i64 4)) 3, type := 4, pos := "law.go:56", after := #[{ on := 7, ground := Ground.data }, { on := 6, ground := Ground.guard }], guard := some (6, true) }) (v := ?_) rfl (by kernel_rfl) (by kernel_rfl) (by kernel_rfl) (fun _ _ _ h => h) (Or.inl ⟨by rfl, ?_⟩) (by assumption) ?_
      rotate_left
      · intro w hSw
        clear hSw
        go_simp
        all_goals with_reducible rfl
      simp only [Act.put, List.setIfInBounds_toArray, List.set_cons_zero, List.set_cons_succ]
      refine wpAnyH_take (i := 9) (oi := { dst := some 103, op := Op.pick (Operand.tmp 100) (Operand.tmp 102) (Operand.const (Value.bool false)), type := 4, pos := "law.go:56", after := #[{ on := 6, ground := Ground.data }, { on := 8, ground := Ground.data }], guard := none }) (v := ?_) rfl (by kernel_rfl) (by kernel_rfl) (by kernel_rfl) (fun _ _ _ h => h) (Or.inl ⟨by rfl, ?_⟩) (by assumption) ?_
      rotate_left
      · intro w hSw
        clear hSw
        go_simp
        all_goals with_reducible rfl
      simp only [Act.put, List.setIfInBounds_toArray, List.set_cons_zero, List.set_cons_succ]
      refine wpAnyH_take (i := 10) (oi := { dst := some 104, op := Op.move (Operand.tmp 103), type := 4, pos := "law.go:56", after := #[{ on := 9, ground := Ground.data }, { on := 6, ground := Ground.chain }], guard := none }) (v := ?_) rfl (by kernel_rfl) (by kernel_rfl) (by kernel_rfl) (fun _ _ _ h => h) (Or.inl ⟨by rfl, ?_⟩) (by assumption) ?_
      rotate_left
      · intro w hSw
        clear hSw
        go_simp
        all_goals with_reducible rfl
      simp only [Act.put, List.setIfInBounds_toArray, List.set_cons_zero, List.set_cons_succ]
      refine wpAnyH_take (i := 12) (oi := { dst := some 106, op := Op.load 27 (Operand.tmp 10), type := 27, pos := "law.go:56", after := #[{ on := 10, ground := Ground.guard }], guard := some (10, true) }) (v := .agg (encT x.id (.slice (some ⟨gx, 0, none⟩) 4 xc) x.tag).toArray) rfl (by kernel_rfl) (by kernel_rfl) (by kernel_rfl) (fun _ _ _ h => h) (yieldsIf_load_mid (by rfl) _ _ rfl gX 0 rfl (encT x.id (.slice (some ⟨gx, 0, none⟩) 4 xc) x.tag) _ (fun _ hSw => rangeAt_row (hSw.row RX_19.out (fun e => e))) Tryd.underlying27 rfl (by rw [size_t _ _ _ XO.out.tl, List.size_toArray])) (by assumption) ?_
      simp only [Act.put, List.setIfInBounds_toArray, List.set_cons_zero, List.set_cons_succ]
      refine wpAnyH_ready (rs := [11]) (by kernel_rfl) (by simp) ?_
      refine AllReadyH.cons (o := { dst := some 105, op := Op.call { callee := Callee.value (Operand.func 10), args := #[Operand.const (Value.int IntKind.u8 2)], argTypes := #[5] }, type := 25, pos := "law.go:56", after := #[{ on := 10, ground := Ground.chain }, { on := 10, ground := Ground.guard }], guard := some (10, true) }) rfl (fun K hK => ?_) AllReadyH.nil
      go_simp
      refine (root2.out Z0).mono ?_
      rintro e Z1 ⟨rfl, hb2⟩
      have CZ1 : Hid (Chg (fun _ => False) we Z1) := CZ0.out.then hb2
      clear hb2 CZ0
      clear hHeld
      refine hK.out _ _ CZ1.out (fun hHeld => ?_)
      clear hK K
      try simp only [Act.put, List.setIfInBounds_toArray, List.set_cons_zero, List.set_cons_succ]
      refine wpAnyH_ready (rs := [13]) (by kernel_rfl) (by simp) ?_
      refine AllReadyH.cons (o := { dst := some 107, op := Op.call { callee := Callee.value (Operand.func 16), args := #[Operand.tmp 105, Operand.tmp 106], argTypes := #[25, 27] }, type := 4, pos := "law.go:56", after := #[{ on := 11, ground := Ground.data }, { on := 12, ground := Ground.data }, { on := 11, ground := Ground.chain }, { on := 10, ground := Ground.guard }], guard := some (10, true) }) rfl (fun K hK => ?_) AllReadyH.nil
      go_simp
      refine (genuine_any key x (.slice (some ⟨gx, 0, none⟩) 4 xc) Z1 HKEY.out XO.out ((CRow.at CX_19.out).below (CZ1.out.below _ (Nat.le_refl _) (fun _ _ e => e))) (HK.out.below (BW_19.out.trans (CZ1.out.below w.heap.size BW_19.out.size (fun k hk e => by omega))) h0)).mono ?_
      rintro e Z2 ⟨rfl, hb2⟩
      rw [GENF.out]
      have CZ2 : Hid (Chg (fun _ => False) we Z2) := CZ1.out.then hb2
      clear hb2 CZ1
      clear hHeld
      refine hK.out _ _ CZ2.out (fun hHeld => ?_)
      clear hK K
      try simp only [Act.put, List.setIfInBounds_toArray, List.set_cons_zero, List.set_cons_succ]
      refine wpAnyH_take (i := 14) (oi := { dst := some 108, op := Op.pick (Operand.tmp 104) (Operand.tmp 107) (Operand.const (Value.bool false)), type := 4, pos := "law.go:56", after := #[{ on := 10, ground := Ground.data }, { on := 13, ground := Ground.data }], guard := none }) (v := ?_) rfl (by kernel_rfl) (by kernel_rfl) (by kernel_rfl) (fun _ _ _ h => h) (Or.inl ⟨by rfl, ?_⟩) (by assumption) ?_
      rotate_left
      · intro w hSw
        clear hSw
        go_simp
        all_goals with_reducible rfl
      simp only [Act.put, List.setIfInBounds_toArray, List.set_cons_zero, List.set_cons_succ]
      refine wpAnyH_take (i := 15) (oi := { dst := some 109, op := Op.move (Operand.tmp 108), type := 4, pos := "law.go:56", after := #[{ on := 14, ground := Ground.data }, { on := 13, ground := Ground.chain }], guard := none }) (v := ?_) rfl (by kernel_rfl) (by kernel_rfl) (by kernel_rfl) (fun _ _ _ h => h) (Or.inl ⟨by rfl, ?_⟩) (by assumption) ?_
      rotate_left
      · intro w hSw
        clear hSw
        go_simp
        all_goals with_reducible rfl
      simp only [Act.put, List.setIfInBounds_toArray, List.set_cons_zero, List.set_cons_succ]
      refine wpAnyH_take (i := 17) (oi := { dst := some 111, op := Op.load 27 (Operand.tmp 14), type := 27, pos := "law.go:56", after := #[{ on := 15, ground := Ground.guard }], guard := some (15, true) }) (v := .agg (encT x.id (.slice (some ⟨gx, 0, none⟩) 3 xc) x.tag).toArray) rfl (by kernel_rfl) (by kernel_rfl) (by kernel_rfl) (fun _ _ _ h => h) (yieldsIf_load_mid (by rfl) _ _ rfl gC 0 rfl (encT x.id (.slice (some ⟨gx, 0, none⟩) 3 xc) x.tag) _ (fun _ hSw => rangeAt_row (hSw.row RC_19.out (fun e => e))) Tryd.underlying27 rfl (by rw [size_t _ _ _ XO.out.tl, List.size_toArray])) (by assumption) ?_
      simp only [Act.put, List.setIfInBounds_toArray, List.set_cons_zero, List.set_cons_succ]
      refine wpAnyH_ready (rs := [16]) (by kernel_rfl) (by simp) ?_
      refine AllReadyH.cons (o := { dst := some 110, op := Op.call { callee := Callee.value (Operand.func 10), args := #[Operand.const (Value.int IntKind.u8 2)], argTypes := #[5] }, type := 25, pos := "law.go:56", after := #[{ on := 15, ground := Ground.chain }, { on := 15, ground := Ground.guard }], guard := some (15, true) }) rfl (fun K hK => ?_) AllReadyH.nil
      go_simp
      refine (root2.out Z2).mono ?_
      rintro e Z3 ⟨rfl, hb2⟩
      have CZ3 : Hid (Chg (fun _ => False) we Z3) := CZ2.out.then hb2
      clear hb2 CZ2
      clear hHeld
      refine hK.out _ _ CZ3.out (fun hHeld => ?_)
      clear hK K
      try simp only [Act.put, List.setIfInBounds_toArray, List.set_cons_zero, List.set_cons_succ]
      refine wpAnyH_ready (rs := [18]) (by kernel_rfl) (by simp) ?_
      refine AllReadyH.cons (o := { dst := some 112, op := Op.call { callee := Callee.value (Operand.func 16), args := #[Operand.tmp 110, Operand.tmp 111], argTypes := #[25, 27] }, type := 4, pos := "law.go:56", after := #[{ on := 16, ground := Ground.data }, { on := 17, ground := Ground.data }, { on := 16, ground := Ground.chain }, { on := 15, ground := Ground.guard }], guard := some (15, true) }) rfl (fun K hK => ?_) AllReadyH.nil
      go_simp
      refine (genuine_any key ⟨x.id, Y, x.tag⟩ (.slice (some ⟨gx, 0, none⟩) 3 xc) Z3 HKEY.out OKC.out (CCUT.out.below (CZ3.out.below _ (Nat.le_refl _) (fun _ _ e => e))) (HK.out.below (BW_19.out.trans (CZ3.out.below w.heap.size BW_19.out.size (fun k hk e => by omega))) h0)).mono ?_
      rintro e Z4 ⟨rfl, hb2⟩
      rw [NOT.out]
      have CZ4 : Hid (Chg (fun _ => False) we Z4) := CZ3.out.then hb2
      clear hb2 CZ3
      clear hHeld
      refine hK.out _ _ CZ4.out (fun hHeld => ?_)
      clear hK K
      try simp only [Act.put, List.setIfInBounds_toArray, List.set_cons_zero, List.set_cons_succ]
      refine wpAnyH_take (i := 19) (oi := { dst := some 113, op := Op.unOp UnOp.not 4 (Operand.tmp 112), type := 4, pos := "law.go:56", after := #[{ on := 18, ground := Ground.data }, { on := 15, ground := Ground.guard }], guard := some (15, true) }) (v := ?_) rfl (by kernel_rfl) (by kernel_rfl) (by kernel_rfl) (fun _ _ _ h => h) (Or.inl ⟨by rfl, ?_⟩) (by assumption) ?_
      rotate_left
      · intro w hSw
        clear hSw
        go_simp
        all_goals with_reducible rfl
      simp only [Act.put, List.setIfInBounds_toArray, List.set_cons_zero, List.set_cons_succ]
      refine wpAnyH_take (i := 20) (oi := { dst := some 114, op := Op.pick (Operand.tmp 109) (Operand.tmp 113) (Operand.const (Value.bool false)), type := 4, pos := "law.go:56", after := #[{ on := 15, ground := Ground.data }, { on := 19, ground := Ground.data }], guard := none }) (v := ?_) rfl (by kernel_rfl) (by kernel_rfl) (by kernel_rfl) (fun _ _ _ h => h) (Or.inl ⟨by rfl, ?_⟩) (by assumption) ?_
      rotate_left
      · intro w hSw
        clear hSw
        go_simp
        all_goals with_reducible rfl
      simp only [Act.put, List.setIfInBounds_toArray, List.set_cons_zero, List.set_cons_succ]
      refine wpAnyH_take (i := 21) (oi := { dst := some 115, op := Op.move (Operand.tmp 114), type := 4, pos := "law.go:56", after := #[{ on := 20, ground := Ground.data }, { on := 18, ground := Ground.chain }], guard := none }) (v := ?_) rfl (by kernel_rfl) (by kernel_rfl) (by kernel_rfl) (fun _ _ _ h => h) (Or.inl ⟨by rfl, ?_⟩) (by assumption) ?_
      rotate_left
      · intro w hSw
        clear hSw
        go_simp
        all_goals with_reducible rfl
      simp only [Act.put, List.setIfInBounds_toArray, List.set_cons_zero, List.set_cons_succ]
      refine wpAnyH_take (i := 22) (oi := { dst := some 116, op := Op.load 27 (Operand.tmp 15), type := 27, pos := "law.go:56", after := #[{ on := 21, ground := Ground.guard }], guard := some (21, true) }) (v := .agg (encT u3.id (.slice Do n3 Dc) u3.tag).toArray) rfl (by kernel_rfl) (by kernel_rfl) (by kernel_rfl) (fun _ _ _ h => h) (yieldsIf_load_mid (by rfl) _ _ rfl gD 0 rfl (encT u3.id (.slice Do n3 Dc) u3.tag) _ (fun _ hSw => rangeAt_row (hSw.row RD_19.out (fun e => e))) Tryd.underlying27 rfl (by rw [size_t _ _ _ UO3.out.tl, List.size_toArray])) (by assumption) ?_
      simp only [Act.put, List.setIfInBounds_toArray, List.set_cons_zero, List.set_cons_succ]
      refine wpAnyH_ready (rs := [23]) (by kernel_rfl) (by simp) ?_
      refine AllReadyH.cons (o := { dst := some 117, op := Op.call { callee := Callee.value (Operand.func 17), args := #[Operand.tmp 116, Operand.const (Value.int IntKind.i64 1), Operand.const (Value.int IntKind.i64 1), Operand.const (Value.int IntKind.u64 0)], argTypes := #[27, 3, 3, 46] }, type := 4, pos := "law.go:56", after := #[{ on := 22, ground := Ground.data }, { on := 21, ground := Ground.chain }, { on := 21, ground := Ground.guard }], guard := some (21, true) }) rfl (fun K hK => ?_) AllReadyH.nil
      go_simp
      refine (holds_any u3 (.slice Do n3 Dc) 1 1 0 Z4 UO3.out ((CRow.at CD_19.out).below (CZ4.out.below _ (Nat.le_refl _) (fun _ _ e => e)))).mono ?_
      rintro e Z5 ⟨rfl, hb2⟩
      rw [H3.out]
      have CZ5 : Hid (Chg (fun _ => False) we Z5) := CZ4.out.then hb2
      clear hb2 CZ4
      clear hHeld
      refine hK.out _ _ CZ5.out (fun hHeld => ?_)
      clear hK K
      try simp only [Act.put, List.setIfInBounds_toArray, List.set_cons_zero, List.set_cons_succ]
      refine wpAnyH_take (i := 24) (oi := { dst := some 118, op := Op.unOp UnOp.not 4 (Operand.tmp 117), type := 4, pos := "law.go:56", after := #[{ on := 23, ground := Ground.data }, { on := 21, ground := Ground.guard }], guard := some (21, true) }) (v := ?_) rfl (by kernel_rfl) (by kernel_rfl) (by kernel_rfl) (fun _ _ _ h => h) (Or.inl ⟨by rfl, ?_⟩) (by assumption) ?_
      rotate_left
      · intro w hSw
        clear hSw
        go_simp
        all_goals with_reducible rfl
      simp only [Act.put, List.setIfInBounds_toArray, List.set_cons_zero, List.set_cons_succ]
      refine wpAnyH_take (i := 25) (oi := { dst := some 119, op := Op.pick (Operand.tmp 115) (Operand.tmp 118) (Operand.const (Value.bool false)), type := 4, pos := "law.go:56", after := #[{ on := 21, ground := Ground.data }, { on := 24, ground := Ground.data }], guard := none }) (v := ?_) rfl (by kernel_rfl) (by kernel_rfl) (by kernel_rfl) (fun _ _ _ h => h) (Or.inl ⟨by rfl, ?_⟩) (by assumption) ?_
      rotate_left
      · intro w hSw
        clear hSw
        go_simp
        all_goals with_reducible rfl
      simp only [Act.put, List.setIfInBounds_toArray, List.set_cons_zero, List.set_cons_succ]
      refine wpAnyH_take (i := 26) (oi := { dst := some 120, op := Op.move (Operand.tmp 119), type := 4, pos := "law.go:56", after := #[{ on := 25, ground := Ground.data }, { on := 23, ground := Ground.chain }], guard := none }) (v := ?_) rfl (by kernel_rfl) (by kernel_rfl) (by kernel_rfl) (fun _ _ _ h => h) (Or.inl ⟨by rfl, ?_⟩) (by assumption) ?_
      rotate_left
      · intro w hSw
        clear hSw
        go_simp
        all_goals with_reducible rfl
      simp only [Act.put, List.setIfInBounds_toArray, List.set_cons_zero, List.set_cons_succ]
      refine wpAnyH_take (i := 27) (oi := { dst := some 121, op := Op.load 27 (Operand.tmp 17), type := 27, pos := "law.go:56", after := #[{ on := 26, ground := Ground.guard }], guard := some (26, true) }) (v := .agg (encT u2.id (.slice Eo n2 Ec) u2.tag).toArray) rfl (by kernel_rfl) (by kernel_rfl) (by kernel_rfl) (fun _ _ _ h => h) (yieldsIf_load_mid (by rfl) _ _ rfl gE 0 rfl (encT u2.id (.slice Eo n2 Ec) u2.tag) _ (fun _ hSw => rangeAt_row (hSw.row RE.out (fun e => e))) Tryd.underlying27 rfl (by rw [size_t _ _ _ UO2.out.tl, List.size_toArray])) (by assumption) ?_
      simp only [Act.put, List.setIfInBounds_toArray, List.set_cons_zero, List.set_cons_succ]
      refine wpAnyH_ready (rs := [28]) (by kernel_rfl) (by simp) ?_
      refine AllReadyH.cons (o := { dst := some 122, op := Op.call { callee := Callee.value (Operand.func 17), args := #[Operand.tmp 121, Operand.const (Value.int IntKind.i64 1), Operand.const (Value.int IntKind.i64 1), Operand.const (Value.int IntKind.u64 0)], argTypes := #[27, 3, 3, 46] }, type := 4, pos := "law.go:56", after := #[{ on := 27, ground := Ground.data }, { on := 26, ground := Ground.chain }, { on := 26, ground := Ground.guard }], guard := some (26, true) }) rfl (fun K hK => ?_) AllReadyH.nil
      go_simp
      refine (holds_any u2 (.slice Eo n2 Ec) 1 1 0 Z5 UO2.out ((CRow.at CE_19.out).below (CZ5.out.below _ (Nat.le_refl _) (fun _ _ e => e)))).mono ?_
      rintro e Z6 ⟨rfl, hb2⟩
      rw [H2.out]
      have CZ6 : Hid (Chg (fun _ => False) we Z6) := CZ5.out.then hb2
      clear hb2 CZ5
      clear hHeld
      refine hK.out _ _ CZ6.out (fun hHeld => ?_)
      clear hK K
      try simp only [Act.put, List.setIfInBounds_toArray, List.set_cons_zero, List.set_cons_succ]
      refine wpAnyH_take (i := 29) (oi := { dst := some 123, op := Op.unOp UnOp.not 4 (Operand.tmp 122), type := 4, pos := "law.go:56", after := #[{ on := 28, ground := Ground.data }, { on := 26, ground := Ground.guard }], guard := some (26, true) }) (v := ?_) rfl (by kernel_rfl) (by kernel_rfl) (by kernel_rfl) (fun _ _ _ h => h) (Or.inl ⟨by rfl, ?_⟩) (by assumption) ?_
      rotate_left
      · intro w hSw
        clear hSw
        go_simp
        all_goals with_reducible rfl
      simp only [Act.put, List.setIfInBounds_toArray, List.set_cons_zero, List.set_cons_succ]
      refine wpAnyH_take (i := 30) (oi := { dst := some 124, op := Op.pick (Operand.tmp 120) (Operand.tmp 123) (Operand.const (Value.bool false)), type := 4, pos := "law.go:56", after := #[{ on := 26, ground := Ground.data }, { on := 29, ground := Ground.data }], guard := none }) (v := ?_) rfl (by kernel_rfl) (by kernel_rfl) (by kernel_rfl) (fun _ _ _ h => h) (Or.inl ⟨by rfl, ?_⟩) (by assumption) ?_
      rotate_left
      · intro w hSw
        clear hSw
        go_simp
        all_goals with_reducible rfl
      simp only [Act.put, List.setIfInBounds_toArray, List.set_cons_zero, List.set_cons_succ]
      refine wpAnyH_take (i := 31) (oi := { dst := some 125, op := Op.move (Operand.tmp 124), type := 4, pos := "law.go:56", after := #[{ on := 30, ground := Ground.data }, { on := 28, ground := Ground.chain }], guard := none }) (v := ?_) rfl (by kernel_rfl) (by kernel_rfl) (by kernel_rfl) (fun _ _ _ h => h) (Or.inl ⟨by rfl, ?_⟩) (by assumption) ?_
      rotate_left
      · intro w hSw
        clear hSw
        go_simp
        all_goals with_reducible rfl
      simp only [Act.put, List.setIfInBounds_toArray, List.set_cons_zero, List.set_cons_succ]
      refine wpAnyH_take (i := 33) (oi := { dst := some 127, op := Op.load 27 (Operand.tmp 1), type := 27, pos := "law.go:56", after := #[{ on := 31, ground := Ground.guard }], guard := some (31, true) }) (v := .agg (encT T.id (.slice none 0 0) T.tag).toArray) rfl (by kernel_rfl) (by kernel_rfl) (by kernel_rfl) (fun _ _ _ h => h) (yieldsIf_load_mid (by rfl) _ _ rfl gT 0 rfl (encT T.id (.slice none 0 0) T.tag) _ (fun _ hSw => rangeAt_row (hSw.row RT_19.out (fun e => e))) Tryd.underlying27 rfl (by rw [size_t _ _ _ HTO.out.tl, List.size_toArray])) (by assumption) ?_
      simp only [Act.put, List.setIfInBounds_toArray, List.set_cons_zero, List.set_cons_succ]
      refine wpAnyH_ready (rs := [32]) (by kernel_rfl) (by simp) ?_
      refine AllReadyH.cons (o := { dst := some 126, op := Op.call { callee := Callee.value (Operand.func 10), args := #[Operand.const (Value.int IntKind.u8 2)], argTypes := #[5] }, type := 25, pos := "law.go:56", after := #[{ on := 31, ground := Ground.chain }, { on := 31, ground := Ground.guard }], guard := some (31, true) }) rfl (fun K hK => ?_) AllReadyH.nil
      go_simp
      refine (root2.out Z6).mono ?_
      rintro e Z7 ⟨rfl, hb2⟩
      have CZ7 : Hid (Chg (fun _ => False) we Z7) := CZ6.out.then hb2
      clear hb2 CZ6
      clear hHeld
      refine hK.out _ _ CZ7.out (fun hHeld => ?_)
      clear hK K
      try simp only [Act.put, List.setIfInBounds_toArray, List.set_cons_zero, List.set_cons_succ]
      refine wpAnyH_ready (rs := [34]) (by kernel_rfl) (by simp) ?_
      refine AllReadyH.cons (o := { dst := some 128, op := Op.call { callee := Callee.value (Operand.func 18), args := #[Operand.tmp 126, Operand.const (Value.slice none 0 0), Operand.tmp 127], argTypes := #[25, 48, 27] }, type := 4, pos := "law.go:56", after := #[{ on := 32, ground := Ground.data }, { on := 33, ground := Ground.data }, { on := 32, ground := Ground.chain }, { on := 31, ground := Ground.guard }], guard := some (31, true) }) rfl (fun K hK => ?_) AllReadyH.nil
      go_simp
      refine (forged_any key [] (.slice none 0 0) T (.slice none 0 0) Z7 HKEY.out (by simp) ⟨none, 0, rfl, by simp, fun h => by simp at h⟩ HTO.out (CVT.out _) (HK.out.below (BW_19.out.trans (CZ7.out.below w.heap.size BW_19.out.size (fun k hk e => by omega))) h0)).mono ?_
      rintro e Z8 ⟨rfl, hb2⟩
      rw [XF.out]
      have CZ8 : Hid (Chg (fun _ => False) we Z8) := CZ7.out.then hb2
      clear hb2 CZ7
      clear hHeld
      refine hK.out _ _ CZ8.out (fun hHeld => ?_)
      clear hK K
      try simp only [Act.put, List.setIfInBounds_toArray, List.set_cons_zero, List.set_cons_succ]
      refine wpAnyH_take (i := 35) (oi := { dst := some 129, op := Op.pick (Operand.tmp 125) (Operand.tmp 128) (Operand.const (Value.bool false)), type := 4, pos := "law.go:56", after := #[{ on := 31, ground := Ground.data }, { on := 34, ground := Ground.data }], guard := none }) (v := ?_) rfl (by kernel_rfl) (by kernel_rfl) (by kernel_rfl) (fun _ _ _ h => h) (Or.inl ⟨by rfl, ?_⟩) (by assumption) ?_
      rotate_left
      · intro w hSw
        clear hSw
        go_simp
        all_goals with_reducible rfl
      simp only [Act.put, List.setIfInBounds_toArray, List.set_cons_zero, List.set_cons_succ]
      refine wpAnyH_take (i := 36) (oi := { dst := some 130, op := Op.move (Operand.tmp 129), type := 4, pos := "law.go:56", after := #[{ on := 35, ground := Ground.data }, { on := 34, ground := Ground.chain }], guard := none }) (v := ?_) rfl (by kernel_rfl) (by kernel_rfl) (by kernel_rfl) (fun _ _ _ h => h) (Or.inl ⟨by rfl, ?_⟩) (by assumption) ?_
      rotate_left
      · intro w hSw
        clear hSw
        go_simp
        all_goals with_reducible rfl
      simp only [Act.put, List.setIfInBounds_toArray, List.set_cons_zero, List.set_cons_succ]
      refine wpAnyH_take (i := 39) (oi := { dst := some 133, op := Op.load 27 (Operand.tmp 1), type := 27, pos := "law.go:56", after := #[{ on := 36, ground := Ground.guard }], guard := some (36, true) }) (v := .agg (encT T.id (.slice none 0 0) T.tag).toArray) rfl (by kernel_rfl) (by kernel_rfl) (by kernel_rfl) (fun _ _ _ h => h) (yieldsIf_load_mid (by rfl) _ _ rfl gT 0 rfl (encT T.id (.slice none 0 0) T.tag) _ (fun _ hSw => rangeAt_row (hSw.row RT_19.out (fun e => e))) Tryd.underlying27 rfl (by rw [size_t _ _ _ HTO.out.tl, List.size_toArray])) (by assumption) ?_
      simp only [Act.put, List.setIfInBounds_toArray, List.set_cons_zero, List.set_cons_succ]
      refine wpAnyH_ready (rs := [37, 38]) (by kernel_rfl) (by simp) ?_
      refine AllReadyH.cons (o := { dst := some 131, op := Op.call { callee := Callee.value (Operand.func 10), args := #[Operand.const (Value.int IntKind.u8 2)], argTypes := #[5] }, type := 25, pos := "law.go:56", after := #[{ on := 36, ground := Ground.chain }, { on := 36, ground := Ground.guard }], guard := some (36, true) }) rfl (fun K hK => ?_) ?_
      · skip
        go_simp
        refine (root2.out Z8).mono ?_
        rintro e Z9 ⟨rfl, hb2⟩
        have CZ9 : Hid (Chg (fun _ => False) we Z9) := CZ8.out.then hb2
        clear hb2 CZ8
        clear hHeld
        refine hK.out _ _ CZ9.out (fun hHeld => ?_)
        clear hK K
        try simp only [Act.put, List.setIfInBounds_toArray, List.set_cons_zero, List.set_cons_succ]
        refine wpAnyH_ready (rs := [38]) (by kernel_rfl) (by simp) ?_
        refine step_buildSlice_when (o := { dst := some 132, op := Op.buildSlice 48 2 #[(0, Operand.const (Value.int IntKind.u32 5)), (1, Operand.const (Value.int IntKind.u32 0))], type := 48, pos := "law.go:56", after := #[{ on := 36, ground := Ground.guard }], guard := some (36, true) }) rfl rfl 48 2 [(0, .const (.int .u32 5)), (1, .const (.int .u32 0))] rfl [(0, .int .u32 5), (1, .int .u32 0)] rfl _ _ (bs48two Z9 (.int .u32 5) (.int .u32 0) rfl rfl) AllReadyH.nil ⟨CZ9.out.alloc _, fun hHeld => ?_⟩
        clear hHeld
        simp only [Act.put, List.setIfInBounds_toArray, List.set_cons_zero, List.set_cons_succ]
        obtain ⟨gR, hgR⟩ : ∃ gg, gg = Z9.heap.size := ⟨_, rfl⟩
        rw [← hgR]
        generalize hZ : Z9.alloc _ = Z10
        have hb2 : Below Z9.heap.size Z9 Z10 := by rw [← hZ]; exact (Below.refl _ _).alloc (Nat.le_refl _) _
        have RgR : Hid (Z10.heap[gR]? = some (.cells #[.int .u32 5, .int .u32 0] 22 (0, 0))) := by rw [← hZ, hgR]; exact heap_alloc_new _ _
        have GgR := hide (show we.heap.size ≤ gR by rw [hgR]; exact CZ9.out.size)
        clear hZ hgR
        have CZ10 : Hid (Chg (fun _ => False) we Z10) := CZ9.out.then hb2
        clear hb2 CZ9
        have hHeld := CZ10.out
        refine wpAnyH_ready (rs := [40]) (by kernel_rfl) (by simp) ?_
        refine AllReadyH.cons (o := { dst := some 134, op := Op.call { callee := Callee.value (Operand.func 18), args := #[Operand.tmp 131, Operand.tmp 132, Operand.tmp 133], argTypes := #[25, 48, 27] }, type := 4, pos := "law.go:56", after := #[{ on := 37, ground := Ground.data }, { on := 38, ground := Ground.data }, { on := 39, ground := Ground.data }, { on := 37, ground := Ground.chain }, { on := 36, ground := Ground.guard }], guard := some (36, true) }) rfl (fun K hK => ?_) AllReadyH.nil
        go_simp
        refine (forged_any key [5, 0] (.slice (some ⟨gR, 0, none⟩) 2 2) T (.slice none 0 0) Z10 HKEY.out (by decide) (row_five RgR.out) HTO.out (CVT.out _) (HK.out.below (BW_19.out.trans (CZ10.out.below w.heap.size BW_19.out.size (fun k hk e => by omega))) h0)).mono ?_
        rintro e Z11 ⟨rfl, hb2⟩
        rw [YF.out]
        replace RgR : Hid (Z11.heap[gR]? = some (.cells #[.int .u32 5, .int .u32 0] 22 (0, 0))) := (hb2.block _ (block_lt_of_row RgR.out)).trans RgR.out
        have CZ11 : Hid (Chg (fun _ => False) we Z11) := CZ10.out.then hb2
        clear hb2 CZ10
        clear hHeld
        refine hK.out _ _ CZ11.out (fun hHeld => ?_)
        clear hK K
        try simp only [Act.put, List.setIfInBounds_toArray, List.set_cons_zero, List.set_cons_succ]
        refine wpAnyH_take (i := 41) (oi := { dst := some 135, op := Op.unOp UnOp.not 4 (Operand.tmp 134), type := 4, pos := "law.go:56", after := #[{ on := 40, ground := Ground.data }, { on := 36, ground := Ground.guard }], guard := some (36, true) }) (v := ?_) rfl (by kernel_rfl) (by kernel_rfl) (by kernel_rfl) (fun _ _ _ h => h) (Or.inl ⟨by rfl, ?_⟩) (by assumption) ?_
        rotate_left
        · intro w hSw
          clear hSw
          go_simp
          all_goals with_reducible rfl
        simp only [Act.put, List.setIfInBounds_toArray, List.set_cons_zero, List.set_cons_succ]
        refine wpAnyH_take (i := 42) (oi := { dst := some 136, op := Op.pick (Operand.tmp 130) (Operand.tmp 135) (Operand.const (Value.bool false)), type := 4, pos := "law.go:56", after := #[{ on := 36, ground := Ground.data }, { on := 41, ground := Ground.data }], guard := none }) (v := ?_) rfl (by kernel_rfl) (by kernel_rfl) (by kernel_rfl) (fun _ _ _ h => h) (Or.inl ⟨by rfl, ?_⟩) (by assumption) ?_
        rotate_left
        · intro w hSw
          clear hSw
          go_simp
          all_goals with_reducible rfl
        simp only [Act.put, List.setIfInBounds_toArray, List.set_cons_zero, List.set_cons_succ]
        refine wpAnyH_take (i := 43) (oi := { dst := some 137, op := Op.move (Operand.tmp 136), type := 4, pos := "law.go:56", after := #[{ on := 42, ground := Ground.data }, { on := 40, ground := Ground.chain }], guard := none }) (v := ?_) rfl (by kernel_rfl) (by kernel_rfl) (by kernel_rfl) (fun _ _ _ h => h) (Or.inl ⟨by rfl, ?_⟩) (by assumption) ?_
        rotate_left
        · intro w hSw
          clear hSw
          go_simp
          all_goals with_reducible rfl
        simp only [Act.put, List.setIfInBounds_toArray, List.set_cons_zero, List.set_cons_succ]
        refine wpAnyH_ready (rs := [44]) (by kernel_rfl) (by simp) ?_
        refine AllReadyH.cons (o := { dst := some 138, op := Op.call { callee := Callee.value (Operand.func 19), args := #[], argTypes := #[] }, type := 4, pos := "law.go:56", after := #[{ on := 43, ground := Ground.chain }, { on := 43, ground := Ground.guard }], guard := some (43, true) }) rfl (fun K hK => ?_) AllReadyH.nil
        go_simp
        refine (known_any Z11 (HK.out.below (BW_19.out.trans (CZ11.out.below w.heap.size BW_19.out.size (fun k hk e => by omega))) h0)).mono ?_
        rintro e Z12 ⟨rfl, hb2⟩
        replace RgR : Hid (Z12.heap[gR]? = some (.cells #[.int .u32 5, .int .u32 0] 22 (0, 0))) := (hb2.block _ (block_lt_of_row RgR.out)).trans RgR.out
        have CZ12 : Hid (Chg (fun _ => False) we Z12) := CZ11.out.then hb2
        clear hb2 CZ11
        clear hHeld
        refine hK.out _ _ CZ12.out (fun hHeld => ?_)
        clear hK K
        try simp only [Act.put, List.setIfInBounds_toArray, List.set_cons_zero, List.set_cons_succ]
        refine wpAnyH_take (i := 45) (oi := { dst := some 139, op := Op.pick (Operand.tmp 137) (Operand.tmp 138) (Operand.const (Value.bool false)), type := 4, pos := "law.go:56", after := #[{ on := 43, ground := Ground.data }, { on := 44, ground := Ground.data }], guard := none }) (v := ?_) rfl (by kernel_rfl) (by kernel_rfl) (by kernel_rfl) (fun _ _ _ h => h) (Or.inl ⟨by rfl, ?_⟩) (by assumption) ?_
        rotate_left
        · intro w hSw
          clear hSw
          go_simp
          all_goals with_reducible rfl
        simp only [Act.put, List.setIfInBounds_toArray, List.set_cons_zero, List.set_cons_succ]
        refine wpAnyH_take (i := 46) (oi := { dst := some 0, op := Op.assign (Operand.tmp 139), type := 4, pos := "law.go:56", after := #[{ on := 45, ground := Ground.data }, { on := 44, ground := Ground.chain }, { on := 0, ground := Ground.phase }, { on := 1, ground := Ground.phase }, { on := 2, ground := Ground.phase }, { on := 3, ground := Ground.phase }, { on := 4, ground := Ground.phase }, { on := 5, ground := Ground.phase }, { on := 6, ground := Ground.phase }, { on := 7, ground := Ground.phase }, { on := 8, ground := Ground.phase }, { on := 9, ground := Ground.phase }, { on := 10, ground := Ground.phase }, { on := 11, ground := Ground.phase }, { on := 12, ground := Ground.phase }, { on := 13, ground := Ground.phase }, { on := 14, ground := Ground.phase }, { on := 15, ground := Ground.phase }, { on := 16, ground := Ground.phase }, { on := 17, ground := Ground.phase }, { on := 18, ground := Ground.phase }, { on := 19, ground := Ground.phase }, { on := 20, ground := Ground.phase }, { on := 21, ground := Ground.phase }, { on := 22, ground := Ground.phase }, { on := 23, ground := Ground.phase }, { on := 24, ground := Ground.phase }, { on := 25, ground := Ground.phase }, { on := 26, ground := Ground.phase }, { on := 27, ground := Ground.phase }, { on := 28, ground := Ground.phase }, { on := 29, ground := Ground.phase }, { on := 30, ground := Ground.phase }, { on := 31, ground := Ground.phase }, { on := 32, ground := Ground.phase }, { on := 33, ground := Ground.phase }, { on := 34, ground := Ground.phase }, { on := 35, ground := Ground.phase }, { on := 36, ground := Ground.phase }, { on := 37, ground := Ground.phase }, { on := 38, ground := Ground.phase }, { on := 39, ground := Ground.phase }, { on := 40, ground := Ground.phase }, { on := 41, ground := Ground.phase }, { on := 42, ground := Ground.phase }, { on := 43, ground := Ground.phase }, { on := 44, ground := Ground.phase }, { on := 45, ground := Ground.phase }], guard := none }) (v := ?_) rfl (by kernel_rfl) (by kernel_rfl) (by kernel_rfl) (fun _ _ _ h => h) (Or.inl ⟨by rfl, ?_⟩) (by assumption) ?_
        rotate_left
        · intro w hSw
          clear hSw
          go_simp
          all_goals with_reducible rfl
        simp only [Act.put, List.setIfInBounds_toArray, List.set_cons_zero]
        refine wpAnyH_done (by kernel_rfl) ?_ _
        refine NoPanic.normal ?_
        clear hHeld
        have BF := hide (BW_19.out.trans (CZ12.out.below w.heap.size BW_19.out.size (fun k hk e => by omega)))
        generalize Z12 = Y at BF ⊢
        go_wp2_with fail
        go_ret
        exact ⟨rfl, BF.out⟩
      refine step_buildSlice_when (o := { dst := some 132, op := Op.buildSlice 48 2 #[(0, Operand.const (Value.int IntKind.u32 5)), (1, Operand.const (Value.int IntKind.u32 0))], type := 48, pos := "law.go:56", after := #[{ on := 36, ground := Ground.guard }], guard := some (36, true) }) rfl rfl 48 2 [(0, .const (.int .u32 5)), (1, .const (.int .u32 0))] rfl [(0, .int .u32 5), (1, .int .u32 0)] rfl _ _ (bs48two Z8 (.int .u32 5) (.int .u32 0) rfl rfl) AllReadyH.nil ⟨CZ8.out.alloc _, fun hHeld => ?_⟩
      clear hHeld
      simp only [Act.put, List.setIfInBounds_toArray, List.set_cons_zero, List.set_cons_succ]
      obtain ⟨gR, hgR⟩ : ∃ gg, gg = Z8.heap.size := ⟨_, rfl⟩
      rw [← hgR]
      generalize hZ : Z8.alloc _ = Z9
      have hb2 : Below Z8.heap.size Z8 Z9 := by rw [← hZ]; exact (Below.refl _ _).alloc (Nat.le_refl _) _
      have RgR : Hid (Z9.heap[gR]? = some (.cells #[.int .u32 5, .int .u32 0] 22 (0, 0))) := by rw [← hZ, hgR]; exact heap_alloc_new _ _
      have GgR := hide (show we.heap.size ≤ gR by rw [hgR]; exact CZ8.out.size)
      clear hZ hgR
      have CZ9 : Hid (Chg (fun _ => False) we Z9) := CZ8.out.then hb2
      clear hb2 CZ8
      have hHeld := CZ9.out
      refine wpAnyH_ready (rs := [37]) (by kernel_rfl) (by simp) ?_
      refine AllReadyH.cons (o := { dst := some 131, op := Op.call { callee := Callee.value (Operand.func 10), args := #[Operand.const (Value.int IntKind.u8 2)], argTypes := #[5] }, type := 25, pos := "law.go:56", after := #[{ on := 36, ground := Ground.chain }, { on := 36, ground := Ground.guard }], guard := some (36, true) }) rfl (fun K hK => ?_) AllReadyH.nil
      go_simp
      refine (root2.out Z9).mono ?_
      rintro e Z10 ⟨rfl, hb2⟩
      replace RgR : Hid (Z10.heap[gR]? = some (.cells #[.int .u32 5, .int .u32 0] 22 (0, 0))) := (hb2.block _ (block_lt_of_row RgR.out)).trans RgR.out
      have CZ10 : Hid (Chg (fun _ => False) we Z10) := CZ9.out.then hb2
      clear hb2 CZ9
      clear hHeld
      refine hK.out _ _ CZ10.out (fun hHeld => ?_)
      clear hK K
      try simp only [Act.put, List.setIfInBounds_toArray, List.set_cons_zero, List.set_cons_succ]
      refine wpAnyH_ready (rs := [40]) (by kernel_rfl) (by simp) ?_
      refine AllReadyH.cons (o := { dst := some 134, op := Op.call { callee := Callee.value (Operand.func 18), args := #[Operand.tmp 131, Operand.tmp 132, Operand.tmp 133], argTypes := #[25, 48, 27] }, type := 4, pos := "law.go:56", after := #[{ on := 37, ground := Ground.data }, { on := 38, ground := Ground.data }, { on := 39, ground := Ground.data }, { on := 37, ground := Ground.chain }, { on := 36, ground := Ground.guard }], guard := some (36, true) }) rfl (fun K hK => ?_) AllReadyH.nil
      go_simp
      refine (forged_any key [5, 0] (.slice (some ⟨gR, 0, none⟩) 2 2) T (.slice none 0 0) Z10 HKEY.out (by decide) (row_five RgR.out) HTO.out (CVT.out _) (HK.out.below (BW_19.out.trans (CZ10.out.below w.heap.size BW_19.out.size (fun k hk e => by omega))) h0)).mono ?_
      rintro e Z11 ⟨rfl, hb2⟩
      rw [YF.out]
      replace RgR : Hid (Z11.heap[gR]? = some (.cells #[.int .u32 5, .int .u32 0] 22 (0, 0))) := (hb2.block _ (block_lt_of_row RgR.out)).trans RgR.out
      have CZ11 : Hid (Chg (fun _ => False) we Z11) := CZ10.out.then hb2
      clear hb2 CZ10
      clear hHeld
      refine hK.out _ _ CZ11.out (fun hHeld => ?_)
      clear hK K
      try simp only [Act.put, List.setIfInBounds_toArray, List.set_cons_zero, List.set_cons_succ]
      refine wpAnyH_take (i := 41) (oi := { dst := some 135, op := Op.unOp UnOp.not 4 (Operand.tmp 134), type := 4, pos := "law.go:56", after := #[{ on := 40, ground := Ground.data }, { on := 36, ground := Ground.guard }], guard := some (36, true) }) (v := ?_) rfl (by kernel_rfl) (by kernel_rfl) (by kernel_rfl) (fun _ _ _ h => h) (Or.inl ⟨by rfl, ?_⟩) (by assumption) ?_
      rotate_left
      · intro w hSw
        clear hSw
        go_simp
        all_goals with_reducible rfl
      simp only [Act.put, List.setIfInBounds_toArray, List.set_cons_zero, List.set_cons_succ]
      refine wpAnyH_take (i := 42) (oi := { dst := some 136, op := Op.pick (Operand.tmp 130) (Operand.tmp 135) (Operand.const (Value.bool false)), type := 4, pos := "law.go:56", after := #[{ on := 36, ground := Ground.data }, { on := 41, ground := Ground.data }], guard := none }) (v := ?_) rfl (by kernel_rfl) (by kernel_rfl) (by kernel_rfl) (fun _ _ _ h => h) (Or.inl ⟨by rfl, ?_⟩) (by assumption) ?_
      rotate_left
      · intro w hSw
        clear hSw
        go_simp
        all_goals with_reducible rfl
      simp only [Act.put, List.setIfInBounds_toArray, List.set_cons_zero, List.set_cons_succ]
      refine wpAnyH_take (i := 43) (oi := { dst := some 137, op := Op.move (Operand.tmp 136), type := 4, pos := "law.go:56", after := #[{ on := 42, ground := Ground.data }, { on := 40, ground := Ground.chain }], guard := none }) (v := ?_) rfl (by kernel_rfl) (by kernel_rfl) (by kernel_rfl) (fun _ _ _ h => h) (Or.inl ⟨by rfl, ?_⟩) (by assumption) ?_
      rotate_left
      · intro w hSw
        clear hSw
        go_simp
        all_goals with_reducible rfl
      simp only [Act.put, List.setIfInBounds_toArray, List.set_cons_zero, List.set_cons_succ]
      refine wpAnyH_ready (rs := [44]) (by kernel_rfl) (by simp) ?_
      refine AllReadyH.cons (o := { dst := some 138, op := Op.call { callee := Callee.value (Operand.func 19), args := #[], argTypes := #[] }, type := 4, pos := "law.go:56", after := #[{ on := 43, ground := Ground.chain }, { on := 43, ground := Ground.guard }], guard := some (43, true) }) rfl (fun K hK => ?_) AllReadyH.nil
      go_simp
      refine (known_any Z11 (HK.out.below (BW_19.out.trans (CZ11.out.below w.heap.size BW_19.out.size (fun k hk e => by omega))) h0)).mono ?_
      rintro e Z12 ⟨rfl, hb2⟩
      replace RgR : Hid (Z12.heap[gR]? = some (.cells #[.int .u32 5, .int .u32 0] 22 (0, 0))) := (hb2.block _ (block_lt_of_row RgR.out)).trans RgR.out
      have CZ12 : Hid (Chg (fun _ => False) we Z12) := CZ11.out.then hb2
      clear hb2 CZ11
      clear hHeld
      refine hK.out _ _ CZ12.out (fun hHeld => ?_)
      clear hK K
      try simp only [Act.put, List.setIfInBounds_toArray, List.set_cons_zero, List.set_cons_succ]
      refine wpAnyH_take (i := 45) (oi := { dst := some 139, op := Op.pick (Operand.tmp 137) (Operand.tmp 138) (Operand.const (Value.bool false)), type := 4, pos := "law.go:56", after := #[{ on := 43, ground := Ground.data }, { on := 44, ground := Ground.data }], guard := none }) (v := ?_) rfl (by kernel_rfl) (by kernel_rfl) (by kernel_rfl) (fun _ _ _ h => h) (Or.inl ⟨by rfl, ?_⟩) (by assumption) ?_
      rotate_left
      · intro w hSw
        clear hSw
        go_simp
        all_goals with_reducible rfl
      simp only [Act.put, List.setIfInBounds_toArray, List.set_cons_zero, List.set_cons_succ]
      refine wpAnyH_take (i := 46) (oi := { dst := some 0, op := Op.assign (Operand.tmp 139), type := 4, pos := "law.go:56", after := #[{ on := 45, ground := Ground.data }, { on := 44, ground := Ground.chain }, { on := 0, ground := Ground.phase }, { on := 1, ground := Ground.phase }, { on := 2, ground := Ground.phase }, { on := 3, ground := Ground.phase }, { on := 4, ground := Ground.phase }, { on := 5, ground := Ground.phase }, { on := 6, ground := Ground.phase }, { on := 7, ground := Ground.phase }, { on := 8, ground := Ground.phase }, { on := 9, ground := Ground.phase }, { on := 10, ground := Ground.phase }, { on := 11, ground := Ground.phase }, { on := 12, ground := Ground.phase }, { on := 13, ground := Ground.phase }, { on := 14, ground := Ground.phase }, { on := 15, ground := Ground.phase }, { on := 16, ground := Ground.phase }, { on := 17, ground := Ground.phase }, { on := 18, ground := Ground.phase }, { on := 19, ground := Ground.phase }, { on := 20, ground := Ground.phase }, { on := 21, ground := Ground.phase }, { on := 22, ground := Ground.phase }, { on := 23, ground := Ground.phase }, { on := 24, ground := Ground.phase }, { on := 25, ground := Ground.phase }, { on := 26, ground := Ground.phase }, { on := 27, ground := Ground.phase }, { on := 28, ground := Ground.phase }, { on := 29, ground := Ground.phase }, { on := 30, ground := Ground.phase }, { on := 31, ground := Ground.phase }, { on := 32, ground := Ground.phase }, { on := 33, ground := Ground.phase }, { on := 34, ground := Ground.phase }, { on := 35, ground := Ground.phase }, { on := 36, ground := Ground.phase }, { on := 37, ground := Ground.phase }, { on := 38, ground := Ground.phase }, { on := 39, ground := Ground.phase }, { on := 40, ground := Ground.phase }, { on := 41, ground := Ground.phase }, { on := 42, ground := Ground.phase }, { on := 43, ground := Ground.phase }, { on := 44, ground := Ground.phase }, { on := 45, ground := Ground.phase }], guard := none }) (v := ?_) rfl (by kernel_rfl) (by kernel_rfl) (by kernel_rfl) (fun _ _ _ h => h) (Or.inl ⟨by rfl, ?_⟩) (by assumption) ?_
      rotate_left
      · intro w hSw
        clear hSw
        go_simp
        all_goals with_reducible rfl
      simp only [Act.put, List.setIfInBounds_toArray, List.set_cons_zero]
      refine wpAnyH_done (by kernel_rfl) ?_ _
      refine NoPanic.normal ?_
      clear hHeld
      have BF := hide (BW_19.out.trans (CZ12.out.below w.heap.size BW_19.out.size (fun k hk e => by omega)))
      generalize Z12 = Y at BF ⊢
      go_wp2_with fail
      go_ret
      exact ⟨rfl, BF.out⟩
end Go.Proofs.YtlcilclhaahopaaDoor
