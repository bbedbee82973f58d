/- Sum of the document's own answer: of a text that lies in memory it answers the plain function's digest; nothing that was there changes. -/
import Derived.Test.YtlcilclhaahopaaDoorBlock
import Derived.Test.YtlcilclhaahopaaDoorPush
import Derived.Deep.DeepCutAuto
namespace Go.Proofs.YtlcilclhaahopaaDoor
open Go.RowKit
def S.byteAt (st : List UInt32) (k : Nat) : UInt8 := match k % 4 with
  | 0 => (st.getD (k / 4) 0 >>> 24).toUInt8
  | 1 => (st.getD (k / 4) 0 >>> 16).toUInt8
  | 2 => (st.getD (k / 4) 0 >>> 8).toUInt8
  | _ => (st.getD (k / 4) 0).toUInt8
def S.digB (st : List UInt32) : Nat → List UInt8
  | 0 => S.zeros 32
  | k + 1 => (S.digB st k).set k (S.byteAt st k)
theorem S.digB_length (st : List UInt32) (k : Nat) : (S.digB st k).length = 32 := by
  induction k with
  | zero => rfl
  | succ k ih => rw [S.digB, List.length_set]; exact ih
theorem S.digB_all (st : List UInt32) (h : st.length = 8) : S.digB st 32 = S.dig st 8 := by
  match st, h with
  | [_, _, _, _, _, _, _, _], _ => rfl
set_option maxHeartbeats 8000000 in
set_option maxRecDepth 100000 in
theorem rsum_any (gT : Nat) (v : Value) (bs : List UInt8) (w : World) (hT : w.heap[gT]? = some (.cells (S.v32 (S.K ++ S.H0)) 103 (0, 0))) (hv : SliceAt w v bs) (hlen : bs.length ≤ 140737488355000) :
   Calls Tryd.prog 78 #[.pointer (some ⟨gT, 0, none⟩), v] w fun e w' => e = .returned (.agg (S.v8 (S.sum bs))) ∧ Below w.heap.size w w' := by
  obtain ⟨ao, len, cap, rfl, hl, _⟩ := hv.shape
  have HT := hide hT
  have HV := hide hv
  have HL := hide hl
  obtain ⟨z, hz⟩ : ∃ z, z = S.padZ bs.length := ⟨_, rfl⟩
  have HZ := hide hz
  have hz64 : z < 64 := by rw [hz]; unfold S.padZ; omega
  have hzm : (len + 1 + z) % 64 = 56 := by rw [hz, hl]; unfold S.padZ; omega
  clear hT hv hz
  have hlen' : len ≤ 140737488355000 := by omega
  clear hl
  go_enter Tryd.func78, Tryd.ntmps78
  go_upto_region 1 with fail
  generalize hW0 : w.alloc _ = W0
  have r0 : W0.heap[w.heap.size]? = some (.cells (S.v8 (S.zeros 32)) 25 (0, 0)) := by rw [← hW0]; exact heap_alloc_new _ _
  have hn0 : Below w.heap.size w W0 := by rw [← hW0]; exact (Below.refl _ _).alloc (Nat.le_refl _) _
  have hz0 := block_lt_of_row r0
  have HV0 := hide (HV.out.below hn0 (Nat.le_refl _))
  have R0 := hide r0
  have B0 := hide hn0
  clear hW0 r0 hn0
  obtain ⟨gR, hgR⟩ : ∃ gR, gR = w.heap.size := ⟨_, rfl⟩
  rw [← hgR] at R0 hz0 ⊢
  obtain ⟨B, hB⟩ : ∃ B, B = W0.heap.size := ⟨_, rfl⟩
  have hBle : B ≤ W0.heap.size := Nat.le_of_eq hB
  have hBs := hide hB
  have HGR := hide hgR
  rw [← hB] at hz0
  clear hB hgR
  go_wp2_with (at_builtin; first | (refine wpList_append_some rfl (.tmp 14) (.tmp 15) 30 30 rfl _ _ rfl rfl (run_push w1 B v1 bs 128 128 rfl 30 ho1 (by omega) hb1s) ?_; rintro v2 w2 ⟨ho2, hb2⟩; obtain ⟨g2, cap2, rfl⟩ := ho2.form) | (refine wpList_append_some rfl (.tmp 12) (.tmp 13) 30 30 rfl _ _ rfl rfl (run_dup W0 B _ bs 30 HV0.out (by omega) hBle) ?_; rintro v1 w1 ⟨ho1, hb1⟩; have hb1s : B ≤ w1.heap.size := Nat.le_trans hBle hb1.size))
  have O2 : Hid (Own w2 B (.slice (some ⟨g2, 0, none⟩) (bs.length + 1) cap2) (bs ++ 128 :: S.zeros 0)) := by
    have h := ho2
    rw [List.length_append, List.length_singleton] at h
    exact h
  have B2 := hide (hb1.trans hb2)
  try simp only [List.length_append, List.length_singleton]
  clear ho1 ho2 hb1 hb2 hb1s
  go_loopw [5] (fun v wr => ∃ k : Nat, k ≤ z ∧ Own wr B v (bs ++ 128 :: S.zeros k) ∧ Below B W0 wr) (fun v _ => z + len + 2 - vlen v)
  case atStart => exact ⟨0, by omega, O2.out, B2.out⟩
  case round =>
    obtain ⟨k, hk, ho, hb⟩ := hrel
    clear O2 B2
    obtain ⟨g, cp, hform⟩ := ho.form
    obtain ⟨L, hL⟩ : ∃ L, L = bs ++ 128 :: S.zeros k := ⟨_, rfl⟩
    have hLl : L.length = len + 1 + k := by rw [hL, List.length_append, List.length_cons, S.zeros_length]; have := HL.out; omega
    rw [← hL, hLl] at hform
    subst hform
    rw [← hL] at ho
    have hsz : B ≤ wr.heap.size := Nat.le_trans hBle hb.size
    obtain ⟨n1, hn1⟩ : ∃ n1, n1 = len + 1 + k := ⟨_, rfl⟩
    rw [← hn1] at ho hLl ⊢
    have q0 : ((n1 : Int)).tmod 64 = (n1 : Int) % 64 := by rw [Int.tmod_eq_emod_of_nonneg (by omega)]
    by_cases hlt : k < z
    · have q1 : ¬ ((n1 : Int) % 64 = 56) := by omega
      have hnext : L ++ [0] = bs ++ 128 :: S.zeros (k + 1) := by
        rw [hL, List.append_assoc, List.cons_append]
        simp only [S.zeros, List.replicate_succ']
      have HN := hide hnext
      have HO := hide ho
      have HB := hide hb
      have HLL := hide hLl
      have HN1 := hide hn1
      have hnb : L.length + 1 ≤ 140737488355328 := by omega
      clear hnext ho hb hL hLl hn1
      go_wp2_with (at_builtin; (refine wpList_append_some rfl (.tmp 21) (.tmp 22) 30 30 rfl _ _ rfl rfl (run_push wr B _ L 0 0 rfl 30 HO.out hnb hsz) ?_; rintro v2 w2 ⟨ho2, hb2⟩; obtain ⟨g2, cap2, rfl⟩ := ho2.form))
      have ho3 : Own w2 B (.slice (some ⟨g2, 0, none⟩) (L.length + 1) cap2) (bs ++ 128 :: S.zeros (k + 1)) := by
        rw [← HN.out]
        have h := ho2
        rw [List.length_append, List.length_singleton] at h
        exact h
      exact ⟨⟨k + 1, by omega, ho3, HB.out.trans hb2⟩, by show z + len + 2 - (L.length + 1) < z + len + 2 - n1; have := HLL.out; have := HN1.out; omega⟩
    · have q1 : (n1 : Int) % 64 = 56 := by
        obtain rfl : k = z := by omega
        omega
      have hkz : k = z := by omega
      rw [hkz] at hL
      have HLZ := hide hL
      have HO := hide ho
      have HB := hide hb
      have HLL : Hid (L.length = len + 1 + z) := by show L.length = len + 1 + z; omega
      have w8 : IntKind.u64.wrap ((len : Int) * 8) = (len : Int) * 8 := by rw [IntKind.wrap_u64]; omega
      clear hkz hL ho hb hLl hn1 hk hlt
      go_wp2
      clear q0 q1
      obtain ⟨Lz, hLz⟩ : ∃ Lz, Lz = L := ⟨_, rfl⟩
      rw [← hLz] at HO HLZ HLL
      obtain ⟨c, hc⟩ : ∃ c, c = 8 * len := ⟨_, rfl⟩
      have HCC := hide hc
      clear hLz
      go_loopw [5, 7] (fun v i wr => ∃ j : Nat, j ≤ 8 ∧ i = .int .i64 (56 - 8 * (j : Int)) ∧ Own wr B v (Lz ++ (S.be8 c).take j) ∧ Below B W0 wr) (fun _ i _ => (intOf i + 8).toNat)
      case atStart => exact ⟨0, by omega, rfl, (by rw [List.take_zero, List.append_nil]; exact HO.out), HB.out⟩
      case round =>
        obtain ⟨j, hj, rfl, ho, hb⟩ := hrel
        clear HO HB
        obtain ⟨g, cp, hform⟩ := ho.form
        obtain ⟨M, hMM⟩ : ∃ M, M = Lz ++ (S.be8 c).take j := ⟨_, rfl⟩
        rw [← hMM] at hform ho
        subst hform
        have hMl : M.length = len + 1 + z + j := by rw [hMM, List.length_append, HLL.out, List.length_take, S.be8_length]; omega
        have hsz : B ≤ wr.heap.size := Nat.le_trans hBle hb.size
        have HO := hide ho
        have HB := hide hb
        have hnb : M.length + 1 ≤ 140737488355328 := by omega
        have HML := hide hMl
        have hform := True.intro
        clear hMl
        by_cases hj8 : j < 8
        · rcases (by omega : j = 0 ∨ j = 1 ∨ j = 2 ∨ j = 3 ∨ j = 4 ∨ j = 5 ∨ j = 6 ∨ j = 7) with rfl | rfl | rfl | rfl | rfl | rfl | rfl | rfl
          · have hM : M ++ [UInt8.ofNat (c / 72057594037927936)] = Lz ++ (S.be8 c).take 1 := by rw [hMM]; simp [S.be8]
            have HM := hide hM
            clear hM hMM ho hb hform
            go_wp2_with (at_builtin; (refine wpList_append_some rfl (.tmp 32) (.tmp 38) 30 30 rfl _ _ rfl rfl (run_push wr B _ M (UInt8.ofNat (c / 72057594037927936)) _ (by rw [UInt8.toNat_ofNat']; omega) 30 HO.out hnb hsz) ?_; rintro v2 w2 ⟨ho2, hb2⟩; obtain ⟨g2, cap2, rfl⟩ := ho2.form))
            have ho3 : Own w2 B (.slice (some ⟨g2, 0, none⟩) (M.length + 1) cap2) (Lz ++ (S.be8 c).take 1) := by
              rw [← HM.out]
              have h := ho2
              rw [List.length_append, List.length_singleton] at h
              exact h
            exact ⟨⟨1, by omega, by simp, ho3, HB.out.trans hb2⟩, by simp [intOf]⟩
          · have hM : M ++ [UInt8.ofNat (c / 281474976710656)] = Lz ++ (S.be8 c).take 2 := by rw [hMM]; simp [S.be8]
            have HM := hide hM
            clear hM hMM ho hb hform
            go_wp2_with (at_builtin; (refine wpList_append_some rfl (.tmp 32) (.tmp 38) 30 30 rfl _ _ rfl rfl (run_push wr B _ M (UInt8.ofNat (c / 281474976710656)) _ (by rw [UInt8.toNat_ofNat']; omega) 30 HO.out hnb hsz) ?_; rintro v2 w2 ⟨ho2, hb2⟩; obtain ⟨g2, cap2, rfl⟩ := ho2.form))
            have ho3 : Own w2 B (.slice (some ⟨g2, 0, none⟩) (M.length + 1) cap2) (Lz ++ (S.be8 c).take 2) := by
              rw [← HM.out]
              have h := ho2
              rw [List.length_append, List.length_singleton] at h
              exact h
            exact ⟨⟨2, by omega, by simp, ho3, HB.out.trans hb2⟩, by simp [intOf]⟩
          · have hM : M ++ [UInt8.ofNat (c / 1099511627776)] = Lz ++ (S.be8 c).take 3 := by rw [hMM]; simp [S.be8]
            have HM := hide hM
            clear hM hMM ho hb hform
            go_wp2_with (at_builtin; (refine wpList_append_some rfl (.tmp 32) (.tmp 38) 30 30 rfl _ _ rfl rfl (run_push wr B _ M (UInt8.ofNat (c / 1099511627776)) _ (by rw [UInt8.toNat_ofNat']; omega) 30 HO.out hnb hsz) ?_; rintro v2 w2 ⟨ho2, hb2⟩; obtain ⟨g2, cap2, rfl⟩ := ho2.form))
            have ho3 : Own w2 B (.slice (some ⟨g2, 0, none⟩) (M.length + 1) cap2) (Lz ++ (S.be8 c).take 3) := by
              rw [← HM.out]
              have h := ho2
              rw [List.length_append, List.length_singleton] at h
              exact h
            exact ⟨⟨3, by omega, by simp, ho3, HB.out.trans hb2⟩, by simp [intOf]⟩
          · have hM : M ++ [UInt8.ofNat (c / 4294967296)] = Lz ++ (S.be8 c).take 4 := by rw [hMM]; simp [S.be8]
            have HM := hide hM
            clear hM hMM ho hb hform
            go_wp2_with (at_builtin; (refine wpList_append_some rfl (.tmp 32) (.tmp 38) 30 30 rfl _ _ rfl rfl (run_push wr B _ M (UInt8.ofNat (c / 4294967296)) _ (by rw [UInt8.toNat_ofNat']; omega) 30 HO.out hnb hsz) ?_; rintro v2 w2 ⟨ho2, hb2⟩; obtain ⟨g2, cap2, rfl⟩ := ho2.form))
            have ho3 : Own w2 B (.slice (some ⟨g2, 0, none⟩) (M.length + 1) cap2) (Lz ++ (S.be8 c).take 4) := by
              rw [← HM.out]
              have h := ho2
              rw [List.length_append, List.length_singleton] at h
              exact h
            exact ⟨⟨4, by omega, by simp, ho3, HB.out.trans hb2⟩, by simp [intOf]⟩
          · have hM : M ++ [UInt8.ofNat (c / 16777216)] = Lz ++ (S.be8 c).take 5 := by rw [hMM]; simp [S.be8]
            have HM := hide hM
            clear hM hMM ho hb hform
            go_wp2_with (at_builtin; (refine wpList_append_some rfl (.tmp 32) (.tmp 38) 30 30 rfl _ _ rfl rfl (run_push wr B _ M (UInt8.ofNat (c / 16777216)) _ (by rw [UInt8.toNat_ofNat']; omega) 30 HO.out hnb hsz) ?_; rintro v2 w2 ⟨ho2, hb2⟩; obtain ⟨g2, cap2, rfl⟩ := ho2.form))
            have ho3 : Own w2 B (.slice (some ⟨g2, 0, none⟩) (M.length + 1) cap2) (Lz ++ (S.be8 c).take 5) := by
              rw [← HM.out]
              have h := ho2
              rw [List.length_append, List.length_singleton] at h
              exact h
            exact ⟨⟨5, by omega, by simp, ho3, HB.out.trans hb2⟩, by simp [intOf]⟩
          · have hM : M ++ [UInt8.ofNat (c / 65536)] = Lz ++ (S.be8 c).take 6 := by rw [hMM]; simp [S.be8]
            have HM := hide hM
            clear hM hMM ho hb hform
            go_wp2_with (at_builtin; (refine wpList_append_some rfl (.tmp 32) (.tmp 38) 30 30 rfl _ _ rfl rfl (run_push wr B _ M (UInt8.ofNat (c / 65536)) _ (by rw [UInt8.toNat_ofNat']; omega) 30 HO.out hnb hsz) ?_; rintro v2 w2 ⟨ho2, hb2⟩; obtain ⟨g2, cap2, rfl⟩ := ho2.form))
            have ho3 : Own w2 B (.slice (some ⟨g2, 0, none⟩) (M.length + 1) cap2) (Lz ++ (S.be8 c).take 6) := by
              rw [← HM.out]
              have h := ho2
              rw [List.length_append, List.length_singleton] at h
              exact h
            exact ⟨⟨6, by omega, by simp, ho3, HB.out.trans hb2⟩, by simp [intOf]⟩
          · have hM : M ++ [UInt8.ofNat (c / 256)] = Lz ++ (S.be8 c).take 7 := by rw [hMM]; simp [S.be8]
            have HM := hide hM
            clear hM hMM ho hb hform
            go_wp2_with (at_builtin; (refine wpList_append_some rfl (.tmp 32) (.tmp 38) 30 30 rfl _ _ rfl rfl (run_push wr B _ M (UInt8.ofNat (c / 256)) _ (by rw [UInt8.toNat_ofNat']; omega) 30 HO.out hnb hsz) ?_; rintro v2 w2 ⟨ho2, hb2⟩; obtain ⟨g2, cap2, rfl⟩ := ho2.form))
            have ho3 : Own w2 B (.slice (some ⟨g2, 0, none⟩) (M.length + 1) cap2) (Lz ++ (S.be8 c).take 7) := by
              rw [← HM.out]
              have h := ho2
              rw [List.length_append, List.length_singleton] at h
              exact h
            exact ⟨⟨7, by omega, by simp, ho3, HB.out.trans hb2⟩, by simp [intOf]⟩
          · have hM : M ++ [UInt8.ofNat (c / 1)] = Lz ++ (S.be8 c).take 8 := by rw [hMM]; simp [S.be8]
            have HM := hide hM
            clear hM hMM ho hb hform
            go_wp2_with (at_builtin; (refine wpList_append_some rfl (.tmp 32) (.tmp 38) 30 30 rfl _ _ rfl rfl (run_push wr B _ M (UInt8.ofNat (c / 1)) _ (by rw [UInt8.toNat_ofNat']; omega) 30 HO.out hnb hsz) ?_; rintro v2 w2 ⟨ho2, hb2⟩; obtain ⟨g2, cap2, rfl⟩ := ho2.form))
            have ho3 : Own w2 B (.slice (some ⟨g2, 0, none⟩) (M.length + 1) cap2) (Lz ++ (S.be8 c).take 8) := by
              rw [← HM.out]
              have h := ho2
              rw [List.length_append, List.length_singleton] at h
              exact h
            exact ⟨⟨8, by omega, by simp, ho3, HB.out.trans hb2⟩, by simp [intOf]⟩
        · obtain rfl : j = 8 := by omega
          have hpad : M = S.pad bs := by
            rw [hMM, HLZ.out, HCC.out, HL.out]
            simp [S.pad, S.be8, HZ.out]
          rw [hpad] at HO HML ⊢
          have hq : ¬ ((0 : Int) ≤ 56 - 8 * ((8 : Nat) : Int)) := by omega
          have RT := hide ((HB.out.block gT (by have := block_lt_of_row HT.out; have := B0.out.size; have := hBs.out; omega)).trans ((B0.out.block gT (block_lt_of_row HT.out)).trans HT.out))
          clear hMM hpad ho hb hform hnb
          generalize (56 - 8 * ((8 : Nat) : Int)) = i7 at *
          obtain ⟨N, hN⟩ : ∃ N, N = (S.pad bs).length := ⟨_, rfl⟩
          rw [← hN] at HML ⊢
          have hNm : N % 64 = 0 := by rw [hN, S.pad_length]; omega
          have HNN := hide hN
          have hNb : N ≤ 140737488355200 := by have := HML.out; omega
          have RNG : Hid (wr.rangeAt gT 64 (S.v32 S.H0).toList) := fun j u hu => by
            have hj : j < 8 := by have := (List.getElem?_eq_some_iff.1 hu).1; simpa [S.v32, S.H0] using this
            rw [v32_cell RT.out (64 + j) (by rw [List.length_append]; show 64 + j < 64 + 8; omega)]
            have e : (S.K ++ S.H0).getD (64 + j) 0 = S.H0.getD j 0 := by
              rw [List.getD_eq_getElem?_getD, List.getD_eq_getElem?_getD, List.getElem?_append_right (by show 64 ≤ 64 + j; omega)]
              congr 2
              show 64 + j - 64 = j
              omega
            rw [e]
            rw [← hu]
            simp [S.v32, List.getElem?_map, List.getD_eq_getElem?_getD, List.getElem?_eq_getElem (show j < S.H0.length from hj)]
          have hs49 : (Tryd.prog.info? 101).map (·.size) = some (S.v32 S.H0).toList.length := by rw [Array.length_toList, S.v32_size]; exact size49
          have hs49' : (Tryd.prog.info? 101).map (·.size) = some (S.v32 S.H0).size := by rw [S.v32_size]; exact size49
          have ho49 : (S.v32 (List.replicate 8 0)).size = (S.v32 S.H0).size := by rw [S.v32_size, S.v32_size]; rfl
          have J4 := hide hs49
          have J4' := hide hs49'
          have J5 := hide ho49
          clear hN hs49 hs49' ho49
          go_wp2_with (first | refine wpList_load_mid rfl 101 _ rfl gT 64 rfl (S.v32 S.H0).toList _ RNG.out Tryd.underlying101 rfl J4.out ?_ | refine wpList_store_row rfl 101 _ _ rfl wr.heap.size (S.v32 S.H0) rfl rfl 101 (S.v32 (List.replicate 8 0)) (heap_alloc_new _ _) J4'.out J5.out (S.v32_one _) ?_)
          try simp only [Act.put]
          generalize hWS : World.setRow _ wr.heap.size (S.v32 S.H0) = WS
          have rS : WS.heap[wr.heap.size]? = some (.cells (S.v32 S.H0) 101 (0, 0)) := by rw [← hWS]; exact setRow_heap _ _ _ _ _ _ (heap_alloc_new _ _)
          have oth : ∀ b, b < wr.heap.size → WS.heap[b]? = wr.heap[b]? := fun b hb => by rw [← hWS]; exact (setRow_other _ _ _ _ (by omega)).trans (heap_alloc_old _ _ hb)
          have hbS : Below wr.heap.size wr WS := by rw [← hWS]; exact below_setRow ((Below.refl _ _).alloc (Nat.le_refl _) _) (Nat.le_refl _) _
          obtain ⟨hNcp, hg, hcell⟩ : N ≤ cp ∧ g < wr.heap.size ∧ ∀ j, j < N → WS.cell? ⟨g, j, none⟩ = some (.int .u8 (((S.pad bs).getD j 0).toNat : Int)) := by
            have h := HO.out.sliceAt (by rw [← HNN.out]; omega)
            rcases h with ⟨h, _⟩ | ⟨a, c', h, _, h2⟩ | ⟨b, off, c', h, h1, _, h3, h4⟩
            · simp at h
            · have := HML.out; rw [h2] at HNN; have := HNN.out; simp at this; omega
            · simp only [Value.slice.injEq, Option.some.injEq, Addr.mk.injEq, and_true, true_and] at h
              obtain ⟨⟨rfl, rfl⟩, rfl⟩ := h
              refine ⟨by rw [HNN.out]; exact h1, h3, fun j hj => ?_⟩
              have := h4 j (by rw [← HNN.out]; exact hj)
              rw [Nat.zero_add] at this
              exact (World.cell?_of_block (w := wr) (oth g h3)).trans this
          have RTS := hide ((oth gT (block_lt_of_row RT.out)).trans RT.out)
          have RRS : Hid (WS.heap[gR]? = some (.cells (S.v8 (S.zeros 32)) 25 (0, 0))) := (oth gR (by omega)).trans ((HB.out.block gR hz0).trans R0.out)
          have BWS : Hid (Below w.heap.size w WS) := (B0.out.trans (HB.out.mono (by have := B0.out.size; have := hBs.out; omega))).trans (hbS.mono (Nat.le_trans B0.out.size (Nat.le_trans (Nat.le_of_eq hBs.out.symm) hsz)))
          have CEL := hide hcell
          have RS := hide rS
          have hgT : gT < wr.heap.size := block_lt_of_row RT.out
          have hgRs : gR < wr.heap.size := by omega
          have hws : w.heap.size ≤ wr.heap.size := Nat.le_trans B0.out.size (Nat.le_trans (Nat.le_of_eq hBs.out.symm) hsz)
          clear hWS rS oth hbS hcell RNG J4 J4' J5 RT HO HB hq
          generalize wr.heap.size = gS at *
          go_loopw [9] (fun i wr => ∃ k : Nat, 64 * k ≤ N ∧ i = .int .i64 ((64 * k : Nat) : Int) ∧ wr.heap[gS]? = some (.cells (S.v32 (S.blocks S.H0 (S.pad bs) k)) 101 (0, 0)) ∧ Below gS WS wr) (fun i _ => N - (intOf i).toNat)
          case atStart => exact ⟨0, by omega, rfl, RS.out, Below.refl _ _⟩
          case round =>
            obtain ⟨k, hk, rfl, hrow, hbl⟩ := hrel
            clear RS
            obtain ⟨p, hp⟩ : ∃ p, p = 64 * k := ⟨_, rfl⟩
            rw [← hp] at hk ⊢
            have HP := hide hp
            have hl8 := S.blocks_length S.H0 (S.pad bs) rfl k
            have hz2 : gS < wr.heap.size := block_lt_of_row hrow
            by_cases hlt : p < N
            · have p0 : p + 64 ≤ N := by omega
              have q1 : (0 : Int) ≤ (p : Int) := by omega
              have q2 : (p : Int) < (N : Int) := by omega
              have q3 : (p : Int) + 64 ≤ (cp : Int) := by omega
              have q4 : (p : Int) ≤ (cp : Int) := by omega
              have q5 : IntKind.i64.wrap ((p : Int) + 64) = (p : Int) + 64 := by rw [IntKind.wrap_i64]; omega
              have q6 : (0 : Int) ≤ (p : Int) + 64 := by omega
              have q7 : ((p : Int) + 64).toNat = p + 64 := by omega
              have q8 : p + 64 ≤ cp := by omega
              have q9 : (p : Int) ≤ (p : Int) + 64 := by omega
              have qa : ¬ cp = p := by omega
              have hsb : (Tryd.prog.info? 101).map (·.size) = some (S.v32 (S.blocks S.H0 (S.pad bs) k)).size := by rw [S.v32_size, hl8]; exact size49
              have K0 := hide hrow
              have K1 := hide hbl
              have K2 := hide hsb
              have K3 := hide hl8
              clear hrow hbl hsb hl8 hp
              go_wp2
              refine region_tail 7 (by kernel_rfl) ?_
              simp only [List.take_succ_cons, List.take_zero, List.drop_succ_cons, List.drop_zero]
              still_step
              refine wpStill_load_row rfl 101 _ rfl gS rfl 101 _ _ _ (show wr.drew.heap[gS]? = _ from K0.out) Tryd.underlying101 rfl K2.out ?_
              simp only [Act.put, List.setIfInBounds_toArray, List.set_cons_succ, List.set_cons_zero]
              repeat still_step
              refine wpStill_nil ?_
              go_wp2_with fail
              refine (block_any gT (S.blocks S.H0 (S.pad bs) k) K3.out g p (cp - p) ((S.pad bs).drop p) wr.drew ((K1.out.block gT hgT).trans RTS.out) (Nat.lt_trans hg hz2)
                (fun j hj => by
                  have e1 : wr.cell? ⟨g, p + j, none⟩ = some (.int .u8 (((S.pad bs).getD (p + j) 0).toNat : Int)) := (K1.out.cell (p := ⟨g, p + j, none⟩) (by exact hg)).trans (CEL.out (p + j) (by omega))
                  rw [show ((S.pad bs).drop p).getD j 0 = (S.pad bs).getD (p + j) 0 from by simp [List.getD_eq_getElem?_getD]]
                  exact e1)).mono ?_
              rintro e0 w5 ⟨rfl, hb5⟩
              have a0 := hide ((hb5.block gS (by exact hz2)).trans (show wr.drew.heap[gS]? = _ from K0.out))
              have bl5 := hide (K1.out.drew.trans (hb5.mono (Nat.le_of_lt hz2)))
              have hbk : S.comp (S.blocks S.H0 (S.pad bs) k) ((S.pad bs).drop p) = S.blocks S.H0 (S.pad bs) (k + 1) := by rw [HP.out]; rfl
              rw [hbk]
              have hs1 : (Tryd.prog.info? 101).map (·.size) = some (S.v32 (S.blocks S.H0 (S.pad bs) (k + 1))).size := by rw [S.v32_size, S.blocks_length _ _ rfl]; exact size49
              have hs2 : (S.v32 (S.blocks S.H0 (S.pad bs) k)).size = (S.v32 (S.blocks S.H0 (S.pad bs) (k + 1))).size := by rw [S.v32_size, S.v32_size, S.blocks_length _ _ rfl, S.blocks_length _ _ rfl]
              have K4 := hide hs1
              have K5 := hide hs2
              clear hb5 hbk hs1 hs2
              go_wp2_with (refine wpList_store_row rfl 101 _ _ rfl gS (S.v32 (S.blocks S.H0 (S.pad bs) (k + 1))) rfl rfl 101 _ a0.out K4.out K5.out (S.v32_one _) ?_)
              go_roundw
              case rel => exact ⟨k + 1, by have := HP.out; omega, by rw [show ((64 * (k + 1) : Nat) : Int) = (p : Int) + 64 by have := HP.out; omega], setRow_heap _ _ _ _ _ _ a0.out, below_setRow bl5.out (Nat.le_refl _) _⟩
              case measure => simp [intOf]; omega
            · have hpN : p = N := by omega
              have q2 : ¬ ((p : Int) < (N : Int)) := by omega
              have hkN : k = (S.pad bs).length / 64 := by have := HP.out; have := HNN.out; omega
              rw [hkN] at hrow
              obtain ⟨hh, hhh⟩ : ∃ hh, hh = S.blocks S.H0 (S.pad bs) ((S.pad bs).length / 64) := ⟨_, rfl⟩
              rw [← hhh] at hrow
              have hh8 : hh.length = 8 := by rw [hhh]; exact S.blocks_length _ _ rfl _
              have HHH := hide hhh
              have K0 := hide hrow
              have K1 := hide hbl
              clear hrow hbl hl8 hkN hpN hhh hp
              go_upto_region 15 with fail
              generalize hW4 : wr.alloc _ = W4
              have rD : W4.heap[wr.heap.size]? = some (.cells (S.v8 (S.digB hh 0)) 25 (0, 0)) := by rw [← hW4]; exact heap_alloc_new _ _
              have oth : ∀ b, b < wr.heap.size → W4.heap[b]? = wr.heap[b]? := fun b hb => by rw [← hW4]; exact heap_alloc_old _ _ hb
              have hb4 : Below wr.heap.size wr W4 := by rw [← hW4]; exact (Below.refl _ _).alloc (Nat.le_refl _) _
              have rS4 := hide ((oth gS hz2).trans K0.out)
              have rR4 := hide ((oth gR (Nat.lt_trans hgRs hz2)).trans ((K1.out.block gR hgRs).trans RRS.out))
              have RD := hide rD
              have BL4 : Hid (Below w.heap.size w W4) := (BWS.out.trans (K1.out.mono hws)).trans (hb4.mono (by omega))
              clear hW4 rD oth hb4 K0 K1
              generalize wr.heap.size = gD at *
              have hwd : w.heap.size ≤ gD := by omega
              go_wp2
              go_loopw [11] (fun i wr => ∃ k : Nat, k ≤ 32 ∧ i = .int .i64 (k : Int) ∧ wr.heap[gD]? = some (.cells (S.v8 (S.digB hh k)) 25 (0, 0)) ∧ wr.heap[gS]? = some (.cells (S.v32 hh) 101 (0, 0)) ∧ Below gD W4 wr) (fun i _ => 32 - (intOf i).toNat)
              case atStart => exact ⟨0, by omega, rfl, RD.out, rS4.out, Below.refl _ _⟩
              case round =>
                obtain ⟨k, hk, rfl, hD, hS, hbl⟩ := hrel
                clear RD rS4
                have hdl := S.digB_length hh k
                by_cases hlt : k < 32
                · have cD := v8_cell hD k (by omega)
                  have fD := frozen_of_row _ _ k _ _ hD
                  obtain ⟨q, hq⟩ : ∃ q, q = k / 4 := ⟨_, rfl⟩
                  have cS := v32_cell hS q (by omega)
                  obtain ⟨x, hx⟩ : ∃ x, x = hh.getD q 0 := ⟨_, rfl⟩
                  rw [← hx] at cS
                  rw [hq] at hx
                  have q1 : (0 : Int) ≤ (k : Int) := by omega
                  have q2' : (k : Int) < 32 := by omega
                  have q3 : ((k : Int)).tdiv 4 = (q : Int) := by rw [Int.tdiv_eq_ediv_of_nonneg q1]; omega
                  have q3' : (k : Int) / 4 = (q : Int) := by omega
                  have q4 : IntKind.i64.wrap ((k : Int) + 1) = (k : Int) + 1 := by rw [IntKind.wrap_i64]; omega
                  have q5 : (0 : Int) ≤ (q : Int) := by omega
                  have q6 : (q : Int) < 8 := by omega
                  have q7 : IntKind.i64.wrap (q : Int) = (q : Int) := by rw [IntKind.wrap_i64]; omega
                  clear hq
                  rcases (by omega : k % 4 = 0 ∨ k % 4 = 1 ∨ k % 4 = 2 ∨ k % 4 = 3) with hr | hr | hr | hr
                  · have hby : S.byteAt hh k = (x >>> 24).toUInt8 := by rw [S.byteAt, hr, ← hx]; rfl
                    have qm : ((k : Int)).tmod 4 = 0 := by rw [Int.tmod_eq_emod_of_nonneg q1]; omega
                    have qm' : (k : Int) % 4 = 0 := by omega
                    have V := hide (v8_set hD k (x >>> 24).toUInt8)
                    have V2 := hide ((heap_setCell_other wr ⟨gD, k, none⟩ gS (.int .u8 (((x >>> 24).toUInt8).toNat : Int)) (by show gS ≠ gD; omega)).trans hS)
                    have V3 := hide (hbl.setCell (p := ⟨gD, k, none⟩) (Nat.le_refl _) (.int .u8 (((x >>> 24).toUInt8).toNat : Int)))
                    have V5 : Hid (S.digB hh (k + 1) = (S.digB hh k).set k ((x >>> 24).toUInt8)) := by show (S.digB hh k).set k (S.byteAt hh k) = _; rw [hby]
                    clear hby hx hD hS hbl hr hdl
                    go_wp2
                    go_roundw
                    case rel =>
                      rw [shr_24, u8_cast]
                      exact ⟨k + 1, by omega, by go_num, (by rw [V5.out]; exact V.out), V2.out, V3.out⟩
                    case measure => simp [intOf]; omega
                  · have hby : S.byteAt hh k = (x >>> 16).toUInt8 := by rw [S.byteAt, hr, ← hx]; rfl
                    have qm : ((k : Int)).tmod 4 = 1 := by rw [Int.tmod_eq_emod_of_nonneg q1]; omega
                    have qm' : (k : Int) % 4 = 1 := by omega
                    have V := hide (v8_set hD k (x >>> 16).toUInt8)
                    have V2 := hide ((heap_setCell_other wr ⟨gD, k, none⟩ gS (.int .u8 (((x >>> 16).toUInt8).toNat : Int)) (by show gS ≠ gD; omega)).trans hS)
                    have V3 := hide (hbl.setCell (p := ⟨gD, k, none⟩) (Nat.le_refl _) (.int .u8 (((x >>> 16).toUInt8).toNat : Int)))
                    have V5 : Hid (S.digB hh (k + 1) = (S.digB hh k).set k ((x >>> 16).toUInt8)) := by show (S.digB hh k).set k (S.byteAt hh k) = _; rw [hby]
                    clear hby hx hD hS hbl hr hdl
                    go_wp2
                    go_roundw
                    case rel =>
                      rw [shr_16, u8_cast]
                      exact ⟨k + 1, by omega, by go_num, (by rw [V5.out]; exact V.out), V2.out, V3.out⟩
                    case measure => simp [intOf]; omega
                  · have hby : S.byteAt hh k = (x >>> 8).toUInt8 := by rw [S.byteAt, hr, ← hx]; rfl
                    have qm : ((k : Int)).tmod 4 = 2 := by rw [Int.tmod_eq_emod_of_nonneg q1]; omega
                    have qm' : (k : Int) % 4 = 2 := by omega
                    have V := hide (v8_set hD k (x >>> 8).toUInt8)
                    have V2 := hide ((heap_setCell_other wr ⟨gD, k, none⟩ gS (.int .u8 (((x >>> 8).toUInt8).toNat : Int)) (by show gS ≠ gD; omega)).trans hS)
                    have V3 := hide (hbl.setCell (p := ⟨gD, k, none⟩) (Nat.le_refl _) (.int .u8 (((x >>> 8).toUInt8).toNat : Int)))
                    have V5 : Hid (S.digB hh (k + 1) = (S.digB hh k).set k ((x >>> 8).toUInt8)) := by show (S.digB hh k).set k (S.byteAt hh k) = _; rw [hby]
                    clear hby hx hD hS hbl hr hdl
                    go_wp2
                    go_roundw
                    case rel =>
                      rw [shr_8, u8_cast]
                      exact ⟨k + 1, by omega, by go_num, (by rw [V5.out]; exact V.out), V2.out, V3.out⟩
                    case measure => simp [intOf]; omega
                  · have hby : S.byteAt hh k = x.toUInt8 := by rw [S.byteAt, hr, ← hx]; rfl
                    have qm : ((k : Int)).tmod 4 = 3 := by rw [Int.tmod_eq_emod_of_nonneg q1]; omega
                    have qm' : (k : Int) % 4 = 3 := by omega
                    have V := hide (v8_set hD k x.toUInt8)
                    have V2 := hide ((heap_setCell_other wr ⟨gD, k, none⟩ gS (.int .u8 ((x.toUInt8).toNat : Int)) (by show gS ≠ gD; omega)).trans hS)
                    have V3 := hide (hbl.setCell (p := ⟨gD, k, none⟩) (Nat.le_refl _) (.int .u8 ((x.toUInt8).toNat : Int)))
                    have V5 : Hid (S.digB hh (k + 1) = (S.digB hh k).set k (x.toUInt8)) := by show (S.digB hh k).set k (S.byteAt hh k) = _; rw [hby]
                    clear hby hx hD hS hbl hr hdl
                    go_wp2
                    go_roundw
                    case rel =>
                      rw [u8_cast]
                      exact ⟨k + 1, by omega, by go_num, (by rw [V5.out]; exact V.out), V2.out, V3.out⟩
                    case measure => simp [intOf]; omega
                · obtain rfl : k = 32 := by omega
                  have hdig : S.digB hh 32 = S.sum bs := by rw [S.sum_pad, ← HHH.out]; exact S.digB_all hh hh8
                  have hsz : (Tryd.prog.info? 25).map (·.size) = some (S.v8 (S.digB hh 32)).size := by rw [S.v8_size, hdl]; exact size23
                  have hoz : (S.v8 (S.zeros 32)).size = (S.v8 (S.digB hh 32)).size := by rw [S.v8_size, S.v8_size, hdl]; rfl
                  have hrR := (hbl.block gR (by omega)).trans rR4.out
                  have hfin := BL4.out.trans (hbl.mono hwd)
                  have HRR := hide hrR
                  have HFI := hide hfin
                  have HSZ := hide hsz
                  have HOZ := hide hoz
                  have HDD := hide hD
                  have HDG := hide hdig
                  have hgw : w.heap.size ≤ gR := Nat.le_of_eq HGR.out.symm
                  clear hD hS hbl hsz hoz hrR hfin hdig rR4 BL4
                  go_wp2_with (first | refine wpList_load_row rfl 25 _ rfl gD rfl 25 _ _ _ HDD.out Tryd.underlying25 rfl HSZ.out ?_ | refine wpList_store_row rfl 25 _ _ rfl gR (S.v8 (S.digB hh 32)) rfl rfl 25 _ HRR.out HSZ.out HOZ.out (S.v8_one _) ?_)
                  refine bodyPost_ret (v := .agg (S.v8 (S.digB hh 32))) (results_cell_row (g := gR) (t := 25) (fr := (0, 0)) Tryd.results78 _ _ _ _ rfl (setRow_heap _ _ _ _ _ _ HRR.out) Tryd.underlying25 rfl HSZ.out) rfl ⟨by rw [HDG.out], below_setRow HFI.out hgw _⟩
end Go.Proofs.YtlcilclhaahopaaDoor
