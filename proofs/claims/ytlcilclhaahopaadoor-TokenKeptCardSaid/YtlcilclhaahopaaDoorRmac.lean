/- Mac of the document's own answer: of a key and a text that lie in memory it answers the plain function's tag; nothing that was there changes. -/
import Derived.Test.YtlcilclhaahopaaDoorRsum
import Derived.Test.YtlcilclhaahopaaDoorRmacq
import Derived.Deep.DeepCutAuto
namespace Go.Proofs.YtlcilclhaahopaaDoor
open Go.RowKit
def S.short (ks : List UInt8) : List UInt8 := if 64 < ks.length then S.sum ks else ks
theorem S.short_le (ks : List UInt8) : (S.short ks).length ≤ 64 := by
  unfold S.short
  split
  · rw [S.sum_length]; omega
  · omega
theorem S.keyb_short (ks : List UInt8) : S.keyb ks = S.short ks ++ S.zeros (64 - (S.short ks).length) := by
  unfold S.keyb S.short
  split
  · rw [splice_front]
  · rw [splice_front]
set_option maxHeartbeats 8000000 in
set_option maxRecDepth 100000 in
theorem rmac_any (gT : Nat) (v : Value) (ks : List UInt8) (u : Value) (bs : List UInt8) (w : World) (hT : w.heap[gT]? = some (.cells (S.v32 (S.K ++ S.H0)) 103 (0, 0))) (hv : SliceAt w v ks) (hu : SliceAt w u bs) (hlk : ks.length ≤ 140737488355000) (hlb : bs.length ≤ 5000) :
   Calls Tryd.prog 55 #[.pointer (some ⟨gT, 0, none⟩), v, u] w fun e w' => e = .returned (.agg (S.v8 (S.mac ks bs))) ∧ Below w.heap.size w w' := by
  have HT := hide hT
  have HV := hide hv
  have HU := hide hu
  clear hT hv hu
  go_enter Tryd.func55, Tryd.ntmps55
  go_upto_region 1 with fail
  generalize hW0 : w.alloc _ = W0
  have r0 : W0.heap[w.heap.size]? = some (.cells (S.v8 (S.zeros 32)) 25 (0, 0)) := by rw [← hW0]; exact heap_alloc_new _ _
  have hn0 : Below w.heap.size w W0 := by rw [← hW0]; exact (Below.refl _ _).alloc (Nat.le_refl _) _
  have hz0 := block_lt_of_row r0
  have HV0 := hide (HV.out.below hn0 (Nat.le_refl _))
  have HU0 := hide (HU.out.below hn0 (Nat.le_refl _))
  have HT0 := hide ((hn0.block gT (block_lt_of_row HT.out)).trans HT.out)
  have R0 := hide r0
  have B0 := hide hn0
  have HTL := block_lt_of_row HT0.out
  clear hW0 r0 hn0
  obtain ⟨gR, hgR⟩ : ∃ gR, gR = w.heap.size := ⟨_, rfl⟩
  rw [← hgR] at R0 hz0 ⊢
  obtain ⟨B, hB⟩ : ∃ B, B = W0.heap.size := ⟨_, rfl⟩
  have hBle : B ≤ W0.heap.size := Nat.le_of_eq hB
  have hBs := hide hB
  have HGR := hide hgR
  rw [← hB] at hz0 HTL
  clear hB hgR
  go_upto_if 18 with (at_builtin; (refine wpList_append_some rfl (.tmp 13) (.tmp 14) 30 30 rfl _ _ rfl rfl (run_dup W0 B _ ks 30 HV0.out (by omega) hBle) ?_; rintro v1 w1 ⟨ho1, hb1⟩; obtain ⟨g1, cap1, rfl⟩ := ho1.form))
  have O1 := hide ho1
  have B1 := hide hb1
  clear ho1 hb1
  go_cut [7] from 16 (fun vk wc => Own wc B vk (S.short ks) ∧ Below B W0 wc)
  case first =>
    by_cases h64 : 64 < ks.length
    · have q1 : (64 : Int) < (ks.length : Int) := by omega
      go_wp2_with fail
      refine (rsum_any gT _ ks w1 ((B1.out.block gT HTL).trans HT0.out) (O1.out.sliceAt (by omega)) (by omega)).mono ?_
      rintro e0 w2 ⟨rfl, hb2⟩
      have hb12 := B1.out.trans (hb2.mono (Nat.le_trans hBle B1.out.size))
      have hshort : S.short ks = S.sum ks := by unfold S.short; rw [if_pos h64]
      obtain ⟨D, hD⟩ : ∃ D, D = S.sum ks := ⟨_, rfl⟩
      have hD32 : D.length = 32 := by rw [hD]; exact S.sum_length _
      rw [← hD] at hshort ⊢
      have hs : (Tryd.prog.info? 25).map (·.size) = some (S.v8 D).size := by rw [S.v8_size, hD32]; exact size23
      have ho : (S.v8 (S.zeros 32)).size = (S.v8 D).size := by rw [S.v8_size, S.v8_size, hD32]; rfl
      have A1 := hide hs
      have A2 := hide ho
      have A3 := hide hshort
      have A4 := hide hD32
      have B2 := hide hb12
      clear hs ho hshort hD hD32 hb2 hb12
      go_upto_region 4 with (first | refine wpList_store_row rfl 25 _ _ rfl w2.heap.size (S.v8 D) rfl rfl 25 (S.v8 (S.zeros 32)) (heap_alloc_new _ _) A1.out A2.out (S.v8_one _) ?_ | fail)
      generalize hW3 : World.setRow _ w2.heap.size (S.v8 D) = W3
      have r3 : W3.heap[w2.heap.size]? = some (.cells (S.v8 D) 25 (0, 0)) := by rw [← hW3]; exact setRow_heap _ _ _ _ _ _ (heap_alloc_new _ _)
      have hsz2 : B ≤ w2.heap.size := Nat.le_trans hBle B2.out.size
      have hb3 : Below B W0 W3 := by rw [← hW3]; exact below_setRow (B2.out.alloc hsz2 _) hsz2 _
      have hsz3 : B ≤ W3.heap.size := Nat.le_trans hBle hb3.size
      have SD : Hid (SliceAt W3 (.slice (some ⟨w2.heap.size, 0, none⟩) 32 32) D) := Or.inr (Or.inr ⟨w2.heap.size, 0, 32, by rw [A4.out], by rw [A4.out]; omega, by rw [A4.out]; omega, block_lt_of_row r3, fun j hj => by rw [Nat.zero_add]; exact v8_cell r3 j hj⟩)
      have B3 := hide hb3
      clear hW3 r3 hb3
      generalize w2.heap.size = gd at *
      go_wp2_with (at_builtin; (refine wpList_append_some rfl (.tmp 22) (.tmp 23) 30 30 rfl _ _ rfl rfl (run_dup W3 B _ D 30 SD.out (by rw [A4.out]; omega) hsz3) ?_; rintro v4 w4 ⟨ho4, hb4⟩))
      go_meet
      rw [A3.out]
      exact ⟨ho4, B3.out.trans hb4⟩
    · have q1 : ¬ ((64 : Int) < (ks.length : Int)) := by omega
      have hshort : S.short ks = ks := by unfold S.short; rw [if_neg h64]
      go_wp2_with fail
      go_meet
      rw [hshort]
      exact ⟨O1.out, B1.out⟩
  case rest =>
    obtain ⟨hok, hbk⟩ := hcut
    have hsl := S.short_le ks
    have HKB := hide (S.keyb_short ks)
    obtain ⟨K0, hK0⟩ : ∃ K0, K0 = S.short ks := ⟨_, rfl⟩
    rw [← hK0] at hok hsl HKB
    have OK := hide hok
    have BK := hide hbk
    clear hok hbk hK0 O1 B1
    obtain ⟨n0, hn0⟩ : ∃ n0, n0 = K0.length := ⟨_, rfl⟩
    have HN0 := hide hn0
    rw [← hn0] at hsl HKB
    clear hn0
    go_wp2
    go_loopw [7] (fun v wr => ∃ k : Nat, n0 + k ≤ 64 ∧ Own wr B v (K0 ++ S.zeros k) ∧ Below B W0 wr) (fun v _ => 65 - vlen v)
    case atStart => exact ⟨0, by omega, (by rw [show S.zeros 0 = [] from rfl, List.append_nil]; exact OK.out), BK.out⟩
    case round =>
      obtain ⟨k, hk, ho, hb⟩ := hrel
      clear OK BK
      obtain ⟨g, cp, hform⟩ := ho.form
      obtain ⟨L, hL⟩ : ∃ L, L = K0 ++ S.zeros k := ⟨_, rfl⟩
      have hLl : L.length = n0 + k := by rw [hL, List.length_append, S.zeros_length, HN0.out]
      rw [← hL, hLl] at hform
      subst hform
      rw [← hL] at ho
      have hsz : B ≤ wr.heap.size := Nat.le_trans hBle hb.size
      obtain ⟨n1, hn1⟩ : ∃ n1, n1 = n0 + k := ⟨_, rfl⟩
      rw [← hn1] at ho hLl hk ⊢
      by_cases hlt : n1 < 64
      · have q1 : (n1 : Int) < 64 := by omega
        have hnext : L ++ [0] = K0 ++ S.zeros (k + 1) := by
          rw [hL, List.append_assoc]
          simp only [S.zeros, List.replicate_succ']
        have HN := hide hnext
        have HO := hide ho
        have HB := hide hb
        have HLL := hide hLl
        have HN1 := hide hn1
        have hnb : L.length + 1 ≤ 140737488355328 := by omega
        clear hnext ho hb hL hLl hn1
        go_wp2_with (at_builtin; (refine wpList_append_some rfl (.tmp 28) (.tmp 29) 30 30 rfl _ _ rfl rfl (run_push wr B _ L 0 0 rfl 30 HO.out hnb hsz) ?_; rintro v2 w2 ⟨ho2, hb2⟩; obtain ⟨g2, cap2, rfl⟩ := ho2.form))
        have ho3 : Own w2 B (.slice (some ⟨g2, 0, none⟩) (L.length + 1) cap2) (K0 ++ S.zeros (k + 1)) := by
          rw [← HN.out]
          have h := ho2
          rw [List.length_append, List.length_singleton] at h
          exact h
        exact ⟨⟨k + 1, by have := HN1.out; omega, ho3, HB.out.trans hb2⟩, by show 65 - (L.length + 1) < 65 - n1; have := HLL.out; omega⟩
      · have q1 : ¬ ((n1 : Int) < 64) := by omega
        have hk64 : n1 = 64 := by omega
        have hLK : L = S.keyb ks := by rw [hL, HKB.out]; congr 2; omega
        rw [hLK] at ho hLl
        have hcK := ho.sliceAt (by omega)
        obtain ⟨kb, hkb⟩ : ∃ kb, kb = S.keyb ks := ⟨_, rfl⟩
        rw [← hkb] at hcK hLl
        have HKK := hide hkb
        obtain ⟨hg, hcell⟩ : g < wr.heap.size ∧ ∀ j, j < 64 → wr.cell? ⟨g, j, none⟩ = some (.int .u8 ((kb.getD j 0).toNat : Int)) := by
          rcases hcK with ⟨h, _⟩ | ⟨a, c', h, _, h2⟩ | ⟨b, off, c', h, h1, _, h3, h4⟩
          · simp at h
          · rw [h2] at hLl; simp at hLl; omega
          · simp only [Value.slice.injEq, Option.some.injEq, Addr.mk.injEq, and_true] at h
            obtain ⟨⟨rfl, rfl⟩, _, rfl⟩ := h
            refine ⟨h3, fun j hj => ?_⟩
            have := h4 j (by omega)
            rw [Nat.zero_add] at this
            exact this
        have hkl : kb.length = 64 := by omega
        have CEL := hide hcell
        have HB := hide hb
        have hB2 : B ≤ wr.heap.size := hsz
        clear hcK hcell ho hb hL hLK hkb hn1 hk hlt hLl
        go_wp2
        clear q1
        obtain ⟨Wk, rfl⟩ : ∃ Wk : World, Wk = wr := ⟨_, rfl⟩
        go_loopw [9, 10, 11] (fun vi vo i wr => ∃ k : Nat, k ≤ 64 ∧ i = .int .i64 (k : Int) ∧ Bytl wr vi (S.v8l ((kb.map (· ^^^ 54)).take k)) ∧ Bytl wr vo (S.v8l ((kb.map (· ^^^ 92)).take k)) ∧ (∀ j, vi.ownBlock = some j → Wk.heap.size ≤ j) ∧ (∀ j, vo.ownBlock = some j → Wk.heap.size ≤ j ∧ vi.ownBlock ≠ some j) ∧ Below Wk.heap.size Wk wr) (fun _ _ i _ => 64 - (intOf i).toNat)
        case atStart => exact ⟨0, by omega, rfl, Or.inl ⟨rfl, rfl⟩, Or.inl ⟨rfl, rfl⟩, fun j hj => by simp [Value.ownBlock] at hj, fun j hj => by simp [Value.ownBlock] at hj, Below.refl _ _⟩
        case round =>
          obtain ⟨k, hk, rfl, hi, ho, hsi, hso, hbl⟩ := hrel
          by_cases hlt : k < 64
          · obtain ⟨x, hx⟩ : ∃ x, x = kb.getD k 0 := ⟨_, rfl⟩
            have c1 : wr.cell? ⟨g, k, none⟩ = some (.int .u8 (x.toNat : Int)) := by rw [hx]; exact (hbl.cell (p := ⟨g, k, none⟩) hg).trans (CEL.out k hlt)
            have t54 : (kb.map (· ^^^ 54)).take (k + 1) = (kb.map (· ^^^ 54)).take k ++ [x ^^^ 54] := by
              rw [List.take_succ_eq_append_getElem (by rw [List.length_map]; omega), List.getElem_map, hx, List.getD_eq_getElem?_getD, List.getElem?_eq_getElem (by omega)]
              rfl
            have t92 : (kb.map (· ^^^ 92)).take (k + 1) = (kb.map (· ^^^ 92)).take k ++ [x ^^^ 92] := by
              rw [List.take_succ_eq_append_getElem (by rw [List.length_map]; omega), List.getElem_map, hx, List.getD_eq_getElem?_getD, List.getElem?_eq_getElem (by omega)]
              rfl
            have x54 : bits .xor .u8 (x.toNat : Int) 54 = ((x ^^^ 54).toNat : Int) := u8_xor_cast x 54
            have x92 : bits .xor .u8 (x.toNat : Int) 92 = ((x ^^^ 92).toNat : Int) := u8_xor_cast x 92
            have l54 : ((kb.map (· ^^^ 54)).take k).length ≤ 1000000 := by rw [List.length_take, List.length_map]; omega
            have l92 : ((kb.map (· ^^^ 92)).take k).length ≤ 1000000 := by rw [List.length_take, List.length_map]; omega
            have T54 := hide t54
            have T92 := hide t92
            have q1 : (0 : Int) ≤ (k : Int) := by omega
            have q2 : (k : Int) < 64 := by omega
            have q2' : (k : Int) < (n1 : Int) := by omega
            have q4 : IntKind.i64.wrap ((k : Int) + 1) = (k : Int) + 1 := by rw [IntKind.wrap_i64]; omega
            clear t54 t92 hx
            generalize (kb.map (· ^^^ 54)).take k = P54 at *
            generalize (kb.map (· ^^^ 92)).take k = P92 at *
            have HI := hide hi
            have HOO := hide ho
            have HSI := hide hsi
            have HSO := hide hso
            have HBL := hide hbl
            clear hi ho hsi hso hbl
            go_wp2_with (at_builtin; first | (refine wpList_append_some rfl (.tmp 43) (.tmp 49) 30 30 rfl _ _ rfl rfl (run_pushB w2 _ P92 (x ^^^ 92) _ rfl 30 HO2.out l92) ?_; rintro v3 w3 ⟨hi3, hg3, ho3⟩) | (refine wpList_append_some rfl (.tmp 35) (.tmp 41) 30 30 rfl _ _ rfl rfl (run_pushB wr _ P54 (x ^^^ 54) _ rfl 30 HI.out l54) ?_; rintro v2 w2 ⟨hi2, hg2, ho2⟩; have c2 := hg2.cell c1 (fun e => by have := HSI.out g e.symm; omega); have HO2 := hide (HOO.out.kept fun j hj => hg2.block j (HOO.out.lt hj) (fun e => (HSO.out j hj).2 e.symm))))
            rw [← T54.out] at hi2
            rw [← T92.out] at hi3
            refine ⟨⟨k + 1, by omega, by simp, ?_, hi3, fun j hj => ?_, fun j hj => ⟨?_, ?_⟩, ?_⟩, by simp [intOf]; omega⟩
            · refine hi2.kept fun j hj => hg3.block j (hi2.lt hj) (fun e => ?_)
              rcases ho2 with h' | ⟨k', h', h''⟩
              · rw [h'] at hj; exact (HSO.out j e.symm).2 hj
              · rw [h'] at hj; have := Option.some.inj hj; have := HOO.out.lt e.symm; omega
            · rcases ho2 with h' | ⟨k', h', h''⟩
              · rw [h'] at hj; exact HSI.out j hj
              · rw [h'] at hj; have := Option.some.inj hj; have := HBL.out.size; omega
            · rcases ho3 with h' | ⟨k', h', h''⟩
              · rw [h'] at hj; exact (HSO.out j hj).1
              · rw [h'] at hj; have := Option.some.inj hj; have := HBL.out.size; have := hg2.size; omega
            · intro e
              rcases ho3 with h' | ⟨k', h', h''⟩
              · rw [h'] at hj
                rcases ho2 with h2 | ⟨k2, h2, h2'⟩
                · rw [h2] at e; exact (HSO.out j hj).2 e
                · rw [h2] at e; have := Option.some.inj e; have := HOO.out.lt hj; omega
              · rw [h'] at hj; have := Option.some.inj hj; have := hi2.lt e; omega
            · have hB1 := HBL.out.grown hg2 HBL.out.size (fun j hj => HSI.out j hj)
              exact hB1.grown hg3 hB1.size (fun j hj => (HSO.out j hj).1)
          · obtain rfl : k = 64 := by omega
            have hfi : (kb.map (· ^^^ 54)).take 64 = S.xorTo kb 54 64 := by rw [S.xorTo_map _ _ hkl, List.take_of_length_le (by rw [List.length_map]; omega)]
            have hfo : (kb.map (· ^^^ 92)).take 64 = S.xorTo kb 92 64 := by rw [S.xorTo_map _ _ hkl, List.take_of_length_le (by rw [List.length_map]; omega)]
            rw [hfi] at hi
            rw [hfo] at ho
            have li : (S.xorTo kb 54 64).length = 64 := by rw [S.xorTo_length]; exact hkl
            have lo : (S.xorTo kb 92 64).length = 64 := by rw [S.xorTo_length]; exact hkl
            have hmac : S.mac ks bs = S.sum (S.xorTo kb 92 64 ++ S.sum (S.xorTo kb 54 64 ++ bs)) := by
              rw [S.sum_behind _ _ lo, S.sum_behind _ _ li, HKK.out]
              rfl
            have HMAC := hide hmac
            generalize S.xorTo kb 54 64 = ip at *
            generalize S.xorTo kb 92 64 = op at *
            have BW : Hid (Below B W0 wr) := HB.out.trans (hbl.mono hB2)
            have UW := hide (HU0.out.below BW.out (Nat.le_of_eq hBs.out.symm))
            have HI := hide hi
            have HOO := hide ho
            have HSO := hide hso
            have HSI := hide hsi
            have HWS := hbl.size
            clear hfi hfo hmac hi ho hso hsi hbl
            go_wp2_with (at_builtin; (refine wpList_append_some rfl (.tmp 52) (.tmp 53) 30 30 rfl _ _ rfl rfl (run_append_text wr _ u ip bs 30 HI.out UW.out (by omega) (by omega)) ?_; rintro v2 w2 ⟨hi2, hg2⟩))
            have hBw : B ≤ wr.heap.size := Nat.le_trans hB2 HWS
            have bw2 : Below B W0 w2 := BW.out.grown hg2 hBw (fun j hj => Nat.le_trans hB2 (HSI.out j hj))
            have hT2 := (bw2.block gT HTL).trans HT0.out
            have ho2 := HOO.out.kept fun j hj => hg2.block j (HOO.out.lt hj) (fun e => (HSO.out j hj).2 e.symm)
            refine (rsum_any gT v2 (ip ++ bs) w2 hT2 (hi2.sliceAt (by rw [List.length_append]; omega)) (by rw [List.length_append]; omega)).mono ?_
            rintro e0 w3 ⟨rfl, hb3⟩
            obtain ⟨D, hD⟩ : ∃ D, D = S.sum (ip ++ bs) := ⟨_, rfl⟩
            have hD32 : D.length = 32 := by rw [hD]; exact S.sum_length _
            rw [← hD] at HMAC ⊢
            have hB2' : B ≤ w2.heap.size := Nat.le_trans hBle bw2.size
            have bw3 := bw2.trans (hb3.mono hB2')
            have ho3 := ho2.kept fun j hj => hb3.block j (ho2.lt hj)
            have hs : (Tryd.prog.info? 25).map (·.size) = some (S.v8 D).size := by rw [S.v8_size, hD32]; exact size23
            have hoz : (S.v8 (S.zeros 32)).size = (S.v8 D).size := by rw [S.v8_size, S.v8_size, hD32]; rfl
            have A1 := hide hs
            have A2 := hide hoz
            have A4 := hide hD32
            have BW3 := hide bw3
            have HO3 := hide ho3
            clear hs hoz hD hD32 hb3 bw3 ho3 ho2 bw2 hT2 hi2 hg2 HI HOO UW BW
            go_upto_region 14 with (first | refine wpList_store_row rfl 25 _ _ rfl w3.heap.size (S.v8 D) rfl rfl 25 (S.v8 (S.zeros 32)) (heap_alloc_new _ _) A1.out A2.out (S.v8_one _) ?_ | fail)
            generalize hW4 : World.setRow _ w3.heap.size (S.v8 D) = W4
            have r4 : W4.heap[w3.heap.size]? = some (.cells (S.v8 D) 25 (0, 0)) := by rw [← hW4]; exact setRow_heap _ _ _ _ _ _ (heap_alloc_new _ _)
            have hB3 : B ≤ w3.heap.size := Nat.le_trans hBle BW3.out.size
            have b4 : Below B W0 W4 := by rw [← hW4]; exact below_setRow (BW3.out.alloc hB3 _) hB3 _
            have o4 := HO3.out.kept (w' := W4) fun j hj => by rw [← hW4]; exact (setRow_other _ _ _ _ (by have := HO3.out.lt hj; omega)).trans (heap_alloc_old _ _ (HO3.out.lt hj))
            have SD : Hid (SliceAt W4 (.slice (some ⟨w3.heap.size, 0, none⟩) 32 32) D) := Or.inr (Or.inr ⟨w3.heap.size, 0, 32, by rw [A4.out], by rw [A4.out]; omega, by rw [A4.out]; omega, block_lt_of_row r4, fun j hj => by rw [Nat.zero_add]; exact v8_cell r4 j hj⟩)
            have B4 := hide b4
            have O4 := hide o4
            clear hW4 r4 b4 o4 HO3 BW3
            generalize w3.heap.size = gd at *
            have lD := A4.out
            go_wp2_with (at_builtin; (refine wpList_append_some rfl (.tmp 57) (.tmp 58) 30 30 rfl _ _ rfl rfl (run_append_text W4 _ _ op D 30 O4.out SD.out (by omega) (by omega)) ?_; rintro v5 w5 ⟨hi5, hg5⟩))
            have hB4 : B ≤ W4.heap.size := Nat.le_trans hBle B4.out.size
            have bw5 : Below B W0 w5 := B4.out.grown hg5 hB4 (fun j hj => Nat.le_trans hB2 (HSO.out j hj).1)
            refine (rsum_any gT v5 (op ++ D) w5 ((bw5.block gT HTL).trans HT0.out) (hi5.sliceAt (by rw [List.length_append]; omega)) (by rw [List.length_append]; omega)).mono ?_
            rintro e1 w6 ⟨rfl, hb6⟩
            rw [← HMAC.out]
            have bw6 := bw5.trans (hb6.mono (Nat.le_trans hBle bw5.size))
            have hrR := (bw6.block gR hz0).trans R0.out
            have hfin := B0.out.trans (bw6.mono (by have := B0.out.size; have := hBs.out; omega))
            have HRR := hide hrR
            have HFI := hide hfin
            have hgw : w.heap.size ≤ gR := Nat.le_of_eq HGR.out.symm
            clear hb6 bw5 bw6 hrR hfin hi5 hg5
            go_wp2_with (refine wpList_store_row rfl 25 _ _ rfl gR (S.v8 (S.mac ks bs)) rfl rfl 25 _ HRR.out (size_mac ks bs) (zeros_mac ks bs) (S.v8_one _) ?_)
            exact bodyPost_ret (v := .agg (S.v8 (S.mac ks bs))) (results_cell_row (g := gR) (t := 25) (fr := (0, 0)) Tryd.results55 _ _ _ _ rfl (setRow_heap _ _ _ _ _ _ HRR.out) Tryd.underlying25 rfl (size_mac ks bs)) rfl ⟨rfl, below_setRow HFI.out hgw _⟩
end Go.Proofs.YtlcilclhaahopaaDoor
