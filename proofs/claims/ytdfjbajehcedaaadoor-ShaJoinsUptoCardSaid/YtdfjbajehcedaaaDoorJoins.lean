/- The walk of ShaJoins: for every three readable texts that are not too long together the call returns true and nothing that was there changes. -/
import Derived.Test.YtdfjbajehcedaaaDoorApart
import Derived.Test.YtdfjbajehcedaaaDoorKnown
import Derived.Laws.IdiomStrings
import Derived.Lib.BufferRead
namespace Go.Proofs.YtdfjbajehcedaaaDoor
open Go.RowKit
theorem conv_slice {w : World} {v : Value} {bs : List UInt8} (h : SliceAt w v bs) : (convert 26 9 v).run Tryd.prog w = .ok (.string ⟨bs.toArray⟩) w := by
  rcases h with ⟨rfl, rfl⟩ | ⟨a, cap, rfl, _, rfl⟩ | ⟨b, off, cap, rfl, h1, h2, h3, h4⟩
  · exact Lib.run_convert_nil_bytes w 26 9 5 0 Tryd.underlying26 Tryd.underlying5 Tryd.underlying9
  · exact run_convert_bytes_back w 26 9 5 a cap [] Tryd.underlying26 Tryd.underlying5 Tryd.underlying9 (fun j hj => by simp at hj)
  · refine run_convert_bytes_back w 26 9 5 ⟨b, off, none⟩ cap bs Tryd.underlying26 Tryd.underlying5 Tryd.underlying9 (fun j hj => ?_)
    rw [Addr.add_lit, h4 j hj, List.getD_eq_getElem?_getD, List.getElem?_eq_getElem hj]
    rfl
theorem BookIs.below {w W : World} {gB base top : Nat} {vl vw : Value} {es : List Entry} (h : BookIs w gB base top vl vw es) (hb : Below w.heap.size w W) : BookIs W gB base top vl vw es := by
  have ht := h.top_le
  have hf : Fr gB vl vw w W := ⟨hb.os, hb.tape, hb.output, hb.size, fun k hk _ _ _ => hb.block k hk⟩
  exact ⟨(hb.block gB (Nat.lt_of_lt_of_le h.hi ht)).trans h.row, h.lo, h.hi, Nat.le_trans ht hb.size, h.lists.kept fun k hk => hb.block k (h.lists.lt hk), h.was.kept fun k hk => hb.block k (h.was.lt hk), h.vlSep, h.vwSep,
    fun e he => (h.ents e he).kept hf ht (Nat.le_refl _) (fun k hk => Or.inl hk) (fun k hk => Or.inl hk), h.nodup, h.few, h.room⟩
theorem list1 {w : World} {g : Nat} {t : TypeId} {x1 : Value} {b1 : List UInt8} (h : w.heap[g]? = some (.cells #[x1] t (0, 0))) (s1 : SliceAt w x1 b1) : ListAt w g [b1] :=
  ⟨block_lt_of_row h, fun j hj => by
    rcases j with _ | j
    · exact ⟨x1, by rw [cell_of_row w g 0 _ _ _ h]; rfl, s1⟩
    · simp at hj⟩
theorem list4 {w : World} {g : Nat} {t : TypeId} {x1 x2 x3 x4 : Value} {b1 b2 b3 b4 : List UInt8} (h : w.heap[g]? = some (.cells #[x1, x2, x3, x4] t (0, 0))) (s1 : SliceAt w x1 b1) (s2 : SliceAt w x2 b2) (s3 : SliceAt w x3 b3) (s4 : SliceAt w x4 b4) : ListAt w g [b1, b2, b3, b4] :=
  ⟨block_lt_of_row h, fun j hj => by
    rcases j with _ | _ | _ | _ | j
    · exact ⟨x1, by rw [cell_of_row w g 0 _ _ _ h]; rfl, s1⟩
    · exact ⟨x2, by rw [cell_of_row w g 1 _ _ _ h]; rfl, s2⟩
    · exact ⟨x3, by rw [cell_of_row w g 2 _ _ _ h]; rfl, s3⟩
    · exact ⟨x4, by rw [cell_of_row w g 3 _ _ _ h]; rfl, s4⟩
    · simp at hj; omega⟩
theorem join_is (F : List UInt8) (g n c : Nat) (bss : List (List UInt8)) (w : World) (hF : Hid (bss.flatten = F)) (hn : n = bss.length) (hn8 : n ≤ 1000000) (hnc : n ≤ c) (hl : ListAt w g bss) (hT : F.length ≤ 140737488355328) :
   Calls Tryd.prog 12 #[.slice (some ⟨g, 0, none⟩) n c] w fun e w' => ∃ g', e = .returned (.slice (some ⟨g', 0, none⟩) F.length F.length) ∧ w.heap.size ≤ g' ∧ Room w' g' F.length F ∧ Below w.heap.size w w' := by
  have h := hF.out
  subst h
  exact join_any g n c bss w hn hn8 hnc hl hT
set_option maxHeartbeats 4000000 in
set_option maxRecDepth 100000 in
theorem shaJoins_walk (ao bo co : Option Addr) (la lb lc ca cb cc : Nat) (xa bs cs : List UInt8) (w : World) (ha : SliceAt w (.slice ao la ca) xa) (hb : SliceAt w (.slice bo lb cb) bs) (hc : SliceAt w (.slice co lc cc) cs) (hK : KAt w) (hsum : xa.length + bs.length + cs.length ≤ 1048576) :
   Calls Tryd.prog 6 #[.slice ao la ca, .slice bo lb cb, .slice co lc cc] w fun e w' => e = .returned (.bool true) ∧ Below w.heap.size w w' := by
  have HA := hide ha
  have HB := hide hb
  have HC := hide hc
  have HK := hide hK
  have h0 := hK.pos
  obtain ⟨F, hF⟩ : ∃ F, F = xa ++ bs ++ cs := ⟨_, rfl⟩
  have hFl : F.length ≤ 1048576 := by rw [hF, List.length_append, List.length_append]; exact hsum
  have HF4 : Hid ([xa, bs, [], cs].flatten = F) := by show [xa, bs, [], cs].flatten = F; rw [hF]; simp
  have HF1 : Hid ([xa].flatten = xa) := by show [xa].flatten = xa; simp
  have hal : xa.length ≤ 1048576 := by omega
  obtain ⟨A, hA⟩ : ∃ A : ByteArray, A = ⟨xa.toArray⟩ := ⟨_, rfl⟩
  obtain ⟨B, hB⟩ : ∃ B : ByteArray, B = ⟨bs.toArray⟩ := ⟨_, rfl⟩
  obtain ⟨C, hC⟩ : ∃ C : ByteArray, C = ⟨cs.toArray⟩ := ⟨_, rfl⟩
  have hX : (⟨F.toArray⟩ : ByteArray) = A ++ B ++ C := by
    rw [hF, hA, hB, hC]
    apply ByteArray.ext
    simp [ByteArray.data_append]
  have zA : A.size = xa.length := by rw [hA]; rfl
  have zB : B.size = bs.length := by rw [hB]; rfl
  have zC : C.size = cs.length := by rw [hC]; rfl
  have HX := hide hX
  have HAA := hide hA
  have HBB := hide hB
  have HCC := hide hC
  clear ha hb hc hK hF hX hA hB hC
  go_enter Tryd.func6, Tryd.ntmps6
  go_wp2
  generalize hW0 : w.alloc _ = W0
  have r0 : W0.heap[w.heap.size]? = some (.cells #[.slice none 0 0, .slice none 0 0, .int .i64 0, .bool false] 40 (0, 0)) := by rw [← hW0]; exact heap_alloc_new _ _
  have hn0 : Below w.heap.size w W0 := by rw [← hW0]; exact (Below.refl _ _).alloc (Nat.le_refl _) _
  have BK0 : Hid (BookIs W0 w.heap.size w.heap.size (w.heap.size + 1) (.slice none 0 0) (.slice none 0 0) []) := by
    refine ⟨r0, Nat.le_refl _, Nat.lt_succ_self _, ?_, Or.inl ⟨rfl, rfl⟩, Or.inl ⟨rfl, rfl⟩, fun k hk => by simp [Value.ownBlock] at hk, fun k hk => by simp [Value.ownBlock] at hk, fun e he => by simp at he, by simp, by simp, by simp [heldOf]⟩
    have := block_lt_of_row r0
    omega
  have BL0 := hide hn0
  clear hW0 r0 hn0
  obtain ⟨gB, hgB⟩ : ∃ gB, gB = w.heap.size := ⟨_, rfl⟩
  rw [← hgB] at BK0 ⊢
  have HGB := hide hgB
  clear hgB
  go_loopw [8] (fun i wr => ∃ k : Nat, k ≤ 2 ∧ i = .int .i64 (k : Int) ∧ (∃ top vl vw es, BookIs wr gB gB top vl vw es ∧ es.length ≤ 2 * k ∧ heldOf es ≤ 4000000 * k) ∧ Below w.heap.size w wr) (fun i _ => 2 - (intOf i).toNat)
  case atStart => exact ⟨0, by omega, rfl, ⟨_, _, _, [], BK0.out, by simp, by simp [heldOf]⟩, BL0.out⟩
  case round =>
    obtain ⟨k, hk, rfl, ⟨top, vl, vw, es, hbk, hle, hhd⟩, hbl⟩ := hrel
    clear BK0 BL0
    have BK := hide hbk
    have BL := hide hbl
    by_cases hlt : k < 2
    · have p1 : (k : Int) < 2 := by omega
      have p2 : IntKind.i64.wrap ((k : Int) + 1) = (k : Int) + 1 := by rw [IntKind.wrap_i64]; omega
      clear hbk hbl
      go_wp2_with fail
      generalize hW1 : wr.alloc _ = W1
      have row : W1.heap[wr.heap.size]? = some (.cells #[.slice ao la ca, .slice bo lb cb, .slice none 0 0, .slice co lc cc] 26 (0, 0)) := by rw [← hW1]; exact heap_alloc_new _ _
      have hb1 : Below wr.heap.size wr W1 := by rw [← hW1]; exact (Below.refl _ _).alloc (Nat.le_refl _) _
      have hB1 := BL.out.trans (hb1.mono BL.out.size)
      have hl4 := hide (list4 row (HA.out.below hB1 (Nat.le_refl _)) (HB.out.below hB1 (Nat.le_refl _)) (Or.inl ⟨rfl, rfl⟩) (HC.out.below hB1 (Nat.le_refl _)))
      have BK1 := hide (BK.out.below hb1)
      have BL1 := hide hB1
      have hts := BK1.out.top_le
      clear hW1 row hb1 hB1
      refine (join_is F _ 4 4 _ W1 HF4 rfl (by omega) (by omega) hl4.out (by omega)).mono ?_
      rintro e0 w2 ⟨g1, rfl, hg1, hR, hbx⟩
      have BL2 := hide (BL1.out.trans (hbx.mono BL1.out.size))
      have BK2 := hide (BK1.out.below hbx)
      have RM := hide hR
      have v1 := conv_slice (hR.sliceAt (by omega))
      have v2 := conv_slice (HA.out.below BL2.out (Nat.le_refl _))
      have v3 := conv_slice (HB.out.below BL2.out (Nat.le_refl _))
      have v4 := conv_slice (HC.out.below BL2.out (Nat.le_refl _))
      rw [HX.out] at v1
      rw [← HAA.out] at v2
      rw [← HBB.out] at v3
      rw [← HCC.out] at v4
      have htg : top ≤ g1 := Nat.le_trans hts hg1
      have hgg : gB ≤ g1 := Nat.le_trans (Nat.le_of_lt BK2.out.hi) htg
      clear hbx hR hl4 BK1 BL1 BK BL hts hg1
      go_wp2_with fail
      refine (keep_any gB gB top g1 F.length vl vw F es w2 BK2.out RM.out htg hgg (by omega) (by omega) (by omega)).mono ?_
      rintro e0 w3 ⟨rfl, ⟨vl3, vw3, es3, hbk3, hle3, hhd3⟩, hbx⟩
      have BL3 := hide (BL2.out.trans (hbx.mono (Nat.le_of_eq HGB.out.symm)))
      have BK3 := hide hbk3
      clear hbx hbk3 BK2 BL2 RM v1 v2 v3 v4 htg hgg
      go_wp2_with fail
      generalize hW1 : w3.alloc _ = W4
      have row : W4.heap[w3.heap.size]? = some (.cells #[.slice ao la ca] 26 (0, 0)) := by rw [← hW1]; exact heap_alloc_new _ _
      have hb1 : Below w3.heap.size w3 W4 := by rw [← hW1]; exact (Below.refl _ _).alloc (Nat.le_refl _) _
      have hB1 := BL3.out.trans (hb1.mono BL3.out.size)
      have hl1 := hide (list1 row (HA.out.below hB1 (Nat.le_refl _)))
      have BK4 := hide (BK3.out.below hb1)
      have BL4 := hide hB1
      have hts := BK4.out.top_le
      clear hW1 row hb1 hB1
      refine (join_is xa _ 1 1 _ W4 HF1 rfl (by omega) (by omega) hl1.out (by omega)).mono ?_
      rintro e0 w5 ⟨g2, rfl, hg2, hR, hbx⟩
      have BL5 := hide (BL4.out.trans (hbx.mono BL4.out.size))
      have BK5 := hide (BK4.out.below hbx)
      have RM := hide hR
      have htg : w3.heap.size ≤ g2 := Nat.le_trans hts hg2
      have hgg : gB ≤ g2 := Nat.le_trans (Nat.le_of_lt BK5.out.hi) htg
      clear hbx hR hl1 BK4 BL4 BK3 BL3 hts hg2
      go_wp2_with fail
      refine (keep_any gB gB w3.heap.size g2 xa.length vl3 vw3 xa es3 w5 BK5.out RM.out htg hgg (by omega) (by omega) (by omega)).mono ?_
      rintro e0 w6 ⟨rfl, ⟨vl6, vw6, es6, hbk6, hle6, hhd6⟩, hbx⟩
      have BL6 := hide (BL5.out.trans (hbx.mono (Nat.le_of_eq HGB.out.symm)))
      have BK6 := hide hbk6
      clear hbx hbk6 BK5 BL5 RM htg hgg
      go_wp2_with fail
      go_roundw
      case rel => exact ⟨k + 1, by omega, by go_num, ⟨_, _, _, es6, BK6.out, by omega, by omega⟩, BL6.out⟩
      case measure => simp [intOf]; omega
    · obtain rfl : k = 2 := by omega
      clear hbk hbl
      go_wp2_with fail
      refine (apart_any gB gB top vl vw es wr BK.out).mono ?_
      rintro e0 w2 ⟨rfl, hbx⟩
      have BL2 := hide (BL.out.trans (hbx.mono (Nat.le_of_eq HGB.out.symm)))
      clear hbx BK BL
      go_wp2_with fail
      refine (known_any w2 (HK.out.below BL2.out h0)).mono ?_
      rintro e0 w3 ⟨rfl, hbx⟩
      have Z := BL2.out.trans (hbx.mono BL2.out.size)
      clear hbx
      go_wp2_with fail
      go_ret
      exact ⟨rfl, Z⟩
end Go.Proofs.YtdfjbajehcedaaaDoor
