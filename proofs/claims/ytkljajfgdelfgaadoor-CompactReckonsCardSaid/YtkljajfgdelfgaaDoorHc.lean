/- CompactAdds. -/
import Derived.Test.YtkljajfgdelfgaaDoorHb
namespace Go.Proofs.YtkljajfgdelfgaaDoor
open Go.RowKit

namespace C
theorem ofs_length (a : Int) (l : List (List UInt8)) (p e : Nat) : (ofs a l p e).length = (blocks p e).length := by rw [ofs, vals_length]
theorem ofs_32 (a : Int) (l : List (List UInt8)) (p e : Nat) : ∀ d ∈ ofs a l p e, d.length = 32 := by
  have : ∀ ts q, ∀ d ∈ vals (rt a l) q ts, d.length = 32 := by
    intro ts
    induction ts with
    | nil => intro q d hd; simp [vals] at hd
    | cons t ts ih =>
      intro q d hd
      rw [vals] at hd
      rcases List.mem_cons.1 hd with rfl | hd
      · exact S.root_length _ _
      · exact ih _ d hd
  exact this _ _
theorem ofs_few (a : Int) (l : List (List UInt8)) (p e : Nat) : (ofs a l p e).length ≤ 64 := by rw [ofs_length]; exact blocks_len p e
theorem right_ofs (a : Int) (l : List (List UInt8)) (p e : Nat) (h : p ≤ e) (he : e ≤ 4294967296) : S.right p e (ofs a l p e).length = true := by
  rw [ofs_length, S.right]; simp [h, he]
theorem ofA_ofs (a : Int) (l : List (List UInt8)) (p e : Nat) (h : p ≤ e) (he : e ≤ l.length) : ofA a l p e = ⟨p, e, ofs a l p e, 0⟩ := by rw [ofA, if_neg (by omega)]
theorem addA_ofs (a : Int) (l : List (List UInt8)) (p i : Nat) (h : p ≤ i) (hi : i < l.length) (hl : l.length ≤ 1000) : addA a p i (ofs a l p i) (S.leaf a (l.getD i [])) = ⟨p, i + 1, ofs a l p (i + 1), 0⟩ := by
  rw [addA, if_pos ⟨right_ofs a l p i h (by omega), by omega⟩, glue, ← ofs_one a l i hi (by omega), join_ofs a [] l p i (i + 1) h (by omega) (by omega) (by omega)]
theorem mergeA_ofs (a : Int) (l : List (List UInt8)) (p m e : Nat) (h : p ≤ m) (h2 : m ≤ e) (he : e ≤ l.length) (hl : l.length ≤ 1000) : mergeA a p m (ofs a l p m) m e (ofs a l m e) = ⟨p, e, ofs a l p e, 0⟩ := by
  rw [mergeA, if_pos ⟨right_ofs a l p m h (by omega), right_ofs a l m e h2 (by omega)⟩, if_pos rfl, glue, join_ofs a [] l p m e h h2 he (by omega)]
theorem rootA_ofs (a : Int) (l : List (List UInt8)) (p e : Nat) (h : p ≤ e) (he : e ≤ 1000) (hp : 0 < p) : rootA a p e (ofs a l p e) = (S.zeros 32, 25) := by
  rw [rootA, if_pos (right_ofs a l p e h (by omega)), if_neg (by omega)]
theorem rootA_all (a : Int) (l : List (List UInt8)) (hl : l.length ≤ 1000) : rootA a 0 l.length (ofs a l 0 l.length) = (S.root a l, 0) := by
  rw [rootA, if_pos (right_ofs a l 0 l.length (by omega) (by omega)), if_pos rfl]
  by_cases h : l.length = 0
  · rw [if_pos h, List.length_eq_zero_iff.1 h]
  · rw [if_neg h, fold_root a [] l (by omega) (by omega)]
end C
theorem alloc30 (w : World) : (Instr.alloc 30 true (.tuple #[])).run Tryd.prog w = .ok (.pointer (some ⟨w.heap.size, 0, none⟩)) (w.alloc (.cells #[.int .u64 0, .int .u64 0, .slice none 0 0] 30)) := by
  go_simp
theorem Ansd.some {w w' : World} {r : Ending} {b e n : Nat} {hs : List (List UInt8)} (h : Ansd w w' r ⟨b, e, hs, n⟩) : ∃ vo vc, r = .returned (.tuple #[.agg #[.int .u64 (b : Int), .int .u64 (e : Int), .slice vo hs.length vc], .int .i64 (n : Int)]) ∧ DgRow 0 w' (.slice vo hs.length vc) hs ∧ Below w.heap.size w w' := by
  obtain ⟨⟨v, h1, h2⟩, h3⟩ := h
  obtain ⟨vo, vc, rfl⟩ := h2.form
  exact ⟨vo, vc, h1, h2.mono (Nat.zero_le _), h3⟩
theorem DgRow.le_cap {B : Nat} {w : World} {ao : Option Addr} {n c : Nat} {hs : List (List UInt8)} (h : DgRow B w (.slice ao n c) hs) : ∀ ao' n' c', Value.slice ao n c = .slice ao' n' c' → n' ≤ c' := fun ao' n' c' e => by
  rw [e] at h
  rcases h.2 with ⟨e', h0⟩ | ⟨g, cap, cur, e', hB, hr, q1, q2, q3, q4⟩
  · simp only [Value.slice.injEq] at e'; omega
  · simp only [Value.slice.injEq] at e'; omega
set_option maxHeartbeats 80000000 in
set_option maxRecDepth 10000 in
theorem compactAdds_walk (a x1 x2 x3 : Int) (w : World) (l1 : -9223372036854775808 ≤ x1) (u1 : x1 ≤ 9223372036854775807) (l2 : -9223372036854775808 ≤ x2) (u2 : x2 ≤ 9223372036854775807) (l3 : -9223372036854775808 ≤ x3) (u3 : x3 ≤ 9223372036854775807) (hK : KAt w) :
   Calls Tryd.prog 6 #[.int .i64 a, .int .i64 x1, .int .i64 x2, .int .i64 x3] w fun r w' => r = .returned (.bool true) ∧ Below w.heap.size w w' := by
  have HK := hide hK
  have h0 := hK.pos
  clear hK
  go_enter Tryd.func6, Tryd.ntmps6
  go_wp2_with fail
  refine (within_any x1 70 w l1 u1 (by omega) (by omega)).mono ?_
  rintro r _ ⟨rfl, rfl⟩
  have hnle := S.within_le x1 70 (by omega)
  obtain ⟨n, hn⟩ : ∃ n, n = S.within x1 70 := ⟨_, rfl⟩
  rw [← hn] at hnle ⊢
  clear hn
  go_wp2_with fail
  refine (list10_any n (by omega) w).mono ?_
  rintro r W1 ⟨vl, rfl, tl, bl⟩
  obtain ⟨lo, lc, rfl⟩ := tl.form
  obtain ⟨l, hl⟩ : ∃ l, l = S.l10 n := ⟨_, rfl⟩
  have hfit : Fit l := by rw [hl]; exact S.l10_fit n
  have hlen : l.length = n := by rw [hl]; exact S.l10_length n
  rw [← hl] at tl ⊢
  have HV := hide tl.bsAt
  rw [hlen] at HV ⊢
  have HF := hide hfit
  have HLEN := hide hlen
  have B1 := hide bl
  clear tl bl hl hfit hlen
  go_wp2_with fail
  refine (within_any x2 (n : Int) W1 l2 u2 (by omega) (by omega)).mono ?_
  rintro r _ ⟨rfl, rfl⟩
  have hple := S.within_le x2 (n : Int) (by omega)
  obtain ⟨p, hp⟩ : ∃ p, p = S.within x2 (n : Int) := ⟨_, rfl⟩
  rw [← hp] at hple ⊢
  clear hp
  have qs : IntKind.i64.wrap ((n : Int) - (p : Int)) = (n : Int) - (p : Int) := by rw [IntKind.wrap_i64]; omega
  go_wp2_with fail
  refine (within_any x3 ((n : Int) - (p : Int)) W1 l3 u3 (by omega) (by omega)).mono ?_
  rintro r _ ⟨rfl, rfl⟩
  have hmle := S.within_le x3 ((n : Int) - (p : Int)) (by omega)
  obtain ⟨m0, hm0⟩ : ∃ q, q = S.within x3 ((n : Int) - (p : Int)) := ⟨_, rfl⟩
  rw [← hm0] at hmle ⊢
  clear hm0
  obtain ⟨m, hm⟩ : ∃ m, m = p + m0 := ⟨_, rfl⟩
  have qm : IntKind.i64.wrap ((p : Int) + (m0 : Int)) = (m : Int) := by rw [IntKind.wrap_i64]; omega
  have hpm : p ≤ m := by omega
  have hmn : m ≤ n := by omega
  have hpn : p ≤ n := by omega
  have qp : IntKind.u64.wrap (p : Int) = (p : Int) := by rw [IntKind.wrap_u64]; omega
  have qn : IntKind.u64.wrap (n : Int) = (n : Int) := by rw [IntKind.wrap_u64]; omega
  have qm2 : IntKind.u64.wrap (m : Int) = (m : Int) := by rw [IntKind.wrap_u64]; omega
  clear hm hmle hple qs
  go_wp2_with fail
  refine (empty_any p W1).mono ?_
  rintro r W2 ⟨rfl, hb2⟩
  have B2 := hide (B1.out.trans (hb2.mono B1.out.size))
  have L2 := hide hb2
  clear hb2
  go_upto_region 6 with fail
  generalize hW3 : W2.alloc _ = W3
  obtain ⟨gr, hgr⟩ : ∃ g, g = W2.heap.size := ⟨_, rfl⟩
  have hb3 : Below W2.heap.size W2 W3 := by rw [← hW3]; exact (Below.refl _ _).alloc (Nat.le_refl _) _
  have RR : Hid (W3.heap[gr]? = some (.cells #[.int .u64 (p : Int), .int .u64 (p : Int), .slice none 0 0] 30 (0, 0))) := by rw [← hW3, hgr]; exact heap_alloc_new _ _
  rw [← hgr]
  have GR := hide (show W1.heap.size ≤ gr by rw [hgr]; exact L2.out.size)
  have BL := hide (L2.out.trans (hb3.mono L2.out.size))
  clear hW3 hgr hb3 B2 L2
  have O0 : Hid (C.ofs a l p p = []) := by show C.ofs a l p p = []; rw [C.ofs, C.blocks_none p p (by omega)]; rfl
  go_wp2_with fail
  go_loopg [13] (n - p) (fun gk s13 wr => ∃ (i vn vc : Nat) (vo : Option Addr), i + gk = n ∧ p ≤ i ∧ s13 = .int .i64 (i : Int) ∧ Hid (vn = (C.ofs a l p i).length) ∧ Hid (wr.heap[gr]? = some (.cells #[.int .u64 (p : Int), .int .u64 (i : Int), .slice vo vn vc] 30 (0, 0))) ∧ Hid (DgRow 0 wr (.slice vo vn vc) (C.ofs a l p i)) ∧ Hid (Below W1.heap.size W1 wr))
  case atStart => exact ⟨p, 0, 0, none, by omega, Nat.le_refl _, rfl, by rw [O0.out]; rfl, RR, by rw [O0.out]; exact DgRow.nil _ _, BL⟩
  case round =>
    clear RR BL O0
    obtain ⟨i, vn, vc, vo, hi, hpi, rfl, HVN, RR, HD, BL⟩ := hrel
    obtain ⟨c0, c1, c2⟩ := cells3 RR.out
    cases gk with
    | zero =>
      obtain rfl : i = n := by omega
      have qi : ¬ (i : Int) < (i : Int) := by omega
      clear hi c0 c1 c2
      have BW := hide (B1.out.trans (BL.out.mono B1.out.size))
      go_upto_region 13 with fail
      go_wp2_with fail
      refine (of_any a (.slice lo i lc) l p i wr (by omega) (by omega) (HV.out.below BL.out (Nat.le_refl _)) (by have := HLEN.out; omega) HF.out (HK.out.below BW.out h0)).mono ?_
      rintro r V1 ha
      rw [C.ofA_ofs a l p i (by omega) (by have := HLEN.out; omega)] at ha
      obtain ⟨oA, cA, rfl, hd, hb⟩ := ha.some
      obtain ⟨nA, hnA⟩ : ∃ n, n = (C.ofs a l p i).length := ⟨_, rfl⟩
      rw [← hnA] at hd ⊢
      have HNA := hide hnA
      have DA : Hid (DgRow 0 V1 (.slice oA nA cA) (C.ofs a l p i)) := hd
      replace RR : Hid (V1.heap[gr]? = some (.cells #[.int .u64 (p : Int), .int .u64 (i : Int), .slice vo vn vc] 30 (0, 0))) := (hb.block _ (block_lt_of_row RR.out)).trans RR.out
      replace HD : Hid (DgRow 0 V1 (.slice vo vn vc) (C.ofs a l p i)) := HD.out.below hb
      replace BW := hide (BW.out.trans (hb.mono BW.out.size))
      replace BL := hide (BL.out.trans (hb.mono BL.out.size))
      clear hd hb hnA
      go_upto_region 14 with fail
      generalize hA_ : V1.alloc _ = V2
      have hb : Below V1.heap.size V1 V2 := by rw [← hA_]; exact (Below.refl _ _).alloc (Nat.le_refl _) _
      obtain ⟨gA, hgA⟩ : ∃ g, g = V1.heap.size := ⟨_, rfl⟩
      have RA : Hid (V2.heap[gA]? = some (.cells #[.int .u64 (p : Int), .int .u64 (i : Int), .slice oA nA cA] 30 (0, 0))) := by rw [← hA_, hgA]; exact heap_alloc_new _ _
      rw [← hgA]
      replace RR : Hid (V2.heap[gr]? = some (.cells #[.int .u64 (p : Int), .int .u64 (i : Int), .slice vo vn vc] 30 (0, 0))) := (hb.block _ (block_lt_of_row RR.out)).trans RR.out
      replace HD : Hid (DgRow 0 V2 (.slice vo vn vc) (C.ofs a l p i)) := HD.out.below hb
      replace DA : Hid (DgRow 0 V2 (.slice oA nA cA) (C.ofs a l p i)) := DA.out.below hb
      replace BW := hide (BW.out.trans (hb.mono BW.out.size))
      replace BL := hide (BL.out.trans (hb.mono BL.out.size))
      clear hA_ hb hgA
      go_wp2_with fail
      refine (of_any a (.slice lo i lc) l p m V2 (by omega) (by omega) (HV.out.below BL.out (Nat.le_refl _)) (by have := HLEN.out; omega) HF.out (HK.out.below BW.out h0)).mono ?_
      rintro r V3 ha
      rw [C.ofA_ofs a l p m (by omega) (by have := HLEN.out; omega)] at ha
      obtain ⟨oB, cB, rfl, hd, hb⟩ := ha.some
      obtain ⟨nB, hnB⟩ : ∃ n, n = (C.ofs a l p m).length := ⟨_, rfl⟩
      rw [← hnB] at hd ⊢
      have HNB := hide hnB
      have DB : Hid (DgRow 0 V3 (.slice oB nB cB) (C.ofs a l p m)) := hd
      replace RR : Hid (V3.heap[gr]? = some (.cells #[.int .u64 (p : Int), .int .u64 (i : Int), .slice vo vn vc] 30 (0, 0))) := (hb.block _ (block_lt_of_row RR.out)).trans RR.out
      replace RA : Hid (V3.heap[gA]? = some (.cells #[.int .u64 (p : Int), .int .u64 (i : Int), .slice oA nA cA] 30 (0, 0))) := (hb.block _ (block_lt_of_row RA.out)).trans RA.out
      replace HD : Hid (DgRow 0 V3 (.slice vo vn vc) (C.ofs a l p i)) := HD.out.below hb
      replace DA : Hid (DgRow 0 V3 (.slice oA nA cA) (C.ofs a l p i)) := DA.out.below hb
      replace BW := hide (BW.out.trans (hb.mono BW.out.size))
      replace BL := hide (BL.out.trans (hb.mono BL.out.size))
      clear hd hb hnB
      go_upto_region 15 with fail
      generalize hA_ : V3.alloc _ = V4
      have hb : Below V3.heap.size V3 V4 := by rw [← hA_]; exact (Below.refl _ _).alloc (Nat.le_refl _) _
      obtain ⟨gB, hgB⟩ : ∃ g, g = V3.heap.size := ⟨_, rfl⟩
      have RB : Hid (V4.heap[gB]? = some (.cells #[.int .u64 (p : Int), .int .u64 (m : Int), .slice oB nB cB] 30 (0, 0))) := by rw [← hA_, hgB]; exact heap_alloc_new _ _
      rw [← hgB]
      replace RR : Hid (V4.heap[gr]? = some (.cells #[.int .u64 (p : Int), .int .u64 (i : Int), .slice vo vn vc] 30 (0, 0))) := (hb.block _ (block_lt_of_row RR.out)).trans RR.out
      replace RA : Hid (V4.heap[gA]? = some (.cells #[.int .u64 (p : Int), .int .u64 (i : Int), .slice oA nA cA] 30 (0, 0))) := (hb.block _ (block_lt_of_row RA.out)).trans RA.out
      replace HD : Hid (DgRow 0 V4 (.slice vo vn vc) (C.ofs a l p i)) := HD.out.below hb
      replace DA : Hid (DgRow 0 V4 (.slice oA nA cA) (C.ofs a l p i)) := DA.out.below hb
      replace DB : Hid (DgRow 0 V4 (.slice oB nB cB) (C.ofs a l p m)) := DB.out.below hb
      replace BW := hide (BW.out.trans (hb.mono BW.out.size))
      replace BL := hide (BL.out.trans (hb.mono BL.out.size))
      clear hA_ hb hgB
      go_wp2_with fail
      refine (of_any a (.slice lo i lc) l m i V4 (by omega) (by omega) (HV.out.below BL.out (Nat.le_refl _)) (by have := HLEN.out; omega) HF.out (HK.out.below BW.out h0)).mono ?_
      rintro r V5 ha
      rw [C.ofA_ofs a l m i (by omega) (by have := HLEN.out; omega)] at ha
      obtain ⟨oC, cC, rfl, hd, hb⟩ := ha.some
      obtain ⟨nC, hnC⟩ : ∃ n, n = (C.ofs a l m i).length := ⟨_, rfl⟩
      rw [← hnC] at hd ⊢
      have HNC := hide hnC
      have DC : Hid (DgRow 0 V5 (.slice oC nC cC) (C.ofs a l m i)) := hd
      replace RR : Hid (V5.heap[gr]? = some (.cells #[.int .u64 (p : Int), .int .u64 (i : Int), .slice vo vn vc] 30 (0, 0))) := (hb.block _ (block_lt_of_row RR.out)).trans RR.out
      replace RA : Hid (V5.heap[gA]? = some (.cells #[.int .u64 (p : Int), .int .u64 (i : Int), .slice oA nA cA] 30 (0, 0))) := (hb.block _ (block_lt_of_row RA.out)).trans RA.out
      replace RB : Hid (V5.heap[gB]? = some (.cells #[.int .u64 (p : Int), .int .u64 (m : Int), .slice oB nB cB] 30 (0, 0))) := (hb.block _ (block_lt_of_row RB.out)).trans RB.out
      replace HD : Hid (DgRow 0 V5 (.slice vo vn vc) (C.ofs a l p i)) := HD.out.below hb
      replace DA : Hid (DgRow 0 V5 (.slice oA nA cA) (C.ofs a l p i)) := DA.out.below hb
      replace DB : Hid (DgRow 0 V5 (.slice oB nB cB) (C.ofs a l p m)) := DB.out.below hb
      replace BW := hide (BW.out.trans (hb.mono BW.out.size))
      replace BL := hide (BL.out.trans (hb.mono BL.out.size))
      clear hd hb hnC
      go_upto_region 16 with fail
      generalize hA_ : V5.alloc _ = V6
      have hb : Below V5.heap.size V5 V6 := by rw [← hA_]; exact (Below.refl _ _).alloc (Nat.le_refl _) _
      obtain ⟨gC, hgC⟩ : ∃ g, g = V5.heap.size := ⟨_, rfl⟩
      have RC : Hid (V6.heap[gC]? = some (.cells #[.int .u64 (m : Int), .int .u64 (i : Int), .slice oC nC cC] 30 (0, 0))) := by rw [← hA_, hgC]; exact heap_alloc_new _ _
      rw [← hgC]
      replace RR : Hid (V6.heap[gr]? = some (.cells #[.int .u64 (p : Int), .int .u64 (i : Int), .slice vo vn vc] 30 (0, 0))) := (hb.block _ (block_lt_of_row RR.out)).trans RR.out
      replace RA : Hid (V6.heap[gA]? = some (.cells #[.int .u64 (p : Int), .int .u64 (i : Int), .slice oA nA cA] 30 (0, 0))) := (hb.block _ (block_lt_of_row RA.out)).trans RA.out
      replace RB : Hid (V6.heap[gB]? = some (.cells #[.int .u64 (p : Int), .int .u64 (m : Int), .slice oB nB cB] 30 (0, 0))) := (hb.block _ (block_lt_of_row RB.out)).trans RB.out
      replace HD : Hid (DgRow 0 V6 (.slice vo vn vc) (C.ofs a l p i)) := HD.out.below hb
      replace DA : Hid (DgRow 0 V6 (.slice oA nA cA) (C.ofs a l p i)) := DA.out.below hb
      replace DB : Hid (DgRow 0 V6 (.slice oB nB cB) (C.ofs a l p m)) := DB.out.below hb
      replace DC : Hid (DgRow 0 V6 (.slice oC nC cC) (C.ofs a l m i)) := DC.out.below hb
      replace BW := hide (BW.out.trans (hb.mono BW.out.size))
      replace BL := hide (BL.out.trans (hb.mono BL.out.size))
      clear hA_ hb hgC
      obtain ⟨x0, x1, x2⟩ := cells3 RB.out
      obtain ⟨y0, y1, y2⟩ := cells3 RC.out
      go_wp2_with fail
      refine (merge_any a p m m i (.slice oB nB cB) (.slice oC nC cC) (C.ofs a l p m) (C.ofs a l m i) V6 (by omega) (by omega) (by omega) (by omega) (DB.out.dgAt (by have := C.ofs_few a l p m; omega) (C.ofs_32 a l p m)) (DC.out.dgAt (by have := C.ofs_few a l m i; omega) (C.ofs_32 a l m i)) (HK.out.below BW.out h0)).mono ?_
      rintro r V7 ha
      rw [C.mergeA_ofs a l p m i (by omega) (by omega) (by have := HLEN.out; omega) (by have := HLEN.out; omega)] at ha
      obtain ⟨oM, cM, rfl, hd, hb⟩ := ha.some
      obtain ⟨nM, hnM⟩ : ∃ n, n = (C.ofs a l p i).length := ⟨_, rfl⟩
      rw [← hnM] at hd ⊢
      have HNM := hide hnM
      have DM : Hid (DgRow 0 V7 (.slice oM nM cM) (C.ofs a l p i)) := hd
      replace RR : Hid (V7.heap[gr]? = some (.cells #[.int .u64 (p : Int), .int .u64 (i : Int), .slice vo vn vc] 30 (0, 0))) := (hb.block _ (block_lt_of_row RR.out)).trans RR.out
      replace RA : Hid (V7.heap[gA]? = some (.cells #[.int .u64 (p : Int), .int .u64 (i : Int), .slice oA nA cA] 30 (0, 0))) := (hb.block _ (block_lt_of_row RA.out)).trans RA.out
      replace RB : Hid (V7.heap[gB]? = some (.cells #[.int .u64 (p : Int), .int .u64 (m : Int), .slice oB nB cB] 30 (0, 0))) := (hb.block _ (block_lt_of_row RB.out)).trans RB.out
      replace RC : Hid (V7.heap[gC]? = some (.cells #[.int .u64 (m : Int), .int .u64 (i : Int), .slice oC nC cC] 30 (0, 0))) := (hb.block _ (block_lt_of_row RC.out)).trans RC.out
      replace HD : Hid (DgRow 0 V7 (.slice vo vn vc) (C.ofs a l p i)) := HD.out.below hb
      replace DA : Hid (DgRow 0 V7 (.slice oA nA cA) (C.ofs a l p i)) := DA.out.below hb
      replace DB : Hid (DgRow 0 V7 (.slice oB nB cB) (C.ofs a l p m)) := DB.out.below hb
      replace DC : Hid (DgRow 0 V7 (.slice oC nC cC) (C.ofs a l m i)) := DC.out.below hb
      replace BW := hide (BW.out.trans (hb.mono BW.out.size))
      replace BL := hide (BL.out.trans (hb.mono BL.out.size))
      clear hd hb hnM
      go_upto_region 17 with fail
      generalize hA_ : V7.alloc _ = V8
      have hb : Below V7.heap.size V7 V8 := by rw [← hA_]; exact (Below.refl _ _).alloc (Nat.le_refl _) _
      obtain ⟨gM, hgM⟩ : ∃ g, g = V7.heap.size := ⟨_, rfl⟩
      have RM : Hid (V8.heap[gM]? = some (.cells #[.int .u64 (p : Int), .int .u64 (i : Int), .slice oM nM cM] 30 (0, 0))) := by rw [← hA_, hgM]; exact heap_alloc_new _ _
      rw [← hgM]
      replace RR : Hid (V8.heap[gr]? = some (.cells #[.int .u64 (p : Int), .int .u64 (i : Int), .slice vo vn vc] 30 (0, 0))) := (hb.block _ (block_lt_of_row RR.out)).trans RR.out
      replace RA : Hid (V8.heap[gA]? = some (.cells #[.int .u64 (p : Int), .int .u64 (i : Int), .slice oA nA cA] 30 (0, 0))) := (hb.block _ (block_lt_of_row RA.out)).trans RA.out
      replace RB : Hid (V8.heap[gB]? = some (.cells #[.int .u64 (p : Int), .int .u64 (m : Int), .slice oB nB cB] 30 (0, 0))) := (hb.block _ (block_lt_of_row RB.out)).trans RB.out
      replace RC : Hid (V8.heap[gC]? = some (.cells #[.int .u64 (m : Int), .int .u64 (i : Int), .slice oC nC cC] 30 (0, 0))) := (hb.block _ (block_lt_of_row RC.out)).trans RC.out
      replace HD : Hid (DgRow 0 V8 (.slice vo vn vc) (C.ofs a l p i)) := HD.out.below hb
      replace DA : Hid (DgRow 0 V8 (.slice oA nA cA) (C.ofs a l p i)) := DA.out.below hb
      replace DB : Hid (DgRow 0 V8 (.slice oB nB cB) (C.ofs a l p m)) := DB.out.below hb
      replace DC : Hid (DgRow 0 V8 (.slice oC nC cC) (C.ofs a l m i)) := DC.out.below hb
      replace DM : Hid (DgRow 0 V8 (.slice oM nM cM) (C.ofs a l p i)) := DM.out.below hb
      replace BW := hide (BW.out.trans (hb.mono BW.out.size))
      replace BL := hide (BL.out.trans (hb.mono BL.out.size))
      clear hA_ hb hgM
      clear x0 x1 x2 y0 y1 y2
      have AO := hide (HD.out.dgAt (by have := C.ofs_few a l p i; omega) (C.ofs_32 a l p i))
      have AA := hide (DA.out.dgAt (by have := C.ofs_few a l p i; omega) (C.ofs_32 a l p i))
      have AM := hide (DM.out.dgAt (by have := C.ofs_few a l p i; omega) (C.ofs_32 a l p i))
      have qA : IntKind.u64.wrap (nA : Int) = (nA : Int) := by have := HNA.out; have := C.ofs_few a l p i; rw [IntKind.wrap_u64]; omega
      have CAP := hide DA.out.le_cap
      refine wp_region_noPanic ?_
      refine wp_region_held_drew (S := (fun W => Chg (fun _ => False) V8 W)) follows ((Chg.refl _ _).drew) (fun hHeld => ?_)
      clear hHeld
      have hHeld : Chg (fun _ => False) V8 V8.drew := (Chg.refl _ _).drew
      have CZ0 := hide hHeld
      have RA' : Hid (V8.drew.heap[gA]? = some (.cells #[.int .u64 (p : Int), .int .u64 (i : Int), .slice oA nA cA] 30 (0, 0))) := RA.out
      generalize V8.drew = Z0 at CZ0 hHeld RA' ⊢
      refine wpAnyH_take (i := 0) (oi := { dst := some 101, op := Op.move (Operand.tmp 17), type := 24, pos := "law.go:93", after := #[], guard := none }) (v := ?_) rfl (by kernel_rfl) (by kernel_rfl) (by kernel_rfl) (fun _ _ _ h => h) (Or.inl ⟨by rfl, ?_⟩) (by assumption) ?_
      rotate_left
      · intro w hSw
        clear hSw
        go_simp
        all_goals with_reducible rfl
      simp only [Act.put, List.setIfInBounds_toArray, List.set_cons_zero, List.set_cons_succ]
      refine wpAnyH_take (i := 1) (oi := { dst := some 102, op := Op.binOp BinOp.neq 24 (Operand.tmp 101) (Operand.const (Value.int IntKind.i64 0)) 24, type := 4, pos := "law.go:93", after := #[{ on := 0, ground := Ground.data }], guard := none }) (v := ?_) rfl (by kernel_rfl) (by kernel_rfl) (by kernel_rfl) (fun _ _ _ h => h) (Or.inl ⟨by rfl, ?_⟩) (by assumption) ?_
      rotate_left
      · intro w hSw
        clear hSw
        go_simp
        all_goals with_reducible rfl
      simp only [Act.put, List.setIfInBounds_toArray, List.set_cons_zero, List.set_cons_succ]
      refine wpAnyH_take (i := 2) (oi := { dst := some 103, op := Op.move (Operand.tmp 102), type := 4, pos := "law.go:93", after := #[{ on := 1, ground := Ground.data }], guard := none }) (v := ?_) rfl (by kernel_rfl) (by kernel_rfl) (by kernel_rfl) (fun _ _ _ h => h) (Or.inl ⟨by rfl, ?_⟩) (by assumption) ?_
      rotate_left
      · intro w hSw
        clear hSw
        go_simp
        all_goals with_reducible rfl
      simp only [Act.put, List.setIfInBounds_toArray, List.set_cons_zero, List.set_cons_succ]
      refine wpAnyH_take (i := 3) (oi := { dst := some 104, op := Op.move (Operand.tmp 19), type := 24, pos := "law.go:93", after := #[{ on := 2, ground := Ground.guard }], guard := some (2, false) }) (v := ?_) rfl (by kernel_rfl) (by kernel_rfl) (by kernel_rfl) (fun _ _ _ h => h) (Or.inl ⟨by rfl, ?_⟩) (by assumption) ?_
      rotate_left
      · intro w hSw
        clear hSw
        go_simp
        all_goals with_reducible rfl
      simp only [Act.put, List.setIfInBounds_toArray, List.set_cons_zero, List.set_cons_succ]
      refine wpAnyH_take (i := 4) (oi := { dst := some 105, op := Op.binOp BinOp.neq 24 (Operand.tmp 104) (Operand.const (Value.int IntKind.i64 0)) 24, type := 4, pos := "law.go:93", after := #[{ on := 3, ground := Ground.data }, { on := 2, ground := Ground.guard }], guard := some (2, false) }) (v := ?_) rfl (by kernel_rfl) (by kernel_rfl) (by kernel_rfl) (fun _ _ _ h => h) (Or.inl ⟨by rfl, ?_⟩) (by assumption) ?_
      rotate_left
      · intro w hSw
        clear hSw
        go_simp
        all_goals with_reducible rfl
      simp only [Act.put, List.setIfInBounds_toArray, List.set_cons_zero, List.set_cons_succ]
      refine wpAnyH_take (i := 5) (oi := { dst := some 106, op := Op.pick (Operand.tmp 103) (Operand.const (Value.bool true)) (Operand.tmp 105), type := 4, pos := "law.go:93", after := #[{ on := 2, ground := Ground.data }, { on := 4, ground := Ground.data }], guard := none }) (v := ?_) rfl (by kernel_rfl) (by kernel_rfl) (by kernel_rfl) (fun _ _ _ h => h) (Or.inl ⟨by rfl, ?_⟩) (by assumption) ?_
      rotate_left
      · intro w hSw
        clear hSw
        go_simp
        all_goals with_reducible rfl
      simp only [Act.put, List.setIfInBounds_toArray, List.set_cons_zero, List.set_cons_succ]
      refine wpAnyH_take (i := 6) (oi := { dst := some 107, op := Op.move (Operand.tmp 106), type := 4, pos := "law.go:93", after := #[{ on := 5, ground := Ground.data }, { on := 2, ground := Ground.chain }], guard := none }) (v := ?_) rfl (by kernel_rfl) (by kernel_rfl) (by kernel_rfl) (fun _ _ _ h => h) (Or.inl ⟨by rfl, ?_⟩) (by assumption) ?_
      rotate_left
      · intro w hSw
        clear hSw
        go_simp
        all_goals with_reducible rfl
      simp only [Act.put, List.setIfInBounds_toArray, List.set_cons_zero, List.set_cons_succ]
      refine wpAnyH_take (i := 7) (oi := { dst := some 108, op := Op.move (Operand.tmp 21), type := 24, pos := "law.go:93", after := #[{ on := 6, ground := Ground.guard }], guard := some (6, false) }) (v := ?_) rfl (by kernel_rfl) (by kernel_rfl) (by kernel_rfl) (fun _ _ _ h => h) (Or.inl ⟨by rfl, ?_⟩) (by assumption) ?_
      rotate_left
      · intro w hSw
        clear hSw
        go_simp
        all_goals with_reducible rfl
      simp only [Act.put, List.setIfInBounds_toArray, List.set_cons_zero, List.set_cons_succ]
      refine wpAnyH_take (i := 8) (oi := { dst := some 109, op := Op.binOp BinOp.neq 24 (Operand.tmp 108) (Operand.const (Value.int IntKind.i64 0)) 24, type := 4, pos := "law.go:93", after := #[{ on := 7, ground := Ground.data }, { on := 6, ground := Ground.guard }], guard := some (6, false) }) (v := ?_) rfl (by kernel_rfl) (by kernel_rfl) (by kernel_rfl) (fun _ _ _ h => h) (Or.inl ⟨by rfl, ?_⟩) (by assumption) ?_
      rotate_left
      · intro w hSw
        clear hSw
        go_simp
        all_goals with_reducible rfl
      simp only [Act.put, List.setIfInBounds_toArray, List.set_cons_zero, List.set_cons_succ]
      refine wpAnyH_take (i := 9) (oi := { dst := some 110, op := Op.pick (Operand.tmp 107) (Operand.const (Value.bool true)) (Operand.tmp 109), type := 4, pos := "law.go:93", after := #[{ on := 6, ground := Ground.data }, { on := 8, ground := Ground.data }], guard := none }) (v := ?_) rfl (by kernel_rfl) (by kernel_rfl) (by kernel_rfl) (fun _ _ _ h => h) (Or.inl ⟨by rfl, ?_⟩) (by assumption) ?_
      rotate_left
      · intro w hSw
        clear hSw
        go_simp
        all_goals with_reducible rfl
      simp only [Act.put, List.setIfInBounds_toArray, List.set_cons_zero, List.set_cons_succ]
      refine wpAnyH_take (i := 10) (oi := { dst := some 111, op := Op.move (Operand.tmp 110), type := 4, pos := "law.go:93", after := #[{ on := 9, ground := Ground.data }, { on := 6, ground := Ground.chain }], guard := none }) (v := ?_) rfl (by kernel_rfl) (by kernel_rfl) (by kernel_rfl) (fun _ _ _ h => h) (Or.inl ⟨by rfl, ?_⟩) (by assumption) ?_
      rotate_left
      · intro w hSw
        clear hSw
        go_simp
        all_goals with_reducible rfl
      simp only [Act.put, List.setIfInBounds_toArray, List.set_cons_zero, List.set_cons_succ]
      refine wpAnyH_take (i := 11) (oi := { dst := some 112, op := Op.move (Operand.tmp 23), type := 24, pos := "law.go:93", after := #[{ on := 10, ground := Ground.guard }], guard := some (10, false) }) (v := ?_) rfl (by kernel_rfl) (by kernel_rfl) (by kernel_rfl) (fun _ _ _ h => h) (Or.inl ⟨by rfl, ?_⟩) (by assumption) ?_
      rotate_left
      · intro w hSw
        clear hSw
        go_simp
        all_goals with_reducible rfl
      simp only [Act.put, List.setIfInBounds_toArray, List.set_cons_zero, List.set_cons_succ]
      refine wpAnyH_take (i := 12) (oi := { dst := some 113, op := Op.binOp BinOp.neq 24 (Operand.tmp 112) (Operand.const (Value.int IntKind.i64 0)) 24, type := 4, pos := "law.go:93", after := #[{ on := 11, ground := Ground.data }, { on := 10, ground := Ground.guard }], guard := some (10, false) }) (v := ?_) rfl (by kernel_rfl) (by kernel_rfl) (by kernel_rfl) (fun _ _ _ h => h) (Or.inl ⟨by rfl, ?_⟩) (by assumption) ?_
      rotate_left
      · intro w hSw
        clear hSw
        go_simp
        all_goals with_reducible rfl
      simp only [Act.put, List.setIfInBounds_toArray, List.set_cons_zero, List.set_cons_succ]
      refine wpAnyH_take (i := 13) (oi := { dst := some 114, op := Op.pick (Operand.tmp 111) (Operand.const (Value.bool true)) (Operand.tmp 113), type := 4, pos := "law.go:93", after := #[{ on := 10, ground := Ground.data }, { on := 12, ground := Ground.data }], guard := none }) (v := ?_) rfl (by kernel_rfl) (by kernel_rfl) (by kernel_rfl) (fun _ _ _ h => h) (Or.inl ⟨by rfl, ?_⟩) (by assumption) ?_
      rotate_left
      · intro w hSw
        clear hSw
        go_simp
        all_goals with_reducible rfl
      simp only [Act.put, List.setIfInBounds_toArray, List.set_cons_zero, List.set_cons_succ]
      refine wpAnyH_take (i := 14) (oi := { dst := some 115, op := Op.move (Operand.tmp 114), type := 4, pos := "law.go:93", after := #[{ on := 13, ground := Ground.data }, { on := 10, ground := Ground.chain }], guard := none }) (v := ?_) rfl (by kernel_rfl) (by kernel_rfl) (by kernel_rfl) (fun _ _ _ h => h) (Or.inl ⟨by rfl, ?_⟩) (by assumption) ?_
      rotate_left
      · intro w hSw
        clear hSw
        go_simp
        all_goals with_reducible rfl
      simp only [Act.put, List.setIfInBounds_toArray, List.set_cons_zero, List.set_cons_succ]
      refine wpAnyH_take (i := 15) (oi := { dst := some 116, op := Op.load 30 (Operand.tmp 12), type := 30, pos := "law.go:93", after := #[{ on := 14, ground := Ground.guard }], guard := some (14, false) }) (v := ?_) rfl (by kernel_rfl) (by kernel_rfl) (by kernel_rfl) (fun _ _ _ h => h) (Or.inl ⟨by rfl, ?_⟩) (by assumption) ?_
      rotate_left
      · intro w hSw
        obtain ⟨e0, e1, e2⟩ := cells3 (hSw.row RR.out (fun e => e))
        clear hSw
        go_simp
        all_goals with_reducible rfl
      simp only [Act.put, List.setIfInBounds_toArray, List.set_cons_zero, List.set_cons_succ]
      refine wpAnyH_take (i := 16) (oi := { dst := some 117, op := Op.load 30 (Operand.tmp 16), type := 30, pos := "law.go:93", after := #[{ on := 14, ground := Ground.guard }], guard := some (14, false) }) (v := ?_) rfl (by kernel_rfl) (by kernel_rfl) (by kernel_rfl) (fun _ _ _ h => h) (Or.inl ⟨by rfl, ?_⟩) (by assumption) ?_
      rotate_left
      · intro w hSw
        obtain ⟨e0, e1, e2⟩ := cells3 (hSw.row RA.out (fun e => e))
        clear hSw
        go_simp
        all_goals with_reducible rfl
      simp only [Act.put, List.setIfInBounds_toArray, List.set_cons_zero, List.set_cons_succ]
      refine wpAnyH_ready (rs := [17]) (by kernel_rfl) (by simp) ?_
      refine AllReadyH.cons (o := { dst := some 118, op := Op.call { callee := Callee.value (Operand.func 21), args := #[Operand.tmp 117], argTypes := #[30] }, type := 37, pos := "law.go:93", after := #[{ on := 16, ground := Ground.data }, { on := 14, ground := Ground.chain }, { on := 14, ground := Ground.guard }], guard := some (14, false) }) rfl (fun K hK => ?_) AllReadyH.nil
      go_simp
      refine (plain_any p i oA nA cA Z0).mono ?_
      rintro e Z1 ⟨rfl, hb2⟩
      replace RA' : Hid (Z1.heap[gA]? = some (.cells #[.int .u64 (p : Int), .int .u64 (i : Int), .slice oA nA cA] 30 (0, 0))) := (hb2.block _ (block_lt_of_row RA'.out)).trans RA'.out
      have CZ1 : Hid (Chg (fun _ => False) V8 Z1) := CZ0.out.then hb2
      clear hb2 CZ0
      clear hHeld
      refine hK.out _ _ CZ1.out (fun hHeld => ?_)
      clear hK K
      try simp only [Act.put, List.setIfInBounds_toArray, List.set_cons_zero, List.set_cons_succ]
      refine wpAnyH_ready (rs := [18]) (by kernel_rfl) (by simp) ?_
      refine AllReadyH.cons (o := { dst := some 119, op := Op.call { callee := Callee.value (Operand.func 14), args := #[Operand.tmp 116, Operand.tmp 118], argTypes := #[30, 37] }, type := 4, pos := "law.go:93", after := #[{ on := 15, ground := Ground.data }, { on := 17, ground := Ground.data }, { on := 17, ground := Ground.chain }, { on := 14, ground := Ground.guard }], guard := some (14, false) }) rfl (fun K hK => ?_) AllReadyH.nil
      go_simp
      refine (same14_any p i (.slice vo vn vc) (.slice oA nA cA) (C.ofs a l p i) Z1 (AO.out.below (CZ1.out.below _ (Nat.le_refl _) (fun _ _ e => e))) (AA.out.below (CZ1.out.below _ (Nat.le_refl _) (fun _ _ e => e)))).mono ?_
      rintro e Z2 ⟨rfl, hb2⟩
      replace RA' : Hid (Z2.heap[gA]? = some (.cells #[.int .u64 (p : Int), .int .u64 (i : Int), .slice oA nA cA] 30 (0, 0))) := (hb2.block _ (block_lt_of_row RA'.out)).trans RA'.out
      have CZ2 : Hid (Chg (fun _ => False) V8 Z2) := CZ1.out.then hb2
      clear hb2 CZ1
      clear hHeld
      refine hK.out _ _ CZ2.out (fun hHeld => ?_)
      clear hK K
      try simp only [Act.put, List.setIfInBounds_toArray, List.set_cons_zero, List.set_cons_succ]
      refine wpAnyH_take (i := 19) (oi := { dst := some 120, op := Op.unOp UnOp.not 4 (Operand.tmp 119), type := 4, pos := "law.go:93", after := #[{ on := 18, ground := Ground.data }, { on := 14, ground := Ground.guard }], guard := some (14, false) }) (v := ?_) rfl (by kernel_rfl) (by kernel_rfl) (by kernel_rfl) (fun _ _ _ h => h) (Or.inl ⟨by rfl, ?_⟩) (by assumption) ?_
      rotate_left
      · intro w hSw
        clear hSw
        go_simp
        all_goals with_reducible rfl
      simp only [Act.put, List.setIfInBounds_toArray, List.set_cons_zero, List.set_cons_succ]
      refine wpAnyH_take (i := 20) (oi := { dst := some 121, op := Op.pick (Operand.tmp 115) (Operand.const (Value.bool true)) (Operand.tmp 120), type := 4, pos := "law.go:93", after := #[{ on := 14, ground := Ground.data }, { on := 19, ground := Ground.data }], guard := none }) (v := ?_) rfl (by kernel_rfl) (by kernel_rfl) (by kernel_rfl) (fun _ _ _ h => h) (Or.inl ⟨by rfl, ?_⟩) (by assumption) ?_
      rotate_left
      · intro w hSw
        clear hSw
        go_simp
        all_goals with_reducible rfl
      simp only [Act.put, List.setIfInBounds_toArray, List.set_cons_zero, List.set_cons_succ]
      refine wpAnyH_take (i := 21) (oi := { dst := some 122, op := Op.move (Operand.tmp 121), type := 4, pos := "law.go:93", after := #[{ on := 20, ground := Ground.data }, { on := 18, ground := Ground.chain }], guard := none }) (v := ?_) rfl (by kernel_rfl) (by kernel_rfl) (by kernel_rfl) (fun _ _ _ h => h) (Or.inl ⟨by rfl, ?_⟩) (by assumption) ?_
      rotate_left
      · intro w hSw
        clear hSw
        go_simp
        all_goals with_reducible rfl
      simp only [Act.put, List.setIfInBounds_toArray, List.set_cons_zero, List.set_cons_succ]
      refine wpAnyH_take (i := 22) (oi := { dst := some 123, op := Op.load 30 (Operand.tmp 22), type := 30, pos := "law.go:93", after := #[{ on := 21, ground := Ground.guard }], guard := some (21, false) }) (v := ?_) rfl (by kernel_rfl) (by kernel_rfl) (by kernel_rfl) (fun _ _ _ h => h) (Or.inl ⟨by rfl, ?_⟩) (by assumption) ?_
      rotate_left
      · intro w hSw
        obtain ⟨e0, e1, e2⟩ := cells3 (hSw.row RM.out (fun e => e))
        clear hSw
        go_simp
        all_goals with_reducible rfl
      simp only [Act.put, List.setIfInBounds_toArray, List.set_cons_zero, List.set_cons_succ]
      refine wpAnyH_take (i := 23) (oi := { dst := some 124, op := Op.load 30 (Operand.tmp 16), type := 30, pos := "law.go:93", after := #[{ on := 21, ground := Ground.guard }], guard := some (21, false) }) (v := ?_) rfl (by kernel_rfl) (by kernel_rfl) (by kernel_rfl) (fun _ _ _ h => h) (Or.inl ⟨by rfl, ?_⟩) (by assumption) ?_
      rotate_left
      · intro w hSw
        obtain ⟨e0, e1, e2⟩ := cells3 (hSw.row RA.out (fun e => e))
        clear hSw
        go_simp
        all_goals with_reducible rfl
      simp only [Act.put, List.setIfInBounds_toArray, List.set_cons_zero, List.set_cons_succ]
      refine wpAnyH_ready (rs := [24]) (by kernel_rfl) (by simp) ?_
      refine AllReadyH.cons (o := { dst := some 125, op := Op.call { callee := Callee.value (Operand.func 21), args := #[Operand.tmp 124], argTypes := #[30] }, type := 37, pos := "law.go:93", after := #[{ on := 23, ground := Ground.data }, { on := 21, ground := Ground.chain }, { on := 21, ground := Ground.guard }], guard := some (21, false) }) rfl (fun K hK => ?_) AllReadyH.nil
      go_simp
      refine (plain_any p i oA nA cA Z2).mono ?_
      rintro e Z3 ⟨rfl, hb2⟩
      replace RA' : Hid (Z3.heap[gA]? = some (.cells #[.int .u64 (p : Int), .int .u64 (i : Int), .slice oA nA cA] 30 (0, 0))) := (hb2.block _ (block_lt_of_row RA'.out)).trans RA'.out
      have CZ3 : Hid (Chg (fun _ => False) V8 Z3) := CZ2.out.then hb2
      clear hb2 CZ2
      clear hHeld
      refine hK.out _ _ CZ3.out (fun hHeld => ?_)
      clear hK K
      try simp only [Act.put, List.setIfInBounds_toArray, List.set_cons_zero, List.set_cons_succ]
      refine wpAnyH_ready (rs := [25]) (by kernel_rfl) (by simp) ?_
      refine AllReadyH.cons (o := { dst := some 126, op := Op.call { callee := Callee.value (Operand.func 14), args := #[Operand.tmp 123, Operand.tmp 125], argTypes := #[30, 37] }, type := 4, pos := "law.go:93", after := #[{ on := 22, ground := Ground.data }, { on := 24, ground := Ground.data }, { on := 24, ground := Ground.chain }, { on := 21, ground := Ground.guard }], guard := some (21, false) }) rfl (fun K hK => ?_) AllReadyH.nil
      go_simp
      refine (same14_any p i (.slice oM nM cM) (.slice oA nA cA) (C.ofs a l p i) Z3 (AM.out.below (CZ3.out.below _ (Nat.le_refl _) (fun _ _ e => e))) (AA.out.below (CZ3.out.below _ (Nat.le_refl _) (fun _ _ e => e)))).mono ?_
      rintro e Z4 ⟨rfl, hb2⟩
      replace RA' : Hid (Z4.heap[gA]? = some (.cells #[.int .u64 (p : Int), .int .u64 (i : Int), .slice oA nA cA] 30 (0, 0))) := (hb2.block _ (block_lt_of_row RA'.out)).trans RA'.out
      have CZ4 : Hid (Chg (fun _ => False) V8 Z4) := CZ3.out.then hb2
      clear hb2 CZ3
      clear hHeld
      refine hK.out _ _ CZ4.out (fun hHeld => ?_)
      clear hK K
      try simp only [Act.put, List.setIfInBounds_toArray, List.set_cons_zero, List.set_cons_succ]
      refine wpAnyH_take (i := 26) (oi := { dst := some 127, op := Op.unOp UnOp.not 4 (Operand.tmp 126), type := 4, pos := "law.go:93", after := #[{ on := 25, ground := Ground.data }, { on := 21, ground := Ground.guard }], guard := some (21, false) }) (v := ?_) rfl (by kernel_rfl) (by kernel_rfl) (by kernel_rfl) (fun _ _ _ h => h) (Or.inl ⟨by rfl, ?_⟩) (by assumption) ?_
      rotate_left
      · intro w hSw
        clear hSw
        go_simp
        all_goals with_reducible rfl
      simp only [Act.put, List.setIfInBounds_toArray, List.set_cons_zero, List.set_cons_succ]
      refine wpAnyH_take (i := 27) (oi := { dst := some 128, op := Op.pick (Operand.tmp 122) (Operand.const (Value.bool true)) (Operand.tmp 127), type := 4, pos := "law.go:93", after := #[{ on := 21, ground := Ground.data }, { on := 26, ground := Ground.data }], guard := none }) (v := ?_) rfl (by kernel_rfl) (by kernel_rfl) (by kernel_rfl) (fun _ _ _ h => h) (Or.inl ⟨by rfl, ?_⟩) (by assumption) ?_
      rotate_left
      · intro w hSw
        clear hSw
        go_simp
        all_goals with_reducible rfl
      simp only [Act.put, List.setIfInBounds_toArray, List.set_cons_zero, List.set_cons_succ]
      refine wpAnyH_take (i := 28) (oi := { dst := some 129, op := Op.move (Operand.tmp 128), type := 4, pos := "law.go:93", after := #[{ on := 27, ground := Ground.data }, { on := 25, ground := Ground.chain }], guard := none }) (v := ?_) rfl (by kernel_rfl) (by kernel_rfl) (by kernel_rfl) (fun _ _ _ h => h) (Or.inl ⟨by rfl, ?_⟩) (by assumption) ?_
      rotate_left
      · intro w hSw
        clear hSw
        go_simp
        all_goals with_reducible rfl
      simp only [Act.put, List.setIfInBounds_toArray, List.set_cons_zero, List.set_cons_succ]
      refine wpAnyH_take (i := 29) (oi := { dst := some 130, op := Op.fieldAddr 30 (Operand.tmp 16) 2, type := 0, pos := "law.go:93", after := #[{ on := 28, ground := Ground.guard }], guard := some (28, false) }) (v := ?_) rfl (by kernel_rfl) (by kernel_rfl) (by kernel_rfl) (fun _ _ _ h => h) (Or.inl ⟨by rfl, ?_⟩) (by assumption) ?_
      rotate_left
      · intro w hSw
        clear hSw
        go_simp
        all_goals with_reducible rfl
      simp only [Act.put, List.setIfInBounds_toArray, List.set_cons_zero, List.set_cons_succ]
      refine wpAnyH_take (i := 30) (oi := { dst := some 131, op := Op.load 28 (Operand.tmp 130), type := 28, pos := "law.go:93", after := #[{ on := 29, ground := Ground.data }, { on := 28, ground := Ground.guard }], guard := some (28, false) }) (v := ?_) rfl (by kernel_rfl) (by kernel_rfl) (by kernel_rfl) (fun _ _ _ h => h) (Or.inl ⟨by rfl, ?_⟩) (by assumption) ?_
      rotate_left
      · intro w hSw
        obtain ⟨e0, e1, e2⟩ := cells3 (hSw.row RA.out (fun e => e))
        clear hSw
        go_simp
        all_goals with_reducible rfl
      simp only [Act.put, List.setIfInBounds_toArray, List.set_cons_zero, List.set_cons_succ]
      refine wpAnyH_take (i := 31) (oi := { dst := some 132, op := Op.call { callee := Callee.builtin Builtin.len, args := #[Operand.tmp 131], argTypes := #[28] }, type := 3, pos := "law.go:93", after := #[{ on := 30, ground := Ground.data }, { on := 28, ground := Ground.guard }], guard := some (28, false) }) (v := ?_) rfl (by kernel_rfl) (by kernel_rfl) (by kernel_rfl) (fun _ _ _ h => h) (Or.inl ⟨by rfl, ?_⟩) (by assumption) ?_
      rotate_left
      · intro w hSw
        clear hSw
        go_simp
        all_goals with_reducible rfl
      simp only [Act.put, List.setIfInBounds_toArray, List.set_cons_zero, List.set_cons_succ]
      refine wpAnyH_take (i := 32) (oi := { dst := some 133, op := Op.convert 3 27 (Operand.tmp 132), type := 27, pos := "law.go:93", after := #[{ on := 31, ground := Ground.data }, { on := 28, ground := Ground.guard }], guard := some (28, false) }) (v := ?_) rfl (by kernel_rfl) (by kernel_rfl) (by kernel_rfl) (fun _ _ _ h => h) (Or.inl ⟨by rfl, ?_⟩) (by assumption) ?_
      rotate_left
      · intro w hSw
        clear hSw
        go_simp
        all_goals with_reducible rfl
      simp only [Act.put, List.setIfInBounds_toArray, List.set_cons_zero, List.set_cons_succ]
      refine wpAnyH_take (i := 33) (oi := { dst := some 134, op := Op.move (Operand.tmp 10), type := 3, pos := "law.go:93", after := #[{ on := 28, ground := Ground.guard }], guard := some (28, false) }) (v := ?_) rfl (by kernel_rfl) (by kernel_rfl) (by kernel_rfl) (fun _ _ _ h => h) (Or.inl ⟨by rfl, ?_⟩) (by assumption) ?_
      rotate_left
      · intro w hSw
        clear hSw
        go_simp
        all_goals with_reducible rfl
      simp only [Act.put, List.setIfInBounds_toArray, List.set_cons_zero, List.set_cons_succ]
      refine wpAnyH_take (i := 34) (oi := { dst := some 135, op := Op.convert 3 27 (Operand.tmp 134), type := 27, pos := "law.go:93", after := #[{ on := 33, ground := Ground.data }, { on := 28, ground := Ground.guard }], guard := some (28, false) }) (v := ?_) rfl (by kernel_rfl) (by kernel_rfl) (by kernel_rfl) (fun _ _ _ h => h) (Or.inl ⟨by rfl, ?_⟩) (by assumption) ?_
      rotate_left
      · intro w hSw
        clear hSw
        go_simp
        all_goals with_reducible rfl
      simp only [Act.put, List.setIfInBounds_toArray, List.set_cons_zero, List.set_cons_succ]
      refine wpAnyH_take (i := 35) (oi := { dst := some 136, op := Op.move (Operand.tmp 1), type := 3, pos := "law.go:93", after := #[{ on := 28, ground := Ground.guard }], guard := some (28, false) }) (v := ?_) rfl (by kernel_rfl) (by kernel_rfl) (by kernel_rfl) (fun _ _ _ h => h) (Or.inl ⟨by rfl, ?_⟩) (by assumption) ?_
      rotate_left
      · intro w hSw
        clear hSw
        go_simp
        all_goals with_reducible rfl
      simp only [Act.put, List.setIfInBounds_toArray, List.set_cons_zero, List.set_cons_succ]
      refine wpAnyH_take (i := 36) (oi := { dst := some 137, op := Op.convert 3 27 (Operand.tmp 136), type := 27, pos := "law.go:93", after := #[{ on := 35, ground := Ground.data }, { on := 28, ground := Ground.guard }], guard := some (28, false) }) (v := ?_) rfl (by kernel_rfl) (by kernel_rfl) (by kernel_rfl) (fun _ _ _ h => h) (Or.inl ⟨by rfl, ?_⟩) (by assumption) ?_
      rotate_left
      · intro w hSw
        clear hSw
        go_simp
        all_goals with_reducible rfl
      simp only [Act.put, List.setIfInBounds_toArray, List.set_cons_zero, List.set_cons_succ]
      refine wpAnyH_ready (rs := [37]) (by kernel_rfl) (by simp) ?_
      refine AllReadyH.cons (o := { dst := some 138, op := Op.call { callee := Callee.value (Operand.func 15), args := #[Operand.tmp 135, Operand.tmp 137], argTypes := #[27, 27] }, type := 38, pos := "law.go:93", after := #[{ on := 34, ground := Ground.data }, { on := 36, ground := Ground.data }, { on := 28, ground := Ground.chain }, { on := 28, ground := Ground.guard }], guard := some (28, false) }) rfl (fun K hK => ?_) AllReadyH.nil
      go_simp
      refine (blocks_any p i Z4 (by omega) (by omega)).mono ?_
      rintro e Z5 ⟨⟨vb, rfl, hv⟩, hb2⟩
      obtain ⟨bo, bc, rfl⟩ := hv.form
      clear hv
      rw [show (C.blocks p i).length = nA by rw [HNA.out, C.ofs_length]]
      replace RA' : Hid (Z5.heap[gA]? = some (.cells #[.int .u64 (p : Int), .int .u64 (i : Int), .slice oA nA cA] 30 (0, 0))) := (hb2.block _ (block_lt_of_row RA'.out)).trans RA'.out
      have CZ5 : Hid (Chg (fun _ => False) V8 Z5) := CZ4.out.then hb2
      clear hb2 CZ4
      clear hHeld
      refine hK.out _ _ CZ5.out (fun hHeld => ?_)
      clear hK K
      try simp only [Act.put, List.setIfInBounds_toArray, List.set_cons_zero, List.set_cons_succ]
      refine wpAnyH_take (i := 38) (oi := { dst := some 139, op := Op.call { callee := Callee.builtin Builtin.len, args := #[Operand.tmp 138], argTypes := #[38] }, type := 3, pos := "law.go:93", after := #[{ on := 37, ground := Ground.data }, { on := 28, ground := Ground.guard }], guard := some (28, false) }) (v := ?_) rfl (by kernel_rfl) (by kernel_rfl) (by kernel_rfl) (fun _ _ _ h => h) (Or.inl ⟨by rfl, ?_⟩) (by assumption) ?_
      rotate_left
      · intro w hSw
        clear hSw
        go_simp
        all_goals with_reducible rfl
      simp only [Act.put, List.setIfInBounds_toArray, List.set_cons_zero, List.set_cons_succ]
      refine wpAnyH_take (i := 39) (oi := { dst := some 140, op := Op.convert 3 27 (Operand.tmp 139), type := 27, pos := "law.go:93", after := #[{ on := 38, ground := Ground.data }, { on := 28, ground := Ground.guard }], guard := some (28, false) }) (v := ?_) rfl (by kernel_rfl) (by kernel_rfl) (by kernel_rfl) (fun _ _ _ h => h) (Or.inl ⟨by rfl, ?_⟩) (by assumption) ?_
      rotate_left
      · intro w hSw
        clear hSw
        go_simp
        all_goals with_reducible rfl
      simp only [Act.put, List.setIfInBounds_toArray, List.set_cons_zero, List.set_cons_succ]
      refine wpAnyH_take (i := 40) (oi := { dst := some 141, op := Op.binOp BinOp.neq 27 (Operand.tmp 133) (Operand.tmp 140) 27, type := 4, pos := "law.go:93", after := #[{ on := 32, ground := Ground.data }, { on := 39, ground := Ground.data }, { on := 28, ground := Ground.guard }], guard := some (28, false) }) (v := ?_) rfl (by kernel_rfl) (by kernel_rfl) (by kernel_rfl) (fun _ _ _ h => h) (Or.inl ⟨by rfl, ?_⟩) (by assumption) ?_
      rotate_left
      · intro w hSw
        clear hSw
        go_simp
        all_goals with_reducible rfl
      simp only [Act.put, List.setIfInBounds_toArray, List.set_cons_zero, List.set_cons_succ]
      refine wpAnyH_take (i := 41) (oi := { dst := some 142, op := Op.pick (Operand.tmp 129) (Operand.const (Value.bool true)) (Operand.tmp 141), type := 4, pos := "law.go:93", after := #[{ on := 28, ground := Ground.data }, { on := 40, ground := Ground.data }], guard := none }) (v := ?_) rfl (by kernel_rfl) (by kernel_rfl) (by kernel_rfl) (fun _ _ _ h => h) (Or.inl ⟨by rfl, ?_⟩) (by assumption) ?_
      rotate_left
      · intro w hSw
        clear hSw
        go_simp
        all_goals with_reducible rfl
      simp only [Act.put, List.setIfInBounds_toArray, List.set_cons_zero, List.set_cons_succ]
      refine wpAnyH_done (by kernel_rfl) ?_ _
      refine NoPanic.normal ?_
      clear hHeld
      have BX := hide (BW.out.trans (CZ5.out.below w.heap.size BW.out.size (fun k hk e => by omega)))
      have BXL := hide (BL.out.trans (CZ5.out.below W1.heap.size BL.out.size (fun _ _ e => e)))
      have DX := hide (AA.out.below (CZ5.out.below _ (Nat.le_refl _) (fun _ _ e => e)))
      generalize Z5 = X at BX BXL DX RA' ⊢
      clear CZ5
      obtain ⟨e0, e1, e2⟩ := cells3 RA'.out
      go_wp2_with fail
      refine (rootc_any a p i (.slice oA nA cA) (C.ofs a l p i) X (by omega) (by omega) DX.out CAP.out (HK.out.below BX.out h0)).mono ?_
      rintro r X1 ⟨rfl, hb1⟩
      have BX1 := hide (BX.out.trans (hb1.mono BX.out.size))
      have BXL1 := hide (BXL.out.trans (hb1.mono BXL.out.size))
      clear hb1 e0 e1 e2
      by_cases hp0 : p = 0
      · subst hp0
        rw [show C.rootA a 0 i (C.ofs a l 0 i) = (S.root a l, 0) by have h := C.rootA_all a l (by have := HLEN.out; omega); rw [HLEN.out] at h; exact h]
        obtain ⟨D, hD⟩ : ∃ D, D = S.root a l := ⟨_, rfl⟩
        have LD := hide (show D.length = 32 by rw [hD]; exact S.root_length _ _)
        rw [← hD]
        have HDD := hide hD
        clear hD
        obtain ⟨A_, Y, hal, hst, ry, by_, -⟩ := lay_dig X1 D LD.out
        obtain ⟨gd, hgd⟩ : ∃ g, g = X1.heap.size := ⟨_, rfl⟩
        rw [← hgd] at hal hst ry
        have RD := hide ry
        have BY := hide (BX1.out.trans (by_.mono BX1.out.size))
        have BYL := hide (BXL1.out.trans (by_.mono BXL1.out.size))
        clear hgd ry by_
        obtain ⟨VZ, hVZ⟩ : ∃ V, V = Value.agg (S.v8 D) := ⟨_, rfl⟩
        rw [← hVZ] at hst ⊢
        clear hVZ
        go_wp2_with (first | (with_reducible refine at_op { dst := some 24, op := Op.alloc 23, type := 0, pos := "law.go:96", after := #[], guard := none } ?_; refine wpList_alloc_known rfl 23 rfl (.pointer (some ⟨gd, 0, none⟩)) A_ hal ?_) | (with_reducible refine at_op { dst := none, op := Op.store 23 (Operand.tmp 24) (Operand.tmp 147), type := 0, pos := "law.go:96", after := #[{ on := 6, ground := Ground.data }, { on := 4, ground := Ground.data }, { on := 2, ground := Ground.chain }, { on := 0, ground := Ground.phase }, { on := 1, ground := Ground.phase }, { on := 2, ground := Ground.phase }, { on := 3, ground := Ground.phase }, { on := 4, ground := Ground.phase }, { on := 5, ground := Ground.textOnly Departure.lateStores }, { on := 6, ground := Ground.phase }], guard := none } ?_; refine wpList_store_as rfl 23 (.tmp 24) (.tmp 147) rfl (.pointer (some ⟨gd, 0, none⟩)) VZ rfl rfl Y hst ?_))
        clear hal hst
        have hszD := size_dig D LD.out
        have heq : ∀ w, (Op.equalIn 10000 23 (.agg (S.v8l D).toArray) (.agg (S.v8 D))).run Tryd.prog w = .ok true w := fun w => by rw [← S.v8_eq]; exact equal_dig D D LD.out LD.out true (by simp) w
        refine wp_region_noPanic ?_
        refine wp_region_held_drew (S := (fun W => Chg (fun _ => False) Y W)) follows ((Chg.refl _ _).drew) (fun hHeld => ?_)
        clear hHeld
        have hHeld : Chg (fun _ => False) Y Y.drew := (Chg.refl _ _).drew
        have CZ0 := hide hHeld
        generalize Y.drew = Z0 at CZ0 hHeld ⊢
        refine wpAnyH_take (i := 0) (oi := { dst := some 149, op := Op.move (Operand.tmp 10), type := 3, pos := "law.go:97", after := #[], guard := none }) (v := ?_) rfl (by kernel_rfl) (by kernel_rfl) (by kernel_rfl) (fun _ _ _ h => h) (Or.inl ⟨by rfl, ?_⟩) (by assumption) ?_
        rotate_left
        · intro w hSw
          clear hSw
          go_simp
          all_goals with_reducible rfl
        simp only [Act.put, List.setIfInBounds_toArray, List.set_cons_zero, List.set_cons_succ]
        refine wpAnyH_take (i := 1) (oi := { dst := some 150, op := Op.binOp BinOp.gtr 3 (Operand.tmp 149) (Operand.const (Value.int IntKind.i64 0)) 3, type := 4, pos := "law.go:97", after := #[{ on := 0, ground := Ground.data }], guard := none }) (v := ?_) rfl (by kernel_rfl) (by kernel_rfl) (by kernel_rfl) (fun _ _ _ h => h) (Or.inl ⟨by rfl, ?_⟩) (by assumption) ?_
        rotate_left
        · intro w hSw
          clear hSw
          go_simp
          all_goals with_reducible rfl
        simp only [Act.put, List.setIfInBounds_toArray, List.set_cons_zero, List.set_cons_succ]
        refine wpAnyH_take (i := 2) (oi := { dst := some 151, op := Op.move (Operand.tmp 150), type := 4, pos := "law.go:97", after := #[{ on := 1, ground := Ground.data }], guard := none }) (v := ?_) rfl (by kernel_rfl) (by kernel_rfl) (by kernel_rfl) (fun _ _ _ h => h) (Or.inl ⟨by rfl, ?_⟩) (by assumption) ?_
        rotate_left
        · intro w hSw
          clear hSw
          go_simp
          all_goals with_reducible rfl
        simp only [Act.put, List.setIfInBounds_toArray, List.set_cons_zero, List.set_cons_succ]
        refine wpAnyH_take (i := 3) (oi := { dst := some 152, op := Op.move (Operand.tmp 25), type := 24, pos := "law.go:97", after := #[{ on := 2, ground := Ground.guard }], guard := some (2, true) }) (v := undef) rfl (by kernel_rfl) (by kernel_rfl) (by kernel_rfl) (fun _ _ _ h => h) (Or.inr ⟨by rfl, rfl⟩) (by assumption) ?_
        simp only [Act.put, List.setIfInBounds_toArray, List.set_cons_zero, List.set_cons_succ]
        refine wpAnyH_take (i := 4) (oi := { dst := some 153, op := Op.binOp BinOp.eql 24 (Operand.tmp 152) (Operand.const (Value.int IntKind.i64 25)) 24, type := 4, pos := "law.go:97", after := #[{ on := 3, ground := Ground.data }, { on := 2, ground := Ground.guard }], guard := some (2, true) }) (v := undef) rfl (by kernel_rfl) (by kernel_rfl) (by kernel_rfl) (fun _ _ _ h => h) (Or.inr ⟨by rfl, rfl⟩) (by assumption) ?_
        simp only [Act.put, List.setIfInBounds_toArray, List.set_cons_zero, List.set_cons_succ]
        refine wpAnyH_take (i := 5) (oi := { dst := some 154, op := Op.pick (Operand.tmp 151) (Operand.tmp 153) (Operand.const (Value.bool false)), type := 4, pos := "law.go:97", after := #[{ on := 2, ground := Ground.data }, { on := 4, ground := Ground.data }], guard := none }) (v := ?_) rfl (by kernel_rfl) (by kernel_rfl) (by kernel_rfl) (fun _ _ _ h => h) (Or.inl ⟨by rfl, ?_⟩) (by assumption) ?_
        rotate_left
        · intro w hSw
          clear hSw
          go_simp
          all_goals with_reducible rfl
        simp only [Act.put, List.setIfInBounds_toArray, List.set_cons_zero, List.set_cons_succ]
        refine wpAnyH_take (i := 6) (oi := { dst := some 155, op := Op.move (Operand.tmp 154), type := 4, pos := "law.go:97", after := #[{ on := 5, ground := Ground.data }, { on := 2, ground := Ground.chain }], guard := none }) (v := ?_) rfl (by kernel_rfl) (by kernel_rfl) (by kernel_rfl) (fun _ _ _ h => h) (Or.inl ⟨by rfl, ?_⟩) (by assumption) ?_
        rotate_left
        · intro w hSw
          clear hSw
          go_simp
          all_goals with_reducible rfl
        simp only [Act.put, List.setIfInBounds_toArray, List.set_cons_zero, List.set_cons_succ]
        refine wpAnyH_take (i := 7) (oi := { dst := some 156, op := Op.move (Operand.tmp 10), type := 3, pos := "law.go:97", after := #[{ on := 6, ground := Ground.guard }], guard := some (6, false) }) (v := ?_) rfl (by kernel_rfl) (by kernel_rfl) (by kernel_rfl) (fun _ _ _ h => h) (Or.inl ⟨by rfl, ?_⟩) (by assumption) ?_
        rotate_left
        · intro w hSw
          clear hSw
          go_simp
          all_goals with_reducible rfl
        simp only [Act.put, List.setIfInBounds_toArray, List.set_cons_zero, List.set_cons_succ]
        refine wpAnyH_take (i := 8) (oi := { dst := some 157, op := Op.binOp BinOp.eql 3 (Operand.tmp 156) (Operand.const (Value.int IntKind.i64 0)) 3, type := 4, pos := "law.go:97", after := #[{ on := 7, ground := Ground.data }, { on := 6, ground := Ground.guard }], guard := some (6, false) }) (v := ?_) rfl (by kernel_rfl) (by kernel_rfl) (by kernel_rfl) (fun _ _ _ h => h) (Or.inl ⟨by rfl, ?_⟩) (by assumption) ?_
        rotate_left
        · intro w hSw
          clear hSw
          go_simp
          all_goals with_reducible rfl
        simp only [Act.put, List.setIfInBounds_toArray, List.set_cons_zero, List.set_cons_succ]
        refine wpAnyH_take (i := 9) (oi := { dst := some 158, op := Op.move (Operand.tmp 157), type := 4, pos := "law.go:97", after := #[{ on := 8, ground := Ground.data }, { on := 6, ground := Ground.chain }, { on := 6, ground := Ground.guard }], guard := some (6, false) }) (v := ?_) rfl (by kernel_rfl) (by kernel_rfl) (by kernel_rfl) (fun _ _ _ h => h) (Or.inl ⟨by rfl, ?_⟩) (by assumption) ?_
        rotate_left
        · intro w hSw
          clear hSw
          go_simp
          all_goals with_reducible rfl
        simp only [Act.put, List.setIfInBounds_toArray, List.set_cons_zero, List.set_cons_succ]
        refine wpAnyH_take (i := 10) (oi := { dst := some 159, op := Op.move (Operand.tmp 25), type := 24, pos := "law.go:97", after := #[{ on := 9, ground := Ground.guard }], guard := some (9, true) }) (v := ?_) rfl (by kernel_rfl) (by kernel_rfl) (by kernel_rfl) (fun _ _ _ h => h) (Or.inl ⟨by rfl, ?_⟩) (by assumption) ?_
        rotate_left
        · intro w hSw
          clear hSw
          go_simp
          all_goals with_reducible rfl
        simp only [Act.put, List.setIfInBounds_toArray, List.set_cons_zero, List.set_cons_succ]
        refine wpAnyH_take (i := 11) (oi := { dst := some 160, op := Op.binOp BinOp.eql 24 (Operand.tmp 159) (Operand.const (Value.int IntKind.i64 0)) 24, type := 4, pos := "law.go:97", after := #[{ on := 10, ground := Ground.data }, { on := 9, ground := Ground.guard }], guard := some (9, true) }) (v := ?_) rfl (by kernel_rfl) (by kernel_rfl) (by kernel_rfl) (fun _ _ _ h => h) (Or.inl ⟨by rfl, ?_⟩) (by assumption) ?_
        rotate_left
        · intro w hSw
          clear hSw
          go_simp
          all_goals with_reducible rfl
        simp only [Act.put, List.setIfInBounds_toArray, List.set_cons_zero, List.set_cons_succ]
        refine wpAnyH_take (i := 12) (oi := { dst := some 161, op := Op.pick (Operand.tmp 158) (Operand.tmp 160) (Operand.const (Value.bool false)), type := 4, pos := "law.go:97", after := #[{ on := 9, ground := Ground.data }, { on := 11, ground := Ground.data }, { on := 6, ground := Ground.guard }], guard := some (6, false) }) (v := ?_) rfl (by kernel_rfl) (by kernel_rfl) (by kernel_rfl) (fun _ _ _ h => h) (Or.inl ⟨by rfl, ?_⟩) (by assumption) ?_
        rotate_left
        · intro w hSw
          clear hSw
          go_simp
          all_goals with_reducible rfl
        simp only [Act.put, List.setIfInBounds_toArray, List.set_cons_zero, List.set_cons_succ]
        refine wpAnyH_take (i := 13) (oi := { dst := some 162, op := Op.move (Operand.tmp 161), type := 4, pos := "law.go:97", after := #[{ on := 12, ground := Ground.data }, { on := 9, ground := Ground.chain }, { on := 6, ground := Ground.guard }], guard := some (6, false) }) (v := ?_) rfl (by kernel_rfl) (by kernel_rfl) (by kernel_rfl) (fun _ _ _ h => h) (Or.inl ⟨by rfl, ?_⟩) (by assumption) ?_
        rotate_left
        · intro w hSw
          clear hSw
          go_simp
          all_goals with_reducible rfl
        simp only [Act.put, List.setIfInBounds_toArray, List.set_cons_zero, List.set_cons_succ]
        refine wpAnyH_take (i := 14) (oi := { dst := some 163, op := Op.load 23 (Operand.tmp 24), type := 23, pos := "law.go:97", after := #[{ on := 13, ground := Ground.guard }], guard := some (13, true) }) (v := .agg (S.v8l D).toArray) rfl (by kernel_rfl) (by kernel_rfl) (by kernel_rfl) (fun _ _ _ h => h) (yieldsIf_load_mid (by rfl) _ _ rfl gd 0 rfl (S.v8l D) _ (fun _ hSw => rangeAt_row (show _ = some (Obj.cells (S.v8l D).toArray 23 (0, 0)) by rw [← S.v8_eq]; exact hSw.row RD.out (fun e => e))) Tryd.underlying23 rfl (show _ = some (S.v8l D).toArray.size by rw [← S.v8_eq]; exact hszD)) (by assumption) ?_
        simp only [Act.put, List.setIfInBounds_toArray, List.set_cons_zero, List.set_cons_succ]
        refine wpAnyH_take (i := 15) (oi := { dst := some 164, op := Op.move (Operand.tmp 0), type := 3, pos := "law.go:97", after := #[{ on := 13, ground := Ground.guard }], guard := some (13, true) }) (v := ?_) rfl (by kernel_rfl) (by kernel_rfl) (by kernel_rfl) (fun _ _ _ h => h) (Or.inl ⟨by rfl, ?_⟩) (by assumption) ?_
        rotate_left
        · intro w hSw
          clear hSw
          go_simp
          all_goals with_reducible rfl
        simp only [Act.put, List.setIfInBounds_toArray, List.set_cons_zero, List.set_cons_succ]
        refine wpAnyH_take (i := 16) (oi := { dst := some 165, op := Op.move (Operand.tmp 9), type := 53, pos := "law.go:97", after := #[{ on := 13, ground := Ground.guard }], guard := some (13, true) }) (v := ?_) rfl (by kernel_rfl) (by kernel_rfl) (by kernel_rfl) (fun _ _ _ h => h) (Or.inl ⟨by rfl, ?_⟩) (by assumption) ?_
        rotate_left
        · intro w hSw
          clear hSw
          go_simp
          all_goals with_reducible rfl
        simp only [Act.put, List.setIfInBounds_toArray, List.set_cons_zero, List.set_cons_succ]
        refine wpAnyH_ready (rs := [17]) (by kernel_rfl) (by simp) ?_
        refine AllReadyH.cons (o := { dst := some 166, op := Op.call { callee := Callee.value (Operand.func 31), args := #[Operand.tmp 164, Operand.tmp 165], argTypes := #[3, 53] }, type := 23, pos := "law.go:97", after := #[{ on := 15, ground := Ground.data }, { on := 16, ground := Ground.data }, { on := 13, ground := Ground.chain }, { on := 13, ground := Ground.guard }], guard := some (13, true) }) rfl (fun K hK => ?_) AllReadyH.nil
        go_simp
        refine (root_any a (.slice lo i lc) l Z0 (HV.out.below (BYL.out.trans (CZ0.out.below W1.heap.size BYL.out.size (fun _ _ e => e))) (Nat.le_refl _)) (by have := HLEN.out; omega) HF.out (HK.out.below (BY.out.trans (CZ0.out.below w.heap.size BY.out.size (fun k hk e => by omega))) h0)).mono ?_
        rintro e Z1 ⟨rfl, hb2⟩
        rw [← HDD.out]
        have CZ1 : Hid (Chg (fun _ => False) Y Z1) := CZ0.out.then hb2
        clear hb2 CZ0
        clear hHeld
        refine hK.out _ _ CZ1.out (fun hHeld => ?_)
        clear hK K
        try simp only [Act.put, List.setIfInBounds_toArray, List.set_cons_zero, List.set_cons_succ]
        refine wpAnyH_take (i := 18) (oi := { dst := some 167, op := Op.binOp BinOp.eql 23 (Operand.tmp 163) (Operand.tmp 166) 23, type := 4, pos := "law.go:97", after := #[{ on := 14, ground := Ground.data }, { on := 17, ground := Ground.data }, { on := 13, ground := Ground.guard }], guard := some (13, true) }) (v := ?_) rfl (by kernel_rfl) (by kernel_rfl) (by kernel_rfl) (fun _ _ _ h => h) (Or.inl ⟨by rfl, ?_⟩) (by assumption) ?_
        rotate_left
        · intro w hSw
          clear hSw
          go_simp
          all_goals with_reducible rfl
        simp only [Act.put, List.setIfInBounds_toArray, List.set_cons_zero, List.set_cons_succ]
        refine wpAnyH_take (i := 19) (oi := { dst := some 168, op := Op.pick (Operand.tmp 162) (Operand.tmp 167) (Operand.const (Value.bool false)), type := 4, pos := "law.go:97", after := #[{ on := 13, ground := Ground.data }, { on := 18, ground := Ground.data }, { on := 6, ground := Ground.guard }], guard := some (6, false) }) (v := ?_) rfl (by kernel_rfl) (by kernel_rfl) (by kernel_rfl) (fun _ _ _ h => h) (Or.inl ⟨by rfl, ?_⟩) (by assumption) ?_
        rotate_left
        · intro w hSw
          clear hSw
          go_simp
          all_goals with_reducible rfl
        simp only [Act.put, List.setIfInBounds_toArray, List.set_cons_zero, List.set_cons_succ]
        refine wpAnyH_take (i := 20) (oi := { dst := some 169, op := Op.pick (Operand.tmp 155) (Operand.const (Value.bool true)) (Operand.tmp 168), type := 4, pos := "law.go:97", after := #[{ on := 6, ground := Ground.data }, { on := 19, ground := Ground.data }], guard := none }) (v := ?_) rfl (by kernel_rfl) (by kernel_rfl) (by kernel_rfl) (fun _ _ _ h => h) (Or.inl ⟨by rfl, ?_⟩) (by assumption) ?_
        rotate_left
        · intro w hSw
          clear hSw
          go_simp
          all_goals with_reducible rfl
        simp only [Act.put, List.setIfInBounds_toArray, List.set_cons_zero, List.set_cons_succ]
        refine wpAnyH_take (i := 21) (oi := { dst := some 170, op := Op.move (Operand.tmp 169), type := 4, pos := "law.go:97", after := #[{ on := 20, ground := Ground.data }, { on := 17, ground := Ground.chain }], guard := none }) (v := ?_) rfl (by kernel_rfl) (by kernel_rfl) (by kernel_rfl) (fun _ _ _ h => h) (Or.inl ⟨by rfl, ?_⟩) (by assumption) ?_
        rotate_left
        · intro w hSw
          clear hSw
          go_simp
          all_goals with_reducible rfl
        simp only [Act.put, List.setIfInBounds_toArray, List.set_cons_zero, List.set_cons_succ]
        refine wpAnyH_ready (rs := [22]) (by kernel_rfl) (by simp) ?_
        refine AllReadyH.cons (o := { dst := some 171, op := Op.call { callee := Callee.value (Operand.func 17), args := #[], argTypes := #[] }, type := 4, pos := "law.go:97", after := #[{ on := 21, ground := Ground.chain }, { on := 21, ground := Ground.guard }], guard := some (21, true) }) rfl (fun K hK => ?_) AllReadyH.nil
        go_simp
        refine (known10_any Z1 (HK.out.below (BY.out.trans (CZ1.out.below w.heap.size BY.out.size (fun k hk e => by omega))) h0)).mono ?_
        rintro e Z2 ⟨rfl, hb2⟩
        have CZ2 : Hid (Chg (fun _ => False) Y Z2) := CZ1.out.then hb2
        clear hb2 CZ1
        clear hHeld
        refine hK.out _ _ CZ2.out (fun hHeld => ?_)
        clear hK K
        try simp only [Act.put, List.setIfInBounds_toArray, List.set_cons_zero, List.set_cons_succ]
        refine wpAnyH_take (i := 23) (oi := { dst := some 172, op := Op.pick (Operand.tmp 170) (Operand.tmp 171) (Operand.const (Value.bool false)), type := 4, pos := "law.go:97", after := #[{ on := 21, ground := Ground.data }, { on := 22, ground := Ground.data }], guard := none }) (v := ?_) rfl (by kernel_rfl) (by kernel_rfl) (by kernel_rfl) (fun _ _ _ h => h) (Or.inl ⟨by rfl, ?_⟩) (by assumption) ?_
        rotate_left
        · intro w hSw
          clear hSw
          go_simp
          all_goals with_reducible rfl
        simp only [Act.put, List.setIfInBounds_toArray, List.set_cons_zero, List.set_cons_succ]
        refine wpAnyH_take (i := 24) (oi := { dst := some 8, op := Op.assign (Operand.tmp 172), type := 4, pos := "law.go:97", after := #[{ on := 23, ground := Ground.data }, { on := 22, ground := Ground.chain }, { on := 0, ground := Ground.phase }, { on := 1, ground := Ground.phase }, { on := 2, ground := Ground.phase }, { on := 3, ground := Ground.phase }, { on := 4, ground := Ground.phase }, { on := 5, ground := Ground.phase }, { on := 6, ground := Ground.phase }, { on := 7, ground := Ground.phase }, { on := 8, ground := Ground.phase }, { on := 9, ground := Ground.phase }, { on := 10, ground := Ground.phase }, { on := 11, ground := Ground.phase }, { on := 12, ground := Ground.phase }, { on := 13, ground := Ground.phase }, { on := 14, ground := Ground.phase }, { on := 15, ground := Ground.phase }, { on := 16, ground := Ground.phase }, { on := 17, ground := Ground.phase }, { on := 18, ground := Ground.phase }, { on := 19, ground := Ground.phase }, { on := 20, ground := Ground.phase }, { on := 21, ground := Ground.phase }, { on := 22, ground := Ground.phase }, { on := 23, ground := Ground.phase }], guard := none }) (v := ?_) rfl (by kernel_rfl) (by kernel_rfl) (by kernel_rfl) (fun _ _ _ h => h) (Or.inl ⟨by rfl, ?_⟩) (by assumption) ?_
        rotate_left
        · intro w hSw
          clear hSw
          go_simp
          all_goals with_reducible rfl
        simp only [Act.put, List.setIfInBounds_toArray, List.set_cons_zero, List.set_cons_succ]
        refine wpAnyH_done (by kernel_rfl) ?_ _
        refine NoPanic.normal ?_
        clear hHeld
        have BF := hide (BY.out.trans (CZ2.out.below w.heap.size BY.out.size (fun k hk e => by omega)))
        go_wp2_with fail
        go_ret
        exact ⟨rfl, BF.out⟩
      · have qp0 : (0 : Int) < (p : Int) := by omega
        have qp1 : (p : Int) > 0 := by omega
        have qp2 : 0 < p := by omega
        have qp3 : ¬ (p : Int) = 0 := by omega
        rw [C.rootA_ofs a l p i (by omega) (by omega) (by omega)]
        obtain ⟨A_, Y, hal, hst, ry, by_, -⟩ := lay_dig X1 (S.zeros 32) (S.zeros_length 32)
        obtain ⟨gd, hgd⟩ : ∃ g, g = X1.heap.size := ⟨_, rfl⟩
        rw [← hgd] at hal hst ry
        have RD := hide ry
        have BY := hide (BX1.out.trans (by_.mono BX1.out.size))
        have BYL := hide (BXL1.out.trans (by_.mono BXL1.out.size))
        clear hgd ry by_
        obtain ⟨VZ, hVZ⟩ : ∃ V, V = Value.agg (S.v8 (S.zeros 32)) := ⟨_, rfl⟩
        rw [← hVZ] at hst ⊢
        clear hVZ
        go_wp2_with (first | (with_reducible refine at_op { dst := some 24, op := Op.alloc 23, type := 0, pos := "law.go:96", after := #[], guard := none } ?_; refine wpList_alloc_known rfl 23 rfl (.pointer (some ⟨gd, 0, none⟩)) A_ hal ?_) | (with_reducible refine at_op { dst := none, op := Op.store 23 (Operand.tmp 24) (Operand.tmp 147), type := 0, pos := "law.go:96", after := #[{ on := 6, ground := Ground.data }, { on := 4, ground := Ground.data }, { on := 2, ground := Ground.chain }, { on := 0, ground := Ground.phase }, { on := 1, ground := Ground.phase }, { on := 2, ground := Ground.phase }, { on := 3, ground := Ground.phase }, { on := 4, ground := Ground.phase }, { on := 5, ground := Ground.textOnly Departure.lateStores }, { on := 6, ground := Ground.phase }], guard := none } ?_; refine wpList_store_as rfl 23 (.tmp 24) (.tmp 147) rfl (.pointer (some ⟨gd, 0, none⟩)) VZ rfl rfl Y hst ?_))
        clear hal hst
        refine wp_region_noPanic ?_
        refine wp_region_held_drew (S := (fun W => Chg (fun _ => False) Y W)) follows ((Chg.refl _ _).drew) (fun hHeld => ?_)
        clear hHeld
        have hHeld : Chg (fun _ => False) Y Y.drew := (Chg.refl _ _).drew
        have CZ0 := hide hHeld
        generalize Y.drew = Z0 at CZ0 hHeld ⊢
        refine wpAnyH_take (i := 0) (oi := { dst := some 149, op := Op.move (Operand.tmp 10), type := 3, pos := "law.go:97", after := #[], guard := none }) (v := ?_) rfl (by kernel_rfl) (by kernel_rfl) (by kernel_rfl) (fun _ _ _ h => h) (Or.inl ⟨by rfl, ?_⟩) (by assumption) ?_
        rotate_left
        · intro w hSw
          clear hSw
          go_simp
          all_goals with_reducible rfl
        simp only [Act.put, List.setIfInBounds_toArray, List.set_cons_zero, List.set_cons_succ]
        refine wpAnyH_take (i := 1) (oi := { dst := some 150, op := Op.binOp BinOp.gtr 3 (Operand.tmp 149) (Operand.const (Value.int IntKind.i64 0)) 3, type := 4, pos := "law.go:97", after := #[{ on := 0, ground := Ground.data }], guard := none }) (v := ?_) rfl (by kernel_rfl) (by kernel_rfl) (by kernel_rfl) (fun _ _ _ h => h) (Or.inl ⟨by rfl, ?_⟩) (by assumption) ?_
        rotate_left
        · intro w hSw
          clear hSw
          go_simp
          all_goals with_reducible rfl
        simp only [Act.put, List.setIfInBounds_toArray, List.set_cons_zero, List.set_cons_succ]
        refine wpAnyH_take (i := 2) (oi := { dst := some 151, op := Op.move (Operand.tmp 150), type := 4, pos := "law.go:97", after := #[{ on := 1, ground := Ground.data }], guard := none }) (v := ?_) rfl (by kernel_rfl) (by kernel_rfl) (by kernel_rfl) (fun _ _ _ h => h) (Or.inl ⟨by rfl, ?_⟩) (by assumption) ?_
        rotate_left
        · intro w hSw
          clear hSw
          go_simp
          all_goals with_reducible rfl
        simp only [Act.put, List.setIfInBounds_toArray, List.set_cons_zero, List.set_cons_succ]
        refine wpAnyH_take (i := 3) (oi := { dst := some 152, op := Op.move (Operand.tmp 25), type := 24, pos := "law.go:97", after := #[{ on := 2, ground := Ground.guard }], guard := some (2, true) }) (v := ?_) rfl (by kernel_rfl) (by kernel_rfl) (by kernel_rfl) (fun _ _ _ h => h) (Or.inl ⟨by rfl, ?_⟩) (by assumption) ?_
        rotate_left
        · intro w hSw
          clear hSw
          go_simp
          all_goals with_reducible rfl
        simp only [Act.put, List.setIfInBounds_toArray, List.set_cons_zero, List.set_cons_succ]
        refine wpAnyH_take (i := 4) (oi := { dst := some 153, op := Op.binOp BinOp.eql 24 (Operand.tmp 152) (Operand.const (Value.int IntKind.i64 25)) 24, type := 4, pos := "law.go:97", after := #[{ on := 3, ground := Ground.data }, { on := 2, ground := Ground.guard }], guard := some (2, true) }) (v := ?_) rfl (by kernel_rfl) (by kernel_rfl) (by kernel_rfl) (fun _ _ _ h => h) (Or.inl ⟨by rfl, ?_⟩) (by assumption) ?_
        rotate_left
        · intro w hSw
          clear hSw
          go_simp
          all_goals with_reducible rfl
        simp only [Act.put, List.setIfInBounds_toArray, List.set_cons_zero, List.set_cons_succ]
        refine wpAnyH_take (i := 5) (oi := { dst := some 154, op := Op.pick (Operand.tmp 151) (Operand.tmp 153) (Operand.const (Value.bool false)), type := 4, pos := "law.go:97", after := #[{ on := 2, ground := Ground.data }, { on := 4, ground := Ground.data }], guard := none }) (v := ?_) rfl (by kernel_rfl) (by kernel_rfl) (by kernel_rfl) (fun _ _ _ h => h) (Or.inl ⟨by rfl, ?_⟩) (by assumption) ?_
        rotate_left
        · intro w hSw
          clear hSw
          go_simp
          all_goals with_reducible rfl
        simp only [Act.put, List.setIfInBounds_toArray, List.set_cons_zero, List.set_cons_succ]
        refine wpAnyH_take (i := 6) (oi := { dst := some 155, op := Op.move (Operand.tmp 154), type := 4, pos := "law.go:97", after := #[{ on := 5, ground := Ground.data }, { on := 2, ground := Ground.chain }], guard := none }) (v := ?_) rfl (by kernel_rfl) (by kernel_rfl) (by kernel_rfl) (fun _ _ _ h => h) (Or.inl ⟨by rfl, ?_⟩) (by assumption) ?_
        rotate_left
        · intro w hSw
          clear hSw
          go_simp
          all_goals with_reducible rfl
        simp only [Act.put, List.setIfInBounds_toArray, List.set_cons_zero, List.set_cons_succ]
        refine wpAnyH_take (i := 7) (oi := { dst := some 156, op := Op.move (Operand.tmp 10), type := 3, pos := "law.go:97", after := #[{ on := 6, ground := Ground.guard }], guard := some (6, false) }) (v := undef) rfl (by kernel_rfl) (by kernel_rfl) (by kernel_rfl) (fun _ _ _ h => h) (Or.inr ⟨by rfl, rfl⟩) (by assumption) ?_
        simp only [Act.put, List.setIfInBounds_toArray, List.set_cons_zero, List.set_cons_succ]
        refine wpAnyH_take (i := 8) (oi := { dst := some 157, op := Op.binOp BinOp.eql 3 (Operand.tmp 156) (Operand.const (Value.int IntKind.i64 0)) 3, type := 4, pos := "law.go:97", after := #[{ on := 7, ground := Ground.data }, { on := 6, ground := Ground.guard }], guard := some (6, false) }) (v := undef) rfl (by kernel_rfl) (by kernel_rfl) (by kernel_rfl) (fun _ _ _ h => h) (Or.inr ⟨by rfl, rfl⟩) (by assumption) ?_
        simp only [Act.put, List.setIfInBounds_toArray, List.set_cons_zero, List.set_cons_succ]
        refine wpAnyH_take (i := 9) (oi := { dst := some 158, op := Op.move (Operand.tmp 157), type := 4, pos := "law.go:97", after := #[{ on := 8, ground := Ground.data }, { on := 6, ground := Ground.chain }, { on := 6, ground := Ground.guard }], guard := some (6, false) }) (v := undef) rfl (by kernel_rfl) (by kernel_rfl) (by kernel_rfl) (fun _ _ _ h => h) (Or.inr ⟨by rfl, rfl⟩) (by assumption) ?_
        simp only [Act.put, List.setIfInBounds_toArray, List.set_cons_zero, List.set_cons_succ]
        refine wpAnyH_take (i := 10) (oi := { dst := some 159, op := Op.move (Operand.tmp 25), type := 24, pos := "law.go:97", after := #[{ on := 9, ground := Ground.guard }], guard := some (9, true) }) (v := undef) rfl (by kernel_rfl) (by kernel_rfl) (by kernel_rfl) (fun _ _ _ h => h) (Or.inr ⟨by rfl, rfl⟩) (by assumption) ?_
        simp only [Act.put, List.setIfInBounds_toArray, List.set_cons_zero, List.set_cons_succ]
        refine wpAnyH_take (i := 11) (oi := { dst := some 160, op := Op.binOp BinOp.eql 24 (Operand.tmp 159) (Operand.const (Value.int IntKind.i64 0)) 24, type := 4, pos := "law.go:97", after := #[{ on := 10, ground := Ground.data }, { on := 9, ground := Ground.guard }], guard := some (9, true) }) (v := undef) rfl (by kernel_rfl) (by kernel_rfl) (by kernel_rfl) (fun _ _ _ h => h) (Or.inr ⟨by rfl, rfl⟩) (by assumption) ?_
        simp only [Act.put, List.setIfInBounds_toArray, List.set_cons_zero, List.set_cons_succ]
        refine wpAnyH_take (i := 12) (oi := { dst := some 161, op := Op.pick (Operand.tmp 158) (Operand.tmp 160) (Operand.const (Value.bool false)), type := 4, pos := "law.go:97", after := #[{ on := 9, ground := Ground.data }, { on := 11, ground := Ground.data }, { on := 6, ground := Ground.guard }], guard := some (6, false) }) (v := undef) rfl (by kernel_rfl) (by kernel_rfl) (by kernel_rfl) (fun _ _ _ h => h) (Or.inr ⟨by rfl, rfl⟩) (by assumption) ?_
        simp only [Act.put, List.setIfInBounds_toArray, List.set_cons_zero, List.set_cons_succ]
        refine wpAnyH_take (i := 13) (oi := { dst := some 162, op := Op.move (Operand.tmp 161), type := 4, pos := "law.go:97", after := #[{ on := 12, ground := Ground.data }, { on := 9, ground := Ground.chain }, { on := 6, ground := Ground.guard }], guard := some (6, false) }) (v := undef) rfl (by kernel_rfl) (by kernel_rfl) (by kernel_rfl) (fun _ _ _ h => h) (Or.inr ⟨by rfl, rfl⟩) (by assumption) ?_
        simp only [Act.put, List.setIfInBounds_toArray, List.set_cons_zero, List.set_cons_succ]
        refine wpAnyH_take (i := 14) (oi := { dst := some 163, op := Op.load 23 (Operand.tmp 24), type := 23, pos := "law.go:97", after := #[{ on := 13, ground := Ground.guard }], guard := some (13, true) }) (v := undef) rfl (by kernel_rfl) (by kernel_rfl) (by kernel_rfl) (fun _ _ _ h => h) (Or.inr ⟨by rfl, rfl⟩) (by assumption) ?_
        simp only [Act.put, List.setIfInBounds_toArray, List.set_cons_zero, List.set_cons_succ]
        refine wpAnyH_take (i := 15) (oi := { dst := some 164, op := Op.move (Operand.tmp 0), type := 3, pos := "law.go:97", after := #[{ on := 13, ground := Ground.guard }], guard := some (13, true) }) (v := undef) rfl (by kernel_rfl) (by kernel_rfl) (by kernel_rfl) (fun _ _ _ h => h) (Or.inr ⟨by rfl, rfl⟩) (by assumption) ?_
        simp only [Act.put, List.setIfInBounds_toArray, List.set_cons_zero, List.set_cons_succ]
        refine wpAnyH_take (i := 16) (oi := { dst := some 165, op := Op.move (Operand.tmp 9), type := 53, pos := "law.go:97", after := #[{ on := 13, ground := Ground.guard }], guard := some (13, true) }) (v := undef) rfl (by kernel_rfl) (by kernel_rfl) (by kernel_rfl) (fun _ _ _ h => h) (Or.inr ⟨by rfl, rfl⟩) (by assumption) ?_
        simp only [Act.put, List.setIfInBounds_toArray, List.set_cons_zero, List.set_cons_succ]
        refine wpAnyH_take (i := 17) (oi := { dst := some 166, op := Op.call { callee := Callee.value (Operand.func 31), args := #[Operand.tmp 164, Operand.tmp 165], argTypes := #[3, 53] }, type := 23, pos := "law.go:97", after := #[{ on := 15, ground := Ground.data }, { on := 16, ground := Ground.data }, { on := 13, ground := Ground.chain }, { on := 13, ground := Ground.guard }], guard := some (13, true) }) (v := undef) rfl (by kernel_rfl) (by kernel_rfl) (by kernel_rfl) (fun _ _ _ h => h) (Or.inr ⟨by rfl, rfl⟩) (by assumption) ?_
        simp only [Act.put, List.setIfInBounds_toArray, List.set_cons_zero, List.set_cons_succ]
        refine wpAnyH_take (i := 18) (oi := { dst := some 167, op := Op.binOp BinOp.eql 23 (Operand.tmp 163) (Operand.tmp 166) 23, type := 4, pos := "law.go:97", after := #[{ on := 14, ground := Ground.data }, { on := 17, ground := Ground.data }, { on := 13, ground := Ground.guard }], guard := some (13, true) }) (v := undef) rfl (by kernel_rfl) (by kernel_rfl) (by kernel_rfl) (fun _ _ _ h => h) (Or.inr ⟨by rfl, rfl⟩) (by assumption) ?_
        simp only [Act.put, List.setIfInBounds_toArray, List.set_cons_zero, List.set_cons_succ]
        refine wpAnyH_take (i := 19) (oi := { dst := some 168, op := Op.pick (Operand.tmp 162) (Operand.tmp 167) (Operand.const (Value.bool false)), type := 4, pos := "law.go:97", after := #[{ on := 13, ground := Ground.data }, { on := 18, ground := Ground.data }, { on := 6, ground := Ground.guard }], guard := some (6, false) }) (v := undef) rfl (by kernel_rfl) (by kernel_rfl) (by kernel_rfl) (fun _ _ _ h => h) (Or.inr ⟨by rfl, rfl⟩) (by assumption) ?_
        simp only [Act.put, List.setIfInBounds_toArray, List.set_cons_zero, List.set_cons_succ]
        refine wpAnyH_take (i := 20) (oi := { dst := some 169, op := Op.pick (Operand.tmp 155) (Operand.const (Value.bool true)) (Operand.tmp 168), type := 4, pos := "law.go:97", after := #[{ on := 6, ground := Ground.data }, { on := 19, ground := Ground.data }], guard := none }) (v := ?_) rfl (by kernel_rfl) (by kernel_rfl) (by kernel_rfl) (fun _ _ _ h => h) (Or.inl ⟨by rfl, ?_⟩) (by assumption) ?_
        rotate_left
        · intro w hSw
          clear hSw
          go_simp
          all_goals with_reducible rfl
        simp only [Act.put, List.setIfInBounds_toArray, List.set_cons_zero, List.set_cons_succ]
        refine wpAnyH_take (i := 21) (oi := { dst := some 170, op := Op.move (Operand.tmp 169), type := 4, pos := "law.go:97", after := #[{ on := 20, ground := Ground.data }, { on := 17, ground := Ground.chain }], guard := none }) (v := ?_) rfl (by kernel_rfl) (by kernel_rfl) (by kernel_rfl) (fun _ _ _ h => h) (Or.inl ⟨by rfl, ?_⟩) (by assumption) ?_
        rotate_left
        · intro w hSw
          clear hSw
          go_simp
          all_goals with_reducible rfl
        simp only [Act.put, List.setIfInBounds_toArray, List.set_cons_zero, List.set_cons_succ]
        refine wpAnyH_ready (rs := [22]) (by kernel_rfl) (by simp) ?_
        refine AllReadyH.cons (o := { dst := some 171, op := Op.call { callee := Callee.value (Operand.func 17), args := #[], argTypes := #[] }, type := 4, pos := "law.go:97", after := #[{ on := 21, ground := Ground.chain }, { on := 21, ground := Ground.guard }], guard := some (21, true) }) rfl (fun K hK => ?_) AllReadyH.nil
        go_simp
        refine (known10_any Z0 (HK.out.below (BY.out.trans (CZ0.out.below w.heap.size BY.out.size (fun k hk e => by omega))) h0)).mono ?_
        rintro e Z1 ⟨rfl, hb2⟩
        have CZ1 : Hid (Chg (fun _ => False) Y Z1) := CZ0.out.then hb2
        clear hb2 CZ0
        clear hHeld
        refine hK.out _ _ CZ1.out (fun hHeld => ?_)
        clear hK K
        try simp only [Act.put, List.setIfInBounds_toArray, List.set_cons_zero, List.set_cons_succ]
        refine wpAnyH_take (i := 23) (oi := { dst := some 172, op := Op.pick (Operand.tmp 170) (Operand.tmp 171) (Operand.const (Value.bool false)), type := 4, pos := "law.go:97", after := #[{ on := 21, ground := Ground.data }, { on := 22, ground := Ground.data }], guard := none }) (v := ?_) rfl (by kernel_rfl) (by kernel_rfl) (by kernel_rfl) (fun _ _ _ h => h) (Or.inl ⟨by rfl, ?_⟩) (by assumption) ?_
        rotate_left
        · intro w hSw
          clear hSw
          go_simp
          all_goals with_reducible rfl
        simp only [Act.put, List.setIfInBounds_toArray, List.set_cons_zero, List.set_cons_succ]
        refine wpAnyH_take (i := 24) (oi := { dst := some 8, op := Op.assign (Operand.tmp 172), type := 4, pos := "law.go:97", after := #[{ on := 23, ground := Ground.data }, { on := 22, ground := Ground.chain }, { on := 0, ground := Ground.phase }, { on := 1, ground := Ground.phase }, { on := 2, ground := Ground.phase }, { on := 3, ground := Ground.phase }, { on := 4, ground := Ground.phase }, { on := 5, ground := Ground.phase }, { on := 6, ground := Ground.phase }, { on := 7, ground := Ground.phase }, { on := 8, ground := Ground.phase }, { on := 9, ground := Ground.phase }, { on := 10, ground := Ground.phase }, { on := 11, ground := Ground.phase }, { on := 12, ground := Ground.phase }, { on := 13, ground := Ground.phase }, { on := 14, ground := Ground.phase }, { on := 15, ground := Ground.phase }, { on := 16, ground := Ground.phase }, { on := 17, ground := Ground.phase }, { on := 18, ground := Ground.phase }, { on := 19, ground := Ground.phase }, { on := 20, ground := Ground.phase }, { on := 21, ground := Ground.phase }, { on := 22, ground := Ground.phase }, { on := 23, ground := Ground.phase }], guard := none }) (v := ?_) rfl (by kernel_rfl) (by kernel_rfl) (by kernel_rfl) (fun _ _ _ h => h) (Or.inl ⟨by rfl, ?_⟩) (by assumption) ?_
        rotate_left
        · intro w hSw
          clear hSw
          go_simp
          all_goals with_reducible rfl
        simp only [Act.put, List.setIfInBounds_toArray, List.set_cons_zero, List.set_cons_succ]
        refine wpAnyH_done (by kernel_rfl) ?_ _
        refine NoPanic.normal ?_
        clear hHeld
        have BF := hide (BY.out.trans (CZ1.out.below w.heap.size BY.out.size (fun k hk e => by omega)))
        go_wp2_with fail
        go_ret
        exact ⟨rfl, BF.out⟩
    | succ gO =>
      have qi : (i : Int) < (n : Int) := by omega
      have qi0 : (0 : Int) ≤ (i : Int) := by omega
      have qi1 : IntKind.i64.wrap ((i : Int) + 1) = (i : Int) + 1 := by rw [IntKind.wrap_i64]; omega
      obtain ⟨bl, off, cl, el, hcl, hbl, hcells⟩ := HV.out.src (by have := HLEN.out; omega)
      simp only [Value.slice.injEq] at el
      obtain ⟨rfl, -, rfl⟩ := el
      obtain ⟨x, hx, hxs⟩ := hcells i (by have := HLEN.out; omega)
      obtain ⟨xo, xl, xc, rfl, hxl, hxm⟩ := hxs.form
      have XS := hide (hxs.below BL.out (Nat.le_refl _))
      have CX := hide ((BL.out.cell (p := ⟨bl, off + i, none⟩) hbl).trans hx)
      have LB := hide (Nat.lt_of_lt_of_le hbl BL.out.size)
      have HA := hide (C.addA_ofs a l p i hpi (by have := HLEN.out; omega) (by have := HLEN.out; omega))
      have XF := hide (Nat.le_trans (HF.out.at i (by have := HLEN.out; omega)) (show 140737488355000 ≤ 140737488355328 by omega))
      obtain ⟨bs, hbs⟩ : ∃ bs, bs = l.getD i [] := ⟨_, rfl⟩
      rw [← hbs] at XS HA XF
      have BW := hide (B1.out.trans (BL.out.mono B1.out.size))
      have HDA := hide (HD.out.dgAt (by have := C.ofs_few a l p i; omega) (C.ofs_32 a l p i))
      have LR := hide (block_lt_of_row RR.out)
      clear hx hxs hxl hxm hcells hbs hbl hcl
      go_wp2_with fail
      refine wp_region_noPanic ?_
      refine wp_region_held_drew (S := (fun W => Chg (fun _ => False) wr W)) follows ((Chg.refl _ _).drew) (fun hHeld => ?_)
      clear hHeld
      have hHeld : Chg (fun _ => False) wr wr.drew := (Chg.refl _ _).drew
      have CZ0 := hide hHeld
      have RR' : Hid (wr.drew.heap[gr]? = some (.cells #[.int .u64 (p : Int), .int .u64 (i : Int), .slice vo vn vc] 30 (0, 0))) := RR.out
      generalize wr.drew = Z0 at CZ0 hHeld RR' ⊢
      refine wpAnyH_take (i := 0) (oi := { dst := some 50, op := Op.move (Operand.tmp 0), type := 3, pos := "law.go:83", after := #[], guard := none }) (v := ?_) rfl (by kernel_rfl) (by kernel_rfl) (by kernel_rfl) (fun _ _ _ h => h) (Or.inl ⟨by rfl, ?_⟩) (by assumption) ?_
      rotate_left
      · intro w hSw
        clear hSw
        go_simp
        all_goals with_reducible rfl
      simp only [Act.put, List.setIfInBounds_toArray, List.set_cons_zero, List.set_cons_succ]
      refine wpAnyH_take (i := 1) (oi := { dst := some 51, op := Op.load 30 (Operand.tmp 12), type := 30, pos := "law.go:83", after := #[], guard := none }) (v := ?_) rfl (by kernel_rfl) (by kernel_rfl) (by kernel_rfl) (fun _ _ _ h => h) (Or.inl ⟨by rfl, ?_⟩) (by assumption) ?_
      rotate_left
      · intro w hSw
        obtain ⟨e0, e1, e2⟩ := cells3 (hSw.row RR.out (fun e => e))
        clear hSw
        go_simp
        all_goals with_reducible rfl
      simp only [Act.put, List.setIfInBounds_toArray, List.set_cons_zero, List.set_cons_succ]
      refine wpAnyH_take (i := 2) (oi := { dst := some 52, op := Op.move (Operand.tmp 0), type := 3, pos := "law.go:83", after := #[], guard := none }) (v := ?_) rfl (by kernel_rfl) (by kernel_rfl) (by kernel_rfl) (fun _ _ _ h => h) (Or.inl ⟨by rfl, ?_⟩) (by assumption) ?_
      rotate_left
      · intro w hSw
        clear hSw
        go_simp
        all_goals with_reducible rfl
      simp only [Act.put, List.setIfInBounds_toArray, List.set_cons_zero, List.set_cons_succ]
      refine wpAnyH_take (i := 3) (oi := { dst := some 53, op := Op.move (Operand.tmp 9), type := 53, pos := "law.go:83", after := #[], guard := none }) (v := ?_) rfl (by kernel_rfl) (by kernel_rfl) (by kernel_rfl) (fun _ _ _ h => h) (Or.inl ⟨by rfl, ?_⟩) (by assumption) ?_
      rotate_left
      · intro w hSw
        clear hSw
        go_simp
        all_goals with_reducible rfl
      simp only [Act.put, List.setIfInBounds_toArray, List.set_cons_zero, List.set_cons_succ]
      refine wpAnyH_take (i := 4) (oi := { dst := some 54, op := Op.move (Operand.tmp 13), type := 3, pos := "law.go:83", after := #[], guard := none }) (v := ?_) rfl (by kernel_rfl) (by kernel_rfl) (by kernel_rfl) (fun _ _ _ h => h) (Or.inl ⟨by rfl, ?_⟩) (by assumption) ?_
      rotate_left
      · intro w hSw
        clear hSw
        go_simp
        all_goals with_reducible rfl
      simp only [Act.put, List.setIfInBounds_toArray, List.set_cons_zero, List.set_cons_succ]
      refine wpAnyH_take (i := 5) (oi := { dst := some 55, op := Op.indexAddr 53 (Operand.tmp 53) (Operand.tmp 54), type := 0, pos := "law.go:83", after := #[{ on := 3, ground := Ground.data }, { on := 4, ground := Ground.data }], guard := none }) (v := ?_) rfl (by kernel_rfl) (by kernel_rfl) (by kernel_rfl) (fun _ _ _ h => h) (Or.inl ⟨by rfl, ?_⟩) (by assumption) ?_
      rotate_left
      · intro w hSw
        clear hSw
        go_simp
        all_goals with_reducible rfl
      simp only [Act.put, List.setIfInBounds_toArray, List.set_cons_zero, List.set_cons_succ]
      refine wpAnyH_take (i := 6) (oi := { dst := some 56, op := Op.load 60 (Operand.tmp 55), type := 60, pos := "law.go:83", after := #[{ on := 5, ground := Ground.data }], guard := none }) (v := ?_) rfl (by kernel_rfl) (by kernel_rfl) (by kernel_rfl) (fun _ _ _ h => h) (Or.inl ⟨by rfl, ?_⟩) (by assumption) ?_
      rotate_left
      · intro w hSw
        have q := (World.cell?_of_block (a := ⟨bl, off + i, none⟩) (hSw.block bl LB.out (fun e => e))).trans CX.out
        clear hSw
        go_simp
        all_goals with_reducible rfl
      simp only [Act.put, List.setIfInBounds_toArray, List.set_cons_zero, List.set_cons_succ]
      refine wpAnyH_ready (rs := [7, 12]) (by kernel_rfl) (by simp) ?_
      refine AllReadyH.cons (o := { dst := some 57, op := Op.call { callee := Callee.value (Operand.func 30), args := #[Operand.tmp 52, Operand.tmp 56], argTypes := #[3, 60] }, type := 23, pos := "law.go:83", after := #[{ on := 2, ground := Ground.data }, { on := 6, ground := Ground.data }], guard := none }) rfl (fun K hK => ?_) ?_
      · skip
        go_simp
        refine (leaf_any a (.slice xo xl xc) bs Z0 (XS.out.below (CZ0.out.below _ (Nat.le_refl _) (fun _ _ e => e)) (Nat.le_refl _)) XF.out (HK.out.below (BW.out.trans (CZ0.out.below w.heap.size BW.out.size (fun k hk e => by omega))) h0)).mono ?_
        rintro e Z1 ⟨rfl, hb2⟩
        obtain ⟨D, hD⟩ : ∃ DD, DD = S.leaf a bs := ⟨_, rfl⟩
        rw [← hD]
        have LD := hide (show D.length = 32 by rw [hD]; exact S.leaf_length _ _)
        have ED := hide hD
        clear hD
        replace RR' : Hid (Z1.heap[gr]? = some (.cells #[.int .u64 (p : Int), .int .u64 (i : Int), .slice vo vn vc] 30 (0, 0))) := (hb2.block _ (block_lt_of_row RR'.out)).trans RR'.out
        have CZ1 : Hid (Chg (fun _ => False) wr Z1) := CZ0.out.then hb2
        clear hb2 CZ0
        clear hHeld
        refine hK.out _ _ CZ1.out (fun hHeld => ?_)
        clear hK K
        try simp only [Act.put, List.setIfInBounds_toArray, List.set_cons_zero, List.set_cons_succ]
        refine wpAnyH_ready (rs := [8, 12]) (by kernel_rfl) (by simp) ?_
        refine AllReadyH.cons (o := { dst := some 58, op := Op.call { callee := Callee.value (Operand.func 11), args := #[Operand.tmp 50, Operand.tmp 51, Operand.tmp 57], argTypes := #[3, 30, 23] }, type := 32, pos := "law.go:83", after := #[{ on := 0, ground := Ground.data }, { on := 1, ground := Ground.data }, { on := 7, ground := Ground.data }, { on := 7, ground := Ground.chain }], guard := none }) rfl (fun K hK => ?_) ?_
        · skip
          go_simp
          refine (add_any a p i (.slice vo vn vc) (C.ofs a l p i) D Z1 (by omega) (by omega) LD.out (HDA.out.below (CZ1.out.below _ (Nat.le_refl _) (fun _ _ e => e))) (HK.out.below (BW.out.trans (CZ1.out.below w.heap.size BW.out.size (fun k hk e => by omega))) h0)).mono ?_
          rintro e Z2 ha
          rw [ED.out, HA.out] at ha
          obtain ⟨vo2, vc2, rfl, hd2, hb2⟩ := ha.some
          obtain ⟨vn2, hvn2⟩ : ∃ n, n = (C.ofs a l p (i + 1)).length := ⟨_, rfl⟩
          rw [← hvn2] at hd2 ⊢
          have HD2 := hide hd2
          have HVN2 := hide hvn2
          clear hd2 hvn2
          try clear ha
          replace RR' : Hid (Z2.heap[gr]? = some (.cells #[.int .u64 (p : Int), .int .u64 (i : Int), .slice vo vn vc] 30 (0, 0))) := (hb2.block _ (block_lt_of_row RR'.out)).trans RR'.out
          have CZ2 : Hid (Chg (fun _ => False) wr Z2) := CZ1.out.then hb2
          clear hb2 CZ1
          clear hHeld
          refine hK.out _ _ CZ2.out (fun hHeld => ?_)
          clear hK K
          try simp only [Act.put, List.setIfInBounds_toArray, List.set_cons_zero, List.set_cons_succ]
          refine wpAnyH_take (i := 9) (oi := { dst := some 49, op := Op.move (Operand.tmp 58), type := 32, pos := "law.go:83", after := #[{ on := 8, ground := Ground.data }], guard := none }) (v := ?_) rfl (by kernel_rfl) (by kernel_rfl) (by kernel_rfl) (fun _ _ _ h => h) (Or.inl ⟨by rfl, ?_⟩) (by assumption) ?_
          rotate_left
          · intro w hSw
            clear hSw
            go_simp
            all_goals with_reducible rfl
          simp only [Act.put, List.setIfInBounds_toArray, List.set_cons_zero, List.set_cons_succ]
          refine wpAnyH_take (i := 10) (oi := { dst := some 59, op := Op.extract (Operand.tmp 49) 0, type := 30, pos := "law.go:83", after := #[{ on := 9, ground := Ground.data }], guard := none }) (v := ?_) rfl (by kernel_rfl) (by kernel_rfl) (by kernel_rfl) (fun _ _ _ h => h) (Or.inl ⟨by rfl, ?_⟩) (by assumption) ?_
          rotate_left
          · intro w hSw
            clear hSw
            go_simp
            all_goals with_reducible rfl
          simp only [Act.put, List.setIfInBounds_toArray, List.set_cons_zero, List.set_cons_succ]
          refine wpAnyH_take (i := 11) (oi := { dst := some 60, op := Op.extract (Operand.tmp 49) 1, type := 24, pos := "law.go:83", after := #[{ on := 9, ground := Ground.data }, { on := 13, ground := Ground.gcOnly Departure.lateStores }], guard := none }) (v := ?_) rfl (by kernel_rfl) (by kernel_rfl) (by kernel_rfl) (fun _ _ _ h => h) (Or.inl ⟨by rfl, ?_⟩) (by assumption) ?_
          rotate_left
          · intro w hSw
            clear hSw
            go_simp
            all_goals with_reducible rfl
          simp only [Act.put, List.setIfInBounds_toArray, List.set_cons_zero, List.set_cons_succ]
          refine wpAnyH_ready (rs := [12]) (by kernel_rfl) (by simp) ?_
          refine step_alloc_as (o := { dst := some 14, op := Op.alloc 30, type := 0, pos := "law.go:83", after := #[], guard := none }) rfl rfl 30 rfl _ _ (alloc30 Z2) AllReadyH.nil ⟨CZ2.out.alloc _, fun hHeld => ?_⟩
          clear hHeld
          simp only [Act.put, List.setIfInBounds_toArray, List.set_cons_zero, List.set_cons_succ]
          obtain ⟨gn, hgn⟩ : ∃ gg, gg = Z2.heap.size := ⟨_, rfl⟩
          rw [← hgn]
          generalize hZ : Z2.alloc _ = Z3
          have hb2 : Below Z2.heap.size Z2 Z3 := by rw [← hZ]; exact (Below.refl _ _).alloc (Nat.le_refl _) _
          have Rgn : Hid (Z3.heap[gn]? = some (.cells #[.int .u64 0, .int .u64 0, .slice none 0 0] 30 (0, 0))) := by rw [← hZ, hgn]; exact heap_alloc_new _ _
          have Ggn := hide (show wr.heap.size ≤ gn by rw [hgn]; exact CZ2.out.size)
          clear hZ hgn
          replace RR' : Hid (Z3.heap[gr]? = some (.cells #[.int .u64 (p : Int), .int .u64 (i : Int), .slice vo vn vc] 30 (0, 0))) := (hb2.block _ (block_lt_of_row RR'.out)).trans RR'.out
          replace HD2 : Hid (DgRow 0 Z3 (.slice vo2 vn2 vc2) (C.ofs a l p (i + 1))) := HD2.out.below hb2
          have CZ3 : Hid (Chg (fun _ => False) wr Z3) := CZ2.out.then hb2
          clear hb2 CZ2
          have hHeld := CZ3.out
          refine wpAnyH_ready (rs := [13]) (by kernel_rfl) (by simp) ?_
          obtain ⟨Z4, hst, r6, C6, s6⟩ := store_rg (x := .int .u64 (p : Int)) (y := .int .u64 ((i + 1 : Nat) : Int)) (z := .slice vo2 vn2 vc2) Rgn.out rfl rfl rfl
          refine step_store_as (o := { dst := none, op := Op.store 30 (Operand.tmp 14) (Operand.tmp 59), type := 0, pos := "law.go:83", after := #[{ on := 12, ground := Ground.data }, { on := 10, ground := Ground.data }, { on := 8, ground := Ground.chain }, { on := 0, ground := Ground.phase }, { on := 1, ground := Ground.phase }, { on := 2, ground := Ground.phase }, { on := 3, ground := Ground.phase }, { on := 4, ground := Ground.phase }, { on := 5, ground := Ground.phase }, { on := 6, ground := Ground.phase }, { on := 7, ground := Ground.phase }, { on := 8, ground := Ground.phase }, { on := 9, ground := Ground.phase }, { on := 10, ground := Ground.phase }, { on := 11, ground := Ground.textOnly Departure.lateStores }, { on := 12, ground := Ground.phase }], guard := none }) rfl rfl 30 (.tmp 14) (.tmp 59) rfl _ _ rfl rfl Z4 hst AllReadyH.nil ⟨CZ3.out.trans C6 (fun k hk e => by have := Ggn.out; omega), fun hHeld => ?_⟩
          have CZ4 : Hid (Chg (fun _ => False) wr Z4) := CZ3.out.trans C6 (fun k hk e => by have := Ggn.out; omega)
          have RS := hide r6
          replace HD2 := hide (Rw.chg HD2.out C6 (fun j hj e => (Rw.apart HD2.out Rgn.out (by decide)) (by rw [← e]; exact hj)))
          replace RR' := hide (C6.row RR'.out (by have := Ggn.out; have := LR.out; omega))
          clear hst r6 C6 s6 CZ3 Rgn
          simp only [Act.put]
          refine wpAnyH_take (i := 14) (oi := { dst := some 15, op := Op.assign (Operand.tmp 60), type := 24, pos := "law.go:83", after := #[{ on := 11, ground := Ground.data }, { on := 13, ground := Ground.chain }, { on := 0, ground := Ground.phase }, { on := 1, ground := Ground.phase }, { on := 2, ground := Ground.phase }, { on := 3, ground := Ground.phase }, { on := 4, ground := Ground.phase }, { on := 5, ground := Ground.phase }, { on := 6, ground := Ground.phase }, { on := 7, ground := Ground.phase }, { on := 8, ground := Ground.phase }, { on := 9, ground := Ground.phase }, { on := 10, ground := Ground.phase }, { on := 11, ground := Ground.phase }, { on := 12, ground := Ground.phase }, { on := 13, ground := Ground.phase }], guard := none }) (v := ?_) rfl (by kernel_rfl) (by kernel_rfl) (by kernel_rfl) (fun _ _ _ h => h) (Or.inl ⟨by rfl, ?_⟩) (by assumption) ?_
          rotate_left
          · intro w hSw
            clear hSw
            go_simp
            all_goals with_reducible rfl
          simp only [Act.put, List.setIfInBounds_toArray, List.set_cons_zero, List.set_cons_succ]
          refine wpAnyH_done (by kernel_rfl) ?_ _
          refine NoPanic.normal ?_
          clear hHeld
          have BZ := hide (BL.out.trans (CZ4.out.below W1.heap.size BL.out.size (fun _ _ e => e)))
          have BZW := hide (CZ4.out.below _ (Nat.le_refl _) (fun _ _ e => e))
          generalize Z4 = Y at BZ RS RR' HD2 BZW ⊢
          clear CZ4
          obtain ⟨e0, e1, e2⟩ := cells3 RS.out
          obtain ⟨YF, hsf, rf, cf, sf⟩ := store_rg (x := .int .u64 (p : Int)) (y := .int .u64 ((i + 1 : Nat) : Int)) (z := .slice vo2 vn2 vc2) RR'.out rfl rfl rfl
          have RF := hide rf
          have HDF := hide (Rw.chg HD2.out cf (fun j hj e => (Rw.apart HD2.out RR'.out (by decide)) (by rw [← e]; exact hj)))
          have BFL := hide (BZ.out.trans (cf.below W1.heap.size BZ.out.size (fun k hk e => by have := GR.out; omega)))
          clear rf cf sf HD2 RR'
          go_wp2_with (with_reducible refine at_op { dst := none, op := Op.store 30 (Operand.tmp 12) (Operand.tmp 63), type := 0, pos := "law.go:87", after := #[{ on := 0, ground := Ground.data }, { on := 0, ground := Ground.phase }], guard := none } ?_; refine wpList_store_as rfl 30 (.tmp 12) (.tmp 63) rfl (.pointer (some ⟨gr, 0, none⟩)) (.agg #[.int .u64 (p : Int), .int .u64 ((i + 1 : Nat) : Int), .slice vo2 vn2 vc2]) rfl rfl YF hsf ?_)
          go_roundg gO
          case measure => omega
          case rel => exact ⟨i + 1, vn2, vc2, vo2, by omega, by omega, by first | rfl | simp, HVN2.out, RF, HDF, BFL⟩
        refine step_alloc_as (o := { dst := some 14, op := Op.alloc 30, type := 0, pos := "law.go:83", after := #[], guard := none }) rfl rfl 30 rfl _ _ (alloc30 Z1) AllReadyH.nil ⟨CZ1.out.alloc _, fun hHeld => ?_⟩
        clear hHeld
        simp only [Act.put, List.setIfInBounds_toArray, List.set_cons_zero, List.set_cons_succ]
        obtain ⟨gn, hgn⟩ : ∃ gg, gg = Z1.heap.size := ⟨_, rfl⟩
        rw [← hgn]
        generalize hZ : Z1.alloc _ = Z2
        have hb2 : Below Z1.heap.size Z1 Z2 := by rw [← hZ]; exact (Below.refl _ _).alloc (Nat.le_refl _) _
        have Rgn : Hid (Z2.heap[gn]? = some (.cells #[.int .u64 0, .int .u64 0, .slice none 0 0] 30 (0, 0))) := by rw [← hZ, hgn]; exact heap_alloc_new _ _
        have Ggn := hide (show wr.heap.size ≤ gn by rw [hgn]; exact CZ1.out.size)
        clear hZ hgn
        replace RR' : Hid (Z2.heap[gr]? = some (.cells #[.int .u64 (p : Int), .int .u64 (i : Int), .slice vo vn vc] 30 (0, 0))) := (hb2.block _ (block_lt_of_row RR'.out)).trans RR'.out
        have CZ2 : Hid (Chg (fun _ => False) wr Z2) := CZ1.out.then hb2
        clear hb2 CZ1
        have hHeld := CZ2.out
        refine wpAnyH_ready (rs := [8]) (by kernel_rfl) (by simp) ?_
        refine AllReadyH.cons (o := { dst := some 58, op := Op.call { callee := Callee.value (Operand.func 11), args := #[Operand.tmp 50, Operand.tmp 51, Operand.tmp 57], argTypes := #[3, 30, 23] }, type := 32, pos := "law.go:83", after := #[{ on := 0, ground := Ground.data }, { on := 1, ground := Ground.data }, { on := 7, ground := Ground.data }, { on := 7, ground := Ground.chain }], guard := none }) rfl (fun K hK => ?_) AllReadyH.nil
        go_simp
        refine (add_any a p i (.slice vo vn vc) (C.ofs a l p i) D Z2 (by omega) (by omega) LD.out (HDA.out.below (CZ2.out.below _ (Nat.le_refl _) (fun _ _ e => e))) (HK.out.below (BW.out.trans (CZ2.out.below w.heap.size BW.out.size (fun k hk e => by omega))) h0)).mono ?_
        rintro e Z3 ha
        rw [ED.out, HA.out] at ha
        obtain ⟨vo2, vc2, rfl, hd2, hb2⟩ := ha.some
        obtain ⟨vn2, hvn2⟩ : ∃ n, n = (C.ofs a l p (i + 1)).length := ⟨_, rfl⟩
        rw [← hvn2] at hd2 ⊢
        have HD2 := hide hd2
        have HVN2 := hide hvn2
        clear hd2 hvn2
        try clear ha
        replace RR' : Hid (Z3.heap[gr]? = some (.cells #[.int .u64 (p : Int), .int .u64 (i : Int), .slice vo vn vc] 30 (0, 0))) := (hb2.block _ (block_lt_of_row RR'.out)).trans RR'.out
        replace Rgn : Hid (Z3.heap[gn]? = some (.cells #[.int .u64 0, .int .u64 0, .slice none 0 0] 30 (0, 0))) := (hb2.block _ (block_lt_of_row Rgn.out)).trans Rgn.out
        have CZ3 : Hid (Chg (fun _ => False) wr Z3) := CZ2.out.then hb2
        clear hb2 CZ2
        clear hHeld
        refine hK.out _ _ CZ3.out (fun hHeld => ?_)
        clear hK K
        try simp only [Act.put, List.setIfInBounds_toArray, List.set_cons_zero, List.set_cons_succ]
        refine wpAnyH_take (i := 9) (oi := { dst := some 49, op := Op.move (Operand.tmp 58), type := 32, pos := "law.go:83", after := #[{ on := 8, ground := Ground.data }], guard := none }) (v := ?_) rfl (by kernel_rfl) (by kernel_rfl) (by kernel_rfl) (fun _ _ _ h => h) (Or.inl ⟨by rfl, ?_⟩) (by assumption) ?_
        rotate_left
        · intro w hSw
          clear hSw
          go_simp
          all_goals with_reducible rfl
        simp only [Act.put, List.setIfInBounds_toArray, List.set_cons_zero, List.set_cons_succ]
        refine wpAnyH_take (i := 10) (oi := { dst := some 59, op := Op.extract (Operand.tmp 49) 0, type := 30, pos := "law.go:83", after := #[{ on := 9, ground := Ground.data }], guard := none }) (v := ?_) rfl (by kernel_rfl) (by kernel_rfl) (by kernel_rfl) (fun _ _ _ h => h) (Or.inl ⟨by rfl, ?_⟩) (by assumption) ?_
        rotate_left
        · intro w hSw
          clear hSw
          go_simp
          all_goals with_reducible rfl
        simp only [Act.put, List.setIfInBounds_toArray, List.set_cons_zero, List.set_cons_succ]
        refine wpAnyH_take (i := 11) (oi := { dst := some 60, op := Op.extract (Operand.tmp 49) 1, type := 24, pos := "law.go:83", after := #[{ on := 9, ground := Ground.data }, { on := 13, ground := Ground.gcOnly Departure.lateStores }], guard := none }) (v := ?_) rfl (by kernel_rfl) (by kernel_rfl) (by kernel_rfl) (fun _ _ _ h => h) (Or.inl ⟨by rfl, ?_⟩) (by assumption) ?_
        rotate_left
        · intro w hSw
          clear hSw
          go_simp
          all_goals with_reducible rfl
        simp only [Act.put, List.setIfInBounds_toArray, List.set_cons_zero, List.set_cons_succ]
        refine wpAnyH_ready (rs := [13]) (by kernel_rfl) (by simp) ?_
        obtain ⟨Z4, hst, r6, C6, s6⟩ := store_rg (x := .int .u64 (p : Int)) (y := .int .u64 ((i + 1 : Nat) : Int)) (z := .slice vo2 vn2 vc2) Rgn.out rfl rfl rfl
        refine step_store_as (o := { dst := none, op := Op.store 30 (Operand.tmp 14) (Operand.tmp 59), type := 0, pos := "law.go:83", after := #[{ on := 12, ground := Ground.data }, { on := 10, ground := Ground.data }, { on := 8, ground := Ground.chain }, { on := 0, ground := Ground.phase }, { on := 1, ground := Ground.phase }, { on := 2, ground := Ground.phase }, { on := 3, ground := Ground.phase }, { on := 4, ground := Ground.phase }, { on := 5, ground := Ground.phase }, { on := 6, ground := Ground.phase }, { on := 7, ground := Ground.phase }, { on := 8, ground := Ground.phase }, { on := 9, ground := Ground.phase }, { on := 10, ground := Ground.phase }, { on := 11, ground := Ground.textOnly Departure.lateStores }, { on := 12, ground := Ground.phase }], guard := none }) rfl rfl 30 (.tmp 14) (.tmp 59) rfl _ _ rfl rfl Z4 hst AllReadyH.nil ⟨CZ3.out.trans C6 (fun k hk e => by have := Ggn.out; omega), fun hHeld => ?_⟩
        have CZ4 : Hid (Chg (fun _ => False) wr Z4) := CZ3.out.trans C6 (fun k hk e => by have := Ggn.out; omega)
        have RS := hide r6
        replace HD2 := hide (Rw.chg HD2.out C6 (fun j hj e => (Rw.apart HD2.out Rgn.out (by decide)) (by rw [← e]; exact hj)))
        replace RR' := hide (C6.row RR'.out (by have := Ggn.out; have := LR.out; omega))
        clear hst r6 C6 s6 CZ3 Rgn
        simp only [Act.put]
        refine wpAnyH_take (i := 14) (oi := { dst := some 15, op := Op.assign (Operand.tmp 60), type := 24, pos := "law.go:83", after := #[{ on := 11, ground := Ground.data }, { on := 13, ground := Ground.chain }, { on := 0, ground := Ground.phase }, { on := 1, ground := Ground.phase }, { on := 2, ground := Ground.phase }, { on := 3, ground := Ground.phase }, { on := 4, ground := Ground.phase }, { on := 5, ground := Ground.phase }, { on := 6, ground := Ground.phase }, { on := 7, ground := Ground.phase }, { on := 8, ground := Ground.phase }, { on := 9, ground := Ground.phase }, { on := 10, ground := Ground.phase }, { on := 11, ground := Ground.phase }, { on := 12, ground := Ground.phase }, { on := 13, ground := Ground.phase }], guard := none }) (v := ?_) rfl (by kernel_rfl) (by kernel_rfl) (by kernel_rfl) (fun _ _ _ h => h) (Or.inl ⟨by rfl, ?_⟩) (by assumption) ?_
        rotate_left
        · intro w hSw
          clear hSw
          go_simp
          all_goals with_reducible rfl
        simp only [Act.put, List.setIfInBounds_toArray, List.set_cons_zero, List.set_cons_succ]
        refine wpAnyH_done (by kernel_rfl) ?_ _
        refine NoPanic.normal ?_
        clear hHeld
        have BZ := hide (BL.out.trans (CZ4.out.below W1.heap.size BL.out.size (fun _ _ e => e)))
        have BZW := hide (CZ4.out.below _ (Nat.le_refl _) (fun _ _ e => e))
        generalize Z4 = Y at BZ RS RR' HD2 BZW ⊢
        clear CZ4
        obtain ⟨e0, e1, e2⟩ := cells3 RS.out
        obtain ⟨YF, hsf, rf, cf, sf⟩ := store_rg (x := .int .u64 (p : Int)) (y := .int .u64 ((i + 1 : Nat) : Int)) (z := .slice vo2 vn2 vc2) RR'.out rfl rfl rfl
        have RF := hide rf
        have HDF := hide (Rw.chg HD2.out cf (fun j hj e => (Rw.apart HD2.out RR'.out (by decide)) (by rw [← e]; exact hj)))
        have BFL := hide (BZ.out.trans (cf.below W1.heap.size BZ.out.size (fun k hk e => by have := GR.out; omega)))
        clear rf cf sf HD2 RR'
        go_wp2_with (with_reducible refine at_op { dst := none, op := Op.store 30 (Operand.tmp 12) (Operand.tmp 63), type := 0, pos := "law.go:87", after := #[{ on := 0, ground := Ground.data }, { on := 0, ground := Ground.phase }], guard := none } ?_; refine wpList_store_as rfl 30 (.tmp 12) (.tmp 63) rfl (.pointer (some ⟨gr, 0, none⟩)) (.agg #[.int .u64 (p : Int), .int .u64 ((i + 1 : Nat) : Int), .slice vo2 vn2 vc2]) rfl rfl YF hsf ?_)
        go_roundg gO
        case measure => omega
        case rel => exact ⟨i + 1, vn2, vc2, vo2, by omega, by omega, by first | rfl | simp, HVN2.out, RF, HDF, BFL⟩
      refine step_alloc_as (o := { dst := some 14, op := Op.alloc 30, type := 0, pos := "law.go:83", after := #[], guard := none }) rfl rfl 30 rfl _ _ (alloc30 Z0) AllReadyH.nil ⟨CZ0.out.alloc _, fun hHeld => ?_⟩
      clear hHeld
      simp only [Act.put, List.setIfInBounds_toArray, List.set_cons_zero, List.set_cons_succ]
      obtain ⟨gn, hgn⟩ : ∃ gg, gg = Z0.heap.size := ⟨_, rfl⟩
      rw [← hgn]
      generalize hZ : Z0.alloc _ = Z1
      have hb2 : Below Z0.heap.size Z0 Z1 := by rw [← hZ]; exact (Below.refl _ _).alloc (Nat.le_refl _) _
      have Rgn : Hid (Z1.heap[gn]? = some (.cells #[.int .u64 0, .int .u64 0, .slice none 0 0] 30 (0, 0))) := by rw [← hZ, hgn]; exact heap_alloc_new _ _
      have Ggn := hide (show wr.heap.size ≤ gn by rw [hgn]; exact CZ0.out.size)
      clear hZ hgn
      replace RR' : Hid (Z1.heap[gr]? = some (.cells #[.int .u64 (p : Int), .int .u64 (i : Int), .slice vo vn vc] 30 (0, 0))) := (hb2.block _ (block_lt_of_row RR'.out)).trans RR'.out
      have CZ1 : Hid (Chg (fun _ => False) wr Z1) := CZ0.out.then hb2
      clear hb2 CZ0
      have hHeld := CZ1.out
      refine wpAnyH_ready (rs := [7]) (by kernel_rfl) (by simp) ?_
      refine AllReadyH.cons (o := { dst := some 57, op := Op.call { callee := Callee.value (Operand.func 30), args := #[Operand.tmp 52, Operand.tmp 56], argTypes := #[3, 60] }, type := 23, pos := "law.go:83", after := #[{ on := 2, ground := Ground.data }, { on := 6, ground := Ground.data }], guard := none }) rfl (fun K hK => ?_) AllReadyH.nil
      go_simp
      refine (leaf_any a (.slice xo xl xc) bs Z1 (XS.out.below (CZ1.out.below _ (Nat.le_refl _) (fun _ _ e => e)) (Nat.le_refl _)) XF.out (HK.out.below (BW.out.trans (CZ1.out.below w.heap.size BW.out.size (fun k hk e => by omega))) h0)).mono ?_
      rintro e Z2 ⟨rfl, hb2⟩
      obtain ⟨D, hD⟩ : ∃ DD, DD = S.leaf a bs := ⟨_, rfl⟩
      rw [← hD]
      have LD := hide (show D.length = 32 by rw [hD]; exact S.leaf_length _ _)
      have ED := hide hD
      clear hD
      replace RR' : Hid (Z2.heap[gr]? = some (.cells #[.int .u64 (p : Int), .int .u64 (i : Int), .slice vo vn vc] 30 (0, 0))) := (hb2.block _ (block_lt_of_row RR'.out)).trans RR'.out
      replace Rgn : Hid (Z2.heap[gn]? = some (.cells #[.int .u64 0, .int .u64 0, .slice none 0 0] 30 (0, 0))) := (hb2.block _ (block_lt_of_row Rgn.out)).trans Rgn.out
      have CZ2 : Hid (Chg (fun _ => False) wr Z2) := CZ1.out.then hb2
      clear hb2 CZ1
      clear hHeld
      refine hK.out _ _ CZ2.out (fun hHeld => ?_)
      clear hK K
      try simp only [Act.put, List.setIfInBounds_toArray, List.set_cons_zero, List.set_cons_succ]
      refine wpAnyH_ready (rs := [8]) (by kernel_rfl) (by simp) ?_
      refine AllReadyH.cons (o := { dst := some 58, op := Op.call { callee := Callee.value (Operand.func 11), args := #[Operand.tmp 50, Operand.tmp 51, Operand.tmp 57], argTypes := #[3, 30, 23] }, type := 32, pos := "law.go:83", after := #[{ on := 0, ground := Ground.data }, { on := 1, ground := Ground.data }, { on := 7, ground := Ground.data }, { on := 7, ground := Ground.chain }], guard := none }) rfl (fun K hK => ?_) AllReadyH.nil
      go_simp
      refine (add_any a p i (.slice vo vn vc) (C.ofs a l p i) D Z2 (by omega) (by omega) LD.out (HDA.out.below (CZ2.out.below _ (Nat.le_refl _) (fun _ _ e => e))) (HK.out.below (BW.out.trans (CZ2.out.below w.heap.size BW.out.size (fun k hk e => by omega))) h0)).mono ?_
      rintro e Z3 ha
      rw [ED.out, HA.out] at ha
      obtain ⟨vo2, vc2, rfl, hd2, hb2⟩ := ha.some
      obtain ⟨vn2, hvn2⟩ : ∃ n, n = (C.ofs a l p (i + 1)).length := ⟨_, rfl⟩
      rw [← hvn2] at hd2 ⊢
      have HD2 := hide hd2
      have HVN2 := hide hvn2
      clear hd2 hvn2
      try clear ha
      replace RR' : Hid (Z3.heap[gr]? = some (.cells #[.int .u64 (p : Int), .int .u64 (i : Int), .slice vo vn vc] 30 (0, 0))) := (hb2.block _ (block_lt_of_row RR'.out)).trans RR'.out
      replace Rgn : Hid (Z3.heap[gn]? = some (.cells #[.int .u64 0, .int .u64 0, .slice none 0 0] 30 (0, 0))) := (hb2.block _ (block_lt_of_row Rgn.out)).trans Rgn.out
      have CZ3 : Hid (Chg (fun _ => False) wr Z3) := CZ2.out.then hb2
      clear hb2 CZ2
      clear hHeld
      refine hK.out _ _ CZ3.out (fun hHeld => ?_)
      clear hK K
      try simp only [Act.put, List.setIfInBounds_toArray, List.set_cons_zero, List.set_cons_succ]
      refine wpAnyH_take (i := 9) (oi := { dst := some 49, op := Op.move (Operand.tmp 58), type := 32, pos := "law.go:83", after := #[{ on := 8, ground := Ground.data }], guard := none }) (v := ?_) rfl (by kernel_rfl) (by kernel_rfl) (by kernel_rfl) (fun _ _ _ h => h) (Or.inl ⟨by rfl, ?_⟩) (by assumption) ?_
      rotate_left
      · intro w hSw
        clear hSw
        go_simp
        all_goals with_reducible rfl
      simp only [Act.put, List.setIfInBounds_toArray, List.set_cons_zero, List.set_cons_succ]
      refine wpAnyH_take (i := 10) (oi := { dst := some 59, op := Op.extract (Operand.tmp 49) 0, type := 30, pos := "law.go:83", after := #[{ on := 9, ground := Ground.data }], guard := none }) (v := ?_) rfl (by kernel_rfl) (by kernel_rfl) (by kernel_rfl) (fun _ _ _ h => h) (Or.inl ⟨by rfl, ?_⟩) (by assumption) ?_
      rotate_left
      · intro w hSw
        clear hSw
        go_simp
        all_goals with_reducible rfl
      simp only [Act.put, List.setIfInBounds_toArray, List.set_cons_zero, List.set_cons_succ]
      refine wpAnyH_take (i := 11) (oi := { dst := some 60, op := Op.extract (Operand.tmp 49) 1, type := 24, pos := "law.go:83", after := #[{ on := 9, ground := Ground.data }, { on := 13, ground := Ground.gcOnly Departure.lateStores }], guard := none }) (v := ?_) rfl (by kernel_rfl) (by kernel_rfl) (by kernel_rfl) (fun _ _ _ h => h) (Or.inl ⟨by rfl, ?_⟩) (by assumption) ?_
      rotate_left
      · intro w hSw
        clear hSw
        go_simp
        all_goals with_reducible rfl
      simp only [Act.put, List.setIfInBounds_toArray, List.set_cons_zero, List.set_cons_succ]
      refine wpAnyH_ready (rs := [13]) (by kernel_rfl) (by simp) ?_
      obtain ⟨Z4, hst, r6, C6, s6⟩ := store_rg (x := .int .u64 (p : Int)) (y := .int .u64 ((i + 1 : Nat) : Int)) (z := .slice vo2 vn2 vc2) Rgn.out rfl rfl rfl
      refine step_store_as (o := { dst := none, op := Op.store 30 (Operand.tmp 14) (Operand.tmp 59), type := 0, pos := "law.go:83", after := #[{ on := 12, ground := Ground.data }, { on := 10, ground := Ground.data }, { on := 8, ground := Ground.chain }, { on := 0, ground := Ground.phase }, { on := 1, ground := Ground.phase }, { on := 2, ground := Ground.phase }, { on := 3, ground := Ground.phase }, { on := 4, ground := Ground.phase }, { on := 5, ground := Ground.phase }, { on := 6, ground := Ground.phase }, { on := 7, ground := Ground.phase }, { on := 8, ground := Ground.phase }, { on := 9, ground := Ground.phase }, { on := 10, ground := Ground.phase }, { on := 11, ground := Ground.textOnly Departure.lateStores }, { on := 12, ground := Ground.phase }], guard := none }) rfl rfl 30 (.tmp 14) (.tmp 59) rfl _ _ rfl rfl Z4 hst AllReadyH.nil ⟨CZ3.out.trans C6 (fun k hk e => by have := Ggn.out; omega), fun hHeld => ?_⟩
      have CZ4 : Hid (Chg (fun _ => False) wr Z4) := CZ3.out.trans C6 (fun k hk e => by have := Ggn.out; omega)
      have RS := hide r6
      replace HD2 := hide (Rw.chg HD2.out C6 (fun j hj e => (Rw.apart HD2.out Rgn.out (by decide)) (by rw [← e]; exact hj)))
      replace RR' := hide (C6.row RR'.out (by have := Ggn.out; have := LR.out; omega))
      clear hst r6 C6 s6 CZ3 Rgn
      simp only [Act.put]
      refine wpAnyH_take (i := 14) (oi := { dst := some 15, op := Op.assign (Operand.tmp 60), type := 24, pos := "law.go:83", after := #[{ on := 11, ground := Ground.data }, { on := 13, ground := Ground.chain }, { on := 0, ground := Ground.phase }, { on := 1, ground := Ground.phase }, { on := 2, ground := Ground.phase }, { on := 3, ground := Ground.phase }, { on := 4, ground := Ground.phase }, { on := 5, ground := Ground.phase }, { on := 6, ground := Ground.phase }, { on := 7, ground := Ground.phase }, { on := 8, ground := Ground.phase }, { on := 9, ground := Ground.phase }, { on := 10, ground := Ground.phase }, { on := 11, ground := Ground.phase }, { on := 12, ground := Ground.phase }, { on := 13, ground := Ground.phase }], guard := none }) (v := ?_) rfl (by kernel_rfl) (by kernel_rfl) (by kernel_rfl) (fun _ _ _ h => h) (Or.inl ⟨by rfl, ?_⟩) (by assumption) ?_
      rotate_left
      · intro w hSw
        clear hSw
        go_simp
        all_goals with_reducible rfl
      simp only [Act.put, List.setIfInBounds_toArray, List.set_cons_zero, List.set_cons_succ]
      refine wpAnyH_done (by kernel_rfl) ?_ _
      refine NoPanic.normal ?_
      clear hHeld
      have BZ := hide (BL.out.trans (CZ4.out.below W1.heap.size BL.out.size (fun _ _ e => e)))
      have BZW := hide (CZ4.out.below _ (Nat.le_refl _) (fun _ _ e => e))
      generalize Z4 = Y at BZ RS RR' HD2 BZW ⊢
      clear CZ4
      obtain ⟨e0, e1, e2⟩ := cells3 RS.out
      obtain ⟨YF, hsf, rf, cf, sf⟩ := store_rg (x := .int .u64 (p : Int)) (y := .int .u64 ((i + 1 : Nat) : Int)) (z := .slice vo2 vn2 vc2) RR'.out rfl rfl rfl
      have RF := hide rf
      have HDF := hide (Rw.chg HD2.out cf (fun j hj e => (Rw.apart HD2.out RR'.out (by decide)) (by rw [← e]; exact hj)))
      have BFL := hide (BZ.out.trans (cf.below W1.heap.size BZ.out.size (fun k hk e => by have := GR.out; omega)))
      clear rf cf sf HD2 RR'
      go_wp2_with (with_reducible refine at_op { dst := none, op := Op.store 30 (Operand.tmp 12) (Operand.tmp 63), type := 0, pos := "law.go:87", after := #[{ on := 0, ground := Ground.data }, { on := 0, ground := Ground.phase }], guard := none } ?_; refine wpList_store_as rfl 30 (.tmp 12) (.tmp 63) rfl (.pointer (some ⟨gr, 0, none⟩)) (.agg #[.int .u64 (p : Int), .int .u64 ((i + 1 : Nat) : Int), .slice vo2 vn2 vc2]) rfl rfl YF hsf ?_)
      go_roundg gO
      case measure => omega
      case rel => exact ⟨i + 1, vn2, vc2, vo2, by omega, by omega, by first | rfl | simp, HVN2.out, RF, HDF, BFL⟩
end Go.Proofs.YtkljajfgdelfgaaDoor
