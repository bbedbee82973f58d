/- CompactThree. -/
import Derived.Test.YtkljajfgdelfgabDoorHc
namespace Go.Proofs.YtkljajfgdelfgabDoor
open Go.RowKit

set_option maxHeartbeats 80000000 in
set_option maxRecDepth 10000 in
theorem compactThree_walk (a x1 x2 x3 : Int) (w : World) (l1 : -9223372036854775808 ≤ x1) (u1 : x1 ≤ 9223372036854775807) (l2 : -9223372036854775808 ≤ x2) (u2 : x2 ≤ 9223372036854775807) (l3 : -9223372036854775808 ≤ x3) (u3 : x3 ≤ 9223372036854775807) (hK : KAt w) :
   Calls Tryd.prog 3 #[.int .i64 a, .int .i64 x1, .int .i64 x2, .int .i64 x3] w fun r w' => r = .returned (.bool true) ∧ Below w.heap.size w w' := by
  have HK := hide hK
  have h0 := hK.pos
  clear hK
  go_enter Tryd.func3, Tryd.ntmps3
  go_wp2_with fail
  refine (within_any x1 60 w l1 u1 (by omega) (by omega)).mono ?_
  rintro r _ ⟨rfl, rfl⟩
  have hnle := S.within_le x1 60 (by omega)
  obtain ⟨i, hn⟩ : ∃ n, n = S.within x1 60 := ⟨_, rfl⟩
  rw [← hn] at hnle ⊢
  clear hn
  go_wp2_with fail
  refine (list10_any i (by omega) w).mono ?_
  rintro r W1 ⟨vl, rfl, tl, bl⟩
  obtain ⟨lo, lc, rfl⟩ := tl.form
  obtain ⟨l, hl⟩ : ∃ l, l = S.l10 i := ⟨_, rfl⟩
  have hfit : Fit l := by rw [hl]; exact S.l10_fit i
  have hlen : l.length = i := by rw [hl]; exact S.l10_length i
  rw [← hl] at tl ⊢
  have HV := hide tl.bsAt
  rw [hlen] at HV ⊢
  have HF := hide hfit
  have HLEN := hide hlen
  have B1 := hide bl
  clear tl bl hl hfit hlen
  go_wp2_with fail
  refine (within_any x2 (i : Int) W1 l2 u2 (by omega) (by omega)).mono ?_
  rintro r _ ⟨rfl, rfl⟩
  have hple := S.within_le x2 (i : Int) (by omega)
  obtain ⟨p, hp⟩ : ∃ p, p = S.within x2 (i : Int) := ⟨_, rfl⟩
  rw [← hp] at hple ⊢
  clear hp
  have qs : IntKind.i64.wrap ((i : Int) - (p : Int)) = (i : Int) - (p : Int) := by rw [IntKind.wrap_i64]; omega
  go_wp2_with fail
  refine (within_any x3 ((i : Int) - (p : Int)) W1 l3 u3 (by omega) (by omega)).mono ?_
  rintro r _ ⟨rfl, rfl⟩
  have hmle := S.within_le x3 ((i : Int) - (p : Int)) (by omega)
  obtain ⟨m0, hm0⟩ : ∃ q, q = S.within x3 ((i : Int) - (p : Int)) := ⟨_, rfl⟩
  rw [← hm0] at hmle ⊢
  clear hm0
  obtain ⟨m, hm⟩ : ∃ m, m = p + m0 := ⟨_, rfl⟩
  have qm : IntKind.i64.wrap ((p : Int) + (m0 : Int)) = (m : Int) := by rw [IntKind.wrap_i64]; omega
  have hpm : p ≤ m := by omega
  have hmn : m ≤ i := by omega
  have hpn : p ≤ i := by omega
  have qp : IntKind.u64.wrap (p : Int) = (p : Int) := by rw [IntKind.wrap_u64]; omega
  have qn : IntKind.u64.wrap (i : Int) = (i : Int) := by rw [IntKind.wrap_u64]; omega
  have qm2 : IntKind.u64.wrap (m : Int) = (m : Int) := by rw [IntKind.wrap_u64]; omega
  obtain ⟨z, hz⟩ : ∃ z : Nat, z = 0 := ⟨_, rfl⟩
  have HZ := hide hz
  have HN := hide (show i ≤ 60 by omega)
  clear hm hmle hple qs hz hnle
  have BW := B1
  have BL := hide (Below.refl W1.heap.size W1)
  go_wp2_with fail
  refine (of_lit a (.slice lo i lc) l z p 0 (p : Int) (by have := HZ.out; omega) rfl _ (C.ofA_ofs a l z p (by have := HZ.out; have := HN.out; have := HLEN.out; omega) (by have := HZ.out; have := HN.out; have := HLEN.out; omega)) W1 (by have := HZ.out; have := HN.out; have := HLEN.out; omega) (by have := HZ.out; have := HN.out; have := HLEN.out; omega) (HV.out.below BL.out (Nat.le_refl _)) (by have := HZ.out; have := HN.out; have := HLEN.out; omega) HF.out (HK.out.below BW.out h0)).mono ?_
  rintro r V1 ha
  obtain ⟨oA, cA, rfl, hd, hb⟩ := ha.some
  obtain ⟨nA, hnA⟩ : ∃ n, n = (C.ofs a l z p).length := ⟨_, rfl⟩
  rw [← hnA] at hd ⊢
  have HNA := hide hnA
  have DA : Hid (DgRow 0 V1 (.slice oA nA cA) (C.ofs a l z p)) := hd
  replace BW := hide (BW.out.trans (hb.mono BW.out.size))
  replace BL := hide (BL.out.trans (hb.mono BL.out.size))
  clear hd hb hnA
  go_upto_region 6 with fail
  generalize hA_ : V1.alloc _ = V2
  have hb : Below V1.heap.size V1 V2 := by rw [← hA_]; exact (Below.refl _ _).alloc (Nat.le_refl _) _
  obtain ⟨gA, hgA⟩ : ∃ g, g = V1.heap.size := ⟨_, rfl⟩
  have RA : Hid (V2.heap[gA]? = some (.cells #[.int .u64 (z : Int), .int .u64 (p : Int), .slice oA nA cA] 28 (0, 0))) := by rw [← hA_, hgA]; exact heap_alloc_new _ _
  rw [← hgA]
  replace DA : Hid (DgRow 0 V2 (.slice oA nA cA) (C.ofs a l z p)) := DA.out.below hb
  replace BW := hide (BW.out.trans (hb.mono BW.out.size))
  replace BL := hide (BL.out.trans (hb.mono BL.out.size))
  clear hA_ hb hgA
  go_wp2_with fail
  refine (of_lit a (.slice lo i lc) l p m (p : Int) (m : Int) (by have := HZ.out; omega) rfl _ (C.ofA_ofs a l p m (by have := HZ.out; have := HN.out; have := HLEN.out; omega) (by have := HZ.out; have := HN.out; have := HLEN.out; omega)) V2 (by have := HZ.out; have := HN.out; have := HLEN.out; omega) (by have := HZ.out; have := HN.out; have := HLEN.out; omega) (HV.out.below BL.out (Nat.le_refl _)) (by have := HZ.out; have := HN.out; have := HLEN.out; omega) HF.out (HK.out.below BW.out h0)).mono ?_
  rintro r V3 ha
  obtain ⟨oB, cB, rfl, hd, hb⟩ := ha.some
  obtain ⟨nB, hnB⟩ : ∃ n, n = (C.ofs a l p m).length := ⟨_, rfl⟩
  rw [← hnB] at hd ⊢
  have HNB := hide hnB
  have DB : Hid (DgRow 0 V3 (.slice oB nB cB) (C.ofs a l p m)) := hd
  replace RA : Hid (V3.heap[gA]? = some (.cells #[.int .u64 (z : Int), .int .u64 (p : Int), .slice oA nA cA] 28 (0, 0))) := (hb.block _ (block_lt_of_row RA.out)).trans RA.out
  replace DA : Hid (DgRow 0 V3 (.slice oA nA cA) (C.ofs a l z p)) := DA.out.below hb
  replace BW := hide (BW.out.trans (hb.mono BW.out.size))
  replace BL := hide (BL.out.trans (hb.mono BL.out.size))
  clear hd hb hnB
  go_upto_region 7 with fail
  generalize hA_ : V3.alloc _ = V4
  have hb : Below V3.heap.size V3 V4 := by rw [← hA_]; exact (Below.refl _ _).alloc (Nat.le_refl _) _
  obtain ⟨gB, hgB⟩ : ∃ g, g = V3.heap.size := ⟨_, rfl⟩
  have RB : Hid (V4.heap[gB]? = some (.cells #[.int .u64 (p : Int), .int .u64 (m : Int), .slice oB nB cB] 28 (0, 0))) := by rw [← hA_, hgB]; exact heap_alloc_new _ _
  rw [← hgB]
  replace RA : Hid (V4.heap[gA]? = some (.cells #[.int .u64 (z : Int), .int .u64 (p : Int), .slice oA nA cA] 28 (0, 0))) := (hb.block _ (block_lt_of_row RA.out)).trans RA.out
  replace DA : Hid (DgRow 0 V4 (.slice oA nA cA) (C.ofs a l z p)) := DA.out.below hb
  replace DB : Hid (DgRow 0 V4 (.slice oB nB cB) (C.ofs a l p m)) := DB.out.below hb
  replace BW := hide (BW.out.trans (hb.mono BW.out.size))
  replace BL := hide (BL.out.trans (hb.mono BL.out.size))
  clear hA_ hb hgB
  go_wp2_with fail
  refine (of_lit a (.slice lo i lc) l m i (m : Int) (i : Int) (by have := HZ.out; omega) rfl _ (C.ofA_ofs a l m i (by have := HZ.out; have := HN.out; have := HLEN.out; omega) (by have := HZ.out; have := HN.out; have := HLEN.out; omega)) V4 (by have := HZ.out; have := HN.out; have := HLEN.out; omega) (by have := HZ.out; have := HN.out; have := HLEN.out; omega) (HV.out.below BL.out (Nat.le_refl _)) (by have := HZ.out; have := HN.out; have := HLEN.out; omega) HF.out (HK.out.below BW.out h0)).mono ?_
  rintro r V5 ha
  obtain ⟨oC, cC, rfl, hd, hb⟩ := ha.some
  obtain ⟨nC, hnC⟩ : ∃ n, n = (C.ofs a l m i).length := ⟨_, rfl⟩
  rw [← hnC] at hd ⊢
  have HNC := hide hnC
  have DC : Hid (DgRow 0 V5 (.slice oC nC cC) (C.ofs a l m i)) := hd
  replace RA : Hid (V5.heap[gA]? = some (.cells #[.int .u64 (z : Int), .int .u64 (p : Int), .slice oA nA cA] 28 (0, 0))) := (hb.block _ (block_lt_of_row RA.out)).trans RA.out
  replace RB : Hid (V5.heap[gB]? = some (.cells #[.int .u64 (p : Int), .int .u64 (m : Int), .slice oB nB cB] 28 (0, 0))) := (hb.block _ (block_lt_of_row RB.out)).trans RB.out
  replace DA : Hid (DgRow 0 V5 (.slice oA nA cA) (C.ofs a l z p)) := DA.out.below hb
  replace DB : Hid (DgRow 0 V5 (.slice oB nB cB) (C.ofs a l p m)) := DB.out.below hb
  replace BW := hide (BW.out.trans (hb.mono BW.out.size))
  replace BL := hide (BL.out.trans (hb.mono BL.out.size))
  clear hd hb hnC
  go_upto_region 8 with fail
  generalize hA_ : V5.alloc _ = V6
  have hb : Below V5.heap.size V5 V6 := by rw [← hA_]; exact (Below.refl _ _).alloc (Nat.le_refl _) _
  obtain ⟨gC, hgC⟩ : ∃ g, g = V5.heap.size := ⟨_, rfl⟩
  have RC : Hid (V6.heap[gC]? = some (.cells #[.int .u64 (m : Int), .int .u64 (i : Int), .slice oC nC cC] 28 (0, 0))) := by rw [← hA_, hgC]; exact heap_alloc_new _ _
  rw [← hgC]
  replace RA : Hid (V6.heap[gA]? = some (.cells #[.int .u64 (z : Int), .int .u64 (p : Int), .slice oA nA cA] 28 (0, 0))) := (hb.block _ (block_lt_of_row RA.out)).trans RA.out
  replace RB : Hid (V6.heap[gB]? = some (.cells #[.int .u64 (p : Int), .int .u64 (m : Int), .slice oB nB cB] 28 (0, 0))) := (hb.block _ (block_lt_of_row RB.out)).trans RB.out
  replace DA : Hid (DgRow 0 V6 (.slice oA nA cA) (C.ofs a l z p)) := DA.out.below hb
  replace DB : Hid (DgRow 0 V6 (.slice oB nB cB) (C.ofs a l p m)) := DB.out.below hb
  replace DC : Hid (DgRow 0 V6 (.slice oC nC cC) (C.ofs a l m i)) := DC.out.below hb
  replace BW := hide (BW.out.trans (hb.mono BW.out.size))
  replace BL := hide (BL.out.trans (hb.mono BL.out.size))
  clear hA_ hb hgC
  obtain ⟨x0, x1', x2'⟩ := cells3 RA.out
  obtain ⟨y0, y1, y2⟩ := cells3 RB.out
  go_wp2_with fail
  refine (merge_any a z p p m (.slice oA nA cA) (.slice oB nB cB) (C.ofs a l z p) (C.ofs a l p m) V6 (by have := HZ.out; have := HN.out; have := HLEN.out; omega) (by have := HZ.out; have := HN.out; have := HLEN.out; omega) (by have := HZ.out; have := HN.out; have := HLEN.out; omega) (by have := HZ.out; have := HN.out; have := HLEN.out; omega) (DA.out.dgAt (by have := C.ofs_few a l z p; omega) (C.ofs_32 a l z p)) (DB.out.dgAt (by have := C.ofs_few a l p m; omega) (C.ofs_32 a l p m)) (HK.out.below BW.out h0)).mono ?_
  rintro r V7 ha
  rw [C.mergeA_ofs a l z p m (by have := HZ.out; have := HN.out; have := HLEN.out; omega) (by have := HZ.out; have := HN.out; have := HLEN.out; omega) (by have := HZ.out; have := HN.out; have := HLEN.out; omega) (by have := HZ.out; have := HN.out; have := HLEN.out; omega)] at ha
  obtain ⟨oD, cD, rfl, hd, hb⟩ := ha.some
  obtain ⟨nD, hnD⟩ : ∃ n, n = (C.ofs a l z m).length := ⟨_, rfl⟩
  rw [← hnD] at hd ⊢
  have HND := hide hnD
  have DD : Hid (DgRow 0 V7 (.slice oD nD cD) (C.ofs a l z m)) := hd
  replace RA : Hid (V7.heap[gA]? = some (.cells #[.int .u64 (z : Int), .int .u64 (p : Int), .slice oA nA cA] 28 (0, 0))) := (hb.block _ (block_lt_of_row RA.out)).trans RA.out
  replace RB : Hid (V7.heap[gB]? = some (.cells #[.int .u64 (p : Int), .int .u64 (m : Int), .slice oB nB cB] 28 (0, 0))) := (hb.block _ (block_lt_of_row RB.out)).trans RB.out
  replace RC : Hid (V7.heap[gC]? = some (.cells #[.int .u64 (m : Int), .int .u64 (i : Int), .slice oC nC cC] 28 (0, 0))) := (hb.block _ (block_lt_of_row RC.out)).trans RC.out
  replace DA : Hid (DgRow 0 V7 (.slice oA nA cA) (C.ofs a l z p)) := DA.out.below hb
  replace DB : Hid (DgRow 0 V7 (.slice oB nB cB) (C.ofs a l p m)) := DB.out.below hb
  replace DC : Hid (DgRow 0 V7 (.slice oC nC cC) (C.ofs a l m i)) := DC.out.below hb
  replace BW := hide (BW.out.trans (hb.mono BW.out.size))
  replace BL := hide (BL.out.trans (hb.mono BL.out.size))
  clear hd hb hnD x0 x1' x2' y0 y1 y2
  go_upto_region 9 with fail
  generalize hA_ : V7.alloc _ = V8
  have hb : Below V7.heap.size V7 V8 := by rw [← hA_]; exact (Below.refl _ _).alloc (Nat.le_refl _) _
  obtain ⟨gD, hgD⟩ : ∃ g, g = V7.heap.size := ⟨_, rfl⟩
  have RD : Hid (V8.heap[gD]? = some (.cells #[.int .u64 (z : Int), .int .u64 (m : Int), .slice oD nD cD] 28 (0, 0))) := by rw [← hA_, hgD]; exact heap_alloc_new _ _
  rw [← hgD]
  replace RA : Hid (V8.heap[gA]? = some (.cells #[.int .u64 (z : Int), .int .u64 (p : Int), .slice oA nA cA] 28 (0, 0))) := (hb.block _ (block_lt_of_row RA.out)).trans RA.out
  replace RB : Hid (V8.heap[gB]? = some (.cells #[.int .u64 (p : Int), .int .u64 (m : Int), .slice oB nB cB] 28 (0, 0))) := (hb.block _ (block_lt_of_row RB.out)).trans RB.out
  replace RC : Hid (V8.heap[gC]? = some (.cells #[.int .u64 (m : Int), .int .u64 (i : Int), .slice oC nC cC] 28 (0, 0))) := (hb.block _ (block_lt_of_row RC.out)).trans RC.out
  replace DA : Hid (DgRow 0 V8 (.slice oA nA cA) (C.ofs a l z p)) := DA.out.below hb
  replace DB : Hid (DgRow 0 V8 (.slice oB nB cB) (C.ofs a l p m)) := DB.out.below hb
  replace DC : Hid (DgRow 0 V8 (.slice oC nC cC) (C.ofs a l m i)) := DC.out.below hb
  replace DD : Hid (DgRow 0 V8 (.slice oD nD cD) (C.ofs a l z m)) := DD.out.below hb
  replace BW := hide (BW.out.trans (hb.mono BW.out.size))
  replace BL := hide (BL.out.trans (hb.mono BL.out.size))
  clear hA_ hb hgD
  obtain ⟨x0, x1', x2'⟩ := cells3 RB.out
  obtain ⟨y0, y1, y2⟩ := cells3 RC.out
  go_wp2_with fail
  refine (merge_any a p m m i (.slice oB nB cB) (.slice oC nC cC) (C.ofs a l p m) (C.ofs a l m i) V8 (by have := HZ.out; have := HN.out; have := HLEN.out; omega) (by have := HZ.out; have := HN.out; have := HLEN.out; omega) (by have := HZ.out; have := HN.out; have := HLEN.out; omega) (by have := HZ.out; have := HN.out; have := HLEN.out; omega) (DB.out.dgAt (by have := C.ofs_few a l p m; omega) (C.ofs_32 a l p m)) (DC.out.dgAt (by have := C.ofs_few a l m i; omega) (C.ofs_32 a l m i)) (HK.out.below BW.out h0)).mono ?_
  rintro r V9 ha
  rw [C.mergeA_ofs a l p m i (by have := HZ.out; have := HN.out; have := HLEN.out; omega) (by have := HZ.out; have := HN.out; have := HLEN.out; omega) (by have := HZ.out; have := HN.out; have := HLEN.out; omega) (by have := HZ.out; have := HN.out; have := HLEN.out; omega)] at ha
  obtain ⟨oE, cE, rfl, hd, hb⟩ := ha.some
  obtain ⟨nE, hnE⟩ : ∃ n, n = (C.ofs a l p i).length := ⟨_, rfl⟩
  rw [← hnE] at hd ⊢
  have HNE := hide hnE
  have DE : Hid (DgRow 0 V9 (.slice oE nE cE) (C.ofs a l p i)) := hd
  replace RA : Hid (V9.heap[gA]? = some (.cells #[.int .u64 (z : Int), .int .u64 (p : Int), .slice oA nA cA] 28 (0, 0))) := (hb.block _ (block_lt_of_row RA.out)).trans RA.out
  replace RB : Hid (V9.heap[gB]? = some (.cells #[.int .u64 (p : Int), .int .u64 (m : Int), .slice oB nB cB] 28 (0, 0))) := (hb.block _ (block_lt_of_row RB.out)).trans RB.out
  replace RC : Hid (V9.heap[gC]? = some (.cells #[.int .u64 (m : Int), .int .u64 (i : Int), .slice oC nC cC] 28 (0, 0))) := (hb.block _ (block_lt_of_row RC.out)).trans RC.out
  replace RD : Hid (V9.heap[gD]? = some (.cells #[.int .u64 (z : Int), .int .u64 (m : Int), .slice oD nD cD] 28 (0, 0))) := (hb.block _ (block_lt_of_row RD.out)).trans RD.out
  replace DA : Hid (DgRow 0 V9 (.slice oA nA cA) (C.ofs a l z p)) := DA.out.below hb
  replace DB : Hid (DgRow 0 V9 (.slice oB nB cB) (C.ofs a l p m)) := DB.out.below hb
  replace DC : Hid (DgRow 0 V9 (.slice oC nC cC) (C.ofs a l m i)) := DC.out.below hb
  replace DD : Hid (DgRow 0 V9 (.slice oD nD cD) (C.ofs a l z m)) := DD.out.below hb
  replace BW := hide (BW.out.trans (hb.mono BW.out.size))
  replace BL := hide (BL.out.trans (hb.mono BL.out.size))
  clear hd hb hnE x0 x1' x2' y0 y1 y2
  go_upto_region 10 with fail
  generalize hA_ : V9.alloc _ = V10
  have hb : Below V9.heap.size V9 V10 := by rw [← hA_]; exact (Below.refl _ _).alloc (Nat.le_refl _) _
  obtain ⟨gE, hgE⟩ : ∃ g, g = V9.heap.size := ⟨_, rfl⟩
  have RE : Hid (V10.heap[gE]? = some (.cells #[.int .u64 (p : Int), .int .u64 (i : Int), .slice oE nE cE] 28 (0, 0))) := by rw [← hA_, hgE]; exact heap_alloc_new _ _
  rw [← hgE]
  replace RA : Hid (V10.heap[gA]? = some (.cells #[.int .u64 (z : Int), .int .u64 (p : Int), .slice oA nA cA] 28 (0, 0))) := (hb.block _ (block_lt_of_row RA.out)).trans RA.out
  replace RB : Hid (V10.heap[gB]? = some (.cells #[.int .u64 (p : Int), .int .u64 (m : Int), .slice oB nB cB] 28 (0, 0))) := (hb.block _ (block_lt_of_row RB.out)).trans RB.out
  replace RC : Hid (V10.heap[gC]? = some (.cells #[.int .u64 (m : Int), .int .u64 (i : Int), .slice oC nC cC] 28 (0, 0))) := (hb.block _ (block_lt_of_row RC.out)).trans RC.out
  replace RD : Hid (V10.heap[gD]? = some (.cells #[.int .u64 (z : Int), .int .u64 (m : Int), .slice oD nD cD] 28 (0, 0))) := (hb.block _ (block_lt_of_row RD.out)).trans RD.out
  replace DA : Hid (DgRow 0 V10 (.slice oA nA cA) (C.ofs a l z p)) := DA.out.below hb
  replace DB : Hid (DgRow 0 V10 (.slice oB nB cB) (C.ofs a l p m)) := DB.out.below hb
  replace DC : Hid (DgRow 0 V10 (.slice oC nC cC) (C.ofs a l m i)) := DC.out.below hb
  replace DD : Hid (DgRow 0 V10 (.slice oD nD cD) (C.ofs a l z m)) := DD.out.below hb
  replace DE : Hid (DgRow 0 V10 (.slice oE nE cE) (C.ofs a l p i)) := DE.out.below hb
  replace BW := hide (BW.out.trans (hb.mono BW.out.size))
  replace BL := hide (BL.out.trans (hb.mono BL.out.size))
  clear hA_ hb hgE
  obtain ⟨x0, x1', x2'⟩ := cells3 RD.out
  obtain ⟨y0, y1, y2⟩ := cells3 RC.out
  go_wp2_with fail
  refine (merge_any a z m m i (.slice oD nD cD) (.slice oC nC cC) (C.ofs a l z m) (C.ofs a l m i) V10 (by have := HZ.out; have := HN.out; have := HLEN.out; omega) (by have := HZ.out; have := HN.out; have := HLEN.out; omega) (by have := HZ.out; have := HN.out; have := HLEN.out; omega) (by have := HZ.out; have := HN.out; have := HLEN.out; omega) (DD.out.dgAt (by have := C.ofs_few a l z m; omega) (C.ofs_32 a l z m)) (DC.out.dgAt (by have := C.ofs_few a l m i; omega) (C.ofs_32 a l m i)) (HK.out.below BW.out h0)).mono ?_
  rintro r V11 ha
  rw [C.mergeA_ofs a l z m i (by have := HZ.out; have := HN.out; have := HLEN.out; omega) (by have := HZ.out; have := HN.out; have := HLEN.out; omega) (by have := HZ.out; have := HN.out; have := HLEN.out; omega) (by have := HZ.out; have := HN.out; have := HLEN.out; omega)] at ha
  obtain ⟨oF, cF, rfl, hd, hb⟩ := ha.some
  obtain ⟨nF, hnF⟩ : ∃ n, n = (C.ofs a l z i).length := ⟨_, rfl⟩
  rw [← hnF] at hd ⊢
  have HNF := hide hnF
  have DF : Hid (DgRow 0 V11 (.slice oF nF cF) (C.ofs a l z i)) := hd
  replace RA : Hid (V11.heap[gA]? = some (.cells #[.int .u64 (z : Int), .int .u64 (p : Int), .slice oA nA cA] 28 (0, 0))) := (hb.block _ (block_lt_of_row RA.out)).trans RA.out
  replace RB : Hid (V11.heap[gB]? = some (.cells #[.int .u64 (p : Int), .int .u64 (m : Int), .slice oB nB cB] 28 (0, 0))) := (hb.block _ (block_lt_of_row RB.out)).trans RB.out
  replace RC : Hid (V11.heap[gC]? = some (.cells #[.int .u64 (m : Int), .int .u64 (i : Int), .slice oC nC cC] 28 (0, 0))) := (hb.block _ (block_lt_of_row RC.out)).trans RC.out
  replace RD : Hid (V11.heap[gD]? = some (.cells #[.int .u64 (z : Int), .int .u64 (m : Int), .slice oD nD cD] 28 (0, 0))) := (hb.block _ (block_lt_of_row RD.out)).trans RD.out
  replace RE : Hid (V11.heap[gE]? = some (.cells #[.int .u64 (p : Int), .int .u64 (i : Int), .slice oE nE cE] 28 (0, 0))) := (hb.block _ (block_lt_of_row RE.out)).trans RE.out
  replace DA : Hid (DgRow 0 V11 (.slice oA nA cA) (C.ofs a l z p)) := DA.out.below hb
  replace DB : Hid (DgRow 0 V11 (.slice oB nB cB) (C.ofs a l p m)) := DB.out.below hb
  replace DC : Hid (DgRow 0 V11 (.slice oC nC cC) (C.ofs a l m i)) := DC.out.below hb
  replace DD : Hid (DgRow 0 V11 (.slice oD nD cD) (C.ofs a l z m)) := DD.out.below hb
  replace DE : Hid (DgRow 0 V11 (.slice oE nE cE) (C.ofs a l p i)) := DE.out.below hb
  replace BW := hide (BW.out.trans (hb.mono BW.out.size))
  replace BL := hide (BL.out.trans (hb.mono BL.out.size))
  clear hd hb hnF x0 x1' x2' y0 y1 y2
  go_upto_region 13 with fail
  generalize hA_ : V11.alloc _ = V12
  have hb : Below V11.heap.size V11 V12 := by rw [← hA_]; exact (Below.refl _ _).alloc (Nat.le_refl _) _
  obtain ⟨gF, hgF⟩ : ∃ g, g = V11.heap.size := ⟨_, rfl⟩
  have RF : Hid (V12.heap[gF]? = some (.cells #[.int .u64 (z : Int), .int .u64 (i : Int), .slice oF nF cF] 28 (0, 0))) := by rw [← hA_, hgF]; exact heap_alloc_new _ _
  rw [← hgF]
  replace RA : Hid (V12.heap[gA]? = some (.cells #[.int .u64 (z : Int), .int .u64 (p : Int), .slice oA nA cA] 28 (0, 0))) := (hb.block _ (block_lt_of_row RA.out)).trans RA.out
  replace RB : Hid (V12.heap[gB]? = some (.cells #[.int .u64 (p : Int), .int .u64 (m : Int), .slice oB nB cB] 28 (0, 0))) := (hb.block _ (block_lt_of_row RB.out)).trans RB.out
  replace RC : Hid (V12.heap[gC]? = some (.cells #[.int .u64 (m : Int), .int .u64 (i : Int), .slice oC nC cC] 28 (0, 0))) := (hb.block _ (block_lt_of_row RC.out)).trans RC.out
  replace RD : Hid (V12.heap[gD]? = some (.cells #[.int .u64 (z : Int), .int .u64 (m : Int), .slice oD nD cD] 28 (0, 0))) := (hb.block _ (block_lt_of_row RD.out)).trans RD.out
  replace RE : Hid (V12.heap[gE]? = some (.cells #[.int .u64 (p : Int), .int .u64 (i : Int), .slice oE nE cE] 28 (0, 0))) := (hb.block _ (block_lt_of_row RE.out)).trans RE.out
  replace DA : Hid (DgRow 0 V12 (.slice oA nA cA) (C.ofs a l z p)) := DA.out.below hb
  replace DB : Hid (DgRow 0 V12 (.slice oB nB cB) (C.ofs a l p m)) := DB.out.below hb
  replace DC : Hid (DgRow 0 V12 (.slice oC nC cC) (C.ofs a l m i)) := DC.out.below hb
  replace DD : Hid (DgRow 0 V12 (.slice oD nD cD) (C.ofs a l z m)) := DD.out.below hb
  replace DE : Hid (DgRow 0 V12 (.slice oE nE cE) (C.ofs a l p i)) := DE.out.below hb
  replace DF : Hid (DgRow 0 V12 (.slice oF nF cF) (C.ofs a l z i)) := DF.out.below hb
  replace BW := hide (BW.out.trans (hb.mono BW.out.size))
  replace BL := hide (BL.out.trans (hb.mono BL.out.size))
  clear hA_ hb hgF
  obtain ⟨x0, x1', x2'⟩ := cells3 RA.out
  obtain ⟨y0, y1, y2⟩ := cells3 RE.out
  go_wp2_with fail
  refine (merge_any a z p p i (.slice oA nA cA) (.slice oE nE cE) (C.ofs a l z p) (C.ofs a l p i) V12 (by have := HZ.out; have := HN.out; have := HLEN.out; omega) (by have := HZ.out; have := HN.out; have := HLEN.out; omega) (by have := HZ.out; have := HN.out; have := HLEN.out; omega) (by have := HZ.out; have := HN.out; have := HLEN.out; omega) (DA.out.dgAt (by have := C.ofs_few a l z p; omega) (C.ofs_32 a l z p)) (DE.out.dgAt (by have := C.ofs_few a l p i; omega) (C.ofs_32 a l p i)) (HK.out.below BW.out h0)).mono ?_
  rintro r V13 ha
  rw [C.mergeA_ofs a l z p i (by have := HZ.out; have := HN.out; have := HLEN.out; omega) (by have := HZ.out; have := HN.out; have := HLEN.out; omega) (by have := HZ.out; have := HN.out; have := HLEN.out; omega) (by have := HZ.out; have := HN.out; have := HLEN.out; omega)] at ha
  obtain ⟨oG, cG, rfl, hd, hb⟩ := ha.some
  obtain ⟨nG, hnG⟩ : ∃ n, n = (C.ofs a l z i).length := ⟨_, rfl⟩
  rw [← hnG] at hd ⊢
  have HNG := hide hnG
  have DG : Hid (DgRow 0 V13 (.slice oG nG cG) (C.ofs a l z i)) := hd
  replace RA : Hid (V13.heap[gA]? = some (.cells #[.int .u64 (z : Int), .int .u64 (p : Int), .slice oA nA cA] 28 (0, 0))) := (hb.block _ (block_lt_of_row RA.out)).trans RA.out
  replace RB : Hid (V13.heap[gB]? = some (.cells #[.int .u64 (p : Int), .int .u64 (m : Int), .slice oB nB cB] 28 (0, 0))) := (hb.block _ (block_lt_of_row RB.out)).trans RB.out
  replace RC : Hid (V13.heap[gC]? = some (.cells #[.int .u64 (m : Int), .int .u64 (i : Int), .slice oC nC cC] 28 (0, 0))) := (hb.block _ (block_lt_of_row RC.out)).trans RC.out
  replace RD : Hid (V13.heap[gD]? = some (.cells #[.int .u64 (z : Int), .int .u64 (m : Int), .slice oD nD cD] 28 (0, 0))) := (hb.block _ (block_lt_of_row RD.out)).trans RD.out
  replace RE : Hid (V13.heap[gE]? = some (.cells #[.int .u64 (p : Int), .int .u64 (i : Int), .slice oE nE cE] 28 (0, 0))) := (hb.block _ (block_lt_of_row RE.out)).trans RE.out
  replace RF : Hid (V13.heap[gF]? = some (.cells #[.int .u64 (z : Int), .int .u64 (i : Int), .slice oF nF cF] 28 (0, 0))) := (hb.block _ (block_lt_of_row RF.out)).trans RF.out
  replace DA : Hid (DgRow 0 V13 (.slice oA nA cA) (C.ofs a l z p)) := DA.out.below hb
  replace DB : Hid (DgRow 0 V13 (.slice oB nB cB) (C.ofs a l p m)) := DB.out.below hb
  replace DC : Hid (DgRow 0 V13 (.slice oC nC cC) (C.ofs a l m i)) := DC.out.below hb
  replace DD : Hid (DgRow 0 V13 (.slice oD nD cD) (C.ofs a l z m)) := DD.out.below hb
  replace DE : Hid (DgRow 0 V13 (.slice oE nE cE) (C.ofs a l p i)) := DE.out.below hb
  replace DF : Hid (DgRow 0 V13 (.slice oF nF cF) (C.ofs a l z i)) := DF.out.below hb
  replace BW := hide (BW.out.trans (hb.mono BW.out.size))
  replace BL := hide (BL.out.trans (hb.mono BL.out.size))
  clear hd hb hnG x0 x1' x2' y0 y1 y2
  go_upto_region 14 with fail
  generalize hA_ : V13.alloc _ = V14
  have hb : Below V13.heap.size V13 V14 := by rw [← hA_]; exact (Below.refl _ _).alloc (Nat.le_refl _) _
  obtain ⟨gG, hgG⟩ : ∃ g, g = V13.heap.size := ⟨_, rfl⟩
  have RG : Hid (V14.heap[gG]? = some (.cells #[.int .u64 (z : Int), .int .u64 (i : Int), .slice oG nG cG] 28 (0, 0))) := by rw [← hA_, hgG]; exact heap_alloc_new _ _
  rw [← hgG]
  replace RA : Hid (V14.heap[gA]? = some (.cells #[.int .u64 (z : Int), .int .u64 (p : Int), .slice oA nA cA] 28 (0, 0))) := (hb.block _ (block_lt_of_row RA.out)).trans RA.out
  replace RB : Hid (V14.heap[gB]? = some (.cells #[.int .u64 (p : Int), .int .u64 (m : Int), .slice oB nB cB] 28 (0, 0))) := (hb.block _ (block_lt_of_row RB.out)).trans RB.out
  replace RC : Hid (V14.heap[gC]? = some (.cells #[.int .u64 (m : Int), .int .u64 (i : Int), .slice oC nC cC] 28 (0, 0))) := (hb.block _ (block_lt_of_row RC.out)).trans RC.out
  replace RD : Hid (V14.heap[gD]? = some (.cells #[.int .u64 (z : Int), .int .u64 (m : Int), .slice oD nD cD] 28 (0, 0))) := (hb.block _ (block_lt_of_row RD.out)).trans RD.out
  replace RE : Hid (V14.heap[gE]? = some (.cells #[.int .u64 (p : Int), .int .u64 (i : Int), .slice oE nE cE] 28 (0, 0))) := (hb.block _ (block_lt_of_row RE.out)).trans RE.out
  replace RF : Hid (V14.heap[gF]? = some (.cells #[.int .u64 (z : Int), .int .u64 (i : Int), .slice oF nF cF] 28 (0, 0))) := (hb.block _ (block_lt_of_row RF.out)).trans RF.out
  replace DA : Hid (DgRow 0 V14 (.slice oA nA cA) (C.ofs a l z p)) := DA.out.below hb
  replace DB : Hid (DgRow 0 V14 (.slice oB nB cB) (C.ofs a l p m)) := DB.out.below hb
  replace DC : Hid (DgRow 0 V14 (.slice oC nC cC) (C.ofs a l m i)) := DC.out.below hb
  replace DD : Hid (DgRow 0 V14 (.slice oD nD cD) (C.ofs a l z m)) := DD.out.below hb
  replace DE : Hid (DgRow 0 V14 (.slice oE nE cE) (C.ofs a l p i)) := DE.out.below hb
  replace DF : Hid (DgRow 0 V14 (.slice oF nF cF) (C.ofs a l z i)) := DF.out.below hb
  replace DG : Hid (DgRow 0 V14 (.slice oG nG cG) (C.ofs a l z i)) := DG.out.below hb
  replace BW := hide (BW.out.trans (hb.mono BW.out.size))
  replace BL := hide (BL.out.trans (hb.mono BL.out.size))
  clear hA_ hb hgG
  have AF := hide (DF.out.dgAt (by have := C.ofs_few a l z i; omega) (C.ofs_32 a l z i))
  have AG := hide (DG.out.dgAt (by have := C.ofs_few a l z i; omega) (C.ofs_32 a l z i))
  have qF0 : nF ≤ 6 := by rw [HNF.out, C.ofs_length, HZ.out]; exact C.len_first i 6 (by have := HN.out; omega) (by have := HN.out; omega)
  have qB0 : nB ≤ 12 := by rw [HNB.out, C.ofs_length]; exact C.len_short m 6 (by have := HN.out; omega) (by have := HN.out; omega) 6 0 p (by omega) (by simp)
  have qF : (nF : Int) ≤ 6 := by omega
  have qB : (nB : Int) ≤ 12 := by omega
  refine wp_region_noPanic ?_
  refine wp_region_held_drew (S := (fun W => Chg (fun _ => False) V14 W)) follows ((Chg.refl _ _).drew) (fun hHeld => ?_)
  clear hHeld
  have hHeld : Chg (fun _ => False) V14 V14.drew := (Chg.refl _ _).drew
  have CZ0 := hide hHeld
  generalize V14.drew = Z0 at CZ0 hHeld ⊢
  refine wpAnyH_take (i := 0) (oi := { dst := some 114, op := Op.move (Operand.tmp 23), type := 29, pos := "law.go:147", after := #[], guard := none }) (v := ?_) rfl (by kernel_rfl) (by kernel_rfl) (by kernel_rfl) (fun _ _ _ h => h) (Or.inl ⟨by rfl, ?_⟩) (by assumption) ?_
  rotate_left
  · intro w hSw
    clear hSw
    go_simp
    all_goals with_reducible rfl
  simp only [Act.put, List.setIfInBounds_toArray, List.set_cons_zero, List.set_cons_succ]
  refine wpAnyH_take (i := 1) (oi := { dst := some 115, op := Op.binOp BinOp.eql 29 (Operand.tmp 114) (Operand.const (Value.int IntKind.i64 0)) 29, type := 4, pos := "law.go:147", after := #[{ on := 0, ground := Ground.data }], guard := none }) (v := ?_) rfl (by kernel_rfl) (by kernel_rfl) (by kernel_rfl) (fun _ _ _ h => h) (Or.inl ⟨by rfl, ?_⟩) (by assumption) ?_
  rotate_left
  · intro w hSw
    clear hSw
    go_simp
    all_goals with_reducible rfl
  simp only [Act.put, List.setIfInBounds_toArray, List.set_cons_zero, List.set_cons_succ]
  refine wpAnyH_take (i := 2) (oi := { dst := some 116, op := Op.move (Operand.tmp 115), type := 4, pos := "law.go:147", after := #[{ on := 1, ground := Ground.data }], guard := none }) (v := ?_) rfl (by kernel_rfl) (by kernel_rfl) (by kernel_rfl) (fun _ _ _ h => h) (Or.inl ⟨by rfl, ?_⟩) (by assumption) ?_
  rotate_left
  · intro w hSw
    clear hSw
    go_simp
    all_goals with_reducible rfl
  simp only [Act.put, List.setIfInBounds_toArray, List.set_cons_zero, List.set_cons_succ]
  refine wpAnyH_take (i := 3) (oi := { dst := some 117, op := Op.move (Operand.tmp 25), type := 29, pos := "law.go:147", after := #[{ on := 2, ground := Ground.guard }], guard := some (2, true) }) (v := ?_) rfl (by kernel_rfl) (by kernel_rfl) (by kernel_rfl) (fun _ _ _ h => h) (Or.inl ⟨by rfl, ?_⟩) (by assumption) ?_
  rotate_left
  · intro w hSw
    clear hSw
    go_simp
    all_goals with_reducible rfl
  simp only [Act.put, List.setIfInBounds_toArray, List.set_cons_zero, List.set_cons_succ]
  refine wpAnyH_take (i := 4) (oi := { dst := some 118, op := Op.binOp BinOp.eql 29 (Operand.tmp 117) (Operand.const (Value.int IntKind.i64 0)) 29, type := 4, pos := "law.go:147", after := #[{ on := 3, ground := Ground.data }, { on := 2, ground := Ground.guard }], guard := some (2, true) }) (v := ?_) rfl (by kernel_rfl) (by kernel_rfl) (by kernel_rfl) (fun _ _ _ h => h) (Or.inl ⟨by rfl, ?_⟩) (by assumption) ?_
  rotate_left
  · intro w hSw
    clear hSw
    go_simp
    all_goals with_reducible rfl
  simp only [Act.put, List.setIfInBounds_toArray, List.set_cons_zero, List.set_cons_succ]
  refine wpAnyH_take (i := 5) (oi := { dst := some 119, op := Op.pick (Operand.tmp 116) (Operand.tmp 118) (Operand.const (Value.bool false)), type := 4, pos := "law.go:147", after := #[{ on := 2, ground := Ground.data }, { on := 4, ground := Ground.data }], guard := none }) (v := ?_) rfl (by kernel_rfl) (by kernel_rfl) (by kernel_rfl) (fun _ _ _ h => h) (Or.inl ⟨by rfl, ?_⟩) (by assumption) ?_
  rotate_left
  · intro w hSw
    clear hSw
    go_simp
    all_goals with_reducible rfl
  simp only [Act.put, List.setIfInBounds_toArray, List.set_cons_zero, List.set_cons_succ]
  refine wpAnyH_take (i := 6) (oi := { dst := some 120, op := Op.move (Operand.tmp 119), type := 4, pos := "law.go:147", after := #[{ on := 5, ground := Ground.data }, { on := 2, ground := Ground.chain }], guard := none }) (v := ?_) rfl (by kernel_rfl) (by kernel_rfl) (by kernel_rfl) (fun _ _ _ h => h) (Or.inl ⟨by rfl, ?_⟩) (by assumption) ?_
  rotate_left
  · intro w hSw
    clear hSw
    go_simp
    all_goals with_reducible rfl
  simp only [Act.put, List.setIfInBounds_toArray, List.set_cons_zero, List.set_cons_succ]
  refine wpAnyH_take (i := 7) (oi := { dst := some 121, op := Op.load 28 (Operand.tmp 22), type := 28, pos := "law.go:147", after := #[{ on := 6, ground := Ground.guard }], guard := some (6, true) }) (v := ?_) rfl (by kernel_rfl) (by kernel_rfl) (by kernel_rfl) (fun _ _ _ h => h) (Or.inl ⟨by rfl, ?_⟩) (by assumption) ?_
  rotate_left
  · intro w hSw
    obtain ⟨e0, e1, e2⟩ := cells3 (hSw.row RF.out (fun e => e))
    clear hSw
    go_simp
    all_goals with_reducible rfl
  simp only [Act.put, List.setIfInBounds_toArray, List.set_cons_zero, List.set_cons_succ]
  refine wpAnyH_take (i := 8) (oi := { dst := some 122, op := Op.load 28 (Operand.tmp 24), type := 28, pos := "law.go:147", after := #[{ on := 6, ground := Ground.guard }], guard := some (6, true) }) (v := ?_) rfl (by kernel_rfl) (by kernel_rfl) (by kernel_rfl) (fun _ _ _ h => h) (Or.inl ⟨by rfl, ?_⟩) (by assumption) ?_
  rotate_left
  · intro w hSw
    obtain ⟨e0, e1, e2⟩ := cells3 (hSw.row RG.out (fun e => e))
    clear hSw
    go_simp
    all_goals with_reducible rfl
  simp only [Act.put, List.setIfInBounds_toArray, List.set_cons_zero, List.set_cons_succ]
  refine wpAnyH_ready (rs := [9]) (by kernel_rfl) (by simp) ?_
  refine AllReadyH.cons (o := { dst := some 123, op := Op.call { callee := Callee.value (Operand.func 9), args := #[Operand.tmp 122], argTypes := #[28] }, type := 34, pos := "law.go:147", after := #[{ on := 8, ground := Ground.data }, { on := 6, ground := Ground.chain }, { on := 6, ground := Ground.guard }], guard := some (6, true) }) rfl (fun K hK => ?_) AllReadyH.nil
  go_simp
  refine (plain_any z i oG nG cG Z0).mono ?_
  rintro e Z1 ⟨rfl, hb2⟩
  have CZ1 : Hid (Chg (fun _ => False) V14 Z1) := CZ0.out.then hb2
  clear hb2 CZ0
  clear hHeld
  refine hK.out _ _ CZ1.out (fun hHeld => ?_)
  clear hK K
  try simp only [Act.put, List.setIfInBounds_toArray, List.set_cons_zero, List.set_cons_succ]
  refine wpAnyH_ready (rs := [10]) (by kernel_rfl) (by simp) ?_
  refine AllReadyH.cons (o := { dst := some 124, op := Op.call { callee := Callee.value (Operand.func 8), args := #[Operand.tmp 121, Operand.tmp 123], argTypes := #[28, 34] }, type := 4, pos := "law.go:147", after := #[{ on := 7, ground := Ground.data }, { on := 9, ground := Ground.data }, { on := 9, ground := Ground.chain }, { on := 6, ground := Ground.guard }], guard := some (6, true) }) rfl (fun K hK => ?_) AllReadyH.nil
  go_simp
  refine (same14_any z i (.slice oF nF cF) (.slice oG nG cG) (C.ofs a l z i) Z1 (AF.out.below (CZ1.out.below _ (Nat.le_refl _) (fun _ _ e => e))) (AG.out.below (CZ1.out.below _ (Nat.le_refl _) (fun _ _ e => e)))).mono ?_
  rintro e Z2 ⟨rfl, hb2⟩
  have CZ2 : Hid (Chg (fun _ => False) V14 Z2) := CZ1.out.then hb2
  clear hb2 CZ1
  clear hHeld
  refine hK.out _ _ CZ2.out (fun hHeld => ?_)
  clear hK K
  try simp only [Act.put, List.setIfInBounds_toArray, List.set_cons_zero, List.set_cons_succ]
  refine wpAnyH_take (i := 11) (oi := { dst := some 125, op := Op.pick (Operand.tmp 120) (Operand.tmp 124) (Operand.const (Value.bool false)), type := 4, pos := "law.go:147", after := #[{ on := 6, ground := Ground.data }, { on := 10, ground := Ground.data }], guard := none }) (v := ?_) rfl (by kernel_rfl) (by kernel_rfl) (by kernel_rfl) (fun _ _ _ h => h) (Or.inl ⟨by rfl, ?_⟩) (by assumption) ?_
  rotate_left
  · intro w hSw
    clear hSw
    go_simp
    all_goals with_reducible rfl
  simp only [Act.put, List.setIfInBounds_toArray, List.set_cons_zero, List.set_cons_succ]
  refine wpAnyH_take (i := 12) (oi := { dst := some 126, op := Op.move (Operand.tmp 125), type := 4, pos := "law.go:147", after := #[{ on := 11, ground := Ground.data }, { on := 10, ground := Ground.chain }], guard := none }) (v := ?_) rfl (by kernel_rfl) (by kernel_rfl) (by kernel_rfl) (fun _ _ _ h => h) (Or.inl ⟨by rfl, ?_⟩) (by assumption) ?_
  rotate_left
  · intro w hSw
    clear hSw
    go_simp
    all_goals with_reducible rfl
  simp only [Act.put, List.setIfInBounds_toArray, List.set_cons_zero, List.set_cons_succ]
  refine wpAnyH_take (i := 13) (oi := { dst := some 127, op := Op.fieldAddr 28 (Operand.tmp 22) 2, type := 0, pos := "law.go:147", after := #[{ on := 12, ground := Ground.guard }], guard := some (12, true) }) (v := ?_) rfl (by kernel_rfl) (by kernel_rfl) (by kernel_rfl) (fun _ _ _ h => h) (Or.inl ⟨by rfl, ?_⟩) (by assumption) ?_
  rotate_left
  · intro w hSw
    clear hSw
    go_simp
    all_goals with_reducible rfl
  simp only [Act.put, List.setIfInBounds_toArray, List.set_cons_zero, List.set_cons_succ]
  refine wpAnyH_take (i := 14) (oi := { dst := some 128, op := Op.load 26 (Operand.tmp 127), type := 26, pos := "law.go:147", after := #[{ on := 13, ground := Ground.data }, { on := 12, ground := Ground.guard }], guard := some (12, true) }) (v := ?_) rfl (by kernel_rfl) (by kernel_rfl) (by kernel_rfl) (fun _ _ _ h => h) (Or.inl ⟨by rfl, ?_⟩) (by assumption) ?_
  rotate_left
  · intro w hSw
    obtain ⟨e0, e1, e2⟩ := cells3 (hSw.row RF.out (fun e => e))
    clear hSw
    go_simp
    all_goals with_reducible rfl
  simp only [Act.put, List.setIfInBounds_toArray, List.set_cons_zero, List.set_cons_succ]
  refine wpAnyH_take (i := 15) (oi := { dst := some 129, op := Op.call { callee := Callee.builtin Builtin.len, args := #[Operand.tmp 128], argTypes := #[26] }, type := 3, pos := "law.go:147", after := #[{ on := 14, ground := Ground.data }, { on := 12, ground := Ground.guard }], guard := some (12, true) }) (v := ?_) rfl (by kernel_rfl) (by kernel_rfl) (by kernel_rfl) (fun _ _ _ h => h) (Or.inl ⟨by rfl, ?_⟩) (by assumption) ?_
  rotate_left
  · intro w hSw
    clear hSw
    go_simp
    all_goals with_reducible rfl
  simp only [Act.put, List.setIfInBounds_toArray, List.set_cons_zero, List.set_cons_succ]
  refine wpAnyH_take (i := 16) (oi := { dst := some 130, op := Op.binOp BinOp.leq 3 (Operand.tmp 129) (Operand.const (Value.int IntKind.i64 6)) 3, type := 4, pos := "law.go:147", after := #[{ on := 15, ground := Ground.data }, { on := 12, ground := Ground.guard }], guard := some (12, true) }) (v := ?_) rfl (by kernel_rfl) (by kernel_rfl) (by kernel_rfl) (fun _ _ _ h => h) (Or.inl ⟨by rfl, ?_⟩) (by assumption) ?_
  rotate_left
  · intro w hSw
    clear hSw
    go_simp
    all_goals with_reducible rfl
  simp only [Act.put, List.setIfInBounds_toArray, List.set_cons_zero, List.set_cons_succ]
  refine wpAnyH_take (i := 17) (oi := { dst := some 131, op := Op.pick (Operand.tmp 126) (Operand.tmp 130) (Operand.const (Value.bool false)), type := 4, pos := "law.go:147", after := #[{ on := 12, ground := Ground.data }, { on := 16, ground := Ground.data }], guard := none }) (v := ?_) rfl (by kernel_rfl) (by kernel_rfl) (by kernel_rfl) (fun _ _ _ h => h) (Or.inl ⟨by rfl, ?_⟩) (by assumption) ?_
  rotate_left
  · intro w hSw
    clear hSw
    go_simp
    all_goals with_reducible rfl
  simp only [Act.put, List.setIfInBounds_toArray, List.set_cons_zero, List.set_cons_succ]
  refine wpAnyH_take (i := 18) (oi := { dst := some 132, op := Op.move (Operand.tmp 131), type := 4, pos := "law.go:147", after := #[{ on := 17, ground := Ground.data }, { on := 12, ground := Ground.chain }], guard := none }) (v := ?_) rfl (by kernel_rfl) (by kernel_rfl) (by kernel_rfl) (fun _ _ _ h => h) (Or.inl ⟨by rfl, ?_⟩) (by assumption) ?_
  rotate_left
  · intro w hSw
    clear hSw
    go_simp
    all_goals with_reducible rfl
  simp only [Act.put, List.setIfInBounds_toArray, List.set_cons_zero, List.set_cons_succ]
  refine wpAnyH_take (i := 19) (oi := { dst := some 133, op := Op.fieldAddr 28 (Operand.tmp 14) 2, type := 0, pos := "law.go:147", after := #[{ on := 18, ground := Ground.guard }], guard := some (18, true) }) (v := ?_) rfl (by kernel_rfl) (by kernel_rfl) (by kernel_rfl) (fun _ _ _ h => h) (Or.inl ⟨by rfl, ?_⟩) (by assumption) ?_
  rotate_left
  · intro w hSw
    clear hSw
    go_simp
    all_goals with_reducible rfl
  simp only [Act.put, List.setIfInBounds_toArray, List.set_cons_zero, List.set_cons_succ]
  refine wpAnyH_take (i := 20) (oi := { dst := some 134, op := Op.load 26 (Operand.tmp 133), type := 26, pos := "law.go:147", after := #[{ on := 19, ground := Ground.data }, { on := 18, ground := Ground.guard }], guard := some (18, true) }) (v := ?_) rfl (by kernel_rfl) (by kernel_rfl) (by kernel_rfl) (fun _ _ _ h => h) (Or.inl ⟨by rfl, ?_⟩) (by assumption) ?_
  rotate_left
  · intro w hSw
    obtain ⟨e0, e1, e2⟩ := cells3 (hSw.row RB.out (fun e => e))
    clear hSw
    go_simp
    all_goals with_reducible rfl
  simp only [Act.put, List.setIfInBounds_toArray, List.set_cons_zero, List.set_cons_succ]
  refine wpAnyH_take (i := 21) (oi := { dst := some 135, op := Op.call { callee := Callee.builtin Builtin.len, args := #[Operand.tmp 134], argTypes := #[26] }, type := 3, pos := "law.go:147", after := #[{ on := 20, ground := Ground.data }, { on := 18, ground := Ground.guard }], guard := some (18, true) }) (v := ?_) rfl (by kernel_rfl) (by kernel_rfl) (by kernel_rfl) (fun _ _ _ h => h) (Or.inl ⟨by rfl, ?_⟩) (by assumption) ?_
  rotate_left
  · intro w hSw
    clear hSw
    go_simp
    all_goals with_reducible rfl
  simp only [Act.put, List.setIfInBounds_toArray, List.set_cons_zero, List.set_cons_succ]
  refine wpAnyH_take (i := 22) (oi := { dst := some 136, op := Op.binOp BinOp.leq 3 (Operand.tmp 135) (Operand.const (Value.int IntKind.i64 12)) 3, type := 4, pos := "law.go:147", after := #[{ on := 21, ground := Ground.data }, { on := 18, ground := Ground.guard }], guard := some (18, true) }) (v := ?_) rfl (by kernel_rfl) (by kernel_rfl) (by kernel_rfl) (fun _ _ _ h => h) (Or.inl ⟨by rfl, ?_⟩) (by assumption) ?_
  rotate_left
  · intro w hSw
    clear hSw
    go_simp
    all_goals with_reducible rfl
  simp only [Act.put, List.setIfInBounds_toArray, List.set_cons_zero, List.set_cons_succ]
  refine wpAnyH_take (i := 23) (oi := { dst := some 137, op := Op.pick (Operand.tmp 132) (Operand.tmp 136) (Operand.const (Value.bool false)), type := 4, pos := "law.go:147", after := #[{ on := 18, ground := Ground.data }, { on := 22, ground := Ground.data }], guard := none }) (v := ?_) rfl (by kernel_rfl) (by kernel_rfl) (by kernel_rfl) (fun _ _ _ h => h) (Or.inl ⟨by rfl, ?_⟩) (by assumption) ?_
  rotate_left
  · intro w hSw
    clear hSw
    go_simp
    all_goals with_reducible rfl
  simp only [Act.put, List.setIfInBounds_toArray, List.set_cons_zero, List.set_cons_succ]
  refine wpAnyH_take (i := 24) (oi := { dst := some 138, op := Op.move (Operand.tmp 137), type := 4, pos := "law.go:147", after := #[{ on := 23, ground := Ground.data }, { on := 18, ground := Ground.chain }], guard := none }) (v := ?_) rfl (by kernel_rfl) (by kernel_rfl) (by kernel_rfl) (fun _ _ _ h => h) (Or.inl ⟨by rfl, ?_⟩) (by assumption) ?_
  rotate_left
  · intro w hSw
    clear hSw
    go_simp
    all_goals with_reducible rfl
  simp only [Act.put, List.setIfInBounds_toArray, List.set_cons_zero, List.set_cons_succ]
  refine wpAnyH_ready (rs := [25]) (by kernel_rfl) (by simp) ?_
  refine AllReadyH.cons (o := { dst := some 139, op := Op.call { callee := Callee.value (Operand.func 10), args := #[], argTypes := #[] }, type := 4, pos := "law.go:147", after := #[{ on := 24, ground := Ground.chain }, { on := 24, ground := Ground.guard }], guard := some (24, true) }) rfl (fun K hK => ?_) AllReadyH.nil
  go_simp
  refine (known10_any Z2 (HK.out.below (BW.out.trans (CZ2.out.below w.heap.size BW.out.size (fun k hk e => by omega))) h0)).mono ?_
  rintro e Z3 ⟨rfl, hb2⟩
  have CZ3 : Hid (Chg (fun _ => False) V14 Z3) := CZ2.out.then hb2
  clear hb2 CZ2
  clear hHeld
  refine hK.out _ _ CZ3.out (fun hHeld => ?_)
  clear hK K
  try simp only [Act.put, List.setIfInBounds_toArray, List.set_cons_zero, List.set_cons_succ]
  refine wpAnyH_take (i := 26) (oi := { dst := some 140, op := Op.pick (Operand.tmp 138) (Operand.tmp 139) (Operand.const (Value.bool false)), type := 4, pos := "law.go:147", after := #[{ on := 24, ground := Ground.data }, { on := 25, ground := Ground.data }], guard := none }) (v := ?_) rfl (by kernel_rfl) (by kernel_rfl) (by kernel_rfl) (fun _ _ _ h => h) (Or.inl ⟨by rfl, ?_⟩) (by assumption) ?_
  rotate_left
  · intro w hSw
    clear hSw
    go_simp
    all_goals with_reducible rfl
  simp only [Act.put, List.setIfInBounds_toArray, List.set_cons_zero, List.set_cons_succ]
  refine wpAnyH_take (i := 27) (oi := { dst := some 8, op := Op.assign (Operand.tmp 140), type := 4, pos := "law.go:147", after := #[{ on := 26, ground := Ground.data }, { on := 25, ground := Ground.chain }, { on := 0, ground := Ground.phase }, { on := 1, ground := Ground.phase }, { on := 2, ground := Ground.phase }, { on := 3, ground := Ground.phase }, { on := 4, ground := Ground.phase }, { on := 5, ground := Ground.phase }, { on := 6, ground := Ground.phase }, { on := 7, ground := Ground.phase }, { on := 8, ground := Ground.phase }, { on := 9, ground := Ground.phase }, { on := 10, ground := Ground.phase }, { on := 11, ground := Ground.phase }, { on := 12, ground := Ground.phase }, { on := 13, ground := Ground.phase }, { on := 14, ground := Ground.phase }, { on := 15, ground := Ground.phase }, { on := 16, ground := Ground.phase }, { on := 17, ground := Ground.phase }, { on := 18, ground := Ground.phase }, { on := 19, ground := Ground.phase }, { on := 20, ground := Ground.phase }, { on := 21, ground := Ground.phase }, { on := 22, ground := Ground.phase }, { on := 23, ground := Ground.phase }, { on := 24, ground := Ground.phase }, { on := 25, ground := Ground.phase }, { on := 26, ground := Ground.phase }], guard := none }) (v := ?_) rfl (by kernel_rfl) (by kernel_rfl) (by kernel_rfl) (fun _ _ _ h => h) (Or.inl ⟨by rfl, ?_⟩) (by assumption) ?_
  rotate_left
  · intro w hSw
    clear hSw
    go_simp
    all_goals with_reducible rfl
  simp only [Act.put, List.setIfInBounds_toArray, List.set_cons_zero, List.set_cons_succ]
  refine wpAnyH_done (by kernel_rfl) ?_ _
  refine NoPanic.normal ?_
  clear hHeld
  have BF := hide (BW.out.trans (CZ3.out.below w.heap.size BW.out.size (fun k hk e => by omega)))
  go_wp2_with fail
  go_ret
  exact ⟨rfl, BF.out⟩
end Go.Proofs.YtkljajfgdelfgabDoor
