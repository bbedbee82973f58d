/- setOf of any sheets. -/
import Derived.Test.YthjlhngjpbmieaaGreatDoorTd
import Derived.Test.YthjlhngjpbmieaaGreatDoorJc
import Derived.Test.YthjlhngjpbmieaaGreatDoorJe
namespace Go.Proofs.YthjlhngjpbmieaaGreatDoor
open Go.RowKit

namespace S
/-- The set s and page n. -/
def orBit (s : List UInt8) (n : Nat) : List UInt8 := s.set (n / 8) (s.getD (n / 8) 0 ||| UInt8.ofNat (2 ^ (n % 8)))
theorem orBit_length (s : List UInt8) (n : Nat) : (orBit s n).length = s.length := by unfold orBit; rw [List.length_set]
/-- The set of these pages. -/
def setL (ns : List Nat) : List UInt8 := ns.foldl orBit (zeros 64)
theorem foldl_orBit_length (ns : List Nat) (s : List UInt8) : (ns.foldl orBit s).length = s.length := by
  induction ns generalizing s with
  | nil => rfl
  | cons n r ih => rw [List.foldl_cons, ih, orBit_length]
theorem setL_length (ns : List Nat) : (setL ns).length = 64 := by unfold setL; rw [foldl_orBit_length, zeros_length]
theorem or_bits (r : Nat) (x : UInt8) (h : r < 8) : bits BinOp.or IntKind.u8 (x.toNat : Int) (IntKind.u8.wrap (2 ^ r)) = ((x ||| UInt8.ofNat (2 ^ r)).toNat : Int) := by
  have e : IntKind.u8.wrap (2 ^ r) = (((UInt8.ofNat (2 ^ r)).toNat : Nat) : Int) := by
    match r, h with
    | 0, _ => rfl
    | 1, _ => rfl
    | 2, _ => rfl
    | 3, _ => rfl
    | 4, _ => rfl
    | 5, _ => rfl
    | 6, _ => rfl
    | 7, _ => rfl
  rw [e, u8_or_nat _ _ (UInt8.toNat_lt x) (UInt8.toNat_lt _), UInt8.toNat_or]
/-- The pages of sheets. -/
def pgs (d : List ShV) : List Nat := d.map (fun x => x.1.toNat)
theorem setL_take (d : List ShV) (k : Nat) (x : ShV) (h : d[k]? = some x) : setL (pgs (d.take (k + 1))) = orBit (setL (pgs (d.take k))) x.1.toNat := by
  unfold setL pgs
  rw [List.take_add_one, h, List.map_append, List.foldl_append]
  rfl
end S
set_option maxHeartbeats 4000000 in
set_option maxRecDepth 10000 in
theorem setOf_any (g c : Nat) (d : List ShV) (w : World) (hs : ShR w g d) (hp : ∀ x ∈ d, 0 ≤ x.1 ∧ x.1 < 512 ∧ x.2.2.1 = 1024) (hl : d.length ≤ 256) :
   Calls Tryz.prog 33 #[.slice (some ⟨g, 0, none⟩) d.length c] w fun e w' => e = .returned (.agg (S.v8 (S.setL (S.pgs d)))) ∧ Below w.heap.size w w' := by
  have hal1 := alloc57 w
  obtain ⟨w1, hw1⟩ : ∃ w1, w1 = w.alloc (.cells (S.v8 (S.zeros 64)) 65) := ⟨_, rfl⟩
  have hal2 := alloc57 w1
  obtain ⟨w2, hw2⟩ : ∃ w2, w2 = w1.alloc (.cells (S.v8 (S.zeros 64)) 65) := ⟨_, rfl⟩
  have b1 : Below w.heap.size w w1 := by rw [hw1]; exact (Below.refl _ _).alloc (Nat.le_refl _) _
  have b2 : Below w1.heap.size w1 w2 := by rw [hw2]; exact (Below.refl _ _).alloc (Nat.le_refl _) _
  have r1 : w1.heap[w.heap.size]? = some (.cells (S.v8 (S.zeros 64)) 65 (0, 0)) := by rw [hw1]; exact heap_alloc_new _ _
  have r2 : w2.heap[w1.heap.size]? = some (.cells (S.v8 (S.zeros 64)) 65 (0, 0)) := by rw [hw2]; exact heap_alloc_new _ _
  have R2 : Hid (w2.heap[w.heap.size]? = some (.cells (S.v8 (S.zeros 64)) 65 (0, 0))) := (b2.block _ (block_lt_of_row r1)).trans r1
  have R3 := hide r2
  have B2 : Hid (Below w.heap.size w w2) := b1.trans (b2.mono b1.size)
  have S2 : Hid (ShR w2 g d) := (hs.below b1).below b2
  have HQ := hide hp
  have HL := hide hl
  have hgl := hs.lt
  have NG3 : Hid (¬ g = w1.heap.size) := fun e => by have := b1.size; omega
  have h12 := block_lt_of_row r1
  rw [← hw1] at hal1
  rw [← hw2] at hal2
  obtain ⟨g2, hg2⟩ : ∃ g2, g2 = w.heap.size := ⟨_, rfl⟩
  obtain ⟨g3, hg3⟩ : ∃ g3, g3 = w1.heap.size := ⟨_, rfl⟩
  rw [← hg2] at hal1 R2
  rw [← hg3] at hal2 R3 NG3
  have N23 : Hid (¬ g2 = g3) := fun e => by omega
  have HG3 : Hid (w.heap.size ≤ g3) := by show w.heap.size ≤ g3; omega
  have HG2 : Hid (w.heap.size ≤ g2) := by show w.heap.size ≤ g2; omega
  clear b1 b2 r1 r2 hw1 hw2 hg2 hg3 hs h12 hp hl hgl
  go_enter Tryz.func33, Tryz.ntmps33
  go_wp2_with (first | (with_reducible refine at_op ⟨some 2, .alloc 65, 0, "set.go:14", #[], none⟩ ?_; refine wpList_alloc_known rfl 65 rfl (.pointer (some ⟨g2, 0, none⟩)) w1 hal1 ?_) | (with_reducible refine at_op ⟨some 3, .alloc 65, 0, "set.go:15", #[], none⟩ ?_; refine wpList_alloc_known rfl 65 rfl (.pointer (some ⟨g3, 0, none⟩)) w2 hal2 ?_))
  clear hal1 hal2
  go_loopw [8] (fun i wr => ∃ k : Nat, k ≤ d.length ∧ i = .int .i64 (k : Int) ∧ wr.heap[g2]? = some (.cells (S.v8 (S.zeros 64)) 65 (0, 0)) ∧ wr.heap[g3]? = some (.cells (S.v8 (S.setL (S.pgs (d.take k)))) 65 (0, 0)) ∧ ShR wr g d ∧ Below w.heap.size w wr) (fun i _ => d.length - (intOf i).toNat)
  case atStart => exact ⟨0, Nat.zero_le _, rfl, R2.out, R3.out, S2.out, B2.out⟩
  case round =>
  obtain ⟨k, hk, rfl, h2, h3, hs, hb⟩ := hrel
  clear R2 R3 S2 B2
  by_cases hkl : k < d.length
  · obtain ⟨x, hx⟩ : ∃ x, d[k]? = some x := ⟨d[k], List.getElem?_eq_getElem hkl⟩
    obtain ⟨c0, c1⟩ := hs.cells k x hx
    obtain ⟨p1, p2, p3⟩ := HQ.out x (List.mem_of_getElem? hx)
    obtain ⟨xn, ab, xl, cb⟩ := x
    simp only at p1 p2 p3
    subst p3
    obtain ⟨n, rfl⟩ : ∃ n : Nat, xn = (n : Int) := ⟨xn.toNat, by omega⟩
    have hn : n < 512 := by omega
    have hkI : (k : Int) < (d.length : Int) := by omega
    have hk0 : (0 : Int) ≤ (k : Int) := by omega
    have hgt : (d.length : Int) ≤ 256 := by have := HL.out; omega
    have KK := hide hkl
    simp only [ShV.list] at c1
    obtain ⟨q, hq⟩ : ∃ q : Nat, q = n / 8 := ⟨_, rfl⟩
    obtain ⟨r, hr⟩ : ∃ r : Nat, r = n % 8 := ⟨_, rfl⟩
    obtain ⟨s0, hs0⟩ : ∃ s0, s0 = S.setL (S.pgs (d.take k)) := ⟨_, rfl⟩
    have HONE : Hid (S.setL (S.pgs (d.take (k + 1))) = s0.set q (s0[q]?.getD 0 ||| UInt8.ofNat (2 ^ r))) := by
      show S.setL (S.pgs (d.take (k + 1))) = s0.set q (s0[q]?.getD 0 ||| UInt8.ofNat (2 ^ r))
      rw [S.setL_take d k _ hx, hq, hr, hs0]; rfl
    have SL : Hid (s0.length = 64) := by rw [hs0]; exact S.setL_length _
    have hr8 : r < 8 := by omega
    have hq64 : q < 64 := by omega
    have q1 : (n : Int) / 8 = (q : Int) := by omega
    have q2 : (n : Int) % 8 = (r : Int) := by omega
    have q3 : (0 : Int) ≤ (q : Int) := by omega
    have q4 : (q : Int) < 64 := by omega
    have q5 : (0 : Int) ≤ (r : Int) := by omega
    have q6 : (r : Int) < 8 := by omega
    have q7 : (0 : Int) ≤ (n : Int) := by omega
    have q8 : IntKind.i64.wrap (q : Int) = (q : Int) := by rw [IntKind.wrap_i64]; omega
    have q9 : IntKind.i64.wrap (r : Int) = (r : Int) := by rw [IntKind.wrap_i64]; omega
    have q10 : (n : Int).tmod 8 = (r : Int) := by rw [Int.tmod_eq_emod_of_nonneg q7]; exact q2
    rw [← hs0] at h3
    have R3 := hide h3
    have R2 := hide h2
    have S2 := hide hs
    have B2 := hide hb
    clear hx p1 p2 hkl hq hr hn hs0 h2 h3 hs hb hk
    obtain ⟨bv, hbv⟩ : ∃ bv, bv = Value.slice ab 1024 cb := ⟨_, rfl⟩
    obtain ⟨w5, hw5⟩ : ∃ w5, w5 = wr.alloc (.cells #[.int .i64 (n : Int), .slice ab 1024 cb] 37) := ⟨_, rfl⟩
    have b5 : Below wr.heap.size wr w5 := by rw [hw5]; exact (Below.refl _ _).alloc (Nat.le_refl _) _
    have R5 : Hid (w5.heap[wr.heap.size]? = some (.cells #[.int .i64 (n : Int), bv] 37 (0, 0))) := by rw [hw5, hbv]; exact heap_alloc_new _ _
    have R35 : Hid (w5.heap[g3]? = some (.cells (S.v8 s0) 65 (0, 0))) := (b5.block g3 (block_lt_of_row R3.out)).trans R3.out
    have R25 : Hid (w5.heap[g2]? = some (.cells (S.v8 (S.zeros 64)) 65 (0, 0))) := (b5.block g2 (block_lt_of_row R2.out)).trans R2.out
    have N53 : Hid (¬ wr.heap.size = g3) := fun e => by have := block_lt_of_row R3.out; omega
    have S5 := hide (S2.out.below b5)
    have B5 := hide (B2.out.trans (b5.mono B2.out.size))
    obtain ⟨g5, hg5⟩ : ∃ g5, g5 = wr.heap.size := ⟨_, rfl⟩
    rw [← hg5] at R5 N53
    clear b5 S2 R2 R3 B2
    go_upto_region 5 with fail
    rw [← hw5, ← hg5]
    clear hw5 hg5 c0 c1
    refine wp_region_noPanic ?_
    refine wp_region_held_drew (S := (fun W => W.heap[g5]? = some (.cells #[.int .i64 (n : Int), bv] 37 (0, 0)))) follows R5.out (fun hHeld => ?_)
    have R3d : Hid (w5.drew.heap[g3]? = some (.cells (S.v8 s0) 65 (0, 0))) := R35.out
    have R2d : Hid (w5.drew.heap[g2]? = some (.cells (S.v8 (S.zeros 64)) 65 (0, 0))) := R25.out
    have B5d : Hid (Below w.heap.size w w5.drew) := B5.out.drew
    have S5d := hide (S5.out.below (Below.refl w5.heap.size w5).drew)
    clear R35 R25 B5 R5 S5
    generalize w5.drew = Z1 at R3d R2d B5d S5d hHeld ⊢
    refine tk 0 ?_ rfl (Or.inl ⟨by rfl, ?_⟩) ?_
    rotate_left
    · intro w hSw
      clear hSw
      go_simp
      all_goals with_reducible rfl
    simp only [Act.put, List.setIfInBounds_toArray, List.set_cons_zero, List.set_cons_succ]
    refine tk 1 ?_ rfl (Or.inl ⟨by rfl, ?_⟩) ?_
    rotate_left
    · intro w hSw
      have c0 := (sh_cells hSw).1
      clear hSw
      go_simp
      all_goals with_reducible rfl
    simp only [Act.put, List.setIfInBounds_toArray, List.set_cons_zero, List.set_cons_succ]
    refine tk 2 ?_ rfl (Or.inl ⟨by rfl, ?_⟩) ?_
    rotate_left
    · intro w hSw
      clear hSw
      go_simp
      all_goals with_reducible rfl
    simp only [Act.put, List.setIfInBounds_toArray, List.set_cons_zero, List.set_cons_succ]
    refine tk 3 ?_ rfl (Or.inl ⟨by rfl, ?_⟩) ?_
    rotate_left
    · intro w hSw
      clear hSw
      go_simp
      all_goals with_reducible rfl
    simp only [Act.put, List.setIfInBounds_toArray, List.set_cons_zero, List.set_cons_succ]
    refine tk 5 ?_ rfl (Or.inl ⟨by rfl, ?_⟩) ?_
    rotate_left
    · intro w hSw
      clear hSw
      go_simp
      all_goals with_reducible rfl
    simp only [Act.put, List.setIfInBounds_toArray, List.set_cons_zero, List.set_cons_succ]
    refine tk 6 ?_ rfl (Or.inl ⟨by rfl, ?_⟩) ?_
    rotate_left
    · intro w hSw
      have c0 := (sh_cells hSw).1
      clear hSw
      go_simp
      all_goals with_reducible rfl
    simp only [Act.put, List.setIfInBounds_toArray, List.set_cons_zero, List.set_cons_succ]
    refine tk 7 ?_ rfl (Or.inl ⟨by rfl, ?_⟩) ?_
    rotate_left
    · intro w hSw
      clear hSw
      go_simp
      all_goals with_reducible rfl
    simp only [Act.put, List.setIfInBounds_toArray, List.set_cons_zero, List.set_cons_succ]
    refine tk 8 ?_ rfl (Or.inl ⟨by rfl, ?_⟩) ?_
    rotate_left
    · intro w hSw
      clear hSw
      go_simp
      all_goals with_reducible rfl
    simp only [Act.put, List.setIfInBounds_toArray, List.set_cons_zero, List.set_cons_succ]
    refine wpAnyH_ready (rs := [4]) (by kernel_rfl) (by simp) ?_
    refine AllReadyH.cons (o := { dst := some 16, op := Op.load 5 (Operand.tmp 15), type := 5, pos := "set.go:17", after := #[⟨3, .data⟩], guard := none }) rfl (fun K hK => ?_) AllReadyH.nil
    have c4 := v8_cell R3d.out q (by rw [SL.out]; omega)
    go_simp
    clear c4
    refine hK.out _ _ hHeld (fun hHeld => ?_)
    clear hK K
    try simp only [Act.put, List.setIfInBounds_toArray, List.set_cons_zero, List.set_cons_succ]
    refine tk 9 ?_ rfl (Or.inl ⟨by rfl, ?_⟩) ?_
    rotate_left
    · intro w hSw
      clear hSw
      go_simp
      all_goals with_reducible rfl
    simp only [Act.put, List.setIfInBounds_toArray, List.set_cons_zero, List.set_cons_succ]
    refine tk 10 ?_ rfl (Or.inl ⟨by rfl, ?_⟩) ?_
    rotate_left
    · intro w hSw
      clear hSw
      go_simp
      all_goals with_reducible rfl
    simp only [Act.put, List.setIfInBounds_toArray, List.set_cons_zero, List.set_cons_succ]
    refine wpAnyH_ready (rs := [11]) (by kernel_rfl) (by simp) ?_
    refine AllReadyH.cons (o := { dst := none, op := Op.store 5 (Operand.tmp 22) (Operand.tmp 21), type := 0, pos := "set.go:17", after := #[⟨10, .data⟩, ⟨9, .data⟩, ⟨0, .phase⟩, ⟨1, .phase⟩, ⟨2, .phase⟩, ⟨3, .phase⟩, ⟨4, .phase⟩, ⟨5, .phase⟩, ⟨6, .phase⟩, ⟨7, .phase⟩, ⟨8, .phase⟩, ⟨9, .phase⟩], guard := none }) rfl (fun K hK => ?_) AllReadyH.nil
    have c4 := v8_cell R3d.out q (by rw [SL.out]; omega)
    have f4 := frozen_of_row _ _ q _ _ R3d.out
    go_simp
    rw [S.or_bits r _ hr8]
    have V3 := hide (v8_set R3d.out q (s0[q]?.getD 0 ||| UInt8.ofNat (2 ^ r)))
    have a2 : (Z1.setCell ⟨g3, q, none⟩ (.int .u8 ((s0[q]?.getD 0 ||| UInt8.ofNat (2 ^ r)).toNat : Int))).heap[g5]? = some (.cells #[.int .i64 (n : Int), bv] 37 (0, 0)) := (heap_setCell_other _ ⟨g3, q, none⟩ g5 _ (fun e => N53.out e)).trans hHeld
    have R2s : Hid ((Z1.setCell ⟨g3, q, none⟩ (.int .u8 ((s0[q]?.getD 0 ||| UInt8.ofNat (2 ^ r)).toNat : Int))).heap[g2]? = some (.cells (S.v8 (S.zeros 64)) 65 (0, 0))) := (heap_setCell_other _ ⟨g3, q, none⟩ g2 _ (fun e => N23.out e)).trans R2d.out
    have S6 : Hid (ShR (Z1.setCell ⟨g3, q, none⟩ (.int .u8 ((s0[q]?.getD 0 ||| UInt8.ofNat (2 ^ r)).toNat : Int))) g d) := by
      obtain ⟨cur, x1, x2⟩ := S5d.out.row
      exact ⟨cur, (heap_setCell_other _ ⟨g3, q, none⟩ g _ (fun e => NG3.out e)).trans x1, x2⟩
    have B6 : Hid (Below w.heap.size w (Z1.setCell ⟨g3, q, none⟩ (.int .u8 ((s0[q]?.getD 0 ||| UInt8.ofNat (2 ^ r)).toNat : Int)))) := B5d.out.setCell (p := ⟨g3, q, none⟩) HG3.out _
    obtain ⟨Z2, hZ2⟩ : ∃ Z2, Z2 = Z1.setCell ⟨g3, q, none⟩ (.int .u8 ((s0[q]?.getD 0 ||| UInt8.ofNat (2 ^ r)).toNat : Int)) := ⟨_, rfl⟩
    rw [← hZ2] at V3 a2 R2s S6 B6 ⊢
    refine hK.out _ _ a2 (fun hHeld => ?_)
    clear hK K a2 hZ2 c4 f4 R3d R2d B5d S5d
    try simp only [Act.put, List.setIfInBounds_toArray, List.set_cons_zero, List.set_cons_succ]
    refine wpAnyH_done (by kernel_rfl) ?_ _
    refine NoPanic.normal ?_
    clear hHeld
    go_wp2_with fail
    go_roundw
    case rel => exact ⟨k + 1, KK.out, by go_num, R2s.out, by rw [HONE.out]; exact V3.out, S6.out, B6.out⟩
    case measure => have := KK.out; simp [intOf]; omega

  · have hkI : ¬ ((k : Int) < (d.length : Int)) := by omega
    rw [List.take_of_length_le (by omega)] at h3
    have ld := load57 h3 (S.setL_length _)
    obtain ⟨w6, hst, r6, c6⟩ := store57 (ys := S.setL (S.pgs d)) h2 (S.zeros_length _) (S.setL_length _)
    have R6 := hide r6
    have B6 : Hid (Below w.heap.size w w6) := hb.trans (c6.base hb.size HG2.out)
    obtain ⟨Z, hZ⟩ : ∃ Z, Z = S.v8 (S.setL (S.pgs d)) := ⟨_, rfl⟩
    rw [← hZ] at ld hst
    have HZ := hide hZ
    clear r6 c6 h2 h3 hb hZ hs hk hkl
    go_wp2_with (first | (with_reducible refine at_op ⟨some 24, .load 65 (.tmp 3), 65, "set.go:19", #[], none⟩ ?_; refine wpList_load_as rfl 65 (.tmp 3) rfl (.pointer (some ⟨g3, 0, none⟩)) rfl (.agg Z) ld ?_) | (with_reducible refine at_op ⟨none, .store 65 (.tmp 2) (.tmp 24), 0, "set.go:19", #[⟨0, .data⟩, ⟨0, .phase⟩], none⟩ ?_; refine wpList_store_as rfl 65 (.tmp 2) (.tmp 24) rfl (.pointer (some ⟨g2, 0, none⟩)) (.agg Z) rfl rfl w6 hst ?_))
    refine bodyPost_ret (results_row_one Tryz.results33 _ _ g2 (.agg (S.v8 (S.setL (S.pgs d)))) rfl (loadVar57 R6.out (S.setL_length _))) rfl ⟨rfl, B6.out⟩
end Go.Proofs.YthjlhngjpbmieaaGreatDoor
namespace Go.Proofs.YthjlhngjpbmieaaGreatDoor
open Go.RowKit

theorem ownsRow_below {w W : World} {base : Nat} {e : TypeId} {size : Nat} {v : Value} {n : Nat} {xs : List Value} (h : w.ownsRow base e size v n xs) (hb : Below w.heap.size w W) : W.ownsRow base e size v n xs := by
  refine ⟨h.1, ?_⟩
  rcases h.2 with h2 | ⟨g, cap, cur, h1, h2, h3, h4⟩
  · exact Or.inl h2
  · exact Or.inr ⟨g, cap, cur, h1, h2, (hb.block g (block_lt_of_row h3)).trans h3, h4⟩
namespace S
/-- The pages below k that a set holds. -/
def inSet (s : List UInt8) (k : Nat) : List Nat := (List.range k).filter (bit s)
theorem inSet_succ (s : List UInt8) (k : Nat) : inSet s (k + 1) = inSet s k ++ (if bit s k then [k] else []) := by
  unfold inSet
  rw [List.range_succ, List.filter_append]
  congr 1
  by_cases h : bit s k = true
  · rw [if_pos h, List.filter_cons_of_pos h]; rfl
  · rw [if_neg h, List.filter_cons_of_neg h]; rfl
theorem inSet_length (s : List UInt8) (k : Nat) : (inSet s k).length ≤ k := by
  unfold inSet
  exact Nat.le_trans (List.length_filter_le _ _) (by rw [List.length_range]; exact Nat.le_refl _)
def ints (l : List Nat) : List Value := l.map (fun n : Nat => Value.int .i64 (n : Int))
end S
/-- append of one int onto a row of the call's own. -/
theorem run_append_int_on (w : World) (base gx : Nat) (n : Int) (ty : TypeId) (v : Value) (m : Nat) (xs : List Value) (hown : w.ownsRow base 3 1 v m xs) (hm : m ≤ 1000) (hb : base ≤ w.heap.size) (hx : w.heap[gx]? = some (.cells #[.int .i64 n] 3 (0, 0))) :
    ∃ v' w', (Builtin.append_ #[46, 46] ty #[v, .slice (some ⟨gx, 0, none⟩) 1 1]).run Tryz.prog w = .ok v' w' ∧ (w'.ownsRow base 3 1 v' (m + 1) (xs ++ [.int .i64 n]) ∧ w.grownBy w' v.ownBlock) := by
  obtain ⟨i, hi, hz0, hz1, hz2⟩ := info_parts info3
  obtain ⟨v', w', hr, ho, hg, hn⟩ := run_append_own (P := Tryz.prog) w base 46 ty 3 i (.int .i64 0) 1 8 Tryz.underlying46 hi hz0 hz1 hz2 rfl (by omega) v m xs hown ⟨gx, 0, none⟩ 1 1 [.int .i64 n] rfl (fun j u hu => by
    rw [Addr.add_lit, Nat.zero_add, cell_of_row w gx j _ 3 (0, 0) hx]
    simpa using hu) (fun u hu => by simp only [List.mem_singleton] at hu; rw [hu]; rfl) (by simp [maxLen]; omega) (by omega) hb
  exact ⟨v', w', hr, ho, hg⟩
set_option maxHeartbeats 4000000 in
set_option maxRecDepth 10000 in
theorem pages_any (s : List UInt8) (w : World) (hs : s.length = 64) :
   Calls Tryz.prog 48 #[.agg (S.v8 s)] w fun e w' => ∃ v, e = .returned v ∧ w'.ownsRow w.heap.size 3 1 v (S.inSet s 512).length (S.ints (S.inSet s 512)) ∧ Below w.heap.size w w' := by
  obtain ⟨Z, hZ⟩ : ∃ Z, Z = S.v8 s := ⟨_, rfl⟩
  obtain ⟨w1, hw1⟩ : ∃ w1, w1 = w.alloc (.cells Z 65) := ⟨_, rfl⟩
  have B1 : Hid (Below w.heap.size w w1) := by rw [hw1]; exact (Below.refl _ _).alloc (Nat.le_refl _) _
  have R1 : Hid (w1.heap[w.heap.size]? = some (.cells (S.v8 s) 65 (0, 0))) := by rw [hw1, hZ]; exact heap_alloc_new _ _
  obtain ⟨gs, hgs⟩ : ∃ gs, gs = w.heap.size := ⟨_, rfl⟩
  rw [← hgs] at R1
  obtain ⟨bs, hbs⟩ : ∃ bs, bs = w.heap.size + 1 := ⟨_, rfl⟩
  have NB := hide (show gs < bs by omega)
  have WB := hide (show w.heap.size ≤ bs by omega)
  have BS1 : Hid (bs ≤ w1.heap.size) := by have := block_lt_of_row R1.out; show bs ≤ w1.heap.size; omega
  rw [← hZ]
  have HZ := hide hZ
  have HS := hide hs
  clear hZ hbs hs
  go_enter Tryz.func48, Tryz.ntmps48
  go_wp2_with fail
  rw [← hw1, ← hgs]
  clear hw1 hgs
  go_loopw [3, 5] (fun l i wr => ∃ k : Nat, k ≤ 512 ∧ i = .int .i64 (k : Int) ∧ wr.heap[gs]? = some (.cells (S.v8 s) 65 (0, 0)) ∧ Below w.heap.size w wr ∧ bs ≤ wr.heap.size ∧ wr.ownsRow bs 3 1 l (S.inSet s k).length (S.ints (S.inSet s k))) (fun _ i _ => 512 - (intOf i).toNat)
  case atStart => exact ⟨0, by omega, rfl, R1.out, B1.out, BS1.out, World.ownsRow_nil _ _ _ _⟩
  case round =>
  obtain ⟨k, hk, rfl, hr, hb, hbs, hl⟩ := hrel
  have RR := hide hr
  have BB := hide hb
  have BS := hide hbs
  have HL := hide hl
  clear hr hb hl hbs R1 B1 BS1
  by_cases hlt : k < 512
  · have q1 : (k : Int) < 512 := by omega
    have q2 : IntKind.i64.wrap ((k : Int) + 1) = (k : Int) + 1 := by rw [IntKind.wrap_i64]; omega
    have ld := load57 RR.out HS.out
    rw [← HZ.out] at ld
    go_wp2_with (with_reducible refine at_op ⟨some 8, .load 65 (.tmp 1), 65, "set.go:50", #[], none⟩ ?_; refine wpList_load_as rfl 65 (.tmp 1) rfl (.pointer (some ⟨gs, 0, none⟩)) rfl (.agg Z) ld ?_)
    clear ld
    refine (bit_any Z s k wr HZ.out HS.out hlt).mono ?_
    rintro e w2 ⟨rfl, b2⟩
    have R2 : Hid (w2.heap[gs]? = some (.cells (S.v8 s) 65 (0, 0))) := (b2.block gs (block_lt_of_row RR.out)).trans RR.out
    have B2 := hide (BB.out.trans (b2.mono BB.out.size))
    have S2 := hide (Nat.le_trans BS.out b2.size)
    have L2 := hide (ownsRow_below HL.out b2)
    have SU := hide (S.inSet_succ s k)
    have SLE := hide (S.inSet_length s k)
    clear b2 RR BB BS HL
    by_cases hkn : S.bit s k = true
    · rw [hkn]
      obtain ⟨w3, hw3⟩ : ∃ w3, w3 = w2.alloc (.cells #[.int .i64 (k : Int)] 3) := ⟨_, rfl⟩
      have b3 : Below w2.heap.size w2 w3 := by rw [hw3]; exact (Below.refl _ _).alloc (Nat.le_refl _) _
      have r3 : w3.heap[w2.heap.size]? = some (.cells #[.int .i64 (k : Int)] 3 (0, 0)) := by rw [hw3]; exact heap_alloc_new _ _
      have S3 := hide (Nat.le_trans S2.out b3.size)
      have L3 := hide (ownsRow_below L2.out b3)
      have APP := hide (run_append_int_on w3 bs w2.heap.size (k : Int) 46 u3 _ _ L3.out (by have := SLE.out; omega) S3.out r3)
      have R3 : Hid (w3.heap[gs]? = some (.cells (S.v8 s) 65 (0, 0))) := (b3.block gs (block_lt_of_row R2.out)).trans R2.out
      have B3 := hide (B2.out.trans (b3.mono B2.out.size))
      have HW3 := hide hw3
      clear b3 r3 hw3 R2 B2 L2 S2
      go_wp2_with (at_builtin; (rw [← HW3.out]; refine wpList_append_known rfl (.tmp 11) (.tmp 13) 46 46 rfl _ _ rfl rfl APP.out ?_; rintro v4 w4 ⟨ho4, hg4⟩; have O4 := hide ho4; have G4 := hide hg4; clear ho4 hg4))
      have LT3 := L3.out.lt
      have R4 : Hid (w4.heap[gs]? = some (.cells (S.v8 s) 65 (0, 0))) := (G4.out.block gs (block_lt_of_row R3.out) (fun e => by have := (LT3 gs e.symm).1; have := NB.out; omega)).trans R3.out
      have B5 : Hid (Below w.heap.size w w4) := B3.out.grown G4.out B3.out.size (fun j e => Nat.le_trans WB.out (LT3 j e).1)
      have S5 := hide (Nat.le_trans S3.out G4.out.size)
      have L5 : Hid (w4.ownsRow bs 3 1 v4 (S.inSet s (k + 1)).length (S.ints (S.inSet s (k + 1)))) := by
        show w4.ownsRow bs 3 1 v4 (S.inSet s (k + 1)).length (S.ints (S.inSet s (k + 1)))
        rw [SU.out, if_pos hkn, List.length_append, S.ints, List.map_append]
        exact O4.out
      clear APP LT3 O4 G4 L3 R3 B3 S3
      go_roundw
      case rel => exact ⟨k + 1, by omega, by go_num, R4.out, B5.out, S5.out, L5.out⟩
      case measure => simp [intOf]; omega
    · have hkf : S.bit s k = false := by simpa using hkn
      rw [hkf]
      have L5 : Hid (w2.ownsRow bs 3 1 u3 (S.inSet s (k + 1)).length (S.ints (S.inSet s (k + 1)))) := by
        show w2.ownsRow bs 3 1 u3 (S.inSet s (k + 1)).length (S.ints (S.inSet s (k + 1)))
        rw [SU.out, if_neg hkn, List.append_nil]
        exact L2.out
      clear L2 hkf hkn
      go_wp2_with fail
      go_roundw
      case rel => exact ⟨k + 1, by omega, by go_num, R2.out, B2.out, S2.out, L5.out⟩
      case measure => simp [intOf]; omega
  · obtain rfl : k = 512 := by omega
    go_wp2_with fail
    go_ret
    exact ⟨_, rfl, ⟨HL.out.1, HL.out.2.imp id (fun ⟨g, cap, cur, h1, h2, h3⟩ => ⟨g, cap, cur, h1, Nat.le_trans WB.out h2, h3⟩)⟩, BB.out⟩
end Go.Proofs.YthjlhngjpbmieaaGreatDoor
