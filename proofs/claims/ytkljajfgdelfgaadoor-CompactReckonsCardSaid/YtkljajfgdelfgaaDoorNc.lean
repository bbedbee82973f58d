/- The document's hash of a leaf and of a node. -/
import Derived.Test.YtkljajfgdelfgaaDoorNa
import Derived.Test.YtkljajfgdelfgaaDoorMj
namespace Go.Proofs.YtkljajfgdelfgaaDoor
open Go.RowKit

/-- A digest is loaded out of a variable of its own. -/
theorem load_dig {w : World} {g : Nat} {D : List UInt8} (h : w.heap[g]? = some (.cells (S.v8 D) 23 (0, 0))) (hD : D.length = 32) : (Instr.loadAt 23 (.pointer (some ⟨g, 0, none⟩))).run Tryd.prog w = .ok (.agg (S.v8 D)) w := by
  have hr := run_loadVar_mid (P := Tryd.prog) w g 0 23 (S.v8l D) _ (rangeAt_row (cs := S.v8l D) h) Tryd.underlying23 rfl (by rw [S.v8l_length, hD]; exact size23)
  simp only [Instr.loadAt, Instr.sureAddr, Sem.run_bind, Sem.run_pure, Result.andThen_ok, hr]
  rfl
set_option maxHeartbeats 2000000 in
set_option maxRecDepth 10000 in
theorem nodeText_any (gh gT : Nat) (a : Int) (d e : List UInt8) (hd : d.length = 32) (he : e.length = 32) (w : World) (hH : HsAt w gh gT a) :
   Calls Tryd.prog 61 #[.pointer (some ⟨gh, 0, none⟩), .agg (S.v8 d), .agg (S.v8 e)] w fun r w' => ∃ v', r = .returned v' ∧ SliceAt w' v' (1 :: (d.take (S.cw a) ++ e.take (S.cw a))) ∧ Below w.heap.size w w' := by
  obtain ⟨n, hn⟩ : ∃ n, n = S.cw a := ⟨_, rfl⟩
  have hn32 : n ≤ 32 := by rw [hn]; exact S.cw_le a
  have HN := hide hn
  rw [← hn]
  have lh := block_lt_of_row hH.h
  have hc := (cells2 hH.h).2
  rw [← hn] at hc
  clear hn hH
  obtain ⟨W0, hW0⟩ : ∃ W, W = w.alloc (.cells (S.v8 d) 23) := ⟨_, rfl⟩
  obtain ⟨W1, hW1⟩ : ∃ W, W = W0.alloc (.cells (S.v8 e) 23) := ⟨_, rfl⟩
  obtain ⟨W2, hW2⟩ : ∃ W, W = W1.alloc (.cells #[.int .u8 1] 5) := ⟨_, rfl⟩
  have s0 : W0.heap.size = w.heap.size + 1 := by rw [hW0]; simp
  have s1 : W1.heap.size = w.heap.size + 2 := by rw [hW1]; simp [s0]
  have s2 : W2.heap.size = w.heap.size + 3 := by rw [hW2]; simp [s1]
  have B0 : Below w.heap.size w W0 := by rw [hW0]; exact (Below.refl _ _).alloc (Nat.le_refl _) _
  have B1 : Below W0.heap.size W0 W1 := by rw [hW1]; exact (Below.refl _ _).alloc (Nat.le_refl _) _
  have B2 : Below W1.heap.size W1 W2 := by rw [hW2]; exact (Below.refl _ _).alloc (Nat.le_refl _) _
  have ra : W2.heap[w.heap.size]? = some (.cells (S.v8 d) 23 (0, 0)) := (B2.block _ (by omega)).trans ((B1.block _ (by omega)).trans (by rw [hW0]; exact heap_alloc_new _ _))
  have rb : W2.heap[w.heap.size + 1]? = some (.cells (S.v8 e) 23 (0, 0)) := (B2.block _ (by omega)).trans (by rw [hW1, ← s0]; exact heap_alloc_new _ _)
  have rc : W2.heap[w.heap.size + 2]? = some (.cells #[.int .u8 1] 5 (0, 0)) := by rw [hW2, ← s1]; exact heap_alloc_new _ _
  have bb : Below w.heap.size w W2 := (B0.trans (B1.mono (by omega))).trans (B2.mono (by omega))
  have c2 : W2.cell? ⟨gh, 1, none⟩ = some (.int .i64 (n : Int)) := (bb.cell (p := ⟨gh, 1, none⟩) lh).trans hc
  have KEY := hide (run_append_bytes W2 (w.heap.size + 2) (.slice (some ⟨w.heap.size + 2, 0, none⟩) 1 1) (.slice (some ⟨w.heap.size, 0, none⟩) n 32) [1] (d.take n) 60 (own_one (x := 1) rfl rc (Nat.le_refl _)) (dig_part ra hd n hn32) (by simp; omega) (by omega))
  have RB := hide rb
  have BB := hide bb
  have S2 := hide s2
  have C0 := hide (show w.cell? ⟨gh, 1, none⟩ = some (.int .i64 (n : Int)) from hc)
  have HE := hide he
  have HD := hide hd
  have LH := hide lh
  have q1 : (0 : Int) ≤ (n : Int) := by omega
  have q2 : (n : Int) ≤ 32 := by omega
  have e2 := hW2
  rw [hW1, hW0] at e2
  rw [e2] at c2
  rw [e2] at KEY
  rw [show w.heap.size + 2 = w.heap.size + 1 + 1 from rfl] at KEY
  have E2 := hide e2
  clear hW0 hW1 hW2 s0 s1 s2 B0 B1 B2 ra rb rc bb hc hd he lh e2
  go_enter Tryd.func61, Tryd.ntmps61
  have KEY2 : Hid (∀ (v' : Value) (w' : World), Own w' (w.heap.size + 1 + 1) v' ([1] ++ d.take n) → Below (w.heap.size + 1 + 1) W2 w' → (w'.cell? ⟨gh, 1, none⟩ = some (.int .i64 (n : Int)) ∧ Below w.heap.size w w' ∧ ∃ v2 w2, (Builtin.append_ #[60, 60] 60 #[v', .slice (some ⟨w.heap.size + 1, 0, none⟩) n 32]).run Tryd.prog w' = .ok v2 w2 ∧ (Own w2 (w.heap.size + 1 + 1) v2 (([1] ++ d.take n) ++ e.take n) ∧ Below (w.heap.size + 1 + 1) w' w2))) := fun v' w' hO hB => by
    have hs := hB.size
    have hs2 := S2.out
    refine ⟨(hB.cell (p := ⟨gh, 1, none⟩) (by have := LH.out; show gh < _; omega)).trans ((BB.out.cell (p := ⟨gh, 1, none⟩) LH.out).trans C0.out), BB.out.trans (hB.mono (by omega)), ?_⟩
    exact run_append_bytes w' (w.heap.size + 1 + 1) v' _ ([1] ++ d.take n) (e.take n) 60 hO (dig_part ((hB.block _ (by omega)).trans RB.out) HE.out n hn32) (by simp; omega) (by omega)
  rw [E2.out] at KEY2
  clear E2 RB BB S2 C0 LH W2
  go_wp2_with (first | (at_builtin; (refine wpList_append_known rfl (.tmp 8) (.tmp 13) 60 60 rfl _ _ rfl rfl KEY.out ?_; rintro v' w' ⟨hO, hB⟩; obtain ⟨c3, b3, k3⟩ := KEY2.out v' w' hO hB; have K3 := hide k3; have B3 := hide b3; clear k3 b3 hO hB)) | (at_builtin; (refine wpList_append_known rfl (.tmp 15) (.tmp 20) 60 60 rfl _ _ rfl rfl K3.out ?_; rintro v2 w2 ⟨hO2, hB2⟩)))
  have HO := hide hO2
  have HB := hide (B3.out.trans (hB2.mono (by omega)))
  clear hO2 hB2
  go_wp2_with fail
  go_ret
  refine ⟨v2, rfl, ?_, HB.out⟩
  have := HO.out.sliceAt (by simp; omega)
  simpa using this
set_option maxHeartbeats 1000000 in
set_option maxRecDepth 10000 in
theorem hleaf_any (gh gT : Nat) (a : Int) (v : Value) (bs : List UInt8) (w : World) (hH : HsAt w gh gT a) (hv : SliceAt w v bs) (hl : bs.length + 1 ≤ 140737488355000) :
   Calls Tryd.prog 59 #[.pointer (some ⟨gh, 0, none⟩), v] w fun e w' => e = .returned (.agg (S.v8 (S.leaf a bs))) ∧ Below w.heap.size w w' := by
  obtain ⟨ao, len, cap, rfl, hlen, hmx⟩ := hv.form
  have HV := hide hv
  have HH := hide hH
  have HLn := hide hl
  clear hv hH hl hlen hmx
  go_enter Tryd.func59, Tryd.ntmps59
  go_wp2_with fail
  generalize hW0 : w.alloc _ = W0
  have B0 : Hid (Below w.heap.size w W0) := by rw [← hW0]; exact (Below.refl _ _).alloc (Nat.le_refl _) _
  have R0 : Hid (W0.heap[w.heap.size]? = some (.cells (S.v8 (S.zeros 32)) 23 (0, 0))) := by rw [← hW0]; exact heap_alloc_new _ _
  clear hW0
  refine (leafText_any gh _ bs W0 (HV.out.below B0.out (Nat.le_refl _)) (by have := HLn.out; omega)).mono ?_
  rintro e w1 ⟨v1, rfl, s1, b1⟩
  obtain ⟨ao1, len1, cap1, rfl, hl1, hm1⟩ := s1.form
  have S1 := hide s1
  have B1 : Hid (Below w.heap.size w w1) := B0.out.trans (b1.mono B0.out.size)
  have R1 : Hid (w1.heap[w.heap.size]? = some (.cells (S.v8 (S.zeros 32)) 23 (0, 0))) := (b1.block _ (block_lt_of_row R0.out)).trans R0.out
  clear s1 b1 hl1 hm1 B0 R0
  go_wp2_with fail
  refine (hsum_any gh gT a _ (0 :: bs) w1 (HH.out.below B1.out (Nat.le_refl _)) S1.out (by have := HLn.out; simp; omega)).mono ?_
  rintro e w2 ⟨rfl, b2⟩
  have e : S.hsh a (0 :: bs) = S.leaf a bs := rfl
  rw [e]
  obtain ⟨D, hD⟩ : ∃ D, D = S.leaf a bs := ⟨_, rfl⟩
  rw [← hD]
  have HL := hide (show D.length = 32 by rw [hD, S.leaf_length])
  have HD := hide hD
  have B2 : Hid (Below w.heap.size w w2) := B1.out.trans (b2.mono B1.out.size)
  have R2 : Hid (w2.heap[w.heap.size]? = some (.cells (S.v8 (S.zeros 32)) 23 (0, 0))) := (b2.block _ (block_lt_of_row R1.out)).trans R1.out
  clear b2 B1 R1 S1 e hD
  go_wp2_with (refine wpList_store_row rfl 23 _ _ rfl w.heap.size (S.v8 D) rfl rfl 23 _ R2.out (size_dig D HL.out) (zeros_dig D HL.out) (S.v8_one _) ?_)
  exact bodyPost_ret (v := .agg (S.v8 D)) (results_cell_row (g := w.heap.size) (t := 23) (fr := (0, 0)) Tryd.results59 _ _ _ _ rfl (setRow_heap _ _ _ _ _ _ R2.out) Tryd.underlying23 rfl (size_dig D HL.out)) rfl ⟨by rw [HD.out], below_setRow B2.out (Nat.le_refl _) _⟩
set_option maxHeartbeats 2000000 in
set_option maxRecDepth 10000 in
theorem hnode_any (gh gT : Nat) (a : Int) (d e : List UInt8) (hd : d.length = 32) (he : e.length = 32) (w : World) (hH : HsAt w gh gT a) :
   Calls Tryd.prog 45 #[.pointer (some ⟨gh, 0, none⟩), .agg (S.v8 d), .agg (S.v8 e)] w fun r w' => r = .returned (.agg (S.v8 (S.node a d e))) ∧ Below w.heap.size w w' := by
  have HH := hide hH
  have HD := hide hd
  have HE := hide he
  have sd := size_dig d hd
  have se := size_dig e he
  clear hH hd he
  obtain ⟨W2, hW2⟩ : ∃ W, W = ((w.alloc (.cells (S.v8 d) 23)).alloc (.cells (S.v8 e) 23)).alloc (.cells (S.v8 (S.zeros 32)) 23) := ⟨_, rfl⟩
  have bb : Below w.heap.size w W2 := by rw [hW2]; exact (((Below.refl _ _).alloc (Nat.le_refl _) _).alloc (by simp) _).alloc (by simp; omega) _
  have ra : W2.heap[w.heap.size]? = some (.cells (S.v8 d) 23 (0, 0)) := by rw [hW2]; exact (heap_alloc_old _ _ (by simp; omega)).trans ((heap_alloc_old _ _ (by simp)).trans (heap_alloc_new _ _))
  have rb : W2.heap[w.heap.size + 1]? = some (.cells (S.v8 e) 23 (0, 0)) := by
    rw [hW2]
    refine (heap_alloc_old _ _ (by simp)).trans ?_
    have := heap_alloc_new (w.alloc (.cells (S.v8 d) 23)) (.cells (S.v8 e) 23)
    simpa using this
  have rc : W2.heap[w.heap.size + 1 + 1]? = some (.cells (S.v8 (S.zeros 32)) 23 (0, 0)) := by
    rw [hW2]
    have := heap_alloc_new ((w.alloc (.cells (S.v8 d) 23)).alloc (.cells (S.v8 e) 23)) (.cells (S.v8 (S.zeros 32)) 23)
    simpa using this
  have RA := hide ra
  have RB := hide rb
  have RC := hide rc
  have BB := hide bb
  have hal := alloc31 ((w.alloc (.cells (S.v8 d) 23)).alloc (.cells (S.v8 e) 23))
  rw [← hW2] at hal
  rw [show ((w.alloc (.cells (S.v8 d) 23)).alloc (.cells (S.v8 e) 23)).heap.size = w.heap.size + 1 + 1 by simp] at hal
  clear ra rb rc bb hW2
  go_enter Tryd.func45, Tryd.ntmps45
  go_wp2_with (first | (with_reducible refine at_op { dst := some 6, op := Op.alloc 23, type := 0, pos := "ref.go:39", after := #[], guard := none } ?_; refine wpList_alloc_known rfl 23 rfl (.pointer (some ⟨w.heap.size + 1 + 1, 0, none⟩)) W2 hal ?_) | (with_reducible refine at_op { dst := some 9, op := Op.load 23 (Operand.tmp 4), type := 23, pos := "ref.go:39", after := #[], guard := none } ?_; refine wpList_load_as rfl 23 (.tmp 4) rfl (.pointer (some ⟨w.heap.size, 0, none⟩)) rfl (.agg (S.v8 d)) (load_dig RA.out HD.out) ?_) | (with_reducible refine at_op { dst := some 10, op := Op.load 23 (Operand.tmp 5), type := 23, pos := "ref.go:39", after := #[], guard := none } ?_; refine wpList_load_as rfl 23 (.tmp 5) rfl (.pointer (some ⟨w.heap.size + 1, 0, none⟩)) rfl (.agg (S.v8 e)) (load_dig RB.out HE.out) ?_))
  clear hal sd se
  refine (nodeText_any gh gT a d e HD.out HE.out W2 (HH.out.below BB.out (Nat.le_refl _))).mono ?_
  rintro r w1 ⟨v1, rfl, s1, b1⟩
  obtain ⟨ao1, len1, cap1, rfl, hl1, hm1⟩ := s1.form
  have S1 := hide s1
  have B1 : Hid (Below w.heap.size w w1) := BB.out.trans (b1.mono BB.out.size)
  have R1 : Hid (w1.heap[w.heap.size + 1 + 1]? = some (.cells (S.v8 (S.zeros 32)) 23 (0, 0))) := (b1.block _ (block_lt_of_row RC.out)).trans RC.out
  clear s1 b1 hl1 hm1 RA RB RC BB
  go_wp2_with fail
  have hc := S.cw_le a
  refine (hsum_any gh gT a _ _ w1 (HH.out.below B1.out (Nat.le_refl _)) S1.out (by simp; omega)).mono ?_
  rintro r w2 ⟨rfl, b2⟩
  have ee : S.hsh a (1 :: (d.take (S.cw a) ++ e.take (S.cw a))) = S.node a d e := rfl
  rw [ee]
  obtain ⟨D, hDD⟩ : ∃ D, D = S.node a d e := ⟨_, rfl⟩
  rw [← hDD]
  have HL := hide (show D.length = 32 by rw [hDD, S.node_length])
  have HDD := hide hDD
  have B2 : Hid (Below w.heap.size w w2) := B1.out.trans (b2.mono B1.out.size)
  have R2 : Hid (w2.heap[w.heap.size + 1 + 1]? = some (.cells (S.v8 (S.zeros 32)) 23 (0, 0))) := (b2.block _ (block_lt_of_row R1.out)).trans R1.out
  clear b2 B1 R1 S1 ee hDD hc
  go_wp2_with (refine wpList_store_row rfl 23 _ _ rfl (w.heap.size + 1 + 1) (S.v8 D) rfl rfl 23 _ R2.out (size_dig D HL.out) (zeros_dig D HL.out) (S.v8_one _) ?_)
  exact bodyPost_ret (v := .agg (S.v8 D)) (results_cell_row (g := w.heap.size + 1 + 1) (t := 23) (fr := (0, 0)) Tryd.results45 _ _ _ _ rfl (setRow_heap _ _ _ _ _ _ R2.out) Tryd.underlying23 rfl (size_dig D HL.out)) rfl ⟨by rw [HDD.out], below_setRow B2.out (by omega) _⟩
end Go.Proofs.YtkljajfgdelfgaaDoor
namespace Go.Proofs.YtkljajfgdelfgaaDoor
open Go.RowKit

set_option maxHeartbeats 4000000 in
set_option maxRecDepth 10000 in
theorem hroot_any (gh gT : Nat) (a : Int) : ∀ N (bss : List (List UInt8)) (v : Value) (w : World), bss.length = N → N ≤ 256 → BsAt w v bss → Fit bss → HsAt w gh gT a →
   Calls Tryd.prog 44 #[.pointer (some ⟨gh, 0, none⟩), v] w fun e w' => e = .returned (.agg (S.v8 (S.root a bss))) ∧ Below w.heap.size w w' := by
  intro N
  induction N using Nat.strongRecOn with
  | ind N IH =>
  intro bss v w hN h256 hv hf hH
  have HF := hide hf
  have HH := hide hH
  have HI := hide @IH
  have hN2 := hide hN
  clear hf hH IH
  by_cases hz : N = 0
  · obtain ⟨ao, cap, rfl, hcap⟩ := hv.form
    rw [hN]
    have q1 : ((N : Int) == 0) = true := by simp; omega
    clear hv hcap hN
    go_enter Tryd.func44, Tryd.ntmps44
    go_wp2_with fail
    generalize hW0 : w.alloc _ = W0
    have B0 : Hid (Below w.heap.size w W0) := by rw [← hW0]; exact (Below.refl _ _).alloc (Nat.le_refl _) _
    have R0 : Hid (W0.heap[w.heap.size]? = some (.cells (S.v8 (S.zeros 32)) 23 (0, 0))) := by rw [← hW0]; exact heap_alloc_new _ _
    clear hW0 q1
    refine (hsum_any gh gT a (.slice none 0 0) [] W0 (HH.out.below B0.out (Nat.le_refl _)) (Or.inl ⟨rfl, rfl⟩) (by simp)).mono ?_
    rintro e w2 ⟨rfl, b2⟩
    obtain ⟨D, hD⟩ : ∃ D, D = S.hsh a [] := ⟨_, rfl⟩
    rw [← hD]
    have HL := hide (show D.length = 32 by rw [hD, S.hsh_length])
    have HD := hide hD
    have B2 : Hid (Below w.heap.size w w2) := B0.out.trans (b2.mono B0.out.size)
    have R2 : Hid (w2.heap[w.heap.size]? = some (.cells (S.v8 (S.zeros 32)) 23 (0, 0))) := (b2.block _ (block_lt_of_row R0.out)).trans R0.out
    clear b2 B0 R0 hD
    go_wp2_with (refine wpList_store_row rfl 23 _ _ rfl w.heap.size (S.v8 D) rfl rfl 23 _ R2.out (size_dig D HL.out) (zeros_dig D HL.out) (S.v8_one _) ?_)
    exact bodyPost_ret (v := .agg (S.v8 D)) (results_cell_row (g := w.heap.size) (t := 23) (fr := (0, 0)) Tryd.results44 _ _ _ _ rfl (setRow_heap _ _ _ _ _ _ R2.out) Tryd.underlying23 rfl (size_dig D HL.out)) rfl ⟨by rw [S.root_none a bss (by rw [hN2.out]; exact hz), HD.out], below_setRow B2.out (Nat.le_refl _) _⟩
  obtain ⟨b, off, cap, rfl, hcap, hb, hcells⟩ := hv.src (by omega)
  have HV := hide hv
  have HC := hide hcells
  rw [hN] at hcap ⊢
  have q0 : ((N : Int) == 0) = false := by simp; omega
  clear hv hcells hN
  by_cases hone : N = 1
  · have q1 : ((N : Int) == 1) = true := by simp; omega
    obtain ⟨x, hx, hxs⟩ := HC.out 0 (by have := hN2.out; omega)
    obtain ⟨xo, xl, xc, rfl, hxl, hxm⟩ := hxs.form
    have XS := hide hxs
    obtain ⟨W0, hW0⟩ : ∃ W, W = w.alloc (.cells (S.v8 (S.zeros 32)) 23) := ⟨_, rfl⟩
    have B0 : Hid (Below w.heap.size w W0) := by rw [hW0]; exact (Below.refl _ _).alloc (Nat.le_refl _) _
    have R0 : Hid (W0.heap[w.heap.size]? = some (.cells (S.v8 (S.zeros 32)) 23 (0, 0))) := by rw [hW0]; exact heap_alloc_new _ _
    have CX : W0.cell? ⟨b, off, none⟩ = some (.slice xo xl xc) := (B0.out.cell (p := ⟨b, off, none⟩) hb).trans hx
    have hal := alloc31 w
    rw [← hW0] at hal
    have hNz : (0 : Int) < (N : Int) := by omega
    clear hx hxs hxl hxm hW0
    go_enter Tryd.func44, Tryd.ntmps44
    go_wp2_with (with_reducible refine at_op { dst := some 4, op := Op.alloc 23, type := 0, pos := "ref.go:50", after := #[], guard := none } ?_; refine wpList_alloc_known rfl 23 rfl (.pointer (some ⟨w.heap.size, 0, none⟩)) W0 hal ?_)
    clear q0 q1 CX hal hNz
    refine (hleaf_any gh gT a _ (bss.getD 0 []) W0 (HH.out.below B0.out (Nat.le_refl _)) (XS.out.below B0.out (Nat.le_refl _)) (HF.out.at 0 (by have := hN2.out; omega))).mono ?_
    rintro e w2 ⟨rfl, b2⟩
    obtain ⟨D, hD⟩ : ∃ D, D = S.leaf a (bss.getD 0 []) := ⟨_, rfl⟩
    rw [← hD]
    have HL := hide (show D.length = 32 by rw [hD, S.leaf_length])
    have HD := hide hD
    have B2 : Hid (Below w.heap.size w w2) := B0.out.trans (b2.mono B0.out.size)
    have R2 : Hid (w2.heap[w.heap.size]? = some (.cells (S.v8 (S.zeros 32)) 23 (0, 0))) := (b2.block _ (block_lt_of_row R0.out)).trans R0.out
    clear b2 B0 R0 hD XS
    go_wp2_with (refine wpList_store_row rfl 23 _ _ rfl w.heap.size (S.v8 D) rfl rfl 23 _ R2.out (size_dig D HL.out) (zeros_dig D HL.out) (S.v8_one _) ?_)
    exact bodyPost_ret (v := .agg (S.v8 D)) (results_cell_row (g := w.heap.size) (t := 23) (fr := (0, 0)) Tryd.results44 _ _ _ _ rfl (setRow_heap _ _ _ _ _ _ R2.out) Tryd.underlying23 rfl (size_dig D HL.out)) rfl ⟨by rw [S.root_one a bss (by rw [hN2.out]; exact hone), HD.out], below_setRow B2.out (Nat.le_refl _) _⟩
  · have q1 : ((N : Int) == 1) = false := by simp; omega
    go_enter Tryd.func44, Tryd.ntmps44
    go_wp2_with fail
    generalize hW0 : w.alloc _ = W0
    have B0 : Hid (Below w.heap.size w W0) := by rw [← hW0]; exact (Below.refl _ _).alloc (Nat.le_refl _) _
    have R0 : Hid (W0.heap[w.heap.size]? = some (.cells (S.v8 (S.zeros 32)) 23 (0, 0))) := by rw [← hW0]; exact heap_alloc_new _ _
    clear hW0 q1 q0
    refine (halfr_any N (by omega) h256 W0).mono ?_
    rintro e w3 ⟨rfl, rfl⟩
    obtain ⟨k, hk⟩ : ∃ k, k = S.half N := ⟨_, rfl⟩
    have hkl : k < N := by rw [hk]; exact S.half_lt h256 (by omega)
    have hkp : 0 < k := by rw [hk]; exact S.half_pos N
    rw [← hk]
    have HKK := hide hk
    clear hk
    go_wp2_with fail
    refine wp_region_noPanic ?_
    refine wp_region_held_drew (S := (fun _ => True)) follows trivial (fun hHeld => ?_)
    have BZ : Hid (Below w.heap.size w W0.drew) := B0.out.drew
    have RZ : Hid (W0.drew.heap[w.heap.size]? = some (.cells (S.v8 (S.zeros 32)) 23 (0, 0))) := R0.out
    clear B0 R0
    generalize W0.drew = Z at BZ RZ ⊢
    have q2 : (0 : Int) ≤ (k : Int) := by omega
    have q3 : (k : Int) ≤ (cap : Int) := by omega
    have q4 : (k : Int) ≤ (N : Int) := by omega
    have q5 : (N : Int) ≤ (cap : Int) := by omega
    have q6 : ¬ cap = k := by omega
    refine wpAnyH_take (i := 0) (oi := { dst := some 22, op := Op.move (Operand.tmp 0), type := 42, pos := "ref.go:58", after := #[], guard := none }) (v := ?_) rfl (by kernel_rfl) (by kernel_rfl) (by kernel_rfl) (fun _ _ _ h => h) (Or.inl ⟨by rfl, ?_⟩) (by assumption) ?_
    rotate_left
    · intro w hSw
      clear hSw
      go_simp
      all_goals with_reducible rfl
    simp only [Act.put, List.setIfInBounds_toArray, List.set_cons_zero, List.set_cons_succ]
    refine wpAnyH_take (i := 1) (oi := { dst := some 23, op := Op.move (Operand.tmp 0), type := 42, pos := "ref.go:58", after := #[], guard := none }) (v := ?_) rfl (by kernel_rfl) (by kernel_rfl) (by kernel_rfl) (fun _ _ _ h => h) (Or.inl ⟨by rfl, ?_⟩) (by assumption) ?_
    rotate_left
    · intro w hSw
      clear hSw
      go_simp
      all_goals with_reducible rfl
    simp only [Act.put, List.setIfInBounds_toArray, List.set_cons_zero, List.set_cons_succ]
    refine wpAnyH_take (i := 2) (oi := { dst := some 24, op := Op.move (Operand.tmp 1), type := 53, pos := "ref.go:58", after := #[], guard := none }) (v := ?_) rfl (by kernel_rfl) (by kernel_rfl) (by kernel_rfl) (fun _ _ _ h => h) (Or.inl ⟨by rfl, ?_⟩) (by assumption) ?_
    rotate_left
    · intro w hSw
      clear hSw
      go_simp
      all_goals with_reducible rfl
    simp only [Act.put, List.setIfInBounds_toArray, List.set_cons_zero, List.set_cons_succ]
    refine wpAnyH_take (i := 3) (oi := { dst := some 25, op := Op.move (Operand.tmp 5), type := 3, pos := "ref.go:58", after := #[], guard := none }) (v := ?_) rfl (by kernel_rfl) (by kernel_rfl) (by kernel_rfl) (fun _ _ _ h => h) (Or.inl ⟨by rfl, ?_⟩) (by assumption) ?_
    rotate_left
    · intro w hSw
      clear hSw
      go_simp
      all_goals with_reducible rfl
    simp only [Act.put, List.setIfInBounds_toArray, List.set_cons_zero, List.set_cons_succ]
    refine wpAnyH_take (i := 4) (oi := { dst := some 26, op := Op.slice 53 (Operand.tmp 24) none (some (Operand.tmp 25)) none, type := 53, pos := "ref.go:58", after := #[{ on := 2, ground := Ground.data }, { on := 3, ground := Ground.data }], guard := none }) (v := ?_) rfl (by kernel_rfl) (by kernel_rfl) (by kernel_rfl) (fun _ _ _ h => h) (Or.inl ⟨by rfl, ?_⟩) (by assumption) ?_
    rotate_left
    · intro w hSw
      clear hSw
      go_simp
      all_goals with_reducible rfl
    simp only [Act.put, List.setIfInBounds_toArray, List.set_cons_zero, List.set_cons_succ]
    refine wpAnyH_take (i := 6) (oi := { dst := some 28, op := Op.move (Operand.tmp 0), type := 42, pos := "ref.go:58", after := #[], guard := none }) (v := ?_) rfl (by kernel_rfl) (by kernel_rfl) (by kernel_rfl) (fun _ _ _ h => h) (Or.inl ⟨by rfl, ?_⟩) (by assumption) ?_
    rotate_left
    · intro w hSw
      clear hSw
      go_simp
      all_goals with_reducible rfl
    simp only [Act.put, List.setIfInBounds_toArray, List.set_cons_zero, List.set_cons_succ]
    refine wpAnyH_take (i := 7) (oi := { dst := some 29, op := Op.move (Operand.tmp 1), type := 53, pos := "ref.go:58", after := #[], guard := none }) (v := ?_) rfl (by kernel_rfl) (by kernel_rfl) (by kernel_rfl) (fun _ _ _ h => h) (Or.inl ⟨by rfl, ?_⟩) (by assumption) ?_
    rotate_left
    · intro w hSw
      clear hSw
      go_simp
      all_goals with_reducible rfl
    simp only [Act.put, List.setIfInBounds_toArray, List.set_cons_zero, List.set_cons_succ]
    refine wpAnyH_take (i := 8) (oi := { dst := some 30, op := Op.move (Operand.tmp 5), type := 3, pos := "ref.go:58", after := #[], guard := none }) (v := ?_) rfl (by kernel_rfl) (by kernel_rfl) (by kernel_rfl) (fun _ _ _ h => h) (Or.inl ⟨by rfl, ?_⟩) (by assumption) ?_
    rotate_left
    · intro w hSw
      clear hSw
      go_simp
      all_goals with_reducible rfl
    simp only [Act.put, List.setIfInBounds_toArray, List.set_cons_zero, List.set_cons_succ]
    refine wpAnyH_take (i := 9) (oi := { dst := some 31, op := Op.slice 53 (Operand.tmp 29) (some (Operand.tmp 30)) none none, type := 53, pos := "ref.go:58", after := #[{ on := 7, ground := Ground.data }, { on := 8, ground := Ground.data }], guard := none }) (v := ?_) rfl (by kernel_rfl) (by kernel_rfl) (by kernel_rfl) (fun _ _ _ h => h) (Or.inl ⟨by rfl, ?_⟩) (by assumption) ?_
    rotate_left
    · intro w hSw
      clear hSw
      go_simp
      all_goals with_reducible rfl
    simp only [Act.put, List.setIfInBounds_toArray, List.set_cons_zero, List.set_cons_succ]
    refine wpAnyH_ready (rs := [5]) (by kernel_rfl) (by simp) ?_
    refine AllReadyH.cons (o := { dst := some 27, op := Op.call { callee := Callee.value (Operand.func 44), args := #[Operand.tmp 23, Operand.tmp 26], argTypes := #[42, 53] }, type := 23, pos := "ref.go:58", after := #[{ on := 1, ground := Ground.data }, { on := 4, ground := Ground.data }], guard := none }) rfl (fun K hK => ?_) AllReadyH.nil
    go_simp
    have VT := hide ((HV.out.take k (by have := hN2.out; omega)).below BZ.out (Nat.le_refl _))
    refine (HI.out k hkl (bss.take k) _ Z (by rw [List.length_take]; have := hN2.out; omega) (by omega) VT.out (HF.out.take k) (HH.out.below BZ.out (Nat.le_refl _))).mono ?_
    rintro r Z2 ⟨rfl, hb2⟩
    have BZ2 : Hid (Below w.heap.size w Z2) := BZ.out.trans (hb2.mono BZ.out.size)
    have RZ2 : Hid (Z2.heap[w.heap.size]? = some (.cells (S.v8 (S.zeros 32)) 23 (0, 0))) := (hb2.block _ (block_lt_of_row RZ.out)).trans RZ.out
    obtain ⟨D1, hD1⟩ : ∃ D, D = S.root a (bss.take k) := ⟨_, rfl⟩
    rw [← hD1]
    have HD1 := hide hD1
    clear hb2 BZ RZ VT hD1
    refine hK.out _ _ trivial (fun hHeld => ?_)
    clear hK K
    try simp only [Act.put, List.setIfInBounds_toArray, List.set_cons_zero, List.set_cons_succ]
    refine wpAnyH_ready (rs := [10]) (by kernel_rfl) (by simp) ?_
    refine AllReadyH.cons (o := { dst := some 32, op := Op.call { callee := Callee.value (Operand.func 44), args := #[Operand.tmp 28, Operand.tmp 31], argTypes := #[42, 53] }, type := 23, pos := "ref.go:58", after := #[{ on := 6, ground := Ground.data }, { on := 9, ground := Ground.data }, { on := 5, ground := Ground.chain }], guard := none }) rfl (fun K hK => ?_) AllReadyH.nil
    go_simp
    have VT : Hid (BsAt Z2 (.slice (some ⟨b, off + k, none⟩) (N - k) (cap - k)) (bss.drop k)) := by have := (HV.out.drop k (by have := hN2.out; omega)).below BZ2.out (Nat.le_refl _); rw [hN2.out] at this; exact this
    refine (HI.out (N - k) (by omega) (bss.drop k) _ Z2 (by rw [List.length_drop, hN2.out]) (by omega) VT.out (HF.out.drop k) (HH.out.below BZ2.out (Nat.le_refl _))).mono ?_
    rintro r Z3 ⟨rfl, hb2⟩
    have BZ3 : Hid (Below w.heap.size w Z3) := BZ2.out.trans (hb2.mono BZ2.out.size)
    have RZ3 : Hid (Z3.heap[w.heap.size]? = some (.cells (S.v8 (S.zeros 32)) 23 (0, 0))) := (hb2.block _ (block_lt_of_row RZ2.out)).trans RZ2.out
    obtain ⟨D2, hD2⟩ : ∃ D, D = S.root a (bss.drop k) := ⟨_, rfl⟩
    rw [← hD2]
    have HD2 := hide hD2
    clear hb2 BZ2 RZ2 VT hD2
    refine hK.out _ _ trivial (fun hHeld => ?_)
    clear hK K
    try simp only [Act.put, List.setIfInBounds_toArray, List.set_cons_zero, List.set_cons_succ]
    refine wpAnyH_ready (rs := [11]) (by kernel_rfl) (by simp) ?_
    refine AllReadyH.cons (o := { dst := some 33, op := Op.call { callee := Callee.value (Operand.func 45), args := #[Operand.tmp 22, Operand.tmp 27, Operand.tmp 32], argTypes := #[42, 23, 23] }, type := 23, pos := "ref.go:58", after := #[{ on := 0, ground := Ground.data }, { on := 5, ground := Ground.data }, { on := 10, ground := Ground.data }, { on := 10, ground := Ground.chain }], guard := none }) rfl (fun K hK => ?_) AllReadyH.nil
    go_simp
    refine (hnode_any gh gT a D1 D2 (by rw [HD1.out, S.root_length]) (by rw [HD2.out, S.root_length]) Z3 (HH.out.below BZ3.out (Nat.le_refl _))).mono ?_
    rintro r Z5 ⟨rfl, hb3⟩
    have B5 : Hid (Below w.heap.size w Z5) := BZ3.out.trans (hb3.mono BZ3.out.size)
    have R5 : Hid (Z5.heap[w.heap.size]? = some (.cells (S.v8 (S.zeros 32)) 23 (0, 0))) := (hb3.block _ (block_lt_of_row RZ3.out)).trans RZ3.out
    obtain ⟨D, hD⟩ : ∃ D, D = S.node a D1 D2 := ⟨_, rfl⟩
    rw [← hD]
    have HL := hide (show D.length = 32 by rw [hD, S.node_length])
    have HD := hide hD
    clear hb3 BZ3 RZ3 hD
    refine hK.out _ _ trivial (fun hHeld => ?_)
    clear hK K
    try simp only [Act.put, List.setIfInBounds_toArray, List.set_cons_zero, List.set_cons_succ]
    obtain ⟨Z6, hst, R6, C6, s6⟩ := store_dig R5.out (S.zeros_length _) HL.out
    have B6 : Below w.heap.size w Z6 := B5.out.trans (C6.below _ B5.out.size (fun k hk e => by omega))
    refine wpAnyH_ready (rs := [12]) (by kernel_rfl) (by simp) ?_
    refine step_store_as (o := { dst := none, op := Op.store 23 (Operand.tmp 4) (Operand.tmp 33), type := 0, pos := "ref.go:58", after := #[{ on := 11, ground := Ground.data }, { on := 11, ground := Ground.chain }, { on := 0, ground := Ground.phase }, { on := 1, ground := Ground.phase }, { on := 2, ground := Ground.phase }, { on := 3, ground := Ground.phase }, { on := 4, ground := Ground.phase }, { on := 5, ground := Ground.phase }, { on := 6, ground := Ground.phase }, { on := 7, ground := Ground.phase }, { on := 8, ground := Ground.phase }, { on := 9, ground := Ground.phase }, { on := 10, ground := Ground.phase }, { on := 11, ground := Ground.phase }], guard := none }) rfl rfl 23 (.tmp 4) (.tmp 33) rfl _ _ rfl rfl Z6 hst AllReadyH.nil ⟨trivial, fun hHeld => ?_⟩
    clear hHeld hst
    simp only [Act.put]
    refine wpAnyH_done (by kernel_rfl) ?_ _
    refine NoPanic.normal ?_
    go_wp2_with fail
    exact bodyPost_ret (v := .agg (S.v8 D)) (results_cell_row (g := w.heap.size) (t := 23) (fr := (0, 0)) Tryd.results44 _ _ _ _ rfl R6 Tryd.underlying23 rfl (size_dig D HL.out)) rfl ⟨by rw [S.root_more a bss (by have := hN2.out; omega), hN2.out, ← HKK.out, ← HD1.out, ← HD2.out, HD.out], B6⟩
end Go.Proofs.YtkljajfgdelfgaaDoor
