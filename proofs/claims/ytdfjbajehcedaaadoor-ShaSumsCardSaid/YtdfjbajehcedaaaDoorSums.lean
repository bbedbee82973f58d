/- The walk of ShaSums: for every readable key and text and any width the call returns true and nothing that was there changes. -/
import Derived.Test.YtdfjbajehcedaaaDoorIntact
import Derived.Test.YtdfjbajehcedaaaDoorCutx
import Derived.Test.YtdfjbajehcedaaaDoorSlices
import Derived.Deep.DeepCutAuto
namespace Go.Proofs.YtdfjbajehcedaaaDoor
open Go.RowKit
theorem sums_below {W w1 w2 : World} {g : Nat} {cs : List Value} (hg : g < W.heap.size) (h : w1.rangeAt g 0 cs ∧ Below W.heap.size W w1) (hb : Below w1.heap.size w1 w2) : w2.rangeAt g 0 cs ∧ Below W.heap.size W w2 :=
  ⟨fun j u hu => (hb.cell (p := ⟨g, 0 + j, none⟩) (by exact Nat.lt_of_lt_of_le hg h.2.size)).trans (h.1 j u hu), h.2.trans (hb.mono h.2.size)⟩
theorem cut_is (cs : List Value) (D C : List UInt8) (n : Int) (w : World) (hcs : Hid (cs = S.v8l D)) (hC : Hid (C = S.cut D n.toNat)) (hd : Hid (D.length = 32)) (hn : n ≤ 9223372036854775807) :
   Calls Tryd.prog 11 #[.agg cs.toArray, .int .i64 n] w fun e w' => e = .returned (.agg (S.v8 C)) ∧ Below w.heap.size w w' := by
  rw [hcs.out, hC.out]; exact cut_all D hd.out n hn w
theorem rcut_is (cs : List Value) (D C : List UInt8) (n : Int) (w : World) (hcs : Hid (cs = S.v8l D)) (hC : Hid (C = S.cut D n.toNat)) (hd : Hid (D.length = 32)) :
   Calls Tryd.prog 19 #[.agg cs.toArray, .int .i64 n] w fun e w' => e = .returned (.agg (S.v8 C)) ∧ Below w.heap.size w w' := by
  rw [hcs.out, hC.out]; exact rcut_all D hd.out n w
theorem roomy_is (v : Value) (bs : List UInt8) (N : Nat) (w : World) (hN : Hid (N = bs.length + 80)) (hv : SliceAt w v bs) (hl : bs.length ≤ 5000) :
   Calls Tryd.prog 15 #[v, .int .u8 165] w fun e w' => ∃ g, e = .returned (.slice (some ⟨g, 0, none⟩) N N) ∧ w.heap.size ≤ g ∧ w'.heap[g]? = some (.cells (S.v8 (S.roomy bs)) 5 (0, 0)) ∧ Below w.heap.size w w' := by
  rw [hN.out]; exact roomy_any v bs w hv hl
set_option maxHeartbeats 4000000 in
set_option maxRecDepth 100000 in
theorem shaSums_walk (v0 u0 : Value) (ks0 bs0 : List UInt8) (n : Int) (w : World) (hv : SliceAt w v0 ks0) (hu : SliceAt w u0 bs0) (hK : KAt w) (hn2 : n ≤ 9223372036854775807) :
   Calls Tryd.prog 4 #[v0, u0, .int .i64 n] w fun e w' => e = .returned (.bool true) ∧ Below w.heap.size w w' := by
  obtain ⟨a0, l0, c0, rfl, hl0, hm0⟩ := hv.form
  obtain ⟨a1, l1, c1, rfl, hl1, hm1⟩ := hu.form
  have p0 := hv.le_cap
  have p1 := hu.le_cap
  have HV := hide hv
  have HU := hide hu
  have HK := hide hK
  have h0 := hK.pos
  have HL0 := hide hl0
  have HL1 := hide hl1
  clear hv hu hK hl0 hl1
  go_enter Tryd.func4, Tryd.ntmps4
  go_upto_if 13 with fail
  go_cut [1] (fun x wc => w = wc ∧ ∃ (a : Option Addr) (l c : Nat) (bs : List UInt8), x = .slice a l c ∧ l = bs.length ∧ l ≤ 2000 ∧ SliceAt w (.slice a l c) bs)
  case first =>
    by_cases h : 2000 < l1
    · have q1 : (2000 : Int) < (l1 : Int) := by omega
      have q2 : (2000 : Int) ≤ (c1 : Int) := by omega
      have Z := hide (part_to HU.out 2000 (by omega))
      have ZL : Hid (2000 = (bs0.take 2000).length) := by show 2000 = (bs0.take 2000).length; rw [List.length_take, ← HL1.out]; omega
      go_wp2_with fail
      go_meet
      exact ⟨rfl, a1, 2000, c1, bs0.take 2000, rfl, ZL.out, Nat.le_refl _, Z.out⟩
    · have q1 : ¬ ((2000 : Int) < (l1 : Int)) := by omega
      go_wp2_with fail
      go_meet
      exact ⟨rfl, a1, l1, c1, bs0, rfl, HL1.out, by omega, HU.out⟩
  case rest =>
  obtain ⟨rfl, a1', l1', c1', bs, rfl, hbl, hb2000, hub⟩ := hcut
  have SU0 := hide hub
  have LB := hide hbl
  clear hub hbl HU HL1 hm1 p1
  clear a1 l1 c1 bs0
  go_upto_if 18 with fail
  go_cut [0] (fun x wc => w = wc ∧ ∃ (a : Option Addr) (l c : Nat) (ks : List UInt8), x = .slice a l c ∧ l = ks.length ∧ l ≤ 300 ∧ SliceAt w (.slice a l c) ks)
  case first =>
    by_cases h : 300 < l0
    · have q1 : (300 : Int) < (l0 : Int) := by omega
      have q2 : (300 : Int) ≤ (c0 : Int) := by omega
      have Z := hide (part_to HV.out 300 (by omega))
      have ZL : Hid (300 = (ks0.take 300).length) := by show 300 = (ks0.take 300).length; rw [List.length_take, ← HL0.out]; omega
      go_wp2_with fail
      go_meet
      exact ⟨rfl, a0, 300, c0, ks0.take 300, rfl, ZL.out, Nat.le_refl _, Z.out⟩
    · have q1 : ¬ ((300 : Int) < (l0 : Int)) := by omega
      go_wp2_with fail
      go_meet
      exact ⟨rfl, a0, l0, c0, ks0, rfl, HL0.out, by omega, HV.out⟩
  case rest =>
  obtain ⟨rfl, a0', l0', c0', ks, rfl, hkl, hk300, hvk⟩ := hcut
  have SV0 := hide hvk
  have LK := hide hkl
  clear hvk hkl HV HL0 hm0 p0
  clear a0 l0 c0 ks0
  have hkb : Hid (ks.length ≤ 5000) := by show ks.length ≤ 5000; have := LK.out; omega
  have hbb : Hid (bs.length ≤ 5000) := by show bs.length ≤ 5000; have := LB.out; omega
  obtain ⟨Nk, hNk⟩ : ∃ Nk, Nk = ks.length + 80 := ⟨_, rfl⟩
  obtain ⟨Nb, hNb⟩ : ∃ Nb, Nb = bs.length + 80 := ⟨_, rfl⟩
  have k1 : (l0' : Int) ≤ (Nk : Int) := by have := LK.out; omega
  have k2 : (l1' : Int) ≤ (Nb : Int) := by have := LB.out; omega
  have k3 : (0 : Int) ≤ (l0' : Int) := by omega
  have k4 : (0 : Int) ≤ (l1' : Int) := by omega
  have HNK := hide hNk
  have HNB := hide hNb
  clear hNk hNb
  go_wp2_with fail
  refine (new_any w).mono ?_
  rintro e0 w1 ⟨gT, rfl, hgT, hT, hb1⟩
  have HT1 := hide hT
  have B1 := hide hb1
  clear hT hb1
  go_wp2_with fail
  refine (roomy_is _ ks Nk w1 HNK (SV0.out.below B1.out (Nat.le_refl _)) hkb.out).mono ?_
  rintro e1 w2 ⟨gk, rfl, hgk, hrk, hb2⟩
  have HT2 := hide ((hb2.block gT (block_lt_of_row HT1.out)).trans HT1.out)
  have RK2 := hide hrk
  have B2 := hide (B1.out.trans (hb2.mono B1.out.size))
  clear hrk hb2 HT1 B1
  go_wp2_with fail
  refine (roomy_is _ bs Nb w2 HNB (SU0.out.below B2.out (Nat.le_refl _)) hbb.out).mono ?_
  rintro e1 w3 ⟨gx, rfl, hgx, hrx, hb3⟩
  have HT3 := hide ((hb3.block gT (block_lt_of_row HT2.out)).trans HT2.out)
  have RK3 := hide ((hb3.block gk (block_lt_of_row RK2.out)).trans RK2.out)
  have RX3 := hide hrx
  have B3 := hide (B2.out.trans (hb3.mono B2.out.size))
  clear hrx hb3 HT2 B2 RK2
  have SX3 : Hid (SliceAt w3 (.slice (some ⟨gx, 0, none⟩) l1' Nb) bs) := by rw [LB.out]; exact roomy_at RX3.out hbb.out Nb (by have := HNB.out; omega)
  obtain ⟨D, hD⟩ : ∃ D, D = S.sum bs := ⟨_, rfl⟩
  have hD32 : D.length = 32 := by rw [hD]; exact S.sum_length _
  have hs : (Tryd.prog.info? 23).map (·.size) = some (S.v8 D).size := by rw [S.v8_size, hD32]; exact size23
  have ho : (S.v8 (S.zeros 32)).size = (S.v8 D).size := by rw [S.v8_size, S.v8_size, hD32]; rfl
  have A1 := hide hs
  have A2 := hide ho
  have A3 := hide hD
  have A4 := hide hD32
  clear hs ho hD hD32
  go_wp2_with fail
  refine (Sum_is D _ bs w3 A3 SX3.out (HK.out.below B3.out h0)).mono ?_
  rintro e w4 ⟨rfl, hb4⟩
  have HT4 := hide ((hb4.block gT (block_lt_of_row HT3.out)).trans HT3.out)
  have RK4 := hide ((hb4.block gk (block_lt_of_row RK3.out)).trans RK3.out)
  have RX4 := hide ((hb4.block gx (block_lt_of_row RX3.out)).trans RX3.out)
  have B4 := hide (B3.out.trans (hb4.mono B3.out.size))
  clear hb4 HT3 RK3 RX3 B3 SX3
  go_wp2_with (first | refine wpList_store_row rfl 23 _ _ rfl w4.heap.size (S.v8 D) rfl rfl 23 (S.v8 (S.zeros 32)) (heap_alloc_new _ _) A1.out A2.out (S.v8_one _) ?_ | fail)
  generalize hW : World.setRow _ w4.heap.size (S.v8 D) = W
  have r0 : W.heap[w4.heap.size]? = some (.cells (S.v8 D) 23 (0, 0)) := by rw [← hW]; exact setRow_heap _ _ _ _ _ _ (heap_alloc_new _ _)
  have hbW : Below w4.heap.size w4 W := by rw [← hW]; exact below_setRow ((Below.refl _ _).alloc (Nat.le_refl _) _) (Nat.le_refl _) _
  have HT := hide ((hbW.block gT (block_lt_of_row HT4.out)).trans HT4.out)
  have RK := hide ((hbW.block gk (block_lt_of_row RK4.out)).trans RK4.out)
  have RX := hide ((hbW.block gx (block_lt_of_row RX4.out)).trans RX4.out)
  have BW := hide (B4.out.trans (hbW.mono B4.out.size))
  clear hW hbW HT4 RK4 RX4 B4
  generalize w4.heap.size = gd at *
  clear w4 w3 w2 w1 hgT hgk hgx
  have SV := hide (SV0.out.below BW.out (Nat.le_refl _))
  have SU := hide (SU0.out.below BW.out (Nat.le_refl _))
  have KW := hide (HK.out.below BW.out h0)
  have SK : Hid (SliceAt W (.slice (some ⟨gk, 0, none⟩) l0' Nk) ks) := by rw [LK.out]; exact roomy_at RK.out hkb.out Nk (by have := HNK.out; omega)
  have SX : Hid (SliceAt W (.slice (some ⟨gx, 0, none⟩) l1' Nb) bs) := by rw [LB.out]; exact roomy_at RX.out hbb.out Nb (by have := HNB.out; omega)
  have hW0 : 0 < W.heap.size := Nat.lt_of_lt_of_le h0 BW.out.size
  have hgd : gd < W.heap.size := block_lt_of_row r0
  have tT := hide (block_lt_of_row HT.out)
  have tK := hide (block_lt_of_row RK.out)
  have tX := hide (block_lt_of_row RX.out)
  obtain ⟨M, hM⟩ : ∃ M, M = S.mac ks bs := ⟨_, rfl⟩
  obtain ⟨C, hC⟩ : ∃ C, C = S.cut D n.toNat := ⟨_, rfl⟩
  have hM32 : M.length = 32 := by rw [hM]; exact S.mac_length _ _
  have hC32 : C.length = 32 := by rw [hC, S.cut_length]; exact A4.out
  obtain ⟨cs, hcs⟩ : ∃ cs : List Value, cs = S.v8l D := ⟨_, rfl⟩
  have HCS := hide hcs
  have HM := hide hM
  have HC := hide hC
  have hcl : cs.length = 32 := by rw [hcs, S.v8l_length]; exact A4.out
  have hu := Tryd.underlying23
  have hi : (Tryd.prog.info? 23).map (·.size) = some cs.length := by rw [hcl]; exact size23
  have hR : W.rangeAt gd 0 cs ∧ Below W.heap.size W W := by
    refine ⟨fun j u hu => ?_, Below.refl _ _⟩
    rw [hcs] at hu
    obtain ⟨rfl, hj⟩ := S.v8l_at D j u hu
    rw [Nat.zero_add]
    exact v8_cell r0 j hj
  have e1 : ∀ w, (Op.equalIn 10000 23 (.agg cs.toArray) (.agg (S.v8 D))).run Tryd.prog w = .ok true w := fun w => by
    rw [hcs]
    show (Op.equalIn 10000 23 (.agg (S.v8 D)) (.agg (S.v8 D))).run Tryd.prog w = .ok true w
    rw [equal_bytes _ _ A4.out A4.out w]; simp
  have e2 : ∀ w, (Op.equalIn 10000 23 (.agg (S.v8 M)) (.agg (S.v8 M))).run Tryd.prog w = .ok true w := fun w => by rw [equal_bytes _ _ hM32 hM32 w]; simp
  have e3 : ∀ w, (Op.equalIn 10000 23 (.agg (S.v8 C)) (.agg (S.v8 C))).run Tryd.prog w = .ok true w := fun w => by rw [equal_bytes _ _ hC32 hC32 w]; simp
  have hR2 : W.drew.rangeAt gd 0 cs ∧ Below W.heap.size W W.drew := sums_below hgd hR (Below.refl _ _).drew
  clear hcs hM hC hM32 hC32 hcl r0 hR SV0 SU0 HK A1 A2
  go_wp2_with fail
  refine wp_region_noPanic ?_
  refine wp_region_held_drew (S := (fun w' => w'.rangeAt gd 0 cs ∧ Below W.heap.size W w')) follows hR2 (fun hHeld => ?_)
  refine wpAnyH_take (i := 0) (oi := { dst := some 31, op := Op.load 23 (Operand.tmp 10), type := 23, pos := "law.go:46", after := #[], guard := none }) (v := .agg cs.toArray) rfl (by kernel_rfl) (by kernel_rfl) (by kernel_rfl) (fun _ _ _ h => h) (yieldsIf_load_mid (by rfl) _ _ rfl gd 0 rfl cs _ (fun _ hSw => hSw.1) hu rfl hi) (by assumption) ?_
  simp only [Act.put, List.setIfInBounds_toArray, List.set_cons_zero, List.set_cons_succ]
  refine wpAnyH_take (i := 1) (oi := { dst := some 32, op := Op.move (Operand.tmp 7), type := 30, pos := "law.go:46", after := #[], guard := none }) (v := ?_) rfl (by kernel_rfl) (by kernel_rfl) (by kernel_rfl) (fun _ _ _ h => h) (Or.inl ⟨by rfl, ?_⟩) (by assumption) ?_
  rotate_left
  · intro w hSw
    clear hSw
    go_simp
    all_goals with_reducible rfl
  simp only [Act.put, List.setIfInBounds_toArray, List.set_cons_zero, List.set_cons_succ]
  refine wpAnyH_take (i := 2) (oi := { dst := some 33, op := Op.move (Operand.tmp 1), type := 26, pos := "law.go:46", after := #[], guard := none }) (v := ?_) rfl (by kernel_rfl) (by kernel_rfl) (by kernel_rfl) (fun _ _ _ h => h) (Or.inl ⟨by rfl, ?_⟩) (by assumption) ?_
  rotate_left
  · intro w hSw
    clear hSw
    go_simp
    all_goals with_reducible rfl
  simp only [Act.put, List.setIfInBounds_toArray, List.set_cons_zero, List.set_cons_succ]
  refine wpAnyH_ready (rs := [3]) (by kernel_rfl) (by simp) ?_
  refine AllReadyH.cons (o := { dst := some 34, op := Op.call { callee := Callee.value (Operand.func 17), args := #[Operand.tmp 32, Operand.tmp 33], argTypes := #[30, 26] }, type := 23, pos := "law.go:46", after := #[{ on := 1, ground := Ground.data }, { on := 2, ground := Ground.data }], guard := none }) rfl (fun K hK => ?_) AllReadyH.nil
  go_simp
  refine (rsum_is D gT _ bs _ A3 ((hHeld.2.block gT tT.out).trans HT.out) (SU.out.below hHeld.2 (Nat.le_refl _)) (by have := hbb.out; omega)).mono ?_
  rintro e w5 ⟨rfl, hbx⟩
  have hk := sums_below hgd hHeld hbx
  clear hbx hHeld
  go_wp2_with fail
  refine hK.out _ _ ?_ (fun hHeld => ?_)
  · exact hk
  clear hK K
  try simp only [Act.put, List.setIfInBounds_toArray, List.set_cons_zero, List.set_cons_succ]
  refine wpAnyH_take (i := 4) (oi := { dst := some 35, op := Op.binOp BinOp.eql 23 (Operand.tmp 31) (Operand.tmp 34) 23, type := 4, pos := "law.go:46", after := #[{ on := 0, ground := Ground.data }, { on := 3, ground := Ground.data }], guard := none }) (v := ?_) rfl (by kernel_rfl) (by kernel_rfl) (by kernel_rfl) (fun _ _ _ h => h) (Or.inl ⟨by rfl, ?_⟩) (by assumption) ?_
  rotate_left
  · intro w hSw
    clear hSw
    go_simp
    all_goals with_reducible rfl
  simp only [Act.put, List.setIfInBounds_toArray, List.set_cons_zero, List.set_cons_succ]
  refine wpAnyH_take (i := 5) (oi := { dst := some 36, op := Op.move (Operand.tmp 35), type := 4, pos := "law.go:46", after := #[{ on := 4, ground := Ground.data }, { on := 3, ground := Ground.chain }], guard := none }) (v := ?_) rfl (by kernel_rfl) (by kernel_rfl) (by kernel_rfl) (fun _ _ _ h => h) (Or.inl ⟨by rfl, ?_⟩) (by assumption) ?_
  rotate_left
  · intro w hSw
    clear hSw
    go_simp
    all_goals with_reducible rfl
  simp only [Act.put, List.setIfInBounds_toArray, List.set_cons_zero, List.set_cons_succ]
  refine wpAnyH_take (i := 6) (oi := { dst := some 37, op := Op.move (Operand.tmp 8), type := 26, pos := "law.go:46", after := #[{ on := 5, ground := Ground.guard }], guard := some (5, true) }) (v := ?_) rfl (by kernel_rfl) (by kernel_rfl) (by kernel_rfl) (fun _ _ _ h => h) (Or.inl ⟨by rfl, ?_⟩) (by assumption) ?_
  rotate_left
  · intro w hSw
    clear hSw
    go_simp
    all_goals with_reducible rfl
  simp only [Act.put, List.setIfInBounds_toArray, List.set_cons_zero, List.set_cons_succ]
  refine wpAnyH_take (i := 7) (oi := { dst := some 38, op := Op.move (Operand.tmp 0), type := 26, pos := "law.go:46", after := #[{ on := 5, ground := Ground.guard }], guard := some (5, true) }) (v := ?_) rfl (by kernel_rfl) (by kernel_rfl) (by kernel_rfl) (fun _ _ _ h => h) (Or.inl ⟨by rfl, ?_⟩) (by assumption) ?_
  rotate_left
  · intro w hSw
    clear hSw
    go_simp
    all_goals with_reducible rfl
  simp only [Act.put, List.setIfInBounds_toArray, List.set_cons_zero, List.set_cons_succ]
  refine wpAnyH_take (i := 8) (oi := { dst := some 39, op := Op.call { callee := Callee.builtin Builtin.len, args := #[Operand.tmp 38], argTypes := #[26] }, type := 3, pos := "law.go:46", after := #[{ on := 7, ground := Ground.data }, { on := 5, ground := Ground.guard }], guard := some (5, true) }) (v := ?_) rfl (by kernel_rfl) (by kernel_rfl) (by kernel_rfl) (fun _ _ _ h => h) (Or.inl ⟨by rfl, ?_⟩) (by assumption) ?_
  rotate_left
  · intro w hSw
    clear hSw
    go_simp
    all_goals with_reducible rfl
  simp only [Act.put, List.setIfInBounds_toArray, List.set_cons_zero, List.set_cons_succ]
  refine wpAnyH_take (i := 9) (oi := { dst := some 40, op := Op.slice 26 (Operand.tmp 37) none (some (Operand.tmp 39)) none, type := 26, pos := "law.go:46", after := #[{ on := 6, ground := Ground.data }, { on := 8, ground := Ground.data }, { on := 5, ground := Ground.guard }], guard := some (5, true) }) (v := ?_) rfl (by kernel_rfl) (by kernel_rfl) (by kernel_rfl) (fun _ _ _ h => h) (Or.inl ⟨by rfl, ?_⟩) (by assumption) ?_
  rotate_left
  · intro w hSw
    clear hSw
    go_simp
    all_goals with_reducible rfl
  simp only [Act.put, List.setIfInBounds_toArray, List.set_cons_zero, List.set_cons_succ]
  refine wpAnyH_take (i := 10) (oi := { dst := some 41, op := Op.move (Operand.tmp 9), type := 26, pos := "law.go:46", after := #[{ on := 5, ground := Ground.guard }], guard := some (5, true) }) (v := ?_) rfl (by kernel_rfl) (by kernel_rfl) (by kernel_rfl) (fun _ _ _ h => h) (Or.inl ⟨by rfl, ?_⟩) (by assumption) ?_
  rotate_left
  · intro w hSw
    clear hSw
    go_simp
    all_goals with_reducible rfl
  simp only [Act.put, List.setIfInBounds_toArray, List.set_cons_zero, List.set_cons_succ]
  refine wpAnyH_take (i := 11) (oi := { dst := some 42, op := Op.move (Operand.tmp 1), type := 26, pos := "law.go:46", after := #[{ on := 5, ground := Ground.guard }], guard := some (5, true) }) (v := ?_) rfl (by kernel_rfl) (by kernel_rfl) (by kernel_rfl) (fun _ _ _ h => h) (Or.inl ⟨by rfl, ?_⟩) (by assumption) ?_
  rotate_left
  · intro w hSw
    clear hSw
    go_simp
    all_goals with_reducible rfl
  simp only [Act.put, List.setIfInBounds_toArray, List.set_cons_zero, List.set_cons_succ]
  refine wpAnyH_take (i := 12) (oi := { dst := some 43, op := Op.call { callee := Callee.builtin Builtin.len, args := #[Operand.tmp 42], argTypes := #[26] }, type := 3, pos := "law.go:46", after := #[{ on := 11, ground := Ground.data }, { on := 5, ground := Ground.guard }], guard := some (5, true) }) (v := ?_) rfl (by kernel_rfl) (by kernel_rfl) (by kernel_rfl) (fun _ _ _ h => h) (Or.inl ⟨by rfl, ?_⟩) (by assumption) ?_
  rotate_left
  · intro w hSw
    clear hSw
    go_simp
    all_goals with_reducible rfl
  simp only [Act.put, List.setIfInBounds_toArray, List.set_cons_zero, List.set_cons_succ]
  refine wpAnyH_take (i := 13) (oi := { dst := some 44, op := Op.slice 26 (Operand.tmp 41) none (some (Operand.tmp 43)) none, type := 26, pos := "law.go:46", after := #[{ on := 10, ground := Ground.data }, { on := 12, ground := Ground.data }, { on := 5, ground := Ground.guard }], guard := some (5, true) }) (v := ?_) rfl (by kernel_rfl) (by kernel_rfl) (by kernel_rfl) (fun _ _ _ h => h) (Or.inl ⟨by rfl, ?_⟩) (by assumption) ?_
  rotate_left
  · intro w hSw
    clear hSw
    go_simp
    all_goals with_reducible rfl
  simp only [Act.put, List.setIfInBounds_toArray, List.set_cons_zero, List.set_cons_succ]
  refine wpAnyH_take (i := 15) (oi := { dst := some 46, op := Op.move (Operand.tmp 7), type := 30, pos := "law.go:46", after := #[{ on := 5, ground := Ground.guard }], guard := some (5, true) }) (v := ?_) rfl (by kernel_rfl) (by kernel_rfl) (by kernel_rfl) (fun _ _ _ h => h) (Or.inl ⟨by rfl, ?_⟩) (by assumption) ?_
  rotate_left
  · intro w hSw
    clear hSw
    go_simp
    all_goals with_reducible rfl
  simp only [Act.put, List.setIfInBounds_toArray, List.set_cons_zero, List.set_cons_succ]
  refine wpAnyH_take (i := 16) (oi := { dst := some 47, op := Op.move (Operand.tmp 0), type := 26, pos := "law.go:46", after := #[{ on := 5, ground := Ground.guard }], guard := some (5, true) }) (v := ?_) rfl (by kernel_rfl) (by kernel_rfl) (by kernel_rfl) (fun _ _ _ h => h) (Or.inl ⟨by rfl, ?_⟩) (by assumption) ?_
  rotate_left
  · intro w hSw
    clear hSw
    go_simp
    all_goals with_reducible rfl
  simp only [Act.put, List.setIfInBounds_toArray, List.set_cons_zero, List.set_cons_succ]
  refine wpAnyH_take (i := 17) (oi := { dst := some 48, op := Op.move (Operand.tmp 1), type := 26, pos := "law.go:46", after := #[{ on := 5, ground := Ground.guard }], guard := some (5, true) }) (v := ?_) rfl (by kernel_rfl) (by kernel_rfl) (by kernel_rfl) (fun _ _ _ h => h) (Or.inl ⟨by rfl, ?_⟩) (by assumption) ?_
  rotate_left
  · intro w hSw
    clear hSw
    go_simp
    all_goals with_reducible rfl
  simp only [Act.put, List.setIfInBounds_toArray, List.set_cons_zero, List.set_cons_succ]
  refine wpAnyH_ready (rs := [14]) (by kernel_rfl) (by simp) ?_
  refine AllReadyH.cons (o := { dst := some 45, op := Op.call { callee := Callee.value (Operand.func 10), args := #[Operand.tmp 40, Operand.tmp 44], argTypes := #[26, 26] }, type := 23, pos := "law.go:46", after := #[{ on := 9, ground := Ground.data }, { on := 13, ground := Ground.data }, { on := 5, ground := Ground.chain }, { on := 5, ground := Ground.guard }], guard := some (5, true) }) rfl (fun K hK => ?_) AllReadyH.nil
  go_simp
  refine (Mac_is M _ ks _ bs _ HM (SK.out.below hHeld.2 (Nat.le_refl _)) (SX.out.below hHeld.2 (Nat.le_refl _)) (KW.out.below hHeld.2 hW0)).mono ?_
  rintro e w5 ⟨rfl, hbx⟩
  have hk := sums_below hgd hHeld hbx
  clear hbx hHeld
  go_wp2_with fail
  refine hK.out _ _ ?_ (fun hHeld => ?_)
  · exact hk
  clear hK K
  try simp only [Act.put, List.setIfInBounds_toArray, List.set_cons_zero, List.set_cons_succ]
  refine wpAnyH_ready (rs := [18]) (by kernel_rfl) (by simp) ?_
  refine AllReadyH.cons (o := { dst := some 49, op := Op.call { callee := Callee.value (Operand.func 18), args := #[Operand.tmp 46, Operand.tmp 47, Operand.tmp 48], argTypes := #[30, 26, 26] }, type := 23, pos := "law.go:46", after := #[{ on := 15, ground := Ground.data }, { on := 16, ground := Ground.data }, { on := 17, ground := Ground.data }, { on := 14, ground := Ground.chain }, { on := 5, ground := Ground.guard }], guard := some (5, true) }) rfl (fun K hK => ?_) AllReadyH.nil
  go_simp
  refine (rmac_is M gT _ ks _ bs _ HM ((hHeld.2.block gT tT.out).trans HT.out) (SV.out.below hHeld.2 (Nat.le_refl _)) (SU.out.below hHeld.2 (Nat.le_refl _)) hkb.out hbb.out).mono ?_
  rintro e w5 ⟨rfl, hbx⟩
  have hk := sums_below hgd hHeld hbx
  clear hbx hHeld
  go_wp2_with fail
  refine hK.out _ _ ?_ (fun hHeld => ?_)
  · exact hk
  clear hK K
  try simp only [Act.put, List.setIfInBounds_toArray, List.set_cons_zero, List.set_cons_succ]
  refine wpAnyH_take (i := 19) (oi := { dst := some 50, op := Op.binOp BinOp.eql 23 (Operand.tmp 45) (Operand.tmp 49) 23, type := 4, pos := "law.go:46", after := #[{ on := 14, ground := Ground.data }, { on := 18, ground := Ground.data }, { on := 5, ground := Ground.guard }], guard := some (5, true) }) (v := ?_) rfl (by kernel_rfl) (by kernel_rfl) (by kernel_rfl) (fun _ _ _ h => h) (Or.inl ⟨by rfl, ?_⟩) (by assumption) ?_
  rotate_left
  · intro w hSw
    clear hSw
    go_simp
    all_goals with_reducible rfl
  simp only [Act.put, List.setIfInBounds_toArray, List.set_cons_zero, List.set_cons_succ]
  refine wpAnyH_take (i := 20) (oi := { dst := some 51, op := Op.pick (Operand.tmp 36) (Operand.tmp 50) (Operand.const (Value.bool false)), type := 4, pos := "law.go:46", after := #[{ on := 5, ground := Ground.data }, { on := 19, ground := Ground.data }], guard := none }) (v := ?_) rfl (by kernel_rfl) (by kernel_rfl) (by kernel_rfl) (fun _ _ _ h => h) (Or.inl ⟨by rfl, ?_⟩) (by assumption) ?_
  rotate_left
  · intro w hSw
    clear hSw
    go_simp
    all_goals with_reducible rfl
  simp only [Act.put, List.setIfInBounds_toArray, List.set_cons_zero, List.set_cons_succ]
  refine wpAnyH_take (i := 21) (oi := { dst := some 52, op := Op.move (Operand.tmp 51), type := 4, pos := "law.go:46", after := #[{ on := 20, ground := Ground.data }, { on := 18, ground := Ground.chain }], guard := none }) (v := ?_) rfl (by kernel_rfl) (by kernel_rfl) (by kernel_rfl) (fun _ _ _ h => h) (Or.inl ⟨by rfl, ?_⟩) (by assumption) ?_
  rotate_left
  · intro w hSw
    clear hSw
    go_simp
    all_goals with_reducible rfl
  simp only [Act.put, List.setIfInBounds_toArray, List.set_cons_zero, List.set_cons_succ]
  refine wpAnyH_take (i := 22) (oi := { dst := some 53, op := Op.load 23 (Operand.tmp 10), type := 23, pos := "law.go:46", after := #[{ on := 21, ground := Ground.guard }], guard := some (21, true) }) (v := .agg cs.toArray) rfl (by kernel_rfl) (by kernel_rfl) (by kernel_rfl) (fun _ _ _ h => h) (yieldsIf_load_mid (by rfl) _ _ rfl gd 0 rfl cs _ (fun _ hSw => hSw.1) hu rfl hi) (by assumption) ?_
  simp only [Act.put, List.setIfInBounds_toArray, List.set_cons_zero, List.set_cons_succ]
  refine wpAnyH_take (i := 23) (oi := { dst := some 54, op := Op.move (Operand.tmp 2), type := 3, pos := "law.go:46", after := #[{ on := 21, ground := Ground.guard }], guard := some (21, true) }) (v := ?_) rfl (by kernel_rfl) (by kernel_rfl) (by kernel_rfl) (fun _ _ _ h => h) (Or.inl ⟨by rfl, ?_⟩) (by assumption) ?_
  rotate_left
  · intro w hSw
    clear hSw
    go_simp
    all_goals with_reducible rfl
  simp only [Act.put, List.setIfInBounds_toArray, List.set_cons_zero, List.set_cons_succ]
  refine wpAnyH_take (i := 25) (oi := { dst := some 56, op := Op.load 23 (Operand.tmp 10), type := 23, pos := "law.go:46", after := #[{ on := 21, ground := Ground.guard }], guard := some (21, true) }) (v := .agg cs.toArray) rfl (by kernel_rfl) (by kernel_rfl) (by kernel_rfl) (fun _ _ _ h => h) (yieldsIf_load_mid (by rfl) _ _ rfl gd 0 rfl cs _ (fun _ hSw => hSw.1) hu rfl hi) (by assumption) ?_
  simp only [Act.put, List.setIfInBounds_toArray, List.set_cons_zero, List.set_cons_succ]
  refine wpAnyH_take (i := 26) (oi := { dst := some 57, op := Op.move (Operand.tmp 2), type := 3, pos := "law.go:46", after := #[{ on := 21, ground := Ground.guard }], guard := some (21, true) }) (v := ?_) rfl (by kernel_rfl) (by kernel_rfl) (by kernel_rfl) (fun _ _ _ h => h) (Or.inl ⟨by rfl, ?_⟩) (by assumption) ?_
  rotate_left
  · intro w hSw
    clear hSw
    go_simp
    all_goals with_reducible rfl
  simp only [Act.put, List.setIfInBounds_toArray, List.set_cons_zero, List.set_cons_succ]
  refine wpAnyH_ready (rs := [24]) (by kernel_rfl) (by simp) ?_
  refine AllReadyH.cons (o := { dst := some 55, op := Op.call { callee := Callee.value (Operand.func 11), args := #[Operand.tmp 53, Operand.tmp 54], argTypes := #[23, 3] }, type := 23, pos := "law.go:46", after := #[{ on := 22, ground := Ground.data }, { on := 23, ground := Ground.data }, { on := 21, ground := Ground.chain }, { on := 21, ground := Ground.guard }], guard := some (21, true) }) rfl (fun K hK => ?_) AllReadyH.nil
  go_simp
  refine (cut_is cs D C n _ HCS HC A4 hn2).mono ?_
  rintro e w5 ⟨rfl, hbx⟩
  have hk := sums_below hgd hHeld hbx
  clear hbx hHeld
  go_wp2_with fail
  refine hK.out _ _ ?_ (fun hHeld => ?_)
  · exact hk
  clear hK K
  try simp only [Act.put, List.setIfInBounds_toArray, List.set_cons_zero, List.set_cons_succ]
  refine wpAnyH_ready (rs := [27]) (by kernel_rfl) (by simp) ?_
  refine AllReadyH.cons (o := { dst := some 58, op := Op.call { callee := Callee.value (Operand.func 19), args := #[Operand.tmp 56, Operand.tmp 57], argTypes := #[23, 3] }, type := 23, pos := "law.go:46", after := #[{ on := 25, ground := Ground.data }, { on := 26, ground := Ground.data }, { on := 24, ground := Ground.chain }, { on := 21, ground := Ground.guard }], guard := some (21, true) }) rfl (fun K hK => ?_) AllReadyH.nil
  go_simp
  refine (rcut_is cs D C n _ HCS HC A4).mono ?_
  rintro e w5 ⟨rfl, hbx⟩
  have hk := sums_below hgd hHeld hbx
  clear hbx hHeld
  go_wp2_with fail
  refine hK.out _ _ ?_ (fun hHeld => ?_)
  · exact hk
  clear hK K
  try simp only [Act.put, List.setIfInBounds_toArray, List.set_cons_zero, List.set_cons_succ]
  refine wpAnyH_take (i := 28) (oi := { dst := some 59, op := Op.binOp BinOp.eql 23 (Operand.tmp 55) (Operand.tmp 58) 23, type := 4, pos := "law.go:46", after := #[{ on := 24, ground := Ground.data }, { on := 27, ground := Ground.data }, { on := 21, ground := Ground.guard }], guard := some (21, true) }) (v := ?_) rfl (by kernel_rfl) (by kernel_rfl) (by kernel_rfl) (fun _ _ _ h => h) (Or.inl ⟨by rfl, ?_⟩) (by assumption) ?_
  rotate_left
  · intro w hSw
    clear hSw
    go_simp
    all_goals with_reducible rfl
  simp only [Act.put, List.setIfInBounds_toArray, List.set_cons_zero, List.set_cons_succ]
  refine wpAnyH_take (i := 29) (oi := { dst := some 60, op := Op.pick (Operand.tmp 52) (Operand.tmp 59) (Operand.const (Value.bool false)), type := 4, pos := "law.go:46", after := #[{ on := 21, ground := Ground.data }, { on := 28, ground := Ground.data }], guard := none }) (v := ?_) rfl (by kernel_rfl) (by kernel_rfl) (by kernel_rfl) (fun _ _ _ h => h) (Or.inl ⟨by rfl, ?_⟩) (by assumption) ?_
  rotate_left
  · intro w hSw
    clear hSw
    go_simp
    all_goals with_reducible rfl
  simp only [Act.put, List.setIfInBounds_toArray, List.set_cons_zero, List.set_cons_succ]
  refine wpAnyH_take (i := 30) (oi := { dst := some 61, op := Op.move (Operand.tmp 60), type := 4, pos := "law.go:46", after := #[{ on := 29, ground := Ground.data }, { on := 27, ground := Ground.chain }], guard := none }) (v := ?_) rfl (by kernel_rfl) (by kernel_rfl) (by kernel_rfl) (fun _ _ _ h => h) (Or.inl ⟨by rfl, ?_⟩) (by assumption) ?_
  rotate_left
  · intro w hSw
    clear hSw
    go_simp
    all_goals with_reducible rfl
  simp only [Act.put, List.setIfInBounds_toArray, List.set_cons_zero, List.set_cons_succ]
  refine wpAnyH_take (i := 31) (oi := { dst := some 62, op := Op.move (Operand.tmp 8), type := 26, pos := "law.go:46", after := #[{ on := 30, ground := Ground.guard }], guard := some (30, true) }) (v := ?_) rfl (by kernel_rfl) (by kernel_rfl) (by kernel_rfl) (fun _ _ _ h => h) (Or.inl ⟨by rfl, ?_⟩) (by assumption) ?_
  rotate_left
  · intro w hSw
    clear hSw
    go_simp
    all_goals with_reducible rfl
  simp only [Act.put, List.setIfInBounds_toArray, List.set_cons_zero, List.set_cons_succ]
  refine wpAnyH_take (i := 32) (oi := { dst := some 63, op := Op.move (Operand.tmp 0), type := 26, pos := "law.go:46", after := #[{ on := 30, ground := Ground.guard }], guard := some (30, true) }) (v := ?_) rfl (by kernel_rfl) (by kernel_rfl) (by kernel_rfl) (fun _ _ _ h => h) (Or.inl ⟨by rfl, ?_⟩) (by assumption) ?_
  rotate_left
  · intro w hSw
    clear hSw
    go_simp
    all_goals with_reducible rfl
  simp only [Act.put, List.setIfInBounds_toArray, List.set_cons_zero, List.set_cons_succ]
  refine wpAnyH_ready (rs := [33]) (by kernel_rfl) (by simp) ?_
  refine AllReadyH.cons (o := { dst := some 64, op := Op.call { callee := Callee.value (Operand.func 20), args := #[Operand.tmp 62, Operand.tmp 63, Operand.const (Value.int IntKind.u8 165)], argTypes := #[26, 26, 5] }, type := 4, pos := "law.go:46", after := #[{ on := 31, ground := Ground.data }, { on := 32, ground := Ground.data }, { on := 30, ground := Ground.chain }, { on := 30, ground := Ground.guard }], guard := some (30, true) }) rfl (fun K hK => ?_) AllReadyH.nil
  go_simp
  refine (intact_any gk _ ks Nk _ HNK.out (SV.out.below hHeld.2 (Nat.le_refl _)) hkb.out ((hHeld.2.block gk tK.out).trans RK.out)).mono ?_
  rintro e w5 ⟨rfl, hst⟩
  have hk := sums_below hgd hHeld (hst.below _)
  clear hst hHeld
  go_wp2_with fail
  refine hK.out _ _ ?_ (fun hHeld => ?_)
  · exact hk
  clear hK K
  try simp only [Act.put, List.setIfInBounds_toArray, List.set_cons_zero, List.set_cons_succ]
  refine wpAnyH_take (i := 34) (oi := { dst := some 65, op := Op.pick (Operand.tmp 61) (Operand.tmp 64) (Operand.const (Value.bool false)), type := 4, pos := "law.go:46", after := #[{ on := 30, ground := Ground.data }, { on := 33, ground := Ground.data }], guard := none }) (v := ?_) rfl (by kernel_rfl) (by kernel_rfl) (by kernel_rfl) (fun _ _ _ h => h) (Or.inl ⟨by rfl, ?_⟩) (by assumption) ?_
  rotate_left
  · intro w hSw
    clear hSw
    go_simp
    all_goals with_reducible rfl
  simp only [Act.put, List.setIfInBounds_toArray, List.set_cons_zero, List.set_cons_succ]
  refine wpAnyH_take (i := 35) (oi := { dst := some 66, op := Op.move (Operand.tmp 65), type := 4, pos := "law.go:46", after := #[{ on := 34, ground := Ground.data }, { on := 33, ground := Ground.chain }], guard := none }) (v := ?_) rfl (by kernel_rfl) (by kernel_rfl) (by kernel_rfl) (fun _ _ _ h => h) (Or.inl ⟨by rfl, ?_⟩) (by assumption) ?_
  rotate_left
  · intro w hSw
    clear hSw
    go_simp
    all_goals with_reducible rfl
  simp only [Act.put, List.setIfInBounds_toArray, List.set_cons_zero, List.set_cons_succ]
  refine wpAnyH_take (i := 36) (oi := { dst := some 67, op := Op.move (Operand.tmp 9), type := 26, pos := "law.go:46", after := #[{ on := 35, ground := Ground.guard }], guard := some (35, true) }) (v := ?_) rfl (by kernel_rfl) (by kernel_rfl) (by kernel_rfl) (fun _ _ _ h => h) (Or.inl ⟨by rfl, ?_⟩) (by assumption) ?_
  rotate_left
  · intro w hSw
    clear hSw
    go_simp
    all_goals with_reducible rfl
  simp only [Act.put, List.setIfInBounds_toArray, List.set_cons_zero, List.set_cons_succ]
  refine wpAnyH_take (i := 37) (oi := { dst := some 68, op := Op.move (Operand.tmp 1), type := 26, pos := "law.go:46", after := #[{ on := 35, ground := Ground.guard }], guard := some (35, true) }) (v := ?_) rfl (by kernel_rfl) (by kernel_rfl) (by kernel_rfl) (fun _ _ _ h => h) (Or.inl ⟨by rfl, ?_⟩) (by assumption) ?_
  rotate_left
  · intro w hSw
    clear hSw
    go_simp
    all_goals with_reducible rfl
  simp only [Act.put, List.setIfInBounds_toArray, List.set_cons_zero, List.set_cons_succ]
  refine wpAnyH_ready (rs := [38]) (by kernel_rfl) (by simp) ?_
  refine AllReadyH.cons (o := { dst := some 69, op := Op.call { callee := Callee.value (Operand.func 20), args := #[Operand.tmp 67, Operand.tmp 68, Operand.const (Value.int IntKind.u8 165)], argTypes := #[26, 26, 5] }, type := 4, pos := "law.go:46", after := #[{ on := 36, ground := Ground.data }, { on := 37, ground := Ground.data }, { on := 35, ground := Ground.chain }, { on := 35, ground := Ground.guard }], guard := some (35, true) }) rfl (fun K hK => ?_) AllReadyH.nil
  go_simp
  refine (intact_any gx _ bs Nb _ HNB.out (SU.out.below hHeld.2 (Nat.le_refl _)) hbb.out ((hHeld.2.block gx tX.out).trans RX.out)).mono ?_
  rintro e w5 ⟨rfl, hst⟩
  have hk := sums_below hgd hHeld (hst.below _)
  clear hst hHeld
  go_wp2_with fail
  refine hK.out _ _ ?_ (fun hHeld => ?_)
  · exact hk
  clear hK K
  try simp only [Act.put, List.setIfInBounds_toArray, List.set_cons_zero, List.set_cons_succ]
  refine wpAnyH_take (i := 39) (oi := { dst := some 70, op := Op.pick (Operand.tmp 66) (Operand.tmp 69) (Operand.const (Value.bool false)), type := 4, pos := "law.go:46", after := #[{ on := 35, ground := Ground.data }, { on := 38, ground := Ground.data }], guard := none }) (v := ?_) rfl (by kernel_rfl) (by kernel_rfl) (by kernel_rfl) (fun _ _ _ h => h) (Or.inl ⟨by rfl, ?_⟩) (by assumption) ?_
  rotate_left
  · intro w hSw
    clear hSw
    go_simp
    all_goals with_reducible rfl
  simp only [Act.put, List.setIfInBounds_toArray, List.set_cons_zero, List.set_cons_succ]
  refine wpAnyH_take (i := 40) (oi := { dst := some 71, op := Op.move (Operand.tmp 70), type := 4, pos := "law.go:46", after := #[{ on := 39, ground := Ground.data }, { on := 38, ground := Ground.chain }], guard := none }) (v := ?_) rfl (by kernel_rfl) (by kernel_rfl) (by kernel_rfl) (fun _ _ _ h => h) (Or.inl ⟨by rfl, ?_⟩) (by assumption) ?_
  rotate_left
  · intro w hSw
    clear hSw
    go_simp
    all_goals with_reducible rfl
  simp only [Act.put, List.setIfInBounds_toArray, List.set_cons_zero, List.set_cons_succ]
  refine wpAnyH_ready (rs := [41]) (by kernel_rfl) (by simp) ?_
  refine AllReadyH.cons (o := { dst := some 72, op := Op.call { callee := Callee.value (Operand.func 13), args := #[], argTypes := #[] }, type := 4, pos := "law.go:46", after := #[{ on := 40, ground := Ground.chain }, { on := 40, ground := Ground.guard }], guard := some (40, true) }) rfl (fun K hK => ?_) AllReadyH.nil
  go_simp
  refine (known_any _ (KW.out.below hHeld.2 hW0)).mono ?_
  rintro e w5 ⟨rfl, hbx⟩
  have hk := sums_below hgd hHeld hbx
  clear hbx hHeld
  go_wp2_with fail
  refine hK.out _ _ ?_ (fun hHeld => ?_)
  · exact hk
  clear hK K
  try simp only [Act.put, List.setIfInBounds_toArray, List.set_cons_zero, List.set_cons_succ]
  refine wpAnyH_take (i := 42) (oi := { dst := some 73, op := Op.pick (Operand.tmp 71) (Operand.tmp 72) (Operand.const (Value.bool false)), type := 4, pos := "law.go:46", after := #[{ on := 40, ground := Ground.data }, { on := 41, ground := Ground.data }], guard := none }) (v := ?_) rfl (by kernel_rfl) (by kernel_rfl) (by kernel_rfl) (fun _ _ _ h => h) (Or.inl ⟨by rfl, ?_⟩) (by assumption) ?_
  rotate_left
  · intro w hSw
    clear hSw
    go_simp
    all_goals with_reducible rfl
  simp only [Act.put, List.setIfInBounds_toArray, List.set_cons_zero, List.set_cons_succ]
  refine wpAnyH_take (i := 43) (oi := { dst := some 6, op := Op.assign (Operand.tmp 73), type := 4, pos := "law.go:46", after := #[{ on := 42, ground := Ground.data }, { on := 41, ground := Ground.chain }, { on := 0, ground := Ground.phase }, { on := 1, ground := Ground.phase }, { on := 2, ground := Ground.phase }, { on := 3, ground := Ground.phase }, { on := 4, ground := Ground.phase }, { on := 5, ground := Ground.phase }, { on := 6, ground := Ground.phase }, { on := 7, ground := Ground.phase }, { on := 8, ground := Ground.phase }, { on := 9, ground := Ground.phase }, { on := 10, ground := Ground.phase }, { on := 11, ground := Ground.phase }, { on := 12, ground := Ground.phase }, { on := 13, ground := Ground.phase }, { on := 14, ground := Ground.phase }, { on := 15, ground := Ground.phase }, { on := 16, ground := Ground.phase }, { on := 17, ground := Ground.phase }, { on := 18, ground := Ground.phase }, { on := 19, ground := Ground.phase }, { on := 20, ground := Ground.phase }, { on := 21, ground := Ground.phase }, { on := 22, ground := Ground.phase }, { on := 23, ground := Ground.phase }, { on := 24, ground := Ground.phase }, { on := 25, ground := Ground.phase }, { on := 26, ground := Ground.phase }, { on := 27, ground := Ground.phase }, { on := 28, ground := Ground.phase }, { on := 29, ground := Ground.phase }, { on := 30, ground := Ground.phase }, { on := 31, ground := Ground.phase }, { on := 32, ground := Ground.phase }, { on := 33, ground := Ground.phase }, { on := 34, ground := Ground.phase }, { on := 35, ground := Ground.phase }, { on := 36, ground := Ground.phase }, { on := 37, ground := Ground.phase }, { on := 38, ground := Ground.phase }, { on := 39, ground := Ground.phase }, { on := 40, ground := Ground.phase }, { on := 41, ground := Ground.phase }, { on := 42, ground := Ground.phase }], guard := none }) (v := ?_) rfl (by kernel_rfl) (by kernel_rfl) (by kernel_rfl) (fun _ _ _ h => h) (Or.inl ⟨by rfl, ?_⟩) (by assumption) ?_
  rotate_left
  · intro w hSw
    clear hSw
    go_simp
    all_goals with_reducible rfl
  simp only [Act.put, List.setIfInBounds_toArray, List.set_cons_zero, List.set_cons_succ]
  refine wpAnyH_done (by kernel_rfl) ?_ _
  refine NoPanic.normal ?_
  go_wp2_with fail
  go_ret
  exact ⟨rfl, BW.out.trans ((sums_below hgd hHeld (Below.refl _ _)).2.mono BW.out.size)⟩
end Go.Proofs.YtdfjbajehcedaaaDoor
