/- begun, page and known of the statements. -/
import Derived.Test.YthjlhngjpbmieaaGreatDoorUd
import Derived.Test.YthjlhngjpbmieaaGreatDoorJc
import Derived.Test.YthjlhngjpbmieaaGreatDoorJa
namespace Go.Proofs.YthjlhngjpbmieaaGreatDoor
open Go.RowKit


set_option maxHeartbeats 4000000 in
set_option maxRecDepth 10000 in
theorem pbegun_go (w : World) (hK : KAt w) :
   Calls Tryz.prog 8 #[] w fun e w' => ∃ o gs, e = .returned (.tuple #[o.ptr, .pointer (some ⟨gs, 0, none⟩), .bool true]) ∧ Pg w w' o (S.madeDk 8192) 0 0 (fun _ => S.zeros 1024) ∧ StAt w' gs o ∧ ¬ o.has gs ∧ w.heap.size ≤ gs := by
  have HK := hide hK
  have HP : Hid (0 < w.heap.size) := hK.pos
  clear hK
  go_enter Tryz.func8, Tryz.ntmps8
  go_wp2_with fail
  refine (new_any 8192 w (by omega) (by omega)).mono ?_
  rintro e w1 ⟨o, rfl, hd, ho, b1⟩
  have D1 : Hid (Dsk w1 o (S.Dk.new 8192)) := ⟨hd, HK.out.below b1 HK.out.pos, fun e => by have := ho 0 e; have := HP.out; omega⟩
  have O1 := hide ho
  have B1 := hide b1
  have hptr : o.ptr = .pointer (some ⟨o.g, 0, none⟩) := rfl
  rw [hptr]
  clear hd ho b1
  go_wp2_with fail
  rw [← hptr]
  refine (pformat_new w w1 o 8192 (by omega) D1.out O1.out B1.out HP.out).mono ?_
  rintro e w2 ⟨rfl, o2, hg2, hp2⟩
  have P2 := hide hp2
  have hp2' : o2.ptr = o.ptr := by unfold Ow.ptr; rw [hg2]
  rw [← hp2']
  clear hp2 hg2 hptr hp2' D1 O1 B1
  go_wp2_with fail
  refine (popen_go w w2 o2 _ 0 0 _ P2.out).mono ?_
  rintro e w3 ⟨gs, rfl, hst, hgs, hp3, b3⟩
  have P3 := hide hp3
  have ST3 := hide hst
  have NG : Hid (¬ o2.has gs) := fun e => by have := P2.out.dk.dk.lt gs e; omega
  have GS : Hid (w.heap.size ≤ gs) := Nat.le_trans P2.out.below.size hgs
  clear hst hgs hp3 b3 P2
  have hptr : o2.ptr = .pointer (some ⟨o2.g, 0, none⟩) := rfl
  rw [hptr]
  go_wp2_with fail
  go_ret3
  exact ⟨o2, gs, rfl, P3.out, ST3.out, NG.out, GS.out⟩
namespace S
/-- The statements' page. -/
def pgOf (C : UInt8) : List UInt8 := (List.range 1024).map fun i => C + UInt8.ofNat (i / 100)
theorem pgOf_length (C : UInt8) : (pgOf C).length = 1024 := by simp [pgOf]
def pgTo (C : UInt8) (k : Nat) : List UInt8 := ((List.range k).map fun i => C + UInt8.ofNat (i / 100)) ++ zeros (1024 - k)
theorem pgTo_length (C : UInt8) (k : Nat) (h : k ≤ 1024) : (pgTo C k).length = 1024 := by simp [pgTo, zeros_length]; omega
theorem pgTo_set (C : UInt8) (k : Nat) (h : k < 1024) : (pgTo C k).set k (C + UInt8.ofNat (k / 100)) = pgTo C (k + 1) := by
  unfold pgTo
  have e : zeros (1024 - k) = 0 :: zeros (1024 - (k + 1)) := by
    unfold zeros
    rw [show 1024 - k = (1024 - (k + 1)) + 1 from by omega, List.replicate_succ]
  have e2 : (List.range (k + 1)).map (fun i => C + UInt8.ofNat (i / 100)) = (List.range k).map (fun i => C + UInt8.ofNat (i / 100)) ++ [C + UInt8.ofNat (k / 100)] := by rw [List.range_succ, List.map_append]; rfl
  have hl : ((List.range k).map fun i => C + UInt8.ofNat (i / 100)).length = k := by simp
  rw [List.set_append_right _ _ (by rw [hl]; omega), hl, Nat.sub_self, e, List.set_cons_zero, e2, List.append_assoc]
  rfl
end S
theorem pg_byte (C : UInt8) (k : Nat) : ((C.toNat : Int) + (k : Int) / 100) % 256 = ((C + UInt8.ofNat (k / 100)).toNat : Int) := by
  have h : (k : Int) / 100 = ((k / 100 : Nat) : Int) := by omega
  rw [h, UInt8.toNat_add, UInt8.toNat_ofNat']
  generalize k / 100 = m
  omega
set_option maxHeartbeats 1600000 in
set_option maxRecDepth 10000 in
theorem page_any (C : UInt8) (w : World) :
   Calls Tryz.prog 13 #[.int .u8 (C.toNat : Int)] w fun e w' => ∃ g, e = .returned (.slice (some ⟨g, 0, none⟩) 1024 1024) ∧ w.heap.size ≤ g ∧ w'.heap[g]? = some (.cells (S.v8 (S.pgOf C)) 5 (0, 0)) ∧ Below w.heap.size w w' := by
  have hmk : ∀ w : World, (Instr.makeSlice 31 (.int .i64 1024) (.int .i64 1024)).run Tryz.prog w = .ok (.slice (some ⟨w.heap.size, 0, none⟩) 1024 1024) (w.alloc (.cells (S.v8 (S.zeros 1024)) 5)) := fun w => make_bytes_big 1024 (by omega) w
  obtain ⟨w1, hw1⟩ : ∃ w1, w1 = w.alloc (.cells (S.v8 (S.zeros 1024)) 5) := ⟨_, rfl⟩
  have R1 : Hid (w1.heap[w.heap.size]? = some (.cells (S.v8 (S.pgTo C 0)) 5 (0, 0))) := by
    have e : S.pgTo C 0 = S.zeros 1024 := by simp [S.pgTo]
    rw [hw1, e]; exact heap_alloc_new _ _
  have B1 : Hid (Below w.heap.size w w1) := by rw [hw1]; exact (Below.refl _ _).alloc (Nat.le_refl _) _
  obtain ⟨g, hg⟩ : ∃ g, g = w.heap.size := ⟨_, rfl⟩
  rw [← hg] at R1
  have HG := hide hg
  go_enter Tryz.func13, Tryz.ntmps13
  go_upto_region 3 with fail
  rw [← hw1, ← hg]
  clear hw1 hg hmk
  go_loopw [4] (fun i wr => ∃ k : Nat, k ≤ 1024 ∧ i = .int .i64 (k : Int) ∧ wr.heap[g]? = some (.cells (S.v8 (S.pgTo C k)) 5 (0, 0)) ∧ Below w.heap.size w wr) (fun i _ => 1024 - (intOf i).toNat)
  case atStart => exact ⟨0, Nat.zero_le _, rfl, R1.out, B1.out⟩
  case round =>
    obtain ⟨k, hk, rfl, hr, hb⟩ := hrel
    by_cases hlt : k < 1024
    · have hll := S.pgTo_length C k hk
      have c1 := v8_cell hr k (by omega)
      have f1 := frozen_of_row _ _ k _ _ hr
      have V1 := hide (v8_set hr k (C + UInt8.ofNat (k / 100)))
      rw [S.pgTo_set C k hlt] at V1
      have V3 := hide (hb.setCell (p := ⟨g, k, none⟩) (by rw [HG.out]; exact Nat.le_refl _) (.int .u8 ((C + UInt8.ofNat (k / 100)).toNat : Int)))
      have q1 : (0 : Int) ≤ (k : Int) := by omega
      have q2 : (k : Int) < 1024 := by omega
      have q4 : IntKind.i64.wrap ((k : Int) + 1) = (k : Int) + 1 := by rw [IntKind.wrap_i64]; omega
      have q6 := pg_byte C k
      obtain ⟨y, hy⟩ : ∃ y : UInt8, y = C + UInt8.ofNat (k / 100) := ⟨_, rfl⟩
      rw [← hy] at q6 V1 V3
      clear hr hb hll hy
      go_wp2
      go_roundw
      case rel => exact ⟨k + 1, by omega, by go_num, V1.out, V3.out⟩
      case measure => simp [intOf]; omega
    · obtain rfl : k = 1024 := by omega
      have e : S.pgTo C 1024 = S.pgOf C := by simp [S.pgTo, S.pgOf, S.zeros]
      rw [e] at hr
      have A := hide hr
      have B := hide hb
      clear hr hb e
      go_wp2
      go_ret
      exact ⟨g, rfl, by rw [HG.out]; exact Nat.le_refl _, A.out, B.out⟩
/-- A row of sheets, as it was laid. -/
theorem row_cells {w : World} {b : Nat} {d : List ShV} (h : w.heap[b]? = some (.cells (d.flatMap encSh).toArray 37 (0, 0))) : ∀ j u, (d.flatMap encSh)[j]? = some u → w.cell? ⟨b, 0 + j, none⟩ = some u := fun j u hu => by
  rw [Nat.zero_add, cell_of_row w b j _ 37 _ h]
  simpa using hu


theorem yieldsIf_conv {ops : Array Oper} {T : World → Prop} {op : Oper} {a : Act} (hw : Region.wanted op (yielded ops a.tmps) = true) (x : Operand) (ho : op.op = .convert 31 9 x) (v : Value) (hx : a.eval x = v) (bs : List UInt8) (hS : ∀ w, T w → SliceAt w v bs) : YieldsIf Tryz.prog ops T op (.string ⟨bs.toArray⟩) a :=
  Or.inl ⟨hw, fun w hw' => by
    unfold execOp
    simp only [ho, Sem.run_bind, hx, conv_slice (hS w hw'), Result.andThen_ok, Sem.run_pure]⟩
set_option maxHeartbeats 8000000 in
set_option maxRecDepth 10000 in
theorem pknown_go (w : World) (hK : KAt w) : Calls Tryz.prog 15 #[] w fun e w' => e = .returned (.bool true) ∧ Below w.heap.size w w' := by
  have HK := hide hK
  clear hK
  go_enter Tryz.func15, Tryz.ntmps15
  go_wp2_with fail
  refine (pbegun_go w HK.out).mono ?_
  rintro e w1 ⟨o, gs, rfl, hp1, hst1, hng, hgs⟩
  have P1 := hide hp1
  have ST1 := hide hst1
  have NG := hide hng
  clear hp1 hst1 hng hgs
  go_wp2_with fail
  refine (page_any 1 w1).mono ?_
  rintro e w2 ⟨gp, rfl, hgp, hrp, b2⟩
  obtain ⟨X, hX⟩ : ∃ X, X = S.pgOf 1 := ⟨_, rfl⟩
  rw [← hX] at hrp
  have XL : Hid (X.length = 1024) := by rw [hX]; exact S.pgOf_length 1
  have HX := hide hX
  have P2 := hide (P1.out.then b2)
  have ST2 : Hid (StAt w2 gs o) := (b2.block gs (block_lt_of_row ST1.out)).trans ST1.out
  have RP2 := hide hrp
  have NP : Hid (¬ o.has gp) := fun e => by have := P1.out.dk.dk.lt gp e; omega
  obtain ⟨w3, hw3⟩ : ∃ w3, w3 = w2.alloc (.cells #[.int .i64 3, .slice (some ⟨gp, 0, none⟩) 1024 1024] 37) := ⟨_, rfl⟩
  have b3 : Below w2.heap.size w2 w3 := by rw [hw3]; exact (Below.refl _ _).alloc (Nat.le_refl _) _
  have r3 : w3.heap[w2.heap.size]? = some (.cells #[.int .i64 3, .slice (some ⟨gp, 0, none⟩) 1024 1024] 37 (0, 0)) := by rw [hw3]; exact heap_alloc_new _ _
  have P3 := hide (P2.out.then b3)
  have ST3 : Hid (StAt w3 gs o) := (b3.block gs (block_lt_of_row ST2.out)).trans ST2.out
  have V3 : Hid (SliceAt w3 (.slice (some ⟨gp, 0, none⟩) 1024 1024) X) := slice_row ((b3.block gp (block_lt_of_row RP2.out)).trans RP2.out) XL.out.symm (by rw [XL.out]; omega)
  have CC : Hid (∀ j u, (([((3 : Int), some ⟨gp, 0, none⟩, 1024, 1024)] : List ShV).flatMap encSh)[j]? = some u → w3.cell? ⟨w2.heap.size, 0 + j, none⟩ = some u) := row_cells r3
  have GPL : Hid (gp < w3.heap.size) := Nat.lt_of_lt_of_le (block_lt_of_row RP2.out) b3.size
  obtain ⟨gh, hgh⟩ : ∃ gh, gh = w2.heap.size := ⟨_, rfl⟩
  rw [← hgh] at CC
  clear hgp hrp b2 b3 r3 P1 ST1 P2 ST2 RP2 hX
  go_wp2_with fail
  rw [← hw3, ← hgh]
  clear hw3 hgh
  refine (pput_go w w3 o _ 0 0 gs gh 0 1 [((3 : Int), some ⟨gp, 0, none⟩, 1024, 1024)] _ (fun _ => X) P3.out ST3.out CC.out (by simp) (by simp) (fun x hx => by
    simp only [List.mem_singleton] at hx
    subst hx
    exact ⟨(show (0 : Int) ≤ 3 by decide), (show (3 : Int) < 512 by decide), rfl, ⟨gp, 0, rfl, NP.out, GPL.out⟩, V3.out⟩) (by simp) NG.out (by omega)).mono ?_
  rintro e w4 ⟨rfl, o4, d4, hg4, hp4, hst4, hc4, ho4⟩
  have EP : (fun m => if m ∈ S.pgs [((3 : Int), some (⟨gp, 0, none⟩ : Addr), 1024, 1024)] then X else (fun _ => S.zeros 1024) m) = (fun m => if m = 3 then X else (fun _ => S.zeros 1024) m) := by
    funext m
    simp [S.pgs]
  rw [EP] at hp4
  clear EP
  have P4 := hide hp4
  have hpt : o4.ptr = o.ptr := by unfold Ow.ptr; rw [hg4]
  rw [← hpt]
  clear hg4 hp4 hst4 hc4 ho4 hpt P3 ST3 CC V3 NP NG
  go_wp2_with fail
  refine (popen_go w w4 o4 d4 0 (0 + 2) _ P4.out).mono ?_
  rintro e w5 ⟨gt, rfl, hst5, hgt, hp5, b5⟩
  have P5 := hide hp5
  have ST5 := hide hst5
  clear hst5 hgt hp5 b5 P4
  go_wp2_with fail
  refine (pread_go w w5 o4 d4 0 (0 + 2) gt 3 _ P5.out ST5.out (by omega)).mono ?_
  rintro e w6 ⟨ga, rfl, hga, hra, hp6, hst6, b6⟩
  have P6 := hide hp6
  have ST6 := hide hst6
  have RA : Hid (Room w6 ga 1024 X) := by rw [if_pos rfl] at hra; exact hra
  clear hga hra hp6 hst6 b6 P5 ST5
  go_wp2_with fail
  refine (pread_go w w6 o4 d4 0 (0 + 2) gt 4 _ P6.out ST6.out (by omega)).mono ?_
  rintro e w7 ⟨gc, rfl, hgc, hrc, hp7, hst7, b7⟩
  obtain ⟨Y, hY⟩ : ∃ Y, Y = S.zeros 1024 := ⟨_, rfl⟩
  have RC : Hid (Room w7 gc 1024 Y) := by rw [if_neg (by omega)] at hrc; rw [hY]; exact hrc
  have YL : Hid (Y.length = 1024) := by rw [hY]; exact S.zeros_length _
  have HY := hide hY
  have SA : Hid (SliceAt w7 (.slice (some ⟨ga, 0, none⟩) 1024 1024) X) := by
    have h1 := (RA.out.below b7 (by obtain ⟨cur, h, _⟩ := RA.out; exact block_lt_of_row h)).sliceAt (by rw [XL.out]; omega)
    rw [XL.out] at h1
    exact h1
  have SC : Hid (SliceAt w7 (.slice (some ⟨gc, 0, none⟩) 1024 1024) Y) := by
    have h1 := RC.out.sliceAt (by rw [YL.out]; omega)
    rw [YL.out] at h1
    exact h1
  have B7 : Hid (Below w.heap.size w w7) := hp7.below
  clear hgc hrc hp7 hst7 b7 hY P6 ST6 RA RC
  go_upto_region 9 with fail
  refine wp_region_noPanic ?_
  refine wp_region_held_drew (S := (fun W => SliceAt W (.slice (some ⟨ga, 0, none⟩) 1024 1024) X ∧ SliceAt W (.slice (some ⟨gc, 0, none⟩) 1024 1024) Y)) follows ⟨SA.out, SC.out⟩ (fun hHeld => ?_)
  have Bd : Hid (Below w.heap.size w w7.drew) := B7.out.drew
  clear B7 SA SC
  generalize w7.drew = Z1 at Bd hHeld ⊢
  refine tk 0 ?_ rfl (Or.inl ⟨by rfl, ?_⟩) ?_
  rotate_left
  · intro w hSw
    clear hSw
    go_simp
    all_goals with_reducible rfl
  simp only [Act.put, List.setIfInBounds_toArray, List.set_cons_zero, List.set_cons_succ]
  refine tk 1 ?_ rfl (Or.inl ⟨by rfl, ?_⟩) ?_
  rotate_left
  · intro w hSw
    clear hSw
    go_simp
    all_goals with_reducible rfl
  simp only [Act.put, List.setIfInBounds_toArray, List.set_cons_zero, List.set_cons_succ]
  refine tk 2 ?_ rfl (Or.inl ⟨by rfl, ?_⟩) ?_
  rotate_left
  · intro w hSw
    clear hSw
    go_simp
    all_goals with_reducible rfl
  simp only [Act.put, List.setIfInBounds_toArray, List.set_cons_zero, List.set_cons_succ]
  refine tk 3 ?_ rfl (Or.inl ⟨by rfl, ?_⟩) ?_
  rotate_left
  · intro w hSw
    clear hSw
    go_simp
    all_goals with_reducible rfl
  simp only [Act.put, List.setIfInBounds_toArray, List.set_cons_zero, List.set_cons_succ]
  refine tk 4 ?_ rfl (Or.inl ⟨by rfl, ?_⟩) ?_
  rotate_left
  · intro w hSw
    clear hSw
    go_simp
    all_goals with_reducible rfl
  simp only [Act.put, List.setIfInBounds_toArray, List.set_cons_zero, List.set_cons_succ]
  refine tk 5 ?_ rfl (Or.inl ⟨by rfl, ?_⟩) ?_
  rotate_left
  · intro w hSw
    clear hSw
    go_simp
    all_goals with_reducible rfl
  simp only [Act.put, List.setIfInBounds_toArray, List.set_cons_zero, List.set_cons_succ]
  refine tk 6 ?_ rfl (Or.inl ⟨by rfl, ?_⟩) ?_
  rotate_left
  · intro w hSw
    clear hSw
    go_simp
    all_goals with_reducible rfl
  simp only [Act.put, List.setIfInBounds_toArray, List.set_cons_zero, List.set_cons_succ]
  refine tk 7 ?_ rfl (Or.inl ⟨by rfl, ?_⟩) ?_
  rotate_left
  · intro w hSw
    clear hSw
    go_simp
    all_goals with_reducible rfl
  simp only [Act.put, List.setIfInBounds_toArray, List.set_cons_zero, List.set_cons_succ]
  refine wpAnyH_take (i := 8) (oi := ⟨_, _, _, _, _, _⟩) (v := .string ⟨(X).toArray⟩) rfl (by kernel_rfl) (by kernel_rfl) (by kernel_rfl) (fun _ _ _ h => h) (yieldsIf_conv (by kernel_rfl) (.tmp 53) rfl (.slice (some ⟨ga, 0, none⟩) 1024 1024) rfl (X) (fun W hW => hW.1)) (by assumption) ?_
  simp only [Act.put, List.setIfInBounds_toArray, List.set_cons_zero, List.set_cons_succ]
  refine wpAnyH_ready (rs := [9]) (by kernel_rfl) (by simp) ?_
  refine AllReadyH.cons (o := { dst := some 55, op := Op.call { callee := Callee.value (Operand.func 13), args := #[Operand.const (Value.int IntKind.u8 1)], argTypes := #[5] }, type := 31, pos := "law.go:49", after := #[⟨6, .chain⟩, ⟨6, .guard⟩], guard := some (6, true) }) rfl (fun K hK => ?_) AllReadyH.nil
  go_simp
  refine (page_any 1 Z1).mono ?_
  rintro e Z2 ⟨g9, rfl, hg9, hr9, b9⟩
  have a2 : SliceAt Z2 (.slice (some ⟨ga, 0, none⟩) 1024 1024) X ∧ SliceAt Z2 (.slice (some ⟨gc, 0, none⟩) 1024 1024) Y := ⟨hHeld.1.below b9 (Nat.le_refl _), hHeld.2.below b9 (Nat.le_refl _)⟩
  have B2 := hide (Bd.out.trans (b9.mono Bd.out.size))
  have hs9 : SliceAt Z2 (.slice (some ⟨g9, 0, none⟩) 1024 1024) (S.pgOf 1) := slice_row hr9 (S.pgOf_length 1).symm (by rw [S.pgOf_length]; omega)
  rw [← HX.out] at hs9
  have hcv := conv_slice hs9
  clear hHeld hr9 b9 hg9 Bd hs9
  refine hK.out _ _ a2 (fun hHeld => ?_)
  clear hK K
  try simp only [Act.put, List.setIfInBounds_toArray, List.set_cons_zero, List.set_cons_succ]
  clear a2
  refine wpAnyH_ready (rs := [10]) (by kernel_rfl) (by simp) ?_
  refine AllReadyH.cons (o := { dst := some 56, op := Op.convert 31 9 (Operand.tmp 55), type := 9, pos := "law.go:49", after := #[⟨9, .data⟩, ⟨6, .guard⟩], guard := some (6, true) }) rfl (fun K hK => ?_) AllReadyH.nil
  go_simp
  clear hcv
  refine hK.out _ _ hHeld (fun hHeld => ?_)
  clear hK K
  try simp only [Act.put, List.setIfInBounds_toArray, List.set_cons_zero, List.set_cons_succ]
  refine tk 11 ?_ rfl (Or.inl ⟨by rfl, ?_⟩) ?_
  rotate_left
  · intro w hSw
    clear hSw
    go_simp
    all_goals with_reducible rfl
  simp only [Act.put, List.setIfInBounds_toArray, List.set_cons_zero, List.set_cons_succ]
  refine tk 12 ?_ rfl (Or.inl ⟨by rfl, ?_⟩) ?_
  rotate_left
  · intro w hSw
    clear hSw
    go_simp
    all_goals with_reducible rfl
  simp only [Act.put, List.setIfInBounds_toArray, List.set_cons_zero, List.set_cons_succ]
  refine tk 13 ?_ rfl (Or.inl ⟨by rfl, ?_⟩) ?_
  rotate_left
  · intro w hSw
    clear hSw
    go_simp
    all_goals with_reducible rfl
  simp only [Act.put, List.setIfInBounds_toArray, List.set_cons_zero, List.set_cons_succ]
  refine tk 14 ?_ rfl (Or.inl ⟨by rfl, ?_⟩) ?_
  rotate_left
  · intro w hSw
    clear hSw
    go_simp
    all_goals with_reducible rfl
  simp only [Act.put, List.setIfInBounds_toArray, List.set_cons_zero, List.set_cons_succ]
  refine wpAnyH_take (i := 15) (oi := ⟨_, _, _, _, _, _⟩) (v := .string ⟨(Y).toArray⟩) rfl (by kernel_rfl) (by kernel_rfl) (by kernel_rfl) (fun _ _ _ h => h) (yieldsIf_conv (by kernel_rfl) (.tmp 60) rfl (.slice (some ⟨gc, 0, none⟩) 1024 1024) rfl (Y) (fun W hW => hW.2)) (by assumption) ?_
  simp only [Act.put, List.setIfInBounds_toArray, List.set_cons_zero, List.set_cons_succ]
  refine wpAnyH_ready (rs := [16]) (by kernel_rfl) (by simp) ?_
  refine AllReadyH.cons (o := { dst := some 62, op := Op.makeSlice 31 (Operand.const (Value.int IntKind.i64 1024)) (Operand.const (Value.int IntKind.i64 1024)), type := 31, pos := "law.go:49", after := #[⟨13, .guard⟩], guard := some (13, true) }) rfl (fun K hK => ?_) AllReadyH.nil
  have hmk : (Instr.makeSlice 31 (.int .i64 1024) (.int .i64 1024)).run Tryz.prog Z2 = .ok (.slice (some ⟨Z2.heap.size, 0, none⟩) 1024 1024) (Z2.alloc (.cells (S.v8 (S.zeros 1024)) 5)) := make_bytes_big 1024 (by omega) Z2
  go_simp
  obtain ⟨Z3, hZ3⟩ : ∃ Z3, Z3 = Z2.alloc (.cells (S.v8 (S.zeros 1024)) 5) := ⟨_, rfl⟩
  have b3 : Below Z2.heap.size Z2 Z3 := by rw [hZ3]; exact (Below.refl _ _).alloc (Nat.le_refl _) _
  have r3 : Z3.heap[Z2.heap.size]? = some (.cells (S.v8 (S.zeros 1024)) 5 (0, 0)) := by rw [hZ3]; exact heap_alloc_new _ _
  have a3 : SliceAt Z3 (.slice (some ⟨ga, 0, none⟩) 1024 1024) X ∧ SliceAt Z3 (.slice (some ⟨gc, 0, none⟩) 1024 1024) Y := ⟨hHeld.1.below b3 (Nat.le_refl _), hHeld.2.below b3 (Nat.le_refl _)⟩
  have B3 := hide (B2.out.trans (b3.mono B2.out.size))
  have hs3 : SliceAt Z3 (.slice (some ⟨Z2.heap.size, 0, none⟩) 1024 1024) (S.zeros 1024) := slice_row r3 (S.zeros_length _).symm (by rw [S.zeros_length]; omega)
  rw [← HY.out] at hs3
  have hcv := conv_slice hs3
  rw [← hZ3]
  clear hHeld r3 b3 hs3 B2 hmk hZ3
  refine hK.out _ _ a3 (fun hHeld => ?_)
  clear hK K
  try simp only [Act.put, List.setIfInBounds_toArray, List.set_cons_zero, List.set_cons_succ]
  clear a3
  refine wpAnyH_ready (rs := [17]) (by kernel_rfl) (by simp) ?_
  refine AllReadyH.cons (o := { dst := some 63, op := Op.convert 31 9 (Operand.tmp 62), type := 9, pos := "law.go:49", after := #[⟨16, .data⟩, ⟨13, .guard⟩], guard := some (13, true) }) rfl (fun K hK => ?_) AllReadyH.nil
  go_simp
  clear hcv
  refine hK.out _ _ hHeld (fun hHeld => ?_)
  clear hK K
  try simp only [Act.put, List.setIfInBounds_toArray, List.set_cons_zero, List.set_cons_succ]
  refine tk 18 ?_ rfl (Or.inl ⟨by rfl, ?_⟩) ?_
  rotate_left
  · intro w hSw
    clear hSw
    go_simp
    all_goals with_reducible rfl
  simp only [Act.put, List.setIfInBounds_toArray, List.set_cons_zero, List.set_cons_succ]
  refine tk 19 ?_ rfl (Or.inl ⟨by rfl, ?_⟩) ?_
  rotate_left
  · intro w hSw
    clear hSw
    go_simp
    all_goals with_reducible rfl
  simp only [Act.put, List.setIfInBounds_toArray, List.set_cons_zero, List.set_cons_succ]
  refine tk 20 ?_ rfl (Or.inl ⟨by rfl, ?_⟩) ?_
  rotate_left
  · intro w hSw
    clear hSw
    go_simp
    all_goals with_reducible rfl
  simp only [Act.put, List.setIfInBounds_toArray, List.set_cons_zero]
  refine wpAnyH_done (by kernel_rfl) ?_ _
  refine NoPanic.normal ?_
  clear hHeld
  go_wp2_with fail
  go_ret
  exact ⟨rfl, B3.out⟩
end Go.Proofs.YthjlhngjpbmieaaGreatDoor
