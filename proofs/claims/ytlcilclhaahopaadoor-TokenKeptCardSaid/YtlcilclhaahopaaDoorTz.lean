/- The document's Encode. -/
import Derived.Test.YtlcilclhaahopaaDoorTl
import Derived.Test.YtlcilclhaahopaaDoorTk
import Derived.Test.YtlcilclhaahopaaDoorDrg
namespace Go.Proofs.YtlcilclhaahopaaDoor
open Go.RowKit

theorem S.num_one (n : Nat) : S.num n 1 = [UInt8.ofNat n] := by simp [S.num]
set_option maxHeartbeats 16000000 in
set_option maxRecDepth 10000 in
theorem rencode_any (t : S.Tk) (cv : Value) (w : World) (ht : t.Ok) (hv : CvAt w cv t.cs) :
   Calls Tryd.prog 25 #[.agg (encT t.id cv t.tag).toArray] w fun e w' => (∃ v, e = .returned (.tuple #[v, .int .i64 (S.encode t).2]) ∧ URow w' v (S.encode t).1) ∧ Below w.heap.size w w' := by
  obtain ⟨ao, n, cap, rfl, hn, hncap⟩ := hv.form
  obtain ⟨R, hR⟩ : ∃ R, R = S.encode t := ⟨_, rfl⟩
  rw [← hR]
  rw [S.encode, ← hn] at hR
  have HRR := hide hR
  have HN := hide hn
  have HV := hide hv
  have HT := hide ht
  have hnb : n ≤ 140737488355328 := by rw [hn]; exact ht.len
  have q3 : IntKind.u64.wrap (t.id : Int) = (t.id : Int) := wrap_u64_lt t.id (by have := ht.id2; omega)
  clear hv ht hn hR
  go_enter Tryd.func25, Tryd.ntmps25
  go_upto_region 1 with fail
  generalize hW0 : w.alloc _ = W0
  have B0 : Below w.heap.size w W0 := by rw [← hW0]; exact (Below.refl _ _).alloc (Nat.le_refl _) _
  have s0 : W0.heap.size = w.heap.size + 1 := by rw [← hW0]; simp
  have r0 : W0.heap[w.heap.size]? = some (.cells (encT t.id (.slice ao n cap) t.tag).toArray 27 (0, 0)) := by rw [← hW0]; exact heap_alloc_new _ _
  have BB : Hid (Below w.heap.size w W0) := B0
  have Q0 : Hid (W0.heap[w.heap.size]? = some (.cells (encT t.id (.slice ao n cap) t.tag).toArray 27 (0, 0))) := r0
  clear hW0 B0 r0
  have S0 := hide s0
  clear s0
  obtain ⟨c0, c1⟩ := t_cells Q0.out
  by_cases h4 : 4 < n
  · have q1 : (n : Int) > 4 := by omega
    have q1' : (4 : Int) < (n : Int) := by omega
    have e : R = ([], 4) := by rw [HRR.out, if_pos h4]
    subst e
    clear HRR
    go_wp2_with fail
    go_ret2
    exact ⟨⟨.slice none 0 0, rfl, urow_nil _⟩, BB.out⟩
  have q1 : ¬ (n : Int) > 4 := by omega
  have q1' : decide ((4 : Int) < (n : Int)) = false := by simp; omega
  have HR2 := hide (show R = if t.cs.any S.odd = true then ([], 1) else (S.bytesOf t, 0) by rw [HRR.out, if_neg h4])
  have N4 := hide (show n ≤ 4 by omega)
  clear HRR
  go_upto_region 3 with fail
  clear q1 q1' h4
  go_wp2_with fail
  refine (dnumber_any (.slice none 0 0) [] t.id 4 W0 ((urow_nil _).sliceAt (by simp)) (by simp)).mono ?_
  rintro e w1 ⟨u, rfl, hu, ho, hb1⟩
  rw [size_4, List.nil_append] at hu
  obtain ⟨uo, uc, rfl⟩ := hu.shape
  have BW1 := hide (BB.out.trans (hb1.mono BB.out.size))
  have Q1 := hide ((hb1.block _ (block_lt_of_row Q0.out)).trans Q0.out)
  obtain ⟨I4, hI4⟩ : ∃ l, l = S.num t.id 4 := ⟨_, rfl⟩
  rw [← hI4] at hu ho ⊢
  have E4 := hide hI4
  have L4 := hide (show I4.length = 4 by rw [hI4]; exact S.num_length _ _)
  rw [L4.out] at ho ⊢
  have hu' : URow w1 (.slice uo 4 uc) I4 := by rw [← L4.out]; rw [L4.out] at hu ⊢; exact hu
  have UR := hide hu'
  have OO : Hid (∀ k, (Value.slice uo 4 uc).ownBlock = some k → w.heap.size + 1 ≤ k) := fun k hk => by have := ho k hk; have := S0.out; omega
  clear hu ho hb1 hI4 hu' BB Q0 c0 c1 S0
  obtain ⟨x, hx⟩ : ∃ x : UInt8, x = UInt8.ofNat n := ⟨_, rfl⟩
  have qx : IntKind.u8.wrap (n : Int) = (x.toNat : Int) := by rw [IntKind.wrap_u8', hx, UInt8.toNat_ofNat']; omega
  have EX := hide (show S.num n 1 = [x] by rw [S.num_one, hx])
  clear hx
  obtain ⟨c0, c1⟩ := t_cells Q1.out
  go_upto_region 5 with (at_builtin; (refine wpList_append_known rfl (.tmp 14) (.tmp 19) 30 30 rfl _ _ rfl rfl (run_append_row _ _ _ I4 [x] 30 (UR.out.kept fun j hj => heap_alloc_old _ _ (UR.out.lt hj)) (one_new w1 x) (by rw [L4.out]; show 4 + 1 ≤ _; omega)) ?_; rintro v2 w3 ⟨hu2, hg2, ho2⟩; obtain ⟨ao2, c2, hv2⟩ := hu2.shape; simp only [List.length_append, List.length_singleton, L4.out] at hv2; subst hv2))
  have bal : Below w.heap.size w (w1.alloc (.cells #[.int .u8 (x.toNat : Int)] 5)) := BW1.out.alloc BW1.out.size _
  have hsz : w1.heap.size + 1 = (w1.alloc (.cells #[.int .u8 (x.toNat : Int)] 5)).heap.size := by simp
  have LQ := hide (block_lt_of_row Q1.out)
  have cg := (Chg.refl (fun k => (Value.slice uo 4 uc).ownBlock = some k) (w1.alloc (.cells #[.int .u8 (x.toNat : Int)] 5))).grown hg2 (fun k _ e => e)
  have Q2 := hide (cg.row ((heap_alloc_old _ _ LQ.out).trans Q1.out) (fun e => by have := OO.out _ e; omega))
  have BW2 := hide (bal.grown hg2 (by have := LQ.out; omega) (fun j hj => by have := OO.out j hj; omega))
  have U2 := hide hu2
  have O2 : Hid (∀ k, (Value.slice ao2 5 c2).ownBlock = some k → w.heap.size + 1 ≤ k) := fun k hk => by
    rcases ho2 k hk with h | h
    · exact OO.out k h
    · have := LQ.out; omega
  clear hu2 hg2 ho2 bal hsz cg UR OO Q1 BW1 LQ c0 c1 qx
  go_wp2_with fail
  go_loopg [4, 5] n (fun gk s4 s5 wr => ∃ (i : Nat) (vo : Option Addr) (vn vc : Nat), i + gk = n ∧ s5 = .int .i64 (i : Int) ∧ s4 = .slice vo vn vc ∧ Hid ((t.cs.take i).any S.odd = false) ∧ Hid (URow wr (.slice vo vn vc) (I4 ++ [x] ++ (t.cs.take i).flatMap S.cb)) ∧ Hid (∀ k, (Value.slice vo vn vc).ownBlock = some k → w.heap.size + 1 ≤ k) ∧ Hid (wr.heap[w.heap.size]? = some (.cells (encT t.id (.slice ao n cap) t.tag).toArray 27 (0, 0))) ∧ Hid (Below w.heap.size w wr))
  case atStart => exact ⟨0, ao2, 5, c2, by omega, rfl, rfl, by simp [Hid], by rw [List.take_zero, List.flatMap_nil, List.append_nil]; exact U2, O2, Q2, BW2⟩
  case round =>
    clear U2 O2 Q2 BW2
    obtain ⟨i, vo, vn, vc, hi, rfl, rfl, HO, UV, OV, QI, BW⟩ := hrel
    obtain ⟨c0, c1⟩ := t_cells QI.out
    cases gk with
    | zero =>
      obtain ⟨m, hm⟩ : ∃ m, m = i := ⟨_, rfl⟩
      have q : ¬ (i : Int) < (n : Int) := by omega
      have HI := hide (show t.cs.take i = t.cs by rw [List.take_of_length_le]; rw [← HN.out]; omega)
      have e : R = (S.bytesOf t, 0) := by rw [HR2.out, ← HI.out, HO.out]; rfl
      subst e
      have FU : Hid (URow wr (.slice vo vn vc) (I4 ++ [x] ++ t.cs.flatMap S.cb)) := by have h := UV.out; rw [HI.out] at h; exact h
      have hln := S.flat_cb_length t.cs
      rw [← HN.out] at hln
      have HLN := hide hln
      clear hm hi UV HO HR2 hln
      go_wp2_with (at_builtin; (refine wpList_append_known rfl (.tmp 54) (.tmp 56) 30 30 rfl _ _ rfl rfl (run_append_row _ _ _ (I4 ++ [x] ++ t.cs.flatMap S.cb) t.tag 30 FU.out (mid_part (t_tag QI.out) HT.out.tl (block_lt_of_row QI.out) (by omega)) (by simp only [List.length_append, List.length_singleton, L4.out, HLN.out, HT.out.tl]; have := N4.out; omega)) ?_; rintro v2 w3 ⟨hu2, hg2, ho2⟩))
      have FB := hide (BW.out.grown hg2 BW.out.size (fun j hj => by have := OV.out j hj; omega))
      have FR : Hid (URow w3 v2 (S.bytesOf t)) := by
        show URow w3 v2 _
        rw [S.bytesOf, ← HN.out, EX.out, ← E4.out]
        exact hu2
      clear hu2 hg2 ho2
      go_wp2_with fail
      go_ret2
      exact ⟨⟨_, rfl, FR.out⟩, FB.out⟩
    | succ gO =>
      have q : (i : Int) < (n : Int) := by omega
      have q0 : (0 : Int) ≤ (i : Int) := by omega
      have q1 : IntKind.i64.wrap ((i : Int) + 1) = (i : Int) + 1 := by rw [IntKind.wrap_i64]; omega
      have hlt : i < t.cs.length := by rw [← HN.out]; omega
      obtain ⟨c, hc⟩ : ∃ c, t.cs[i]? = some c := ⟨_, List.getElem?_eq_getElem hlt⟩
      have HC := hide hc
      have HCO := hide (HT.out.cs c (List.mem_of_getElem? hc))
      obtain ⟨g, off, cap2, e2, -, hg, hra⟩ := HV.out.cells i c hc
      simp only [Value.slice.injEq] at e2
      obtain ⟨rfl, -, -⟩ := e2
      have HGL := hide hg
      have e0 : wr.cell? ⟨g, off + i * 2, none⟩ = some (.int .i64 c.k) := (World.cell?_of_block (a := ⟨g, off + i * 2, none⟩) (BW.out.block g hg)).trans (hra 0 _ rfl)
      have e1 : wr.cell? ⟨g, off + i * 2 + 1, none⟩ = some (.int .u32 (c.n : Int)) := (World.cell?_of_block (a := ⟨g, off + i * 2 + 1, none⟩) (BW.out.block g hg)).trans (hra 1 _ rfl)
      have HE0 := hide e0
      have HE1 := hide e1
      have HIN := hide hi
      clear hg hra hc hlt
      go_wp2_with fail
      refine (rkind_any c wr).mono ?_
      rintro e _ ⟨rfl, rfl⟩
      obtain ⟨od, hod⟩ : ∃ b, b = S.odd c := ⟨_, rfl⟩
      rw [← hod]
      have HOD := hide hod
      clear hod
      cases od with
      | true =>
        have e : R = ([], 1) := by rw [HR2.out, if_pos (S.any_yes HC.out HOD.out.symm)]
        subst e
        clear HR2
        go_wp2_with fail
        go_ret2
        exact ⟨⟨.slice none 0 0, rfl, urow_nil _⟩, BW.out⟩
      | false =>
        have HO2 := hide (S.any_take HC.out HO.out HOD.out.symm)
        obtain ⟨y, hy1, hy2⟩ := u8_of c.k
        have qy : IntKind.u8.wrap c.k = (y.toNat : Int) := by rw [IntKind.wrap_u8', hy2]
        have qn : IntKind.u64.wrap (c.n : Int) = (c.n : Int) := wrap_u64_lt c.n (by have := HCO.out.n2; omega)
        have EY := hide hy1
        obtain ⟨acc, hacc⟩ : ∃ a, a = I4 ++ [x] ++ (t.cs.take i).flatMap S.cb := ⟨_, rfl⟩
        have UA : Hid (URow wr (.slice vo vn vc) acc) := by rw [hacc]; exact UV
        have LA := hide (show acc.length ≤ 100 by
          rw [hacc]
          simp only [List.length_append, List.length_singleton, L4.out, S.flat_cb_length, List.length_take]
          have := HN.out; have := N4.out; omega)
        have HACC := hide (show acc ++ [y] ++ S.num c.n 4 = I4 ++ [x] ++ (t.cs.take (i + 1)).flatMap S.cb by
          rw [hacc, List.take_add_one, HC.out, List.flatMap_append]
          simp only [Option.toList, List.flatMap_cons, List.flatMap_nil, List.append_nil, S.cb, hy1, List.append_assoc])
        clear hy1 hy2 hacc UV HO hi e0 e1 c0 c1
        go_upto_region 10 with fail
        obtain ⟨w5, hw5⟩ : ∃ w5, w5 = wr := ⟨_, rfl⟩
        rw [← hw5] at UA QI BW HE0 HE1 ⊢
        clear hw5
        refine wp_region_noPanic ?_
        refine wp_region_held_drew (S := (fun W => Chg (fun k => (Value.slice vo vn vc).ownBlock = some k) w5 W)) follows ((Chg.refl _ _).drew) (fun hHeld => ?_)
        clear hHeld
        have hHeld : Chg (fun k => (Value.slice vo vn vc).ownBlock = some k) w5 w5.drew := (Chg.refl _ _).drew
        have CZ0 := hide hHeld
        have UA' : Hid (URow w5.drew (.slice vo vn vc) acc) := UA.out.chg (Chg.refl (fun _ => False) w5).drew (fun _ _ e => e)
        generalize w5.drew = Z0 at CZ0 hHeld UA' ⊢
        refine wpAnyH_take (i := 0) (oi := { dst := some 36, op := Op.move (Operand.tmp 4), type := 30, pos := "ref.go:82", after := #[], guard := none }) (v := ?_) rfl (by kernel_rfl) (by kernel_rfl) (by kernel_rfl) (fun _ _ _ h => h) (Or.inl ⟨by rfl, ?_⟩) (by assumption) ?_
        rotate_left
        · intro w hSw
          clear hSw
          go_simp
          all_goals with_reducible rfl
        simp only [Act.put, List.setIfInBounds_toArray, List.set_cons_zero, List.set_cons_succ]
        refine wpAnyH_take (i := 1) (oi := { dst := some 37, op := Op.fieldAddr 27 (Operand.tmp 1) 1, type := 0, pos := "ref.go:82", after := #[], guard := none }) (v := ?_) rfl (by kernel_rfl) (by kernel_rfl) (by kernel_rfl) (fun _ _ _ h => h) (Or.inl ⟨by rfl, ?_⟩) (by assumption) ?_
        rotate_left
        · intro w hSw
          clear hSw
          go_simp
          all_goals with_reducible rfl
        simp only [Act.put, List.setIfInBounds_toArray, List.set_cons_zero, List.set_cons_succ]
        refine wpAnyH_take (i := 2) (oi := { dst := some 38, op := Op.load 23 (Operand.tmp 37), type := 23, pos := "ref.go:82", after := #[{ on := 1, ground := Ground.data }], guard := none }) (v := ?_) rfl (by kernel_rfl) (by kernel_rfl) (by kernel_rfl) (fun _ _ _ h => h) (Or.inl ⟨by rfl, ?_⟩) (by assumption) ?_
        rotate_left
        · intro w hSw
          have c1 := (t_cells (hSw.row QI.out (fun e => by have := OV.out _ e; omega))).2
          clear hSw
          go_simp
          all_goals with_reducible rfl
        simp only [Act.put, List.setIfInBounds_toArray, List.set_cons_zero, List.set_cons_succ]
        refine wpAnyH_take (i := 3) (oi := { dst := some 39, op := Op.move (Operand.tmp 5), type := 3, pos := "ref.go:82", after := #[], guard := none }) (v := ?_) rfl (by kernel_rfl) (by kernel_rfl) (by kernel_rfl) (fun _ _ _ h => h) (Or.inl ⟨by rfl, ?_⟩) (by assumption) ?_
        rotate_left
        · intro w hSw
          clear hSw
          go_simp
          all_goals with_reducible rfl
        simp only [Act.put, List.setIfInBounds_toArray, List.set_cons_zero, List.set_cons_succ]
        refine wpAnyH_take (i := 4) (oi := { dst := some 40, op := Op.indexAddr 23 (Operand.tmp 38) (Operand.tmp 39), type := 0, pos := "ref.go:82", after := #[{ on := 2, ground := Ground.data }, { on := 3, ground := Ground.data }], guard := none }) (v := ?_) rfl (by kernel_rfl) (by kernel_rfl) (by kernel_rfl) (fun _ _ _ h => h) (Or.inl ⟨by rfl, ?_⟩) (by assumption) ?_
        rotate_left
        · intro w hSw
          clear hSw
          go_simp
          all_goals with_reducible rfl
        simp only [Act.put, List.setIfInBounds_toArray, List.set_cons_zero, List.set_cons_succ]
        refine wpAnyH_take (i := 5) (oi := { dst := some 41, op := Op.fieldAddr 42 (Operand.tmp 40) 0, type := 0, pos := "ref.go:82", after := #[{ on := 4, ground := Ground.data }], guard := none }) (v := ?_) rfl (by kernel_rfl) (by kernel_rfl) (by kernel_rfl) (fun _ _ _ h => h) (Or.inl ⟨by rfl, ?_⟩) (by assumption) ?_
        rotate_left
        · intro w hSw
          clear hSw
          go_simp
          all_goals with_reducible rfl
        simp only [Act.put, List.setIfInBounds_toArray, List.set_cons_zero, List.set_cons_succ]
        refine wpAnyH_take (i := 6) (oi := { dst := some 42, op := Op.load 3 (Operand.tmp 41), type := 3, pos := "ref.go:82", after := #[{ on := 5, ground := Ground.data }], guard := none }) (v := ?_) rfl (by kernel_rfl) (by kernel_rfl) (by kernel_rfl) (fun _ _ _ h => h) (Or.inl ⟨by rfl, ?_⟩) (by assumption) ?_
        rotate_left
        · intro w hSw
          have e0 := (World.cell?_of_block (a := ⟨g, off + i * 2, none⟩) (hSw.block g (Nat.lt_of_lt_of_le HGL.out BW.out.size) (fun e => by have := OV.out _ e; have := HGL.out; omega))).trans HE0.out
          clear hSw
          go_simp
          all_goals with_reducible rfl
        simp only [Act.put, List.setIfInBounds_toArray, List.set_cons_zero, List.set_cons_succ]
        refine wpAnyH_take (i := 7) (oi := { dst := some 43, op := Op.convert 3 5 (Operand.tmp 42), type := 5, pos := "ref.go:82", after := #[{ on := 6, ground := Ground.data }], guard := none }) (v := ?_) rfl (by kernel_rfl) (by kernel_rfl) (by kernel_rfl) (fun _ _ _ h => h) (Or.inl ⟨by rfl, ?_⟩) (by assumption) ?_
        rotate_left
        · intro w hSw
          clear hSw
          go_simp
          all_goals with_reducible rfl
        simp only [Act.put, List.setIfInBounds_toArray, List.set_cons_zero, List.set_cons_succ]
        refine wpAnyH_take (i := 10) (oi := { dst := some 46, op := Op.fieldAddr 27 (Operand.tmp 1) 1, type := 0, pos := "ref.go:82", after := #[], guard := none }) (v := ?_) rfl (by kernel_rfl) (by kernel_rfl) (by kernel_rfl) (fun _ _ _ h => h) (Or.inl ⟨by rfl, ?_⟩) (by assumption) ?_
        rotate_left
        · intro w hSw
          clear hSw
          go_simp
          all_goals with_reducible rfl
        simp only [Act.put, List.setIfInBounds_toArray, List.set_cons_zero, List.set_cons_succ]
        refine wpAnyH_take (i := 11) (oi := { dst := some 47, op := Op.load 23 (Operand.tmp 46), type := 23, pos := "ref.go:82", after := #[{ on := 10, ground := Ground.data }], guard := none }) (v := ?_) rfl (by kernel_rfl) (by kernel_rfl) (by kernel_rfl) (fun _ _ _ h => h) (Or.inl ⟨by rfl, ?_⟩) (by assumption) ?_
        rotate_left
        · intro w hSw
          have c1 := (t_cells (hSw.row QI.out (fun e => by have := OV.out _ e; omega))).2
          clear hSw
          go_simp
          all_goals with_reducible rfl
        simp only [Act.put, List.setIfInBounds_toArray, List.set_cons_zero, List.set_cons_succ]
        refine wpAnyH_take (i := 12) (oi := { dst := some 48, op := Op.move (Operand.tmp 5), type := 3, pos := "ref.go:82", after := #[], guard := none }) (v := ?_) rfl (by kernel_rfl) (by kernel_rfl) (by kernel_rfl) (fun _ _ _ h => h) (Or.inl ⟨by rfl, ?_⟩) (by assumption) ?_
        rotate_left
        · intro w hSw
          clear hSw
          go_simp
          all_goals with_reducible rfl
        simp only [Act.put, List.setIfInBounds_toArray, List.set_cons_zero, List.set_cons_succ]
        refine wpAnyH_take (i := 13) (oi := { dst := some 49, op := Op.indexAddr 23 (Operand.tmp 47) (Operand.tmp 48), type := 0, pos := "ref.go:82", after := #[{ on := 11, ground := Ground.data }, { on := 12, ground := Ground.data }], guard := none }) (v := ?_) rfl (by kernel_rfl) (by kernel_rfl) (by kernel_rfl) (fun _ _ _ h => h) (Or.inl ⟨by rfl, ?_⟩) (by assumption) ?_
        rotate_left
        · intro w hSw
          clear hSw
          go_simp
          all_goals with_reducible rfl
        simp only [Act.put, List.setIfInBounds_toArray, List.set_cons_zero, List.set_cons_succ]
        refine wpAnyH_take (i := 14) (oi := { dst := some 50, op := Op.fieldAddr 42 (Operand.tmp 49) 1, type := 0, pos := "ref.go:82", after := #[{ on := 13, ground := Ground.data }], guard := none }) (v := ?_) rfl (by kernel_rfl) (by kernel_rfl) (by kernel_rfl) (fun _ _ _ h => h) (Or.inl ⟨by rfl, ?_⟩) (by assumption) ?_
        rotate_left
        · intro w hSw
          clear hSw
          go_simp
          all_goals with_reducible rfl
        simp only [Act.put, List.setIfInBounds_toArray, List.set_cons_zero, List.set_cons_succ]
        refine wpAnyH_take (i := 15) (oi := { dst := some 51, op := Op.load 22 (Operand.tmp 50), type := 22, pos := "ref.go:82", after := #[{ on := 14, ground := Ground.data }], guard := none }) (v := ?_) rfl (by kernel_rfl) (by kernel_rfl) (by kernel_rfl) (fun _ _ _ h => h) (Or.inl ⟨by rfl, ?_⟩) (by assumption) ?_
        rotate_left
        · intro w hSw
          have e1 := (World.cell?_of_block (a := ⟨g, off + i * 2 + 1, none⟩) (hSw.block g (Nat.lt_of_lt_of_le HGL.out BW.out.size) (fun e => by have := OV.out _ e; have := HGL.out; omega))).trans HE1.out
          clear hSw
          go_simp
          all_goals with_reducible rfl
        simp only [Act.put, List.setIfInBounds_toArray, List.set_cons_zero, List.set_cons_succ]
        refine wpAnyH_take (i := 16) (oi := { dst := some 52, op := Op.convert 22 46 (Operand.tmp 51), type := 46, pos := "ref.go:82", after := #[{ on := 15, ground := Ground.data }], guard := none }) (v := ?_) rfl (by kernel_rfl) (by kernel_rfl) (by kernel_rfl) (fun _ _ _ h => h) (Or.inl ⟨by rfl, ?_⟩) (by assumption) ?_
        rotate_left
        · intro w hSw
          clear hSw
          go_simp
          all_goals with_reducible rfl
        simp only [Act.put, List.setIfInBounds_toArray, List.set_cons_zero, List.set_cons_succ]
        refine wpAnyH_ready (rs := [8]) (by kernel_rfl) (by simp) ?_
        refine step_buildSlice_as (o := { dst := some 44, op := Op.buildSlice 30 1 #[(0, Operand.tmp 43)], type := 30, pos := "ref.go:82", after := #[{ on := 7, ground := Ground.data }], guard := none }) rfl rfl 30 1 [(0, .tmp 43)] rfl [(0, .int .u8 (y.toNat : Int))] rfl _ _ (bs_one Z0 y) AllReadyH.nil ⟨CZ0.out.alloc _, fun hHeld => ?_⟩
        clear hHeld
        simp only [Act.put, List.setIfInBounds_toArray, List.set_cons_zero, List.set_cons_succ]
        obtain ⟨gb, hgb⟩ : ∃ gg, gg = Z0.heap.size := ⟨_, rfl⟩
        rw [← hgb]
        generalize hZ : Z0.alloc _ = Z1
        have hb2 : Below Z0.heap.size Z0 Z1 := by rw [← hZ]; exact (Below.refl _ _).alloc (Nat.le_refl _) _
        have Rgb : Hid (Z1.heap[gb]? = some (.cells (S.v8 [y]) 5 (0, 0))) := by rw [← hZ, hgb]; exact heap_alloc_new _ _
        have Ggb := hide (show w5.heap.size ≤ gb by rw [hgb]; exact CZ0.out.size)
        clear hZ hgb
        replace UA' : Hid (URow Z1 (.slice vo vn vc) acc) := UA'.out.chg (p := fun _ => False) (Chg.ofBelow' hb2) (fun _ _ e => e)
        have CZ1 : Hid (Chg (fun k => (Value.slice vo vn vc).ownBlock = some k) w5 Z1) := CZ0.out.then hb2
        clear hb2 CZ0
        have hHeld := CZ1.out
        refine wpAnyH_ready (rs := [9]) (by kernel_rfl) (by simp) ?_
        obtain ⟨v', Z2, hst, hu6, hg6, ho6⟩ := run_append_row Z1 (.slice vo vn vc) (.slice (some ⟨gb, 0, none⟩) 1 1) acc [y] 30 UA'.out (row_text Rgb.out rfl (by omega)) (by have := LA.out; simp; omega)
        have C6 := (Chg.refl (fun k => (Value.slice vo vn vc).ownBlock = some k) Z1).grown hg6 (fun k _ e => e)
        have SA := hide (hu6.sliceAt (by have := LA.out; simp; omega))
        obtain ⟨ro, rc, rfl⟩ := hu6.shape
        obtain ⟨rn, hrn⟩ : ∃ rn, rn = (acc ++ [y]).length := ⟨_, rfl⟩
        rw [← hrn] at hst SA
        refine step_append_as (o := { dst := some 45, op := Op.call { callee := Callee.builtin Builtin.append, args := #[Operand.tmp 36, Operand.tmp 44], argTypes := #[30, 30] }, type := 30, pos := "ref.go:82", after := #[{ on := 0, ground := Ground.data }, { on := 8, ground := Ground.data }], guard := none }) rfl rfl (.tmp 36) (.tmp 44) 30 30 rfl (.slice vo vn vc) (.slice (some ⟨gb, 0, none⟩) 1 1) rfl rfl (.slice ro rn rc) Z2 hst AllReadyH.nil ⟨CZ1.out.trans C6 (fun k hk e => e), fun hHeld => ?_⟩
        have CZ2 : Hid (Chg (fun k => (Value.slice vo vn vc).ownBlock = some k) w5 Z2) := CZ1.out.trans C6 (fun k hk e => e)
        clear hst hu6 hg6 ho6 C6 hrn CZ1 Rgb UA'
        simp only [Act.put, List.setIfInBounds_toArray, List.set_cons_zero, List.set_cons_succ]
        refine wpAnyH_ready (rs := [17]) (by kernel_rfl) (by simp) ?_
        refine AllReadyH.cons (o := { dst := some 53, op := Op.call { callee := Callee.value (Operand.func 56), args := #[Operand.tmp 45, Operand.tmp 52, Operand.const (Value.int IntKind.i64 4)], argTypes := #[30, 46, 3] }, type := 30, pos := "ref.go:82", after := #[{ on := 9, ground := Ground.data }, { on := 16, ground := Ground.data }, { on := 9, ground := Ground.chain }], guard := none }) rfl (fun K hK => ?_) AllReadyH.nil
        go_simp
        refine (dnumber_any (.slice ro rn rc) (acc ++ [y]) c.n 4 Z2 SA.out (by have := LA.out; simp; omega)).mono ?_
        rintro e Z3 ⟨v3, rfl, hu3, ho3, hb2⟩
        rw [size_4, HACC.out] at hu3
        obtain ⟨ko, kc, rfl⟩ := hu3.shape
        obtain ⟨kn, hkn⟩ : ∃ kn, kn = (I4 ++ [x] ++ (t.cs.take (i + 1)).flatMap S.cb).length := ⟨_, rfl⟩
        rw [← hkn] at hu3 ho3 ⊢
        have U3 := hide hu3
        have O3 : Hid (∀ k, (Value.slice ko kn kc).ownBlock = some k → w.heap.size + 1 ≤ k) := fun k hk => by have := ho3 k hk; have := CZ2.out.size; have := block_lt_of_row QI.out; omega
        clear hu3 ho3 hkn
        have CZ3 : Hid (Chg (fun k => (Value.slice vo vn vc).ownBlock = some k) w5 Z3) := CZ2.out.then hb2
        clear hb2 CZ2
        clear hHeld
        refine hK.out _ _ CZ3.out (fun hHeld => ?_)
        clear hK K
        try simp only [Act.put, List.setIfInBounds_toArray, List.set_cons_zero, List.set_cons_succ]
        refine wpAnyH_take (i := 18) (oi := { dst := some 4, op := Op.assign (Operand.tmp 53), type := 30, pos := "ref.go:82", after := #[{ on := 17, ground := Ground.data }, { on := 17, ground := Ground.chain }, { on := 0, ground := Ground.phase }, { on := 1, ground := Ground.phase }, { on := 2, ground := Ground.phase }, { on := 3, ground := Ground.phase }, { on := 4, ground := Ground.phase }, { on := 5, ground := Ground.phase }, { on := 6, ground := Ground.phase }, { on := 7, ground := Ground.phase }, { on := 8, ground := Ground.phase }, { on := 9, ground := Ground.phase }, { on := 10, ground := Ground.phase }, { on := 11, ground := Ground.phase }, { on := 12, ground := Ground.phase }, { on := 13, ground := Ground.phase }, { on := 14, ground := Ground.phase }, { on := 15, ground := Ground.phase }, { on := 16, ground := Ground.phase }, { on := 17, ground := Ground.phase }], guard := none }) (v := ?_) rfl (by kernel_rfl) (by kernel_rfl) (by kernel_rfl) (fun _ _ _ h => h) (Or.inl ⟨by rfl, ?_⟩) (by assumption) ?_
        rotate_left
        · intro w hSw
          clear hSw
          go_simp
          all_goals with_reducible rfl
        simp only [Act.put, List.setIfInBounds_toArray, List.set_cons_zero, List.set_cons_succ]
        refine wpAnyH_done (by kernel_rfl) ?_ _
        refine NoPanic.normal ?_
        clear hHeld
        have BF := hide (BW.out.trans (CZ3.out.below w.heap.size BW.out.size (fun k hk e => by have := OV.out k e; omega)))
        have QF := hide (CZ3.out.row QI.out (fun e => by have := OV.out _ e; omega))
        go_wp2_with fail
        go_roundg gO
        case measure => have := HIN.out; omega
        case rel => exact ⟨i + 1, ko, kn, kc, by have := HIN.out; omega, by first | rfl | simp, rfl, HO2, U3, O3, QF, BF⟩
end Go.Proofs.YtlcilclhaahopaaDoor
