/- The walk of CodecReads: for any text and any calls the call returns true and nothing that was there changes. -/
import Derived.Test.YtdhaeepaemneaaaDoorTwo
import Derived.Deep.DeepCutAuto
namespace Go.Proofs.YtdhaeepaemneaaaDoor
open Go.RowKit
theorem roomy_so (v : Value) (bs : List UInt8) (N : Nat) (w : World) (hN : Hid (N = bs.length + 80)) (hv : SliceAt w v bs) (hl : bs.length + 80 ≤ 140737488355328) :
   Calls Tryd.prog 19 #[v, .int .u8 165] w fun e w' => ∃ g, e = .returned (.slice (some ⟨g, 0, none⟩) N N) ∧ w.heap.size ≤ g ∧ w'.heap[g]? = some (.cells (S.v8 (S.roomy bs)) 5 (0, 0)) ∧ Below w.heap.size w w' := by
  rw [hN.out]; exact roomy_any v bs w hv hl
set_option maxHeartbeats 8000000 in
set_option maxRecDepth 100000 in
theorem codecReads_walk (ab : Option Addr) (lb cb : Nat) (bs : List UInt8) (a0 : Option Addr) (l0 c0 : Nat) (qs : List S.Ask) (w : World) (hsb : SliceAt w (.slice ab lb cb) bs) (hlb : bs.length + 80 ≤ 140737488355328) (hv0 : AsksAt w a0 l0 qs) (hP : PowAt w) :
   Calls Tryd.prog 5 #[.slice ab lb cb, .slice a0 l0 c0] w fun e w' => e = .returned (.bool true) ∧ Below w.heap.size w w' := by
  have HV0 := hide hv0
  have HP := hide hP
  have SB := hide hsb
  have LB := hide hlb
  have hlen : lb = bs.length := by obtain ⟨ao, len, cap, he, h1, _⟩ := hsb.form; cases he; exact h1
  obtain ⟨N, hN⟩ : ∃ N, N = bs.length + 80 := ⟨_, rfl⟩
  have HNN := hide hN
  have HLB := hide hlen
  have n1 : (lb : Int) ≤ (N : Int) := by omega
  have n2 : (0 : Int) ≤ (lb : Int) := by omega
  have nlb : lb + 80 ≤ 140737488355328 := by omega
  obtain ⟨C, hC⟩ : ∃ C, C = min l0 30 := ⟨_, rfl⟩
  have hC0 : C ≤ l0 := by omega
  have hC30 : C ≤ 30 := by omega
  have HC := hide hC
  clear hv0 hP hC hsb hlb hlen hN
  go_enter Tryd.func5, Tryd.ntmps5
  go_wp2_with fail
  refine (roomy_so _ bs N w HNN SB.out LB.out).mono ?_
  rintro e w1 ⟨gf, rfl, hgf, hrow, hb1⟩
  have SF : Hid (SliceAt w1 (.slice (some ⟨gf, 0, none⟩) lb N) bs) := by rw [HLB.out]; exact roomy_at hrow LB.out N (by have := HNN.out; omega)
  have RF1 := hide hrow
  have B1 := hide hb1
  have hgl := block_lt_of_row hrow
  clear hrow hb1
  go_wp2_with fail
  refine (newReader_any _ bs w1 SF.out (by have := LB.out; omega)).mono ?_
  rintro e w2 ⟨gr, t, rfl, hgr, ht, hri, hb2⟩
  have B2 := hide (B1.out.trans (hb2.mono B1.out.size))
  have RF2 := hide ((hb2.block gf hgl).trans RF1.out)
  have R2 := hide hri
  have hrl := hri.lt
  have htl := hri.tlt
  clear hri hb2 SF RF1 B1
  go_wp2_with fail
  generalize hW3 : w2.alloc _ = w3
  have TW : Hid (Two w w3 gf gr t w2.heap.size ab lb cb bs ⟨bs, 0, 0, 0⟩) := by
    have hb3 : Below w2.heap.size w2 w3 := by rw [← hW3]; exact (Below.refl _ _).alloc (Nat.le_refl _) _
    have hb : Below w.heap.size w w3 := B2.out.trans (hb3.mono B2.out.size)
    have hs := B2.out.size
    refine ⟨R2.out.below hb3, ⟨⟨0, 0, 0, by rw [← hW3]; exact heap_alloc_new _ _, fun _ => rfl, fun h => absurd rfl h⟩, HLB.out, Nat.zero_le _, by show bs.length ≤ _; have := LB.out; omega, stays_old SB.out hb (fun k hk => by omega)⟩, (hb3.block gf (by omega)).trans RF2.out, hb, ⟨⟨by show (-9223372036854775808 : Int) ≤ 0; decide, by show (0 : Int) ≤ 9223372036854775807; decide⟩, ⟨by show (-9223372036854775808 : Int) ≤ 0; decide, by show (0 : Int) ≤ 9223372036854775807; decide⟩⟩, rfl⟩
  have LI : Hid (Lie w gf gr t w2.heap.size ab lb cb bs) := ⟨SB.out, hgf, by omega, by omega, hrl, htl⟩
  clear hW3 R2 B2 RF2
  obtain ⟨gd, hgd⟩ : ∃ gd, gd = w2.heap.size := ⟨_, rfl⟩
  rw [← hgd] at TW LI ⊢
  clear hgd hgf hgr ht hrl htl hgl
  go_wp2_with fail
  go_loopw [8] (fun i wr => ∃ (k : Nat) (r : S.Rd), k ≤ C ∧ i = .int .i64 (k : Int) ∧ Two w wr gf gr t gd ab lb cb bs r) (fun i _ => C - (intOf i).toNat)
  case atStart => exact ⟨0, _, Nat.zero_le _, rfl, TW.out⟩
  case round =>
    obtain ⟨k, r, hk, rfl, hbo⟩ := hrel
    have BB := hide hbo
    clear hbo TW
    go_upto_region 7 with fail
    go_cut [33] (fun b wc => wr = wc ∧ b = .bool (decide (k < C)))
    case first =>
      by_cases h1 : k < l0
      · have q1 : (k : Int) < (l0 : Int) := by omega
        by_cases h3 : k < 30
        · have q3 : (k : Int) < 30 := by omega
          have R : Hid (Value.bool true = .bool (decide (k < C))) := by show Value.bool true = _; rw [decide_eq_true (by have := HC.out; omega)]
          go_wp2_with fail
          go_meet
          exact ⟨rfl, R.out⟩
        · have q3 : ¬ ((k : Int) < 30) := by omega
          have R : Hid (Value.bool false = .bool (decide (k < C))) := by show Value.bool false = _; rw [decide_eq_false (by have := HC.out; omega)]
          go_wp2_with fail
          go_meet
          exact ⟨rfl, by first | exact R.out | (rw [← R.out]; simp; omega)⟩
      · have q1 : ¬ ((k : Int) < (l0 : Int)) := by omega
        have R : Hid (Value.bool false = .bool (decide (k < C))) := by show Value.bool false = _; rw [decide_eq_false (by have := HC.out; omega)]
        go_wp2_with fail
        go_meet
        exact ⟨rfl, by first | exact R.out | (rw [← R.out]; simp; omega)⟩
    case rest =>
    obtain ⟨rfl, rfl⟩ := hcut
    by_cases hlt : k < C
    · rw [decide_eq_true hlt]
      have q0 : (0 : Int) ≤ (k : Int) := by omega
      have q1 : (k : Int) < (l0 : Int) := by omega
      have q4 : IntKind.i64.wrap ((k : Int) + 1) = (k : Int) + 1 := by rw [IntKind.wrap_i64]; omega
      obtain ⟨b0, o0, ha0, lb0, hc0⟩ := HV0.out.2 (by omega)
      have HQ := hide (hc0 k (by omega))
      subst ha0
      clear hc0
      obtain ⟨q, k0, k1, k2, k3, hSB, hLB⟩ := HQ.out
      have ck := (BB.out.bel.cell (p := ⟨b0, o0 + k * 4, none⟩) (by exact lb0)).trans k0
      have K1 := hide k1
      have K2 := hide k2
      have hmx : r.bs.length ≤ 140737488355328 := BB.out.own.len
      have hpm : r.pl ≤ 140737488355328 := Nat.le_trans BB.out.own.pl hmx
      have MX := hide hmx
      have PM := hide hpm
      clear k0 k1 k2 k3 hSB hLB HQ hmx hpm
      by_cases h1 : q.kind = 1
      · skip
        have s1 : (q.kind == 1) = true := by simp [h1]
        obtain ⟨r2, n2, hrn⟩ : ∃ r2 n2, r.number q.size = (r2, n2) := ⟨_, _, rfl⟩
        have OK2 : Hid (r2.ok) := by have := number_ok q.size BB.out.ok MX.out; rw [hrn] at this; exact this
        have BS2 : Hid (r2.bs = bs) := by have h := S.Rd.take_bs r (S.size q.size); have e : (r.take (S.size q.size)).1 = r2 := congrArg Prod.fst hrn; rw [e, BB.out.bs] at h; exact h
        have HRN := hide hrn
        clear hrn
        go_wp2_with fail
        refine wp_region_noPanic ?_
        refine wp_region_held_drew (S := (fun w' => Below w.heap.size w w')) follows (BB.out.bel.drew) (fun hHeld => ?_)
        refine wpAnyH_take (i := 0) (oi := { dst := some 43, op := Op.move (Operand.tmp 6), type := 22, pos := "law.go:112", after := #[], guard := none }) (v := ?_) rfl (by kernel_rfl) (by kernel_rfl) (by kernel_rfl) (fun _ _ _ h => h) (Or.inl ⟨by rfl, ?_⟩) (by assumption) ?_
        rotate_left
        · intro w hSw
          clear hSw
          go_simp
          all_goals with_reducible rfl
        simp only [Act.put, List.setIfInBounds_toArray, List.set_cons_zero, List.set_cons_succ]
        refine wpAnyH_take (i := 1) (oi := { dst := some 44, op := Op.move (Operand.tmp 1), type := 38, pos := "law.go:112", after := #[], guard := none }) (v := ?_) rfl (by kernel_rfl) (by kernel_rfl) (by kernel_rfl) (fun _ _ _ h => h) (Or.inl ⟨by rfl, ?_⟩) (by assumption) ?_
        rotate_left
        · intro w hSw
          clear hSw
          go_simp
          all_goals with_reducible rfl
        simp only [Act.put, List.setIfInBounds_toArray, List.set_cons_zero, List.set_cons_succ]
        refine wpAnyH_take (i := 2) (oi := { dst := some 45, op := Op.move (Operand.tmp 8), type := 3, pos := "law.go:112", after := #[], guard := none }) (v := ?_) rfl (by kernel_rfl) (by kernel_rfl) (by kernel_rfl) (fun _ _ _ h => h) (Or.inl ⟨by rfl, ?_⟩) (by assumption) ?_
        rotate_left
        · intro w hSw
          clear hSw
          go_simp
          all_goals with_reducible rfl
        simp only [Act.put, List.setIfInBounds_toArray, List.set_cons_zero, List.set_cons_succ]
        refine wpAnyH_take (i := 3) (oi := { dst := some 46, op := Op.indexAddr 38 (Operand.tmp 44) (Operand.tmp 45), type := 0, pos := "law.go:112", after := #[{ on := 1, ground := Ground.data }, { on := 2, ground := Ground.data }], guard := none }) (v := ?_) rfl (by kernel_rfl) (by kernel_rfl) (by kernel_rfl) (fun _ _ _ h => h) (Or.inl ⟨by rfl, ?_⟩) (by assumption) ?_
        rotate_left
        · intro w hSw
          clear hSw
          go_simp
          all_goals with_reducible rfl
        simp only [Act.put, List.setIfInBounds_toArray, List.set_cons_zero, List.set_cons_succ]
        refine wpAnyH_take (i := 4) (oi := { dst := some 47, op := Op.fieldAddr 42 (Operand.tmp 46) 2, type := 0, pos := "law.go:112", after := #[{ on := 3, ground := Ground.data }], guard := none }) (v := ?_) rfl (by kernel_rfl) (by kernel_rfl) (by kernel_rfl) (fun _ _ _ h => h) (Or.inl ⟨by rfl, ?_⟩) (by assumption) ?_
        rotate_left
        · intro w hSw
          clear hSw
          go_simp
          all_goals with_reducible rfl
        simp only [Act.put, List.setIfInBounds_toArray, List.set_cons_zero, List.set_cons_succ]
        refine wpAnyH_take (i := 5) (oi := { dst := some 48, op := Op.load 3 (Operand.tmp 47), type := 3, pos := "law.go:112", after := #[{ on := 4, ground := Ground.data }], guard := none }) (v := ?_) rfl (by kernel_rfl) (by kernel_rfl) (by kernel_rfl) (fun _ _ _ h => h) (Or.inl ⟨by rfl, ?_⟩) (by assumption) ?_
        rotate_left
        · intro w hSw
          have c := (Below.cell hSw (p := ⟨b0, o0 + k * 4 + 2, none⟩) (by exact lb0)).trans K2.out
          clear hSw
          go_simp
          all_goals with_reducible rfl
        simp only [Act.put, List.setIfInBounds_toArray, List.set_cons_zero, List.set_cons_succ]
        refine wpAnyH_take (i := 7) (oi := { dst := some 50, op := Op.move (Operand.tmp 7), type := 51, pos := "law.go:112", after := #[], guard := none }) (v := ?_) rfl (by kernel_rfl) (by kernel_rfl) (by kernel_rfl) (fun _ _ _ h => h) (Or.inl ⟨by rfl, ?_⟩) (by assumption) ?_
        rotate_left
        · intro w hSw
          clear hSw
          go_simp
          all_goals with_reducible rfl
        simp only [Act.put, List.setIfInBounds_toArray, List.set_cons_zero, List.set_cons_succ]
        refine wpAnyH_take (i := 8) (oi := { dst := some 51, op := Op.move (Operand.tmp 1), type := 38, pos := "law.go:112", after := #[], guard := none }) (v := ?_) rfl (by kernel_rfl) (by kernel_rfl) (by kernel_rfl) (fun _ _ _ h => h) (Or.inl ⟨by rfl, ?_⟩) (by assumption) ?_
        rotate_left
        · intro w hSw
          clear hSw
          go_simp
          all_goals with_reducible rfl
        simp only [Act.put, List.setIfInBounds_toArray, List.set_cons_zero, List.set_cons_succ]
        refine wpAnyH_take (i := 9) (oi := { dst := some 52, op := Op.move (Operand.tmp 8), type := 3, pos := "law.go:112", after := #[], guard := none }) (v := ?_) rfl (by kernel_rfl) (by kernel_rfl) (by kernel_rfl) (fun _ _ _ h => h) (Or.inl ⟨by rfl, ?_⟩) (by assumption) ?_
        rotate_left
        · intro w hSw
          clear hSw
          go_simp
          all_goals with_reducible rfl
        simp only [Act.put, List.setIfInBounds_toArray, List.set_cons_zero, List.set_cons_succ]
        refine wpAnyH_take (i := 10) (oi := { dst := some 53, op := Op.indexAddr 38 (Operand.tmp 51) (Operand.tmp 52), type := 0, pos := "law.go:112", after := #[{ on := 8, ground := Ground.data }, { on := 9, ground := Ground.data }], guard := none }) (v := ?_) rfl (by kernel_rfl) (by kernel_rfl) (by kernel_rfl) (fun _ _ _ h => h) (Or.inl ⟨by rfl, ?_⟩) (by assumption) ?_
        rotate_left
        · intro w hSw
          clear hSw
          go_simp
          all_goals with_reducible rfl
        simp only [Act.put, List.setIfInBounds_toArray, List.set_cons_zero, List.set_cons_succ]
        refine wpAnyH_take (i := 11) (oi := { dst := some 54, op := Op.fieldAddr 42 (Operand.tmp 53) 2, type := 0, pos := "law.go:112", after := #[{ on := 10, ground := Ground.data }], guard := none }) (v := ?_) rfl (by kernel_rfl) (by kernel_rfl) (by kernel_rfl) (fun _ _ _ h => h) (Or.inl ⟨by rfl, ?_⟩) (by assumption) ?_
        rotate_left
        · intro w hSw
          clear hSw
          go_simp
          all_goals with_reducible rfl
        simp only [Act.put, List.setIfInBounds_toArray, List.set_cons_zero, List.set_cons_succ]
        refine wpAnyH_take (i := 12) (oi := { dst := some 55, op := Op.load 3 (Operand.tmp 54), type := 3, pos := "law.go:112", after := #[{ on := 11, ground := Ground.data }], guard := none }) (v := ?_) rfl (by kernel_rfl) (by kernel_rfl) (by kernel_rfl) (fun _ _ _ h => h) (Or.inl ⟨by rfl, ?_⟩) (by assumption) ?_
        rotate_left
        · intro w hSw
          have c := (Below.cell hSw (p := ⟨b0, o0 + k * 4 + 2, none⟩) (by exact lb0)).trans K2.out
          clear hSw
          go_simp
          all_goals with_reducible rfl
        simp only [Act.put, List.setIfInBounds_toArray, List.set_cons_zero, List.set_cons_succ]
        refine wpAnyH_ready (rs := [6]) (by kernel_rfl) (by simp) ?_
        refine AllReadyH.cons (o := { dst := some 49, op := Op.call { callee := Callee.value (Operand.func 11), args := #[Operand.tmp 43, Operand.tmp 48], argTypes := #[22, 3] }, type := 27, pos := "law.go:112", after := #[{ on := 0, ground := Ground.data }, { on := 5, ground := Ground.data }], guard := none }) rfl (fun K hK => ?_) AllReadyH.nil
        go_simp
        have BD := BB.out.below (W := wr.drew) ((Below.refl _ _).drew)
        refine (rnumber_is gr t wr.drew HRN.out BD.own).mono ?_
        rintro e w2 ⟨rfl, hw2, hc2⟩
        have X2 := hide (BD.mid LI.out hw2 hc2)
        have hb2 := X2.out.2.2.2
        clear hHeld hw2 hc2 BD BB
        go_wp2_with fail
        refine hK.out _ _ hb2 (fun hHeld => ?_)
        clear hK K hb2
        try simp only [Act.put, List.setIfInBounds_toArray, List.set_cons_zero, List.set_cons_succ]
        refine wpAnyH_ready (rs := [13]) (by kernel_rfl) (by simp) ?_
        refine AllReadyH.cons (o := { dst := some 56, op := Op.call { callee := Callee.value (Operand.func 25), args := #[Operand.tmp 50, Operand.tmp 55], argTypes := #[51, 3] }, type := 27, pos := "law.go:112", after := #[{ on := 7, ground := Ground.data }, { on := 12, ground := Ground.data }, { on := 6, ground := Ground.chain }], guard := none }) rfl (fun K hK => ?_) AllReadyH.nil
        go_simp
        refine (dnum_is gd ab lb cb w2 HRN.out X2.out.2.1).mono ?_
        rintro e w3 ⟨rfl, hw3, hc3⟩
        have TW := hide (Two.fin X2.out LI.out hw3 hc3 OK2.out BS2.out)
        have hb3 := TW.out.bel
        clear hHeld hw3 hc3 X2
        go_wp2_with fail
        refine hK.out _ _ hb3 (fun hHeld => ?_)
        clear hK K hb3
        try simp only [Act.put, List.setIfInBounds_toArray, List.set_cons_zero, List.set_cons_succ]
        refine wpAnyH_take (i := 14) (oi := { dst := some 57, op := Op.binOp BinOp.neq 27 (Operand.tmp 49) (Operand.tmp 56) 27, type := 4, pos := "law.go:112", after := #[{ on := 6, ground := Ground.data }, { on := 13, ground := Ground.data }], guard := none }) (v := ?_) rfl (by kernel_rfl) (by kernel_rfl) (by kernel_rfl) (fun _ _ _ h => h) (Or.inl ⟨by rfl, ?_⟩) (by assumption) ?_
        rotate_left
        · intro w hSw
          clear hSw
          go_simp
          all_goals with_reducible rfl
        simp only [Act.put, List.setIfInBounds_toArray, List.set_cons_zero, List.set_cons_succ]
        refine wpAnyH_done (by kernel_rfl) ?_ _
        refine NoPanic.normal ?_
        clear hHeld
        obtain ⟨fa, fy, hfin⟩ : ∃ fa fy, r2.fin = (fa, fy) := ⟨_, _, rfl⟩
        have HF := hide hfin
        have hok := fin_ok hfin TW.out.ok (Nat.le_trans TW.out.own.pl TW.out.own.len)
        have HOK := hide hok
        clear hfin hok
        go_wp2_with fail
        refine (dend_is gd ab lb cb w3 HF.out TW.out.doc).mono ?_
        rintro e w8 ⟨rfl, hb⟩
        have T8 := hide (TW.out.below hb)
        clear hb
        by_cases hy : fy = 0
        · subst hy
          go_wp2_with fail
          refine (rend_no gr t w8 HF.out T8.out.own).mono ?_
          rintro e w9 ⟨rfl, hb⟩
          have T9 := hide (T8.out.below hb)
          clear hb T8
          go_wp2_with fail
          refine (refused_nil fa w9).mono ?_
          rintro e w10 ⟨rfl, rfl⟩
          go_wp2_with fail
          go_roundw
          case rel => exact ⟨k + 1, r2, by omega, by go_num, T9.out⟩
          case measure => simp [intOf]; omega
        · have HY := hide hy
          clear hy
          go_wp2_with fail
          refine (rend_yes gr t w8 HF.out HY.out T8.out.own).mono ?_
          rintro e w9 ⟨qq, rfl, hq, hb⟩
          have T9 := hide (T8.out.below hb)
          have HQ9 := hide hq
          clear hb hq T8
          go_wp2_with fail
          refine (refused_yes qq fa fy w9 HQ9.out (HP.out.below T9.out.bel) HOK.out.1 HOK.out.2 HY.out).mono ?_
          rintro e w10 ⟨rfl, hb⟩
          have T10 := hide (T9.out.below hb)
          clear hb T9
          go_wp2_with fail
          go_roundw
          case rel => exact ⟨k + 1, r2, by omega, by go_num, T10.out⟩
          case measure => simp [intOf]; omega
      by_cases h2 : q.kind = 2
      · skip
        have s1 : (q.kind == 1) = false := by simp [h2]
        have s2 : (q.kind == 2) = true := by simp [h2]
        obtain ⟨r2, xs, hrn⟩ : ∃ r2 xs, r.bytes q.size = (r2, xs) := ⟨_, _, rfl⟩
        have OK2 : Hid (r2.ok) := by have := bytes_ok q.size BB.out.ok MX.out PM.out; rw [hrn] at this; exact this
        have BS2 : Hid (r2.bs = bs) := by have h := bytes_bs r q.size; rw [hrn, BB.out.bs] at h; exact h
        have XL : Hid (xs.length ≤ 65536) := by
          have h : (r.bytes q.size).2.length ≤ (r.number 2).2 := S.Rd.take_len _ _
          have h2 := S.number2_lt r
          rw [hrn] at h
          show xs.length ≤ 65536
          have h3 : xs.length ≤ (r.number 2).2 := h
          omega
        have HRN := hide hrn
        clear hrn
        have c2 := (BB.out.bel.cell (p := ⟨b0, o0 + k * 4 + 2, none⟩) (by exact lb0)).trans K2.out
        go_wp2_with fail
        refine (rbytes_is gr t wr HRN.out BB.out.own).mono ?_
        rintro e w2 ⟨gx, rfl, hgx, hrow, hw2, hc2⟩
        have X2 := hide (BB.out.mid LI.out hw2 hc2)
        have dgx : gd < gx := Nat.lt_of_lt_of_le BB.out.doc.lt hgx
        have RX2 := hide hrow
        obtain ⟨xl, hxl⟩ : ∃ xl, xl = xs.length := ⟨_, rfl⟩
        have HXL := hide hxl
        have xlm : xl ≤ 65536 := by rw [hxl]; exact XL.out
        rw [← hxl]
        clear hgx hrow hw2 hc2 c2 BB hxl
        have c2 := (X2.out.2.2.2.cell (p := ⟨b0, o0 + k * 4 + 2, none⟩) (by exact lb0)).trans K2.out
        go_wp2_with fail
        refine (drbytes_is gd ab lb cb w2 HRN.out X2.out.2.1).mono ?_
        rintro e w3 ⟨vx, rfl, hvx, hw3, hc3⟩
        have T3 := hide (Two.fin X2.out LI.out hw3 hc3 OK2.out BS2.out)
        have RX3 := hide (hc3.row RX2.out (by omega))
        have SX3 : Hid (SliceAt w3 (.slice (some ⟨gx, 0, none⟩) xl xl) xs) := by rw [HXL.out]; exact (stays_row (p := fun _ => False) RX3.out (fun e => e) (by have := XL.out; omega)).now
        have SY3 := hide hvx
        clear hvx hw3 hc3 X2 RX2 c2
        go_wp2_with fail
        refine (same_any _ vx xs w3 SX3.out SY3.out).mono ?_
        rintro e w4 ⟨rfl, hst⟩
        have T4 := hide (T3.out.below (hst.below _))
        have RX4 : Hid (w4.heap[gx]? = some (.cells (S.v8 xs) 5 (0, 0))) := by show w4.heap[gx]? = _; rw [hst.1]; exact RX3.out
        clear hst T3 RX3 SX3 SY3 ck
        go_wp2_with fail
        go_loopw [10] (fun i wz => ∃ kk : Nat, kk ≤ xl ∧ i = .int .i64 (kk : Int) ∧ (∃ row : List UInt8, row.length = xl ∧ wz.heap[gx]? = some (.cells (S.v8 row) 5 (0, 0))) ∧ Two w wz gf gr t gd ab lb cb bs r2) (fun i _ => xl - (intOf i).toNat)
        case atStart => exact ⟨0, Nat.zero_le _, rfl, ⟨_, HXL.out.symm, RX4.out⟩, T4.out⟩
        case round =>
          obtain ⟨kk, hkk, rfl, ⟨row, hrl, hrow⟩, hbo⟩ := hrel
          have BZ := hide hbo
          clear hbo T4 RX4
          by_cases hlt2 : kk < xl
          · have m1 : (kk : Int) < (xl : Int) := by omega
            have m2 : (0 : Int) ≤ (kk : Int) := by omega
            have m4 : IntKind.i64.wrap ((kk : Int) + 1) = (kk : Int) + 1 := by rw [IntKind.wrap_i64]; omega
            have cc := v8_cell hrow kk (by omega)
            have ff := frozen_of_row _ _ kk _ _ hrow
            have RS := hide (v8_set hrow kk 9)
            have BS := hide (BZ.out.over LI.out (g := gx) ((Chg.refl (fun j => j = gx) wr).setCell gx kk (.int .u8 ((9 : UInt8).toNat : Int)) (fun _ => rfl)) dgx)
            have RLL : Hid ((row.set kk 9).length = xl) := by show (row.set kk 9).length = xl; rw [List.length_set]; exact hrl
            clear hrow BZ hrl
            go_wp2_with fail
            go_roundw
            case rel => exact ⟨kk + 1, by omega, by go_num, ⟨_, RLL.out, RS.out⟩, BS.out⟩
            case measure => simp [intOf]; omega
          · obtain rfl : kk = xl := by omega
            have m1 : ¬ ((kk : Int) < (kk : Int)) := by omega
            clear hrow hrl
            obtain ⟨fa, fy, hfin⟩ : ∃ fa fy, r2.fin = (fa, fy) := ⟨_, _, rfl⟩
            have HF := hide hfin
            have hok := fin_ok hfin BZ.out.ok (Nat.le_trans BZ.out.own.pl BZ.out.own.len)
            have HOK := hide hok
            clear hfin hok
            go_wp2_with fail
            refine (dend_is gd ab lb cb wr HF.out BZ.out.doc).mono ?_
            rintro e w8 ⟨rfl, hb⟩
            have T8 := hide (BZ.out.below hb)
            clear hb
            by_cases hy : fy = 0
            · subst hy
              go_wp2_with fail
              refine (rend_no gr t w8 HF.out T8.out.own).mono ?_
              rintro e w9 ⟨rfl, hb⟩
              have T9 := hide (T8.out.below hb)
              clear hb T8
              go_wp2_with fail
              refine (refused_nil fa w9).mono ?_
              rintro e w10 ⟨rfl, rfl⟩
              go_wp2_with fail
              go_roundw
              case rel => exact ⟨k + 1, r2, by omega, by go_num, T9.out⟩
              case measure => simp [intOf]; omega
            · have HY := hide hy
              clear hy
              go_wp2_with fail
              refine (rend_yes gr t w8 HF.out HY.out T8.out.own).mono ?_
              rintro e w9 ⟨qq, rfl, hq, hb⟩
              have T9 := hide (T8.out.below hb)
              have HQ9 := hide hq
              clear hb hq T8
              go_wp2_with fail
              refine (refused_yes qq fa fy w9 HQ9.out (HP.out.below T9.out.bel) HOK.out.1 HOK.out.2 HY.out).mono ?_
              rintro e w10 ⟨rfl, hb⟩
              have T10 := hide (T9.out.below hb)
              clear hb T9
              go_wp2_with fail
              go_roundw
              case rel => exact ⟨k + 1, r2, by omega, by go_num, T10.out⟩
              case measure => simp [intOf]; omega
      by_cases h3 : q.kind = 3
      · skip
        have s1 : (q.kind == 1) = false := by simp [h3]
        have s2 : (q.kind == 2) = false := by simp [h3]
        have s3 : (q.kind == 3) = true := by simp [h3]
        obtain ⟨r2, d, hrn⟩ : ∃ r2 d, r.digest = (r2, d) := ⟨_, _, rfl⟩
        have OK2 : Hid (r2.ok) := by have := digest_ok BB.out.ok MX.out; rw [hrn] at this; exact this
        have BS2 : Hid (r2.bs = bs) := by have h := S.Rd.take_bs r 32; have e : (r.take 32).1 = r2 := congrArg Prod.fst hrn; rw [e, BB.out.bs] at h; exact h
        have HD : Hid (d.length = 32) := by have := r.digest_length; rw [hrn] at this; exact this
        have HRN := hide hrn
        have eqd : ∀ w, (Op.equalIn 10000 40 (.agg (S.v8 d)) (.agg (S.v8 d))).run Tryd.prog w = .ok true w := fun w => by rw [equal_digests _ _ HD.out HD.out w]; simp
        clear hrn K1 K2
        go_wp2_with fail
        refine (rdigest_to gr t wr HRN.out BB.out.own).mono ?_
        rintro e w2 ⟨rfl, hw2, hc2⟩
        have X2 := hide (BB.out.mid LI.out hw2 hc2)
        clear hw2 hc2 BB ck
        go_wp2_with fail
        refine (ddigest_is gd ab lb cb w2 HRN.out X2.out.2.1).mono ?_
        rintro e w3 ⟨rfl, hw3, hc3⟩
        have TW := hide (Two.fin X2.out LI.out hw3 hc3 OK2.out BS2.out)
        clear hw3 hc3 X2
        obtain ⟨fa, fy, hfin⟩ : ∃ fa fy, r2.fin = (fa, fy) := ⟨_, _, rfl⟩
        have HF := hide hfin
        have hok := fin_ok hfin TW.out.ok (Nat.le_trans TW.out.own.pl TW.out.own.len)
        have HOK := hide hok
        clear hfin hok
        go_wp2_with fail
        refine (dend_is gd ab lb cb w3 HF.out TW.out.doc).mono ?_
        rintro e w8 ⟨rfl, hb⟩
        have T8 := hide (TW.out.below hb)
        clear hb
        by_cases hy : fy = 0
        · subst hy
          go_wp2_with fail
          refine (rend_no gr t w8 HF.out T8.out.own).mono ?_
          rintro e w9 ⟨rfl, hb⟩
          have T9 := hide (T8.out.below hb)
          clear hb T8
          go_wp2_with fail
          refine (refused_nil fa w9).mono ?_
          rintro e w10 ⟨rfl, rfl⟩
          go_wp2_with fail
          go_roundw
          case rel => exact ⟨k + 1, r2, by omega, by go_num, T9.out⟩
          case measure => simp [intOf]; omega
        · have HY := hide hy
          clear hy
          go_wp2_with fail
          refine (rend_yes gr t w8 HF.out HY.out T8.out.own).mono ?_
          rintro e w9 ⟨qq, rfl, hq, hb⟩
          have T9 := hide (T8.out.below hb)
          have HQ9 := hide hq
          clear hb hq T8
          go_wp2_with fail
          refine (refused_yes qq fa fy w9 HQ9.out (HP.out.below T9.out.bel) HOK.out.1 HOK.out.2 HY.out).mono ?_
          rintro e w10 ⟨rfl, hb⟩
          have T10 := hide (T9.out.below hb)
          clear hb T9
          go_wp2_with fail
          go_roundw
          case rel => exact ⟨k + 1, r2, by omega, by go_num, T10.out⟩
          case measure => simp [intOf]; omega
      by_cases h4 : q.kind = 4
      · skip
        have s1 : (q.kind == 1) = false := by simp [h4]
        have s2 : (q.kind == 2) = false := by simp [h4]
        have s3 : (q.kind == 3) = false := by simp [h4]
        have s4 : (q.kind == 4) = true := by simp [h4]
        have c1 := (BB.out.bel.cell (p := ⟨b0, o0 + k * 4 + 1, none⟩) (by exact lb0)).trans K1.out
        obtain ⟨m, hm⟩ : ∃ m, m = q.n % 100 := ⟨_, rfl⟩
        have hm1 : m < 100 := by omega
        have e1 : (q.n : Int).tmod 100 = (m : Int) := by rw [Int.tmod_eq_emod_of_nonneg (by omega), hm]; omega
        have e2 : IntKind.i64.wrap (m : Int) = (m : Int) := by rw [IntKind.wrap_i64]; omega
        have e3 : IntKind.u64.wrap (m : Int) = (m : Int) := by rw [IntKind.wrap_u64]; omega
        clear hm K1 K2
        go_wp2_with fail
        refine (within_any (m : Int) 30 wr (by omega) (by omega) (by decide) (by decide)).mono ?_
        rintro e wx ⟨rfl, rfl⟩
        obtain ⟨y, hy⟩ : ∃ y : Int, y = (S.within (m : Int) 30 : Int) := ⟨_, rfl⟩
        have hy1 : 0 ≤ y := by omega
        have hy2 : y ≤ 30 := by rw [hy]; exact S.within_le _ _ (by decide)
        rw [← hy]
        obtain ⟨r2, hrn⟩ : ∃ r2, r.fail y = r2 := ⟨_, rfl⟩
        have OK2 : Hid (r2.ok) := by rw [← hrn]; exact fail_ok y BB.out.ok PM.out ⟨by omega, by omega⟩
        have BS2 : Hid (r2.bs = bs) := by show r2.bs = bs; rw [← hrn, ← BB.out.bs]; exact S.Rd.refuse_bs _ _ _
        have HRN := hide hrn
        clear hrn hy
        go_wp2_with fail
        refine (rfail_is gr t wr HRN.out BB.out.own).mono ?_
        rintro e w2 ⟨rfl, hw2, hc2⟩
        have X2 := hide (BB.out.mid LI.out hw2 hc2)
        clear hw2 hc2 BB ck c1
        go_wp2_with fail
        refine (dfail_is gd ab lb cb w2 HRN.out X2.out.2.1).mono ?_
        rintro e w3 ⟨rfl, hw3, hc3⟩
        have TW := hide (Two.fin X2.out LI.out hw3 hc3 OK2.out BS2.out)
        clear hw3 hc3 X2
        obtain ⟨fa, fy, hfin⟩ : ∃ fa fy, r2.fin = (fa, fy) := ⟨_, _, rfl⟩
        have HF := hide hfin
        have hok := fin_ok hfin TW.out.ok (Nat.le_trans TW.out.own.pl TW.out.own.len)
        have HOK := hide hok
        clear hfin hok
        go_wp2_with fail
        refine (dend_is gd ab lb cb w3 HF.out TW.out.doc).mono ?_
        rintro e w8 ⟨rfl, hb⟩
        have T8 := hide (TW.out.below hb)
        clear hb
        by_cases hy : fy = 0
        · subst hy
          go_wp2_with fail
          refine (rend_no gr t w8 HF.out T8.out.own).mono ?_
          rintro e w9 ⟨rfl, hb⟩
          have T9 := hide (T8.out.below hb)
          clear hb T8
          go_wp2_with fail
          refine (refused_nil fa w9).mono ?_
          rintro e w10 ⟨rfl, rfl⟩
          go_wp2_with fail
          go_roundw
          case rel => exact ⟨k + 1, r2, by omega, by go_num, T9.out⟩
          case measure => simp [intOf]; omega
        · have HY := hide hy
          clear hy
          go_wp2_with fail
          refine (rend_yes gr t w8 HF.out HY.out T8.out.own).mono ?_
          rintro e w9 ⟨qq, rfl, hq, hb⟩
          have T9 := hide (T8.out.below hb)
          have HQ9 := hide hq
          clear hb hq T8
          go_wp2_with fail
          refine (refused_yes qq fa fy w9 HQ9.out (HP.out.below T9.out.bel) HOK.out.1 HOK.out.2 HY.out).mono ?_
          rintro e w10 ⟨rfl, hb⟩
          have T10 := hide (T9.out.below hb)
          clear hb T9
          go_wp2_with fail
          go_roundw
          case rel => exact ⟨k + 1, r2, by omega, by go_num, T10.out⟩
          case measure => simp [intOf]; omega
      · have s1 : (q.kind == 1) = false := by simp [h1]
        have s2 : (q.kind == 2) = false := by simp [h2]
        have s3 : (q.kind == 3) = false := by simp [h3]
        have s4 : (q.kind == 4) = false := by simp [h4]
        clear K1 K2
        obtain ⟨fa, fy, hfin⟩ : ∃ fa fy, r.fin = (fa, fy) := ⟨_, _, rfl⟩
        have HF := hide hfin
        have hok := fin_ok hfin BB.out.ok (Nat.le_trans BB.out.own.pl BB.out.own.len)
        have HOK := hide hok
        clear hfin hok
        go_wp2_with fail
        refine (dend_is gd ab lb cb wr HF.out BB.out.doc).mono ?_
        rintro e w8 ⟨rfl, hb⟩
        have T8 := hide (BB.out.below hb)
        clear hb
        by_cases hy : fy = 0
        · subst hy
          go_wp2_with fail
          refine (rend_no gr t w8 HF.out T8.out.own).mono ?_
          rintro e w9 ⟨rfl, hb⟩
          have T9 := hide (T8.out.below hb)
          clear hb T8
          go_wp2_with fail
          refine (refused_nil fa w9).mono ?_
          rintro e w10 ⟨rfl, rfl⟩
          go_wp2_with fail
          go_roundw
          case rel => exact ⟨k + 1, r, by omega, by go_num, T9.out⟩
          case measure => simp [intOf]; omega
        · have HY := hide hy
          clear hy
          go_wp2_with fail
          refine (rend_yes gr t w8 HF.out HY.out T8.out.own).mono ?_
          rintro e w9 ⟨qq, rfl, hq, hb⟩
          have T9 := hide (T8.out.below hb)
          have HQ9 := hide hq
          clear hb hq T8
          go_wp2_with fail
          refine (refused_yes qq fa fy w9 HQ9.out (HP.out.below T9.out.bel) HOK.out.1 HOK.out.2 HY.out).mono ?_
          rintro e w10 ⟨rfl, hb⟩
          have T10 := hide (T9.out.below hb)
          clear hb T9
          go_wp2_with fail
          go_roundw
          case rel => exact ⟨k + 1, r, by omega, by go_num, T10.out⟩
          case measure => simp [intOf]; omega
    · rw [decide_eq_false hlt]
      go_wp2_with fail
      refine (intact_any gf _ bs N wr HNN.out (SB.out.below BB.out.bel (Nat.le_refl _)) LB.out BB.out.full).mono ?_
      rintro e w2 ⟨rfl, hst⟩
      have T2 := hide (BB.out.below (hst.below _))
      clear hst BB
      go_wp2_with fail
      refine (known_any w2 (HP.out.below T2.out.bel)).mono ?_
      rintro e w3 ⟨rfl, hb⟩
      have Z := T2.out.bel.trans (hb.mono T2.out.bel.size)
      clear hb
      go_wp2_with fail
      go_ret
      exact ⟨rfl, Z⟩
end Go.Proofs.YtdhaeepaemneaaaDoor
