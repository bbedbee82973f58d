/- The walk of CodecMany: for any numbers and sizes the call returns true and nothing that was there changes. -/
import Derived.Test.YtdhaeepaemneaaaDoorPure
import Derived.Test.YtdhaeepaemneaaaDoorWithin
import Derived.Deep.DeepCutAuto
namespace Go.Proofs.YtdhaeepaemneaaaDoor
open Go.RowKit
/-- A slice of numbers that came in. -/
def IntsAt (kd : IntKind) (w : World) (ao : Option Addr) (len : Nat) (zs : List Int) : Prop :=
  len = zs.length ∧ (0 < len → ∃ b off, ao = some ⟨b, off, none⟩ ∧ b < w.heap.size ∧ ∀ j, j < len → w.cell? ⟨b, off + j, none⟩ = some (.int kd (zs.getD j 0)))
namespace S
/-- The numbers up to k, one behind the other. -/
def many (ns zs : List Int) : Nat → List UInt8
  | 0 => []
  | k + 1 => many ns zs k ++ num (ns.getD k 0).toNat (within (zs.getD k 0) 7 + 1)
theorem many_len (ns zs : List Int) (k : Nat) : (many ns zs k).length ≤ 8 * k := by
  induction k with
  | zero => simp [many]
  | succ k ih =>
    have := within_le (zs.getD k 0) 7 (by decide)
    rw [many, List.length_append, num_length]
    omega
theorem many_split (ns zs : List Int) (k C : Nat) (h : k < C) : ∃ rest, many ns zs C = many ns zs k ++ (num (ns.getD k 0).toNat (within (zs.getD k 0) 7 + 1) ++ rest) := by
  induction C with
  | zero => omega
  | succ C ih =>
    by_cases hk : k = C
    · subst hk
      exact ⟨[], by rw [many, List.append_nil]⟩
    · obtain ⟨rest, hr⟩ := ih (by omega)
      exact ⟨rest ++ num (ns.getD C 0).toNat (within (zs.getD C 0) 7 + 1), by rw [many, hr]; simp only [List.append_assoc]⟩
theorem size_one (a : Nat) (h : a ≤ 7) : size (1 + (a : Int)) = a + 1 := by unfold size; omega
end S
theorem many_number (ns zs : List Int) (k C a : Nat) (h : k < C) (ha : a = S.within (zs.getD k 0) 7) (ha7 : a ≤ 7) :
    (S.Rd.mk (S.many ns zs C) (S.many ns zs k).length 0 0).number (1 + (a : Int)) = (⟨S.many ns zs C, (S.many ns zs (k + 1)).length, 0, 0⟩, (ns.getD k 0).toNat % 256 ^ (a + 1)) := by
  obtain ⟨rest, hr⟩ := S.many_split ns zs k C h
  rw [← ha] at hr
  rw [hr, S.Rd.number_app _ _ _ 0 (1 + (a : Int)) (by rw [S.num_length, S.size_one a ha7]), S.val_num, S.many, List.length_append, ← ha]
theorem cut_one (m a : Nat) (h : a + 1 < 8) : ∃ P : Nat, IntKind.u64.wrap ((2 : Int) ^ (8 * (1 + a))) = (P : Int) ∧ 0 < P ∧ (m : Int) % (P : Int) = ((m % 256 ^ (a + 1) : Nat) : Int) := by
  have hp : 256 ^ (a + 1) ≤ 256 ^ 7 := Nat.pow_le_pow_right (by decide) (by omega)
  have h7 : (256 : Nat) ^ 7 = 72057594037927936 := by decide
  have h0 : 0 < 256 ^ (a + 1) := Nat.pow_pos (by decide)
  rw [h7] at hp
  rw [show (2 : Int) ^ (8 * (1 + a)) = ((256 ^ (a + 1) : Nat) : Int) from by rw [Nat.add_comm, Int.pow_mul]; norm_cast]
  generalize 256 ^ (a + 1) = q at hp h0
  exact ⟨q, by rw [IntKind.wrap_u64]; omega, h0, by omega⟩
theorem fin_all (X : List UInt8) (p : Nat) (h : p = X.length) : (S.Rd.mk X p 0 0).fin = (0, 0) := by
  unfold S.Rd.fin
  rw [if_pos rfl, if_neg (by simp only; omega)]
set_option maxHeartbeats 8000000 in
set_option maxRecDepth 100000 in
theorem codecMany_walk (a0 a1 : Option Addr) (l0 c0 l1 c1 : Nat) (ns zs : List Int) (w : World) (hv0 : IntsAt .u64 w a0 l0 ns) (hv1 : IntsAt .i64 w a1 l1 zs) (hn : ∀ j, 0 ≤ ns.getD j 0 ∧ ns.getD j 0 < 18446744073709551616) (hz : ∀ j, -9223372036854775808 ≤ zs.getD j 0 ∧ zs.getD j 0 ≤ 9223372036854775807) (hP : PowAt w) :
   Calls Tryd.prog 8 #[.slice a0 l0 c0, .slice a1 l1 c1] w fun e w' => e = .returned (.bool true) ∧ Below w.heap.size w w' := by
  have HV0 := hide hv0
  have HV1 := hide hv1
  have HN := hide hn
  have HZ := hide hz
  have HP := hide hP
  obtain ⟨C, hC⟩ : ∃ C, C = min (min l0 l1) 40 := ⟨_, rfl⟩
  have hC0 : C ≤ l0 := by omega
  have hC1 : C ≤ l1 := by omega
  have hC40 : C ≤ 40 := by omega
  have HC := hide hC
  clear hv0 hv1 hn hz hP hC
  go_enter Tryd.func8, Tryd.ntmps8
  go_wp2_with fail
  refine (newWriter_any w).mono ?_
  rintro e w1 ⟨rfl, hw1, hb1⟩
  have W1 := hide hw1
  have B1 := hide hb1
  clear hw1 hb1
  obtain ⟨gw, hgw⟩ : ∃ gw, gw = w.heap.size := ⟨_, rfl⟩
  rw [← hgw] at W1 ⊢
  have HGW := hide hgw
  clear hgw
  go_wp2_with fail
  go_loopw [6, 7] (fun nv i wr => ∃ (k : Nat) (v : Value), k ≤ C ∧ i = .int .i64 (k : Int) ∧ nv = .int .i64 ((S.many ns zs k).length : Int) ∧ WrIs wr gw v (S.many ns zs k) ∧ (∀ j, v.ownBlock = some j → w.heap.size ≤ j) ∧ Below w.heap.size w wr) (fun _ i _ => C - (intOf i).toNat)
  case atStart => exact ⟨0, _, Nat.zero_le _, rfl, rfl, W1.out, nil_base _, B1.out⟩
  case round =>
    obtain ⟨k, v, hk, rfl, rfl, hw, ho, hb⟩ := hrel
    have WW := hide hw
    have OO := hide ho
    have BB := hide hb
    clear hw ho hb W1 B1
    go_upto_region 6 with fail
    go_cut [29] (fun b wc => wr = wc ∧ b = .bool (decide (k < C)))
    case first =>
      have HCC := HC
      by_cases h1 : k < l0
      · have q1 : (k : Int) < (l0 : Int) := by omega
        by_cases h2 : k < l1
        · have q2 : (k : Int) < (l1 : Int) := by omega
          by_cases h3 : k < 40
          · have q3 : (k : Int) < 40 := by omega
            have R : Hid (Value.bool true = .bool (decide (k < C))) := by show Value.bool true = _; rw [decide_eq_true (by have := HC.out; omega)]
            go_wp2_with fail
            go_meet
            exact ⟨rfl, R.out⟩
          · have q3 : ¬ ((k : Int) < 40) := by omega
            have R : Hid (Value.bool false = .bool (decide (k < C))) := by show Value.bool false = _; rw [decide_eq_false (by have := HC.out; omega)]
            go_wp2_with fail
            go_meet
            exact ⟨rfl, by first | exact R.out | (rw [← R.out]; simp; omega)⟩
        · have q2 : ¬ ((k : Int) < (l1 : Int)) := by omega
          have R : Hid (Value.bool false = .bool (decide (k < C))) := by show Value.bool false = _; rw [decide_eq_false (by have := HC.out; omega)]
          go_wp2_with fail
          go_meet
          exact ⟨rfl, by first | exact R.out | (rw [← R.out]; simp; omega)⟩
      · have q1 : ¬ ((k : Int) < (l0 : Int)) := by omega
        have R : Hid (Value.bool false = .bool (decide (k < C))) := by show Value.bool false = _; rw [decide_eq_false (by have := HC.out; omega)]
        go_wp2_with fail
        go_meet
        exact ⟨rfl, by first | exact R.out | (rw [← R.out]; simp; omega)⟩
    case rest =>
    obtain ⟨rfl, rfl⟩ := hcut
    by_cases hlt : k < C
    · rw [decide_eq_true hlt]
      have q0 : (0 : Int) ≤ (k : Int) := by omega
      have q1 : (k : Int) < (l0 : Int) := by omega
      have q2 : (k : Int) < (l1 : Int) := by omega
      have q4 : IntKind.i64.wrap ((k : Int) + 1) = (k : Int) + 1 := by rw [IntKind.wrap_i64]; omega
      obtain ⟨b0, o0, ha0, lb0, hc0⟩ := HV0.out.2 (by omega)
      obtain ⟨b1, o1, ha1, lb1, hc1⟩ := HV1.out.2 (by omega)
      have CL := hide (hc0 k (by omega))
      have CZ := hide (hc1 k (by omega))
      subst ha0 ha1
      have hnk := HN.out k
      have hzk := HZ.out k
      obtain ⟨m, hm⟩ : ∃ m, m = (ns.getD k 0).toNat := ⟨_, rfl⟩
      have hmz : ns.getD k 0 = (m : Int) := by omega
      have HMZ := hide hmz
      obtain ⟨a, ha⟩ : ∃ a, a = S.within (zs.getD k 0) 7 := ⟨_, rfl⟩
      have ha7 : a ≤ 7 := by have := S.within_le (zs.getD k 0) 7 (by decide); rw [← ha] at this; omega
      have HA := hide ha
      have q3 : IntKind.i64.wrap (1 + (a : Int)) = 1 + (a : Int) := by rw [IntKind.wrap_i64]; omega
      have MK : Hid (S.many ns zs k ++ S.num m (a + 1) = S.many ns zs (k + 1)) := by show _ = S.many ns zs (k + 1); rw [S.many, ← hm, ← ha]
      have ML : Hid ((S.many ns zs (k + 1)).length = (S.many ns zs k).length + (a + 1)) := by show _ = _; rw [← MK.out, List.length_append, S.num_length]
      clear hm ha hc0 hc1 hnk hmz
      go_wp2_with fail
      refine wp_region_noPanic ?_
      refine wp_region_held_drew (S := (fun w' => Below w.heap.size w w')) follows (BB.out.drew) (fun hHeld => ?_)
      refine wpAnyH_take (i := 0) (oi := { dst := some 32, op := Op.move (Operand.tmp 5), type := 25, pos := "law.go:211", after := #[], guard := none }) (v := ?_) rfl (by kernel_rfl) (by kernel_rfl) (by kernel_rfl) (fun _ _ _ h => h) (Or.inl ⟨by rfl, ?_⟩) (by assumption) ?_
      rotate_left
      · intro w hSw
        clear hSw
        go_simp
        all_goals with_reducible rfl
      simp only [Act.put, List.setIfInBounds_toArray, List.set_cons_zero, List.set_cons_succ]
      refine wpAnyH_take (i := 1) (oi := { dst := some 33, op := Op.move (Operand.tmp 0), type := 69, pos := "law.go:211", after := #[], guard := none }) (v := ?_) rfl (by kernel_rfl) (by kernel_rfl) (by kernel_rfl) (fun _ _ _ h => h) (Or.inl ⟨by rfl, ?_⟩) (by assumption) ?_
      rotate_left
      · intro w hSw
        clear hSw
        go_simp
        all_goals with_reducible rfl
      simp only [Act.put, List.setIfInBounds_toArray, List.set_cons_zero, List.set_cons_succ]
      refine wpAnyH_take (i := 2) (oi := { dst := some 34, op := Op.move (Operand.tmp 7), type := 3, pos := "law.go:211", after := #[], guard := none }) (v := ?_) rfl (by kernel_rfl) (by kernel_rfl) (by kernel_rfl) (fun _ _ _ h => h) (Or.inl ⟨by rfl, ?_⟩) (by assumption) ?_
      rotate_left
      · intro w hSw
        clear hSw
        go_simp
        all_goals with_reducible rfl
      simp only [Act.put, List.setIfInBounds_toArray, List.set_cons_zero, List.set_cons_succ]
      refine wpAnyH_take (i := 3) (oi := { dst := some 35, op := Op.indexAddr 69 (Operand.tmp 33) (Operand.tmp 34), type := 0, pos := "law.go:211", after := #[{ on := 1, ground := Ground.data }, { on := 2, ground := Ground.data }], guard := none }) (v := ?_) rfl (by kernel_rfl) (by kernel_rfl) (by kernel_rfl) (fun _ _ _ h => h) (Or.inl ⟨by rfl, ?_⟩) (by assumption) ?_
      rotate_left
      · intro w hSw
        clear hSw
        go_simp
        all_goals with_reducible rfl
      simp only [Act.put, List.setIfInBounds_toArray, List.set_cons_zero, List.set_cons_succ]
      refine wpAnyH_take (i := 4) (oi := { dst := some 36, op := Op.load 27 (Operand.tmp 35), type := 27, pos := "law.go:211", after := #[{ on := 3, ground := Ground.data }], guard := none }) (v := ?_) rfl (by kernel_rfl) (by kernel_rfl) (by kernel_rfl) (fun _ _ _ h => h) (Or.inl ⟨by rfl, ?_⟩) (by assumption) ?_
      rotate_left
      · intro w hSw
        have c := (Below.cell hSw (p := ⟨b0, o0 + k, none⟩) (by exact lb0)).trans CL.out
        clear hSw
        go_simp
        all_goals with_reducible rfl
      simp only [Act.put, List.setIfInBounds_toArray, List.set_cons_zero, List.set_cons_succ]
      refine wpAnyH_take (i := 5) (oi := { dst := some 37, op := Op.move (Operand.tmp 1), type := 70, pos := "law.go:211", after := #[], guard := none }) (v := ?_) rfl (by kernel_rfl) (by kernel_rfl) (by kernel_rfl) (fun _ _ _ h => h) (Or.inl ⟨by rfl, ?_⟩) (by assumption) ?_
      rotate_left
      · intro w hSw
        clear hSw
        go_simp
        all_goals with_reducible rfl
      simp only [Act.put, List.setIfInBounds_toArray, List.set_cons_zero, List.set_cons_succ]
      refine wpAnyH_take (i := 6) (oi := { dst := some 38, op := Op.move (Operand.tmp 7), type := 3, pos := "law.go:211", after := #[], guard := none }) (v := ?_) rfl (by kernel_rfl) (by kernel_rfl) (by kernel_rfl) (fun _ _ _ h => h) (Or.inl ⟨by rfl, ?_⟩) (by assumption) ?_
      rotate_left
      · intro w hSw
        clear hSw
        go_simp
        all_goals with_reducible rfl
      simp only [Act.put, List.setIfInBounds_toArray, List.set_cons_zero, List.set_cons_succ]
      refine wpAnyH_take (i := 7) (oi := { dst := some 39, op := Op.indexAddr 70 (Operand.tmp 37) (Operand.tmp 38), type := 0, pos := "law.go:211", after := #[{ on := 5, ground := Ground.data }, { on := 6, ground := Ground.data }], guard := none }) (v := ?_) rfl (by kernel_rfl) (by kernel_rfl) (by kernel_rfl) (fun _ _ _ h => h) (Or.inl ⟨by rfl, ?_⟩) (by assumption) ?_
      rotate_left
      · intro w hSw
        clear hSw
        go_simp
        all_goals with_reducible rfl
      simp only [Act.put, List.setIfInBounds_toArray, List.set_cons_zero, List.set_cons_succ]
      refine wpAnyH_take (i := 8) (oi := { dst := some 40, op := Op.load 3 (Operand.tmp 39), type := 3, pos := "law.go:211", after := #[{ on := 7, ground := Ground.data }], guard := none }) (v := ?_) rfl (by kernel_rfl) (by kernel_rfl) (by kernel_rfl) (fun _ _ _ h => h) (Or.inl ⟨by rfl, ?_⟩) (by assumption) ?_
      rotate_left
      · intro w hSw
        have c := (Below.cell hSw (p := ⟨b1, o1 + k, none⟩) (by exact lb1)).trans CZ.out
        clear hSw
        go_simp
        all_goals with_reducible rfl
      simp only [Act.put, List.setIfInBounds_toArray, List.set_cons_zero, List.set_cons_succ]
      refine wpAnyH_ready (rs := [9]) (by kernel_rfl) (by simp) ?_
      refine AllReadyH.cons (o := { dst := some 41, op := Op.call { callee := Callee.value (Operand.func 30), args := #[Operand.tmp 40, Operand.const (Value.int IntKind.i64 0), Operand.const (Value.int IntKind.i64 7)], argTypes := #[3, 3, 3] }, type := 3, pos := "law.go:211", after := #[{ on := 8, ground := Ground.data }], guard := none }) rfl (fun K hK => ?_) AllReadyH.nil
      go_simp
      refine (within_any _ 7 wr.drew hzk.1 hzk.2 (by decide) (by decide)).mono ?_
      rintro e w2 ⟨rfl, rfl⟩
      rw [← HA.out]
      go_wp2_with fail
      refine hK.out _ _ hHeld (fun hHeld => ?_)
      clear hK K 
      try simp only [Act.put, List.setIfInBounds_toArray, List.set_cons_zero, List.set_cons_succ]
      refine wpAnyH_take (i := 10) (oi := { dst := some 42, op := Op.binOp BinOp.add 3 (Operand.const (Value.int IntKind.i64 1)) (Operand.tmp 41) 3, type := 3, pos := "law.go:211", after := #[{ on := 9, ground := Ground.data }], guard := none }) (v := ?_) rfl (by kernel_rfl) (by kernel_rfl) (by kernel_rfl) (fun _ _ _ h => h) (Or.inl ⟨by rfl, ?_⟩) (by assumption) ?_
      rotate_left
      · intro w hSw
        clear hSw
        go_simp
        all_goals with_reducible rfl
      simp only [Act.put, List.setIfInBounds_toArray, List.set_cons_zero, List.set_cons_succ]
      refine wpAnyH_ready (rs := [11]) (by kernel_rfl) (by simp) ?_
      refine AllReadyH.cons (o := { dst := some 43, op := Op.call { callee := Callee.value (Operand.func 13), args := #[Operand.tmp 32, Operand.tmp 36, Operand.tmp 42], argTypes := #[25, 27, 3] }, type := 0, pos := "law.go:211", after := #[{ on := 0, ground := Ground.data }, { on := 4, ground := Ground.data }, { on := 10, ground := Ground.data }, { on := 9, ground := Ground.chain }], guard := none }) rfl (fun K hK => ?_) AllReadyH.nil
      go_simp
      refine (wnumber_is m gw v wr.drew HMZ.out rfl (WW.out.chg (p := fun _ => False) ((Chg.refl _ _).drew) (fun e => e) (fun _ _ e => e)) (by have := S.many_len ns zs k; omega)).mono ?_
      rintro e w2 ⟨rfl, v2, hw2, ht2⟩
      rw [S.size_one a ha7] at hw2
      have hx := ht2.base (B := w.heap.size) BB.out.size (Nat.le_of_eq HGW.out.symm) OO.out
      have hb2 := hHeld.trans hx.1
      have W2 := hide hw2
      have O2 := hide hx.2
      clear hHeld hw2 ht2 hx WW OO BB
      go_wp2_with fail
      refine hK.out _ _ hb2 (fun hHeld => ?_)
      clear hK K hb2
      try simp only [Act.put, List.setIfInBounds_toArray, List.set_cons_zero, List.set_cons_succ]
      refine wpAnyH_done (by kernel_rfl) ?_ _
      refine NoPanic.normal ?_
      have BB := hide hHeld
      clear hHeld
      have c := (BB.out.cell (p := ⟨b1, o1 + k, none⟩) (by exact lb1)).trans CZ.out
      have ln := S.many_len ns zs k
      obtain ⟨ml, hml⟩ : ∃ ml, ml = (S.many ns zs k).length := ⟨_, rfl⟩
      rw [← hml] at ML ln ⊢
      have HML := hide hml
      clear hml
      have q5 : IntKind.i64.wrap ((ml : Int) + 1) = (ml : Int) + 1 := by rw [IntKind.wrap_i64]; omega
      have q6 : IntKind.i64.wrap ((ml : Int) + 1 + (a : Int)) = (ml : Int) + 1 + (a : Int) := by rw [IntKind.wrap_i64]; omega
      go_wp2_with fail
      refine (within_any _ 7 w2 hzk.1 hzk.2 (by decide) (by decide)).mono ?_
      rintro e w3 ⟨rfl, rfl⟩
      rw [← HA.out]
      clear c
      go_wp2_with fail
      go_roundw
      case rel => exact ⟨k + 1, v2, by omega, by go_num, by rw [ML.out]; go_num, by rw [← MK.out]; exact W2.out, O2.out, BB.out⟩
      case measure => simp [intOf]; omega
    · rw [decide_eq_false hlt]
      obtain rfl : C = k := by omega
      go_wp2_with fail
      obtain ⟨X, hX⟩ : ∃ X, X = S.many ns zs C := ⟨_, rfl⟩
      have hXl : X.length ≤ 320 := by rw [hX]; have := S.many_len ns zs C; omega
      rw [← hX] at WW ⊢
      have HX := hide hX
      clear hX hlt OO HGW
      refine (done_any gw v X wr WW.out (by omega)).mono ?_
      rintro e w5 ⟨rfl, hr5, hb5⟩
      have B5 := hide (BB.out.trans (hb5.mono BB.out.size))
      have S5 := hide ((stays_row (p := fun _ => False) hr5 (fun e => e) (by omega)).now)
      clear hr5 hb5 WW BB
      go_wp2_with fail
      refine (newReader_any _ X w5 S5.out (by omega)).mono ?_
      rintro e w6 ⟨g, t, rfl, hg6, _, hr6, hb6⟩
      have R6 := hide hr6
      have B6 := hide (B5.out.trans (hb6.mono B5.out.size))
      have lg : w.heap.size ≤ g := Nat.le_trans B5.out.size hg6
      clear hr6 hb6 B5 S5 hg6
      go_wp2_with fail
      go_loopw [10] (fun i ws => ∃ k : Nat, k ≤ C ∧ i = .int .i64 (k : Int) ∧ RdIs ws g t ⟨X, (S.many ns zs k).length, 0, 0⟩ ∧ Below w.heap.size w ws) (fun i _ => C - (intOf i).toNat)
      case atStart => exact ⟨0, Nat.zero_le _, rfl, R6.out, B6.out⟩
      case round =>
        obtain ⟨k, hk2, rfl, hr, hb⟩ := hrel
        have RR := hide hr
        have BB := hide hb
        clear hr hb R6 B6
        go_upto_region 15 with fail
        go_cut [77] (fun b wc => wr = wc ∧ b = .bool (decide (k < C)))
        case first =>
          by_cases h1 : k < l0
          · have q1 : (k : Int) < (l0 : Int) := by omega
            by_cases h2 : k < l1
            · have q2 : (k : Int) < (l1 : Int) := by omega
              by_cases h3 : k < 40
              · have q3 : (k : Int) < 40 := by omega
                have R : Hid (Value.bool true = .bool (decide (k < C))) := by show Value.bool true = _; rw [decide_eq_true (by have := HC.out; omega)]
                go_wp2_with fail
                go_meet
                exact ⟨rfl, R.out⟩
              · have q3 : ¬ ((k : Int) < 40) := by omega
                have R : Hid (Value.bool false = .bool (decide (k < C))) := by show Value.bool false = _; rw [decide_eq_false (by have := HC.out; omega)]
                go_wp2_with fail
                go_meet
                exact ⟨rfl, by first | exact R.out | (rw [← R.out]; simp; omega)⟩
            · have q2 : ¬ ((k : Int) < (l1 : Int)) := by omega
              have R : Hid (Value.bool false = .bool (decide (k < C))) := by show Value.bool false = _; rw [decide_eq_false (by have := HC.out; omega)]
              go_wp2_with fail
              go_meet
              exact ⟨rfl, by first | exact R.out | (rw [← R.out]; simp; omega)⟩
          · have q1 : ¬ ((k : Int) < (l0 : Int)) := by omega
            have R : Hid (Value.bool false = .bool (decide (k < C))) := by show Value.bool false = _; rw [decide_eq_false (by have := HC.out; omega)]
            go_wp2_with fail
            go_meet
            exact ⟨rfl, by first | exact R.out | (rw [← R.out]; simp; omega)⟩
        case rest =>
        obtain ⟨rfl, rfl⟩ := hcut
        by_cases hlt : k < C
        · rw [decide_eq_true hlt]
          have q0 : (0 : Int) ≤ (k : Int) := by omega
          have q1 : (k : Int) < (l0 : Int) := by omega
          have q2 : (k : Int) < (l1 : Int) := by omega
          have q4 : IntKind.i64.wrap ((k : Int) + 1) = (k : Int) + 1 := by rw [IntKind.wrap_i64]; omega
          obtain ⟨b0, o0, ha0, lb0, hc0⟩ := HV0.out.2 (by omega)
          obtain ⟨b1, o1, ha1, lb1, hc1⟩ := HV1.out.2 (by omega)
          have CL := hide (hc0 k (by omega))
          have CZ := hide (hc1 k (by omega))
          subst ha0 ha1
          have hnk := HN.out k
          have hzk := HZ.out k
          obtain ⟨m, hm⟩ : ∃ m, m = (ns.getD k 0).toNat := ⟨_, rfl⟩
          have hmz : ns.getD k 0 = (m : Int) := by omega
          have HMZ := hide hmz
          obtain ⟨a, ha⟩ : ∃ a, a = S.within (zs.getD k 0) 7 := ⟨_, rfl⟩
          have ha7 : a ≤ 7 := by have := S.within_le (zs.getD k 0) 7 (by decide); rw [← ha] at this; omega
          have HA := hide ha
          have q3 : IntKind.i64.wrap (1 + (a : Int)) = 1 + (a : Int) := by rw [IntKind.wrap_i64]; omega
          obtain ⟨V, hV⟩ : ∃ V, V = m % 256 ^ (a + 1) := ⟨_, rfl⟩
          have NUM : Hid ((S.Rd.mk X (S.many ns zs k).length 0 0).number (1 + (a : Int)) = (⟨X, (S.many ns zs (k + 1)).length, 0, 0⟩, V)) := by rw [hV, hm, HX.out]; exact many_number ns zs k C a hlt ha ha7
          have c := (BB.out.cell (p := ⟨b1, o1 + k, none⟩) (by exact lb1)).trans CZ.out
          have cl := (BB.out.cell (p := ⟨b0, o0 + k, none⟩) (by exact lb0)).trans CL.out
          rw [hmz] at cl
          have hm64 : m < 18446744073709551616 := by omega
          clear hc0 hc1 hmz HMZ
          go_wp2_with fail
          refine (within_any _ 7 wr hzk.1 hzk.2 (by decide) (by decide)).mono ?_
          rintro e w3 ⟨rfl, rfl⟩
          rw [← HA.out]
          clear c ha hm hnk
          by_cases h8 : a + 1 < 8
          · have s1 : 1 + (a : Int) < 8 := by omega
            obtain ⟨P, s2, hP0, s4⟩ := cut_one m a h8
            rw [← hV] at s4
            have s3 : ¬ ((P : Int) = 0) := by omega
            have s5 : ((P : Int) == 0) = false := by simp; omega
            have HVV := hide hV
            clear hV
            go_wp2_with fail
            refine (rnumber_is g t wr NUM.out RR.out).mono ?_
            rintro e w4 ⟨rfl, hr, hc⟩
            have R4 := hide hr
            have B4 := hide (BB.out.trans (hc.base BB.out.size lg))
            clear hr hc RR BB cl
            go_wp2_with fail
            go_roundw
            case rel => exact ⟨k + 1, by omega, by go_num, R4.out, B4.out⟩
            case measure => simp [intOf]; omega
          · have s1 : ¬ (1 + (a : Int) < 8) := by omega
            have hmv : V = m := by rw [hV, show a + 1 = 8 from by omega, show (256 : Nat) ^ 8 = 18446744073709551616 from by decide]; exact Nat.mod_eq_of_lt hm64
            clear hV
            subst hmv
            go_wp2_with fail
            refine (rnumber_is g t wr NUM.out RR.out).mono ?_
            rintro e w4 ⟨rfl, hr, hc⟩
            have R4 := hide hr
            have B4 := hide (BB.out.trans (hc.base BB.out.size lg))
            clear hr hc RR BB cl
            go_wp2_with fail
            go_roundw
            case rel => exact ⟨k + 1, by omega, by go_num, R4.out, B4.out⟩
            case measure => simp [intOf]; omega
        · rw [decide_eq_false hlt]
          obtain rfl : C = k := by omega
          go_wp2_with fail
          refine (rend_no g t wr (fin_all X _ (by rw [HX.out])) RR.out).mono ?_
          rintro e w4 ⟨rfl, hb⟩
          have B4 := hide (BB.out.trans (hb.mono BB.out.size))
          clear hb RR BB
          go_wp2_with fail
          refine (known_any w4 (HP.out.below B4.out)).mono ?_
          rintro e w5 ⟨rfl, hb⟩
          have Z := B4.out.trans (hb.mono B4.out.size)
          clear hb
          go_wp2_with fail
          go_ret
          exact ⟨rfl, Z⟩
end Go.Proofs.YtdhaeepaemneaaaDoor
