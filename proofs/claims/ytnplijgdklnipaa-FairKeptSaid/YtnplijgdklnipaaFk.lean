/- Same, Roomy and Intact of lanes. -/
import Derived.Test.YtnplijgdklnipaaFj
import Derived.Laws.StructEq
namespace Go.Proofs.Ytnplijgdklnipaa
open Go.RowKit
set_option maxHeartbeats 4000000 in
set_option maxRecDepth 100000 in
theorem same_l (v u : Value) (l : List S.Ln) (w : World) (hl : l.length ≤ 1000) (hv : LnAt w v l) (hu : LnAt w u l) :
   Calls Try.prog 28 #[v, u] w fun e w' => e = .returned (.bool true) ∧ Still w w' := by
  obtain ⟨ao, n, cap, rfl, hn, hncap⟩ := hv.form
  obtain ⟨ao2, n2, cap2, rfl, hn2, hncap2⟩ := hu.form
  obtain rfl : n = n2 := by omega
  have HN := hide hn
  have HV := hide hv
  have HU := hide hu
  have hnb : n ≤ 1000 := by rw [hn]; exact hl
  clear hv hu hn hn2 hl
  go_enter Try.func28, Try.ntmps28
  go_wp2_with fail
  go_loopg [5] n (fun gk s5 wr => ∃ i : Nat, i + gk = n ∧ s5 = .int .i64 (i : Int) ∧ Hid (Still w wr))
  case atStart => exact ⟨0, by omega, rfl, Still.refl _⟩
  case round =>
    obtain ⟨i, hi, rfl, ST⟩ := hrel
    cases gk with
    | zero =>
      obtain rfl : i = n := by omega
      have q : ¬ (i : Int) < (i : Int) := by omega
      clear hi
      go_wp2_with fail
      go_ret
      exact ⟨rfl, ST.out⟩
    | succ gO =>
      have q : (i : Int) < (n : Int) := by omega
      have q0 : (0 : Int) ≤ (i : Int) := by omega
      have q1 : IntKind.i64.wrap ((i : Int) + 1) = (i : Int) + 1 := by rw [IntKind.wrap_i64]; omega
      have hlt : i < l.length := by rw [← HN.out]; omega
      obtain ⟨g, off, rfl, hg, hra⟩ := lane_at HV.out i hlt
      obtain ⟨g2, off2, rfl, hg2, hra2⟩ := lane_at HU.out i hlt
      obtain ⟨x, hx⟩ : ∃ x, x = l.getD i S.l0 := ⟨_, rfl⟩
      rw [← hx] at hra hra2
      obtain ⟨c0, c1, c2⟩ := lane_cells (w := wr) (g := g) (o := off + i * 3) (x := x) (fun j y hy => (show wr.cell? ⟨g, off + i * 3 + j, none⟩ = w.cell? ⟨g, off + i * 3 + j, none⟩ from World.cell?_of_block (by rw [ST.out.1])).trans (hra j y hy))
      obtain ⟨d0, d1, d2⟩ := lane_cells (w := wr) (g := g2) (o := off2 + i * 3) (x := x) (fun j y hy => (show wr.cell? ⟨g2, off2 + i * 3 + j, none⟩ = w.cell? ⟨g2, off2 + i * 3 + j, none⟩ from World.cell?_of_block (by rw [ST.out.1])).trans (hra2 j y hy))
      obtain ⟨xw, xb, xd⟩ := x
      have HI := hide hi
      clear hra hra2 hg hg2 hx hlt hi
      go_upto_region 6 with fail
      go_quiet (fail)
      go_wp2_with fail
      go_roundg gO
      case rel => exact ⟨i + 1, by have := HI.out; omega, by simp, ST⟩
      case measure => omega
def S.mk7 : S.Ln := ⟨-7, 0, 0⟩
/-- A row of room N that begins with xs. -/
def Rmy (w : World) (g N : Nat) (xs : List S.Ln) : Prop := ∃ cur : Array Value, w.heap[g]? = some (.cells cur 28 (0, 0)) ∧ cur.size = N * 3 ∧ cur.toList.take (xs.length * 3) = xs.flatMap encL
theorem Rmy.rw {w : World} {g N : Nat} {xs : List S.Ln} (h : Rmy w g N xs) {B : Nat} (hB : B ≤ g) (hN : xs.length ≤ N) (hN2 : N ≤ 100000) : Rw 28 3 encL B w (.slice (some ⟨g, 0, none⟩) xs.length N) xs := by
  obtain ⟨cur, h1, h2, h3⟩ := h
  exact ⟨flat_gen xs (lenL xs), Or.inr ⟨g, N, cur, rfl, hB, h1, hN, by simp [maxLen]; omega, h2, h3⟩⟩
theorem take_set3 (c : List Value) (p : Nat) (a b d : Value) (h : p * 3 + 3 ≤ c.length) : (((c.set (p * 3) a).set (p * 3 + 1) b).set (p * 3 + 2) d).take ((p + 1) * 3) = c.take (p * 3) ++ [a, b, d] := by
  apply List.ext_getElem?
  intro i
  have hl : (c.take (p * 3)).length = p * 3 := by rw [List.length_take]; omega
  rw [List.getElem?_take]
  by_cases h1 : i < p * 3
  · rw [if_pos (by omega), List.getElem?_set_ne (by omega), List.getElem?_set_ne (by omega), List.getElem?_set_ne (by omega), List.getElem?_append_left (by omega), List.getElem?_take, if_pos h1]
  · rw [List.getElem?_append_right (by omega), hl]
    by_cases h2 : i < (p + 1) * 3
    · rw [if_pos h2]
      rcases (show i = p * 3 ∨ i = p * 3 + 1 ∨ i = p * 3 + 2 by omega) with rfl | rfl | rfl
      · rw [List.getElem?_set_ne (by omega), List.getElem?_set_ne (by omega), List.getElem?_set_self (by omega)]; simp
      · rw [List.getElem?_set_ne (by omega), List.getElem?_set_self (by simp; omega)]; simp
      · rw [List.getElem?_set_self (by simp; omega)]; simp
    · rw [if_neg h2, List.getElem?_eq_none (by simp; omega)]
theorem Rmy.more {w : World} {g N : Nat} {xs : List S.Ln} (h : Rmy w g N xs) (hN : xs.length < N) (y : S.Ln) : Rmy (((w.setCell ⟨g, xs.length * 3, none⟩ (.int .i64 y.w)).setCell ⟨g, xs.length * 3 + 1, none⟩ (.int .i64 y.b)).setCell ⟨g, xs.length * 3 + 2, none⟩ (.int .i64 y.d)) g N (xs ++ [y]) := by
  obtain ⟨cur, h1, h2, h3⟩ := h
  have e1 := heap_setCell_same w g (xs.length * 3) _ 28 (.int .i64 y.w) h1
  have e2 := heap_setCell_same _ g (xs.length * 3 + 1) _ 28 (.int .i64 y.b) e1
  have e3 := heap_setCell_same _ g (xs.length * 3 + 2) _ 28 (.int .i64 y.d) e2
  refine ⟨_, e3, by simpa using h2, ?_⟩
  simp only [Array.toList_setIfInBounds, List.length_append, List.length_singleton]
  rw [take_set3 _ _ _ _ _ (by rw [show cur.toList.length = N * 3 from (Array.length_toList).trans h2]; omega), h3, List.flatMap_append]
  rfl
theorem Rmy.below {w W : World} {g N B : Nat} {xs : List S.Ln} (h : Rmy w g N xs) (hb : Below B w W) (hg : g < B) : Rmy W g N xs := by
  obtain ⟨cur, h1, h2⟩ := h
  exact ⟨cur, (hb.block g hg).trans h1, h2⟩
theorem Rmy.still {w W : World} {g N : Nat} {xs : List S.Ln} (h : Rmy w g N xs) (hs : Still w W) : Rmy W g N xs := by
  obtain ⟨cur, h1, h2⟩ := h
  exact ⟨cur, by rw [hs.1]; exact h1, h2⟩
theorem Rmy.cells {w : World} {g N : Nat} {xs : List S.Ln} (h : Rmy w g N xs) (k : Nat) (hk : k < xs.length) : w.rangeAt g (k * 3) (encL (xs.getD k S.l0)) := by
  obtain ⟨cur, h1, h2, h3⟩ := h
  intro i u hu
  have hi : i < 3 := by have := (List.getElem?_eq_some_iff.1 hu).1; rwa [encL_length] at this
  rw [cell_of_row w g _ _ _ _ h1]
  have e := flat_get xs (lenL xs) k i hk hi
  rw [← h3, List.getElem?_take, if_pos (by omega)] at e
  rw [List.getD_eq_getElem?_getD, List.getElem?_eq_getElem hk] at hu
  rw [← Array.getElem?_toList, e]
  exact hu
theorem make24big (n N : Nat) (hN : N = n + 80) (hn : n ≤ 1000) : ∃ Z : Array Value, Z.size = N * 3 ∧ ∀ w : World, (Instr.makeSlice 24 (.int .i64 ((n : Int) + 80)) (.int .i64 ((n : Int) + 80))).run Try.prog w = .ok (.slice (some ⟨w.heap.size, 0, none⟩) N N) (w.alloc (.cells Z 28)) := by
  obtain ⟨Z, h1, h2⟩ := make24 N (by omega)
  refine ⟨Z, h1, fun w => ?_⟩
  have := h2 w
  rwa [show (N : Int) = (n : Int) + 80 by omega] at this
set_option maxHeartbeats 4000000 in
set_option maxRecDepth 100000 in
theorem roomy_l (v : Value) (l : List S.Ln) (w : World) (hv : LnAt w v l) (hl : l.length ≤ 1000) :
   Calls Try.prog 13 #[v, .agg #[.int .i64 (-7), .int .i64 0, .int .i64 0]] w fun e w' => ∃ g, e = .returned (.slice (some ⟨g, 0, none⟩) (l.length + 80) (l.length + 80)) ∧ w.heap.size ≤ g ∧ Rmy w' g (l.length + 80) (l ++ List.replicate 80 S.mk7) ∧ Below w.heap.size w w' := by
  obtain ⟨ao, n, cap, rfl, hn, hncap⟩ := hv.form
  obtain ⟨NN, hNN⟩ : ∃ NN, NN = n + 80 := ⟨_, rfl⟩
  obtain ⟨Z, hZ, hmk⟩ := make24big n NN hNN (by omega)
  have HV := hide hv
  have HN := hide hn
  have HB : Hid (n ≤ 1000) := by show n ≤ 1000; omega
  have HZ := hide hZ
  have q8 : IntKind.i64.wrap ((n : Int) + 80) = (n : Int) + 80 := wrap_small (by omega) (by omega)
  rw [← hn, ← hNN]
  have HNN := hide hNN
  clear hv hn hl hZ hNN
  go_enter Try.func13, Try.ntmps13
  go_upto_region 2 with fail
  generalize hX : World.alloc _ _ = X
  obtain ⟨g, hg⟩ : ∃ g, g = w.heap.size + 1 := ⟨_, rfl⟩
  have X0 : Hid (Cel X w.heap.size 28 (.int .i64 (-7)) (.int .i64 0) (.int .i64 0) ∧ X.heap[g]? = some (.cells Z 28 (0, 0)) ∧ Below w.heap.size w X) := by
    show _ ∧ _ ∧ _
    rw [← hX, hg]
    exact ⟨(Cel.new _ _ _ _ _).below (one_below _ _), two_top _ _ _, two_below _ _ _⟩
  rw [← hg]
  have HGG := hide hg
  clear hX hmk hg
  have CP := hide (run_copy_rows (dT := 24) (sT := 24) (ty := 3) (el := 28) (m := NN) (cap := NN) Try.underlying24 size28 X0.out.2.1 (HV.out.below (X0.out.2.2.mono (Nat.le_refl _))).src (by have := HN.out; have := HNN.out; omega) HZ.out)
  go_upto_region 3 with (refine wpList_copy_known rfl (.tmp 11) (.tmp 12) 24 24 rfl _ _ rfl rfl CP.out ?_; rintro W1 ⟨hr1, hc1, hs1⟩)
  have S1 : Hid (Cel W1 w.heap.size 28 (.int .i64 (-7)) (.int .i64 0) (.int .i64 0) ∧ Rmy W1 g NN l ∧ Below w.heap.size w W1) := by
    have hgg := HGG.out
    have hle : l.length * 3 ≤ NN * 3 := by have := HN.out; have := HNN.out; omega
    have hfl : (l.flatMap encL).length = l.length * 3 := flat_gen l (lenL l)
    refine ⟨⟨(hc1.block _ X0.out.1.lt (by omega)).trans X0.out.1.row⟩, ⟨_, hr1, ?_, ?_⟩, X0.out.2.2.trans (hc1.below _ X0.out.2.2.size (fun k hk e => by omega))⟩
    · have hz : Z.toList.length = NN * 3 := (Array.length_toList).trans HZ.out
      rw [List.size_toArray, List.length_append, List.length_drop, hz, hfl]; omega
    · show List.take (l.length * 3) (l.flatMap encL ++ _) = _
      rw [← hfl, List.take_left]
  clear hr1 hc1 hs1 CP X0
  try simp only [Act.put, List.setIfInBounds_toArray, List.set_cons_zero, List.set_cons_succ]
  go_wp2_with fail
  go_loopg [6] 80 (fun gk s6 wr => ∃ m k : Nat, m + gk = 80 ∧ k = n + m ∧ s6 = .int .i64 (k : Int) ∧ Hid (Cel wr w.heap.size 28 (.int .i64 (-7)) (.int .i64 0) (.int .i64 0) ∧ Rmy wr g NN (l ++ List.replicate m S.mk7) ∧ Below w.heap.size w wr))
  case atStart => exact ⟨0, n, by omega, by omega, rfl, by rw [List.replicate_zero, List.append_nil]; exact S1⟩
  case round =>
    obtain ⟨m, k, hm, hk, rfl, R⟩ := hrel
    have HK := hide hk
    cases gk with
    | zero =>
      obtain rfl : m = 80 := by omega
      have e : k = NN := by have := HNN.out; omega
      subst e
      have q : ¬ (k : Int) < (k : Int) := by omega
      clear hm hk
      go_wp2_with fail
      go_ret
      exact ⟨g, rfl, by have := HGG.out; omega, R.out.2.1, R.out.2.2⟩
    | succ gO =>
      have hll : (l ++ List.replicate m S.mk7).length = k := by have := HN.out; simp; omega
      have hkN : k < NN := by have := HNN.out; omega
      have q : (k : Int) < (NN : Int) := by omega
      have q0 : (0 : Int) ≤ (k : Int) := by omega
      have q1 : IntKind.i64.wrap ((k : Int) + 1) = (k : Int) + 1 := wrap_small (by omega) (by have := HB.out; omega)
      obtain ⟨b0, b1, b2⟩ := R.out.1.c
      have M := hide (R.out.2.1.more (by rw [hll]; exact hkN) S.mk7)
      rw [hll] at M
      obtain ⟨cur, hcur, hcs, -⟩ : ∃ cur : Array Value, wr.heap[g]? = some (.cells cur 28 (0, 0)) ∧ cur.size = NN * 3 ∧ True := by obtain ⟨cur, h1, h2, _⟩ := R.out.2.1; exact ⟨cur, h1, h2, trivial⟩
      have cc (j : Nat) (hj : j < 3) : ∃ v, wr.cell? ⟨g, k * 3 + j, none⟩ = some v := ⟨_, by rw [cell_of_row wr g _ _ _ _ hcur]; exact Array.getElem?_eq_getElem (by rw [hcs]; omega)⟩
      obtain ⟨v0, d0⟩ := cc 0 (by omega)
      obtain ⟨v1, d1⟩ := cc 1 (by omega)
      obtain ⟨v2, d2⟩ := cc 2 (by omega)
      replace d0 : wr.cell? ⟨g, k * 3, none⟩ = some v0 := d0
      have f0 := frozen_of_row _ _ (k * 3) _ _ hcur
      have f1 := frozen_of_row _ _ (k * 3 + 1) _ _ hcur
      have f2 := frozen_of_row _ _ (k * 3 + 2) _ _ hcur
      have hgw : w.heap.size ≤ g := by have := HGG.out; omega
      have hne : w.heap.size ≠ g := by have := HGG.out; omega
      have R2 : Hid (Cel (((wr.setCell ⟨g, k * 3, none⟩ (.int .i64 (-7))).setCell ⟨g, k * 3 + 1, none⟩ (.int .i64 0)).setCell ⟨g, k * 3 + 2, none⟩ (.int .i64 0)) w.heap.size 28 (.int .i64 (-7)) (.int .i64 0) (.int .i64 0) ∧ Rmy (((wr.setCell ⟨g, k * 3, none⟩ (.int .i64 (-7))).setCell ⟨g, k * 3 + 1, none⟩ (.int .i64 0)).setCell ⟨g, k * 3 + 2, none⟩ (.int .i64 0)) g NN (l ++ List.replicate (m + 1) S.mk7) ∧ Below w.heap.size w (((wr.setCell ⟨g, k * 3, none⟩ (.int .i64 (-7))).setCell ⟨g, k * 3 + 1, none⟩ (.int .i64 0)).setCell ⟨g, k * 3 + 2, none⟩ (.int .i64 0))) := by
        refine ⟨⟨(heap_setCell_other _ _ _ _ hne).trans ((heap_setCell_other _ _ _ _ hne).trans ((heap_setCell_other _ _ _ _ hne).trans R.out.1.row))⟩, ?_, ((R.out.2.2.setCell (p := ⟨g, k * 3, none⟩) hgw _).setCell (p := ⟨g, k * 3 + 1, none⟩) hgw _).setCell (p := ⟨g, k * 3 + 2, none⟩) hgw _⟩
        rw [List.replicate_succ', ← List.append_assoc]
        exact M.out
      have HM := hide hm
      clear M cc hcur hcs hll hkN hgw hne hm hk R
      go_wp2_with fail
      go_roundg gO
      case rel => exact ⟨m + 1, k + 1, by have := HM.out; omega, by have := HK.out; omega, by simp, R2⟩
      case measure => omega
set_option maxHeartbeats 4000000 in
set_option maxRecDepth 100000 in
theorem intact_l (g : Nat) (v : Value) (l : List S.Ln) (NN : Nat) (w : World) (hN : NN = l.length + 80) (hl : l.length ≤ 1000) (hv : LnAt w v l) (hg : Rmy w g NN (l ++ List.replicate 80 S.mk7)) :
   Calls Try.prog 16 #[.slice (some ⟨g, 0, none⟩) NN NN, v, .agg #[.int .i64 (-7), .int .i64 0, .int .i64 0]] w fun e w' => e = .returned (.bool true) ∧ Below w.heap.size w w' := by
  obtain ⟨ao, n, cap, rfl, hn, hncap⟩ := hv.form
  have q0 : (NN : Int) = (n : Int) + 80 := by omega
  have q1 : (n : Int) ≤ (NN : Int) := by omega
  have q2 : (0 : Int) ≤ (n : Int) := by omega
  have q8 : IntKind.i64.wrap ((n : Int) + 80) = (NN : Int) := by rw [q0]; exact wrap_small (by omega) (by omega)
  have HV := hide hv
  have HN := hide hn
  have HNN : Hid (NN = n + 80 ∧ n ≤ 1000) := ⟨by omega, by omega⟩
  have HG := hide hg
  have HP : Hid (LnAt w (.slice (some ⟨g, 0, none⟩) n NN) l) := by
    obtain ⟨cur, h1, h2, h3⟩ := hg
    rw [hn]
    refine Rw.lnAt (el := 28) (B := 0) ⟨flat_gen l (lenL l), Or.inr ⟨g, NN, cur, rfl, Nat.zero_le _, h1, by omega, by simp [maxLen]; omega, h2, ?_⟩⟩
    have t1 : List.take (l.length * 3) (List.take ((l ++ List.replicate 80 S.mk7).length * 3) cur.toList) = List.take (l.length * 3) cur.toList := by rw [List.take_take, Nat.min_eq_left (Nat.mul_le_mul_right 3 (by simp))]
    rw [← t1, h3, List.flatMap_append, ← flat_gen l (lenL l), List.take_left]
  clear hv hn hN hl hg
  go_enter Try.func16, Try.ntmps16
  go_upto_region 1 with fail
  generalize hX : World.alloc _ _ = X
  obtain ⟨gb, hgb⟩ : ∃ gb, gb = w.heap.size := ⟨_, rfl⟩
  have X0 : Hid (Cel X gb 28 (.int .i64 (-7)) (.int .i64 0) (.int .i64 0) ∧ Below w.heap.size w X) := by
    show _ ∧ _
    rw [← hX, hgb]
    exact ⟨Cel.new _ _ _ _ _, one_below _ _⟩
  rw [← hgb]
  clear hX hgb
  have PX := hide (HP.out.below X0.out.2)
  have VX := hide (HV.out.below X0.out.2)
  have GX := hide (HG.out.below X0.out.2 (by obtain ⟨cur, h1, _⟩ := HG.out; exact block_lt_of_row h1))
  go_wp2_with fail
  go_at_call 28
  refine (same_l _ _ l X (by have := HNN.out.2; have := HN.out; omega) PX.out VX.out).mono ?_
  rintro e w1 ⟨rfl, hst⟩
  have T1 := hide (X0.out.1.below (Still.blw hst _))
  have B1 := hide (X0.out.2.trans (Still.blw hst _))
  have G1 := hide (GX.out.still hst)
  clear hst PX VX GX X0
  go_wp2_with fail
  go_loopg [7] 80 (fun gk s7 wr => ∃ k : Nat, k + gk = NN ∧ n ≤ k ∧ s7 = .int .i64 (k : Int) ∧ Hid (Still w1 wr))
  case atStart => exact ⟨n, by have := HNN.out; omega, by omega, rfl, Still.refl _⟩
  case round =>
    obtain ⟨k, hk, hk2, rfl, ST⟩ := hrel
    cases gk with
    | zero =>
      obtain rfl : k = NN := by omega
      have q : ¬ (k : Int) < (k : Int) := by omega
      clear hk q0 q1 q8
      go_wp2_with fail
      go_ret
      exact ⟨rfl, B1.out.trans (Still.blw ST.out _)⟩
    | succ gO =>
      have q : (k : Int) < (NN : Int) := by omega
      have p0 : (0 : Int) ≤ (k : Int) := by omega
      have p1 : IntKind.i64.wrap ((k : Int) + 1) = (k : Int) + 1 := wrap_small (by omega) (by have := HNN.out; omega)
      have hr := (G1.out.still ST.out).cells k (by have := HNN.out; have := HN.out; simp; omega)
      rw [show (l ++ List.replicate 80 S.mk7).getD k S.l0 = S.mk7 by
        rw [List.getD_eq_getElem?_getD, List.getElem?_append_right (by have := HN.out; omega), List.getElem?_replicate, if_pos (by have := HNN.out; have := HN.out; omega)]; rfl] at hr
      obtain ⟨c0, c1, c2⟩ := lane_cells hr
      replace c0 : wr.cell? ⟨g, k * 3, none⟩ = some (.int .i64 (-7)) := c0
      replace c1 : wr.cell? ⟨g, k * 3 + 1, none⟩ = some (.int .i64 0) := c1
      replace c2 : wr.cell? ⟨g, k * 3 + 2, none⟩ = some (.int .i64 0) := c2
      obtain ⟨d0, d1, d2⟩ := (T1.out.below (Still.blw ST.out _)).c
      have HK := hide (And.intro hk hk2)
      clear hr hk hk2 q0 q1 q2 q8
      go_upto_region 6 with fail
      go_quiet (fail)
      go_wp2_with fail
      go_roundg gO
      case rel => exact ⟨k + 1, by have := HK.out; omega, by have := HK.out; omega, by simp, ST⟩
      case measure => omega
end Go.Proofs.Ytnplijgdklnipaa
