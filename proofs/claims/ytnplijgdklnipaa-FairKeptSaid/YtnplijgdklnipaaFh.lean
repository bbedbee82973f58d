/- The document's Serve. -/
import Derived.Test.YtnplijgdklnipaaFg
import Derived.Great.BuildSlice
namespace Go.Proofs.Ytnplijgdklnipaa
open Go.RowKit
theorem chg3 (W : World) (g : Nat) (x y z : Value) : Chg (fun k => k = g) W (((W.setCell ⟨g, 0, none⟩ x).setCell ⟨g, 1, none⟩ y).setCell ⟨g, 2, none⟩ z) :=
  Chg.setCell (p := fun k => k = g) (Chg.setCell (p := fun k => k = g) (Chg.setCell (p := fun k => k = g) (Chg.refl _ W) g 0 x (fun _ => rfl)) g 1 y (fun _ => rfl)) g 2 z (fun _ => rfl)
/-- One of a row is set. -/
theorem Rw.put {el : TypeId} {B : Nat} {w : World} {g n cap : Nat} {l : List S.Ln} (h : Rw el 3 encL B w (.slice (some ⟨g, 0, none⟩) n cap) l) (k : Nat) (y : S.Ln) (hk : k < l.length) :
    Rw el 3 encL B (((w.setCell ⟨g, k * 3, none⟩ (.int .i64 y.w)).setCell ⟨g, k * 3 + 1, none⟩ (.int .i64 y.b)).setCell ⟨g, k * 3 + 2, none⟩ (.int .i64 y.d)) (.slice (some ⟨g, 0, none⟩) n cap) (l.set k y) := by
  have e : ((l.set k y).flatMap encL).length = (l.set k y).length * 3 := flat_gen _ (lenL _)
  rcases h.2 with ⟨e0, _⟩ | ⟨g', cap', cur, e0, hB, hr, q1, q2, q3, q4⟩
  · simp at e0
  · simp only [Value.slice.injEq, Option.some.injEq, Addr.mk.injEq] at e0
    obtain ⟨⟨rfl, -, -⟩, rfl, rfl⟩ := e0
    have h1 := heap_setCell_same w g (k * 3) _ el (.int .i64 y.w) hr
    have h2 := heap_setCell_same _ g (k * 3 + 1) _ el (.int .i64 y.b) h1
    have h3 := heap_setCell_same _ g (k * 3 + 2) _ el (.int .i64 y.d) h2
    refine ⟨e, Or.inr ⟨g, cap, _, by rw [List.length_set], hB, h3, by rw [List.length_set]; exact q1, q2, by simpa using q3, ?_⟩⟩
    rw [List.length_set]
    simp only [Array.toList_setIfInBounds, List.take_set, q4]
    exact flat_set l k y hk
/-- The block of a row that is not empty. -/
theorem Rw.blk0 {el : TypeId} {B : Nat} {w : World} {u : Value} {l : List S.Ln} (h : Rw el 3 encL B w u l) (hp : 0 < l.length) : ∃ g cap, u = .slice (some ⟨g, 0, none⟩) l.length cap ∧ l.length ≤ cap ∧ B ≤ g ∧ ∃ cur, w.heap[g]? = some (.cells cur el (0, 0)) := by
  rcases h.2 with ⟨e0, h0⟩ | ⟨g, cap, cur, e0, hB, hr, q1, q2, q3, q4⟩
  · omega
  · exact ⟨g, cap, e0, q1, hB, cur, hr⟩
theorem Rw.cells {el : TypeId} {B : Nat} {w : World} {g n cap : Nat} {l : List S.Ln} (h : Rw el 3 encL B w (.slice (some ⟨g, 0, none⟩) n cap) l) (k : Nat) (hk : k < l.length) : w.rangeAt g (k * 3) (encL (l.getD k S.l0)) := by
  obtain ⟨g', cap', e, _, _, hr⟩ := h.at_ (lenL l) k _ (List.getElem?_eq_getElem hk)
  simp only [Value.slice.injEq, Option.some.injEq, Addr.mk.injEq] at e
  obtain ⟨⟨rfl, -, -⟩, -, -⟩ := e
  rw [List.getD_eq_getElem?_getD, List.getElem?_eq_getElem hk]
  exact hr
/-- The place that is i behind a, round n. -/
theorem mod_two {a i n k : Nat} (hk : k = (a + i) % n) (ha : a < n) (hi : i < n) : a + i < n ∧ k = a + i ∨ n ≤ a + i ∧ k = a + i - n := by
  by_cases h : a + i < n
  · exact Or.inl ⟨h, by rw [hk, Nat.mod_eq_of_lt h]⟩
  · refine Or.inr ⟨by omega, ?_⟩
    rw [hk, Nat.mod_eq_sub_mod (by omega), Nat.mod_eq_of_lt (by omega)]
theorem S.find_at {l : List S.Ln} {a i k n : Nat} (hn : n = l.length) (ha : a < n) (hi : i < n) (hk : k = (a + i) % n) (hw : 1 ≤ (l.getD k S.l0).w) (hb : ∀ j, j < i → (l.getD ((a + j) % n) S.l0).w < 1) : S.find l a = some k := by
  have key : ∀ j, a ≤ j → j < a + i → j < n → (l.getD j S.l0).w < 1 := fun j h1 h2 h3 => by
    have := hb (j - a) (by omega)
    rwa [show a + (j - a) = j by omega, Nat.mod_eq_of_lt h3] at this
  rcases mod_two hk ha hi with ⟨h1, rfl⟩ | ⟨h1, h2⟩
  · exact S.find_here (by omega) (by omega) hw (fun j h2 h3 => key j h2 h3 (by omega))
  · refine S.find_round (by omega) (fun j h3 h4 => key j h3 (by omega) (by omega)) (by omega) hw (fun j h3 => ?_)
    have := hb (j + n - a) (by omega)
    rwa [show a + (j + n - a) = j + n by omega, Nat.add_mod_right, Nat.mod_eq_of_lt (by omega)] at this
theorem S.find_all {l : List S.Ln} {a n : Nat} (hn : n = l.length) (ha : a < n ∨ n = 0 ∧ a = 0) (hb : ∀ j, j < n → (l.getD ((a + j) % n) S.l0).w < 1) : S.find l a = none := by
  refine S.find_none (by omega) (fun j hj => ?_)
  by_cases h : a ≤ j
  · have := hb (j - a) (by omega)
    rwa [show a + (j - a) = j by omega, Nat.mod_eq_of_lt (by omega)] at this
  · have := hb (j + n - a) (by omega)
    rwa [show a + (j + n - a) = j + n by omega, Nat.add_mod_right, Nat.mod_eq_of_lt (by omega)] at this
theorem S.pos_lt (at_ : Int) (n : Nat) : S.pos at_ n < n ∨ n = 0 ∧ S.pos at_ n = 0 := by unfold S.pos; split <;> omega
set_option maxHeartbeats 6400000 in
set_option maxRecDepth 100000 in
theorem rServe_any (v : Value) (l : List S.Ln) (at_ q : Int) (w : World) (hv : LnAt w v l) (hm : ∀ x ∈ l, S.Mild x) (hl : l.length ≤ 1000) :
   Calls Try.prog 14 #[v, .int .i64 at_, .int .i64 q] w fun e w' => ∃ u, e = .returned (.tuple #[.agg #[.int .i64 (S.lane l (S.pos at_ l.length)), .int .i64 (S.took l (S.pos at_ l.length) q), .int .i64 (S.next l (S.pos at_ l.length) : Int)], u]) ∧ Rw 39 3 encL w.heap.size w' u (S.after l (S.pos at_ l.length) q) ∧ Below w.heap.size w w' := by
  obtain ⟨ao, n, cap, rfl, hn, hncap⟩ := hv.form
  have HV := hide hv
  have HN := hide hn
  have HB : Hid (n ≤ 1000) := by show n ≤ 1000; omega
  have HM := hide hm
  obtain ⟨a, ha⟩ : ∃ a, a = S.pos at_ l.length := ⟨_, rfl⟩
  have HA : Hid (a ≤ n ∧ a = S.pos at_ n ∧ (a < n ∨ n = 0 ∧ a = 0)) := ⟨by rw [ha, hn]; exact S.pos_le _ _, by rw [ha, hn], by rw [ha, hn]; exact S.pos_lt _ _⟩
  rw [← ha]
  clear hv hn ha hl hm
  go_enter Try.func14, Try.ntmps14
  go_upto_region 1 with fail
  generalize hX : World.alloc _ _ = X
  have X0 : Hid (Cel X w.heap.size 33 (.int .i64 0) (.int .i64 0) (.int .i64 0) ∧ Below w.heap.size w X) := by
    show _ ∧ _
    rw [← hX]
    exact ⟨Cel.new _ _ _ _ _, one_below _ _⟩
  clear hX
  obtain ⟨Y, hY⟩ : ∃ Y, Y = X.alloc (.cells #[] 39) := ⟨_, rfl⟩
  have Y0 : Hid (Rw 39 3 encL w.heap.size Y (.slice (some ⟨X.heap.size, 0, none⟩) 0 0) [] ∧ Cel Y w.heap.size 33 (.int .i64 0) (.int .i64 0) (.int .i64 0) ∧ Below w.heap.size w Y ∧ X.heap.size ≠ w.heap.size) := by
    have hs := X0.out.1.lt
    refine ⟨?_, ?_, ?_, by omega⟩
    · rw [hY]; exact ⟨rfl, Or.inr ⟨X.heap.size, 0, #[], rfl, by omega, heap_alloc_new _ _, Nat.le_refl _, by simp [maxLen], rfl, rfl⟩⟩
    · rw [hY]; exact X0.out.1.below (one_below _ _)
    · rw [hY]; exact X0.out.2.trans ((one_below _ _).mono X0.out.2.size)
  have HY := hide hY
  have APP := hide (Rw.append kdR 34 (w := Y) (xs := []) (ys := l) Y0.out.1 (HV.out.below Y0.out.2.2.1).src (lenL l) (by have := HN.out; have := HB.out; simp; omega) Y0.out.2.2.1.size)
  clear hY X0
  go_upto_region 2 with (at_builtin; rw [← HY.out]; refine wpList_append_known rfl (.tmp 14) (.tmp 15) 34 34 rfl _ _ rfl rfl APP.out ?_; rintro u W1 ⟨hr1, hc1⟩)
  have S1 : Hid (Cel W1 w.heap.size 33 (.int .i64 0) (.int .i64 0) (.int .i64 0) ∧ Rw 39 3 encL w.heap.size W1 u l ∧ Below w.heap.size w W1 ∧ u.ownBlock ≠ some w.heap.size) := by
    have hne : ¬ (Value.slice (some ⟨X.heap.size, 0, none⟩) 0 0).ownBlock = some w.heap.size := by simp [Value.ownBlock]; exact Y0.out.2.2.2
    have hr2 : Rw 39 3 encL w.heap.size W1 u l := hr1
    have hce : Cel W1 w.heap.size 33 (.int .i64 0) (.int .i64 0) (.int .i64 0) := ⟨hc1.row Y0.out.2.1.row hne⟩
    refine ⟨hce, hr2, Y0.out.2.2.1.trans (hc1.below _ Y0.out.2.2.1.size (fun k hk e => ?_)), hr2.apart hce.row (by decide)⟩
    simp [Value.ownBlock] at e
    have := Y0.out.1.blk (j := X.heap.size) rfl
    omega
  clear hr1 hc1 HY Y0 APP
  try simp only [Act.put, List.setIfInBounds_toArray, List.set_cons_zero, List.set_cons_succ]
  obtain ⟨bo, hbo⟩ : ∃ bo : Bool, bo = decide (at_ < 0 ∨ at_ ≥ (n : Int)) := ⟨_, rfl⟩
  have HBO := hide hbo
  clear hbo
  go_cut [24] from 18 (fun s24 wx => s24 = .bool bo ∧ wx = W1)
  case first =>
    have hbo := HBO.out
    by_cases p1 : at_ < 0
    · have e : bo = true := by rw [hbo]; simp [p1]
      clear hbo
      go_wp2_with fail
      all_goals (go_meet; exact ⟨by rw [e], rfl⟩)
    · by_cases p2 : at_ ≥ (n : Int)
      · have e : bo = true := by rw [hbo]; simp [p2]
        clear hbo
        go_wp2_with fail
        all_goals (go_meet; exact ⟨by rw [e], rfl⟩)
      · have e : bo = false := by rw [hbo]; simp; omega
        clear hbo
        go_wp2_with fail
        all_goals (go_meet; exact ⟨by rw [e], rfl⟩)
  case rest =>
  obtain ⟨rfl, rfl⟩ := hcut
  obtain ⟨wo, rfl⟩ : ∃ wo : World, wo = wc := ⟨_, rfl⟩
  go_upto_if 24 with fail
  go_cut [1] from 25 (fun s1 wx => s1 = .int .i64 (a : Int) ∧ wx = wo)
  case first =>
    obtain ⟨hA1, hA2, -⟩ := HA.out
    have hbo := HBO.out
    cases bo with
    | true =>
      have e : (a : Int) = 0 := by rw [hA2]; unfold S.pos; rw [if_neg (by have := of_decide_eq_true hbo.symm; omega)]; rfl
      clear hbo hA2
      go_wp2_with fail
      all_goals (go_meet; exact ⟨by rw [e], rfl⟩)
    | false =>
      have e : (a : Int) = at_ := by have h := of_decide_eq_false hbo.symm; rw [hA2]; unfold S.pos; rw [if_pos (by omega)]; omega
      clear hbo hA2
      go_wp2_with fail
      all_goals (go_meet; exact ⟨by rw [e], rfl⟩)
  case rest =>
    obtain ⟨rfl, rfl⟩ := hcut
    go_wp2_with fail
    go_loopg [9] n (fun gk s9 wr => ∃ i : Nat, i + gk = n ∧ s9 = .int .i64 (i : Int) ∧ Hid (Still wc wr) ∧ Hid (∀ j, j < i → (l.getD ((a + j) % n) S.l0).w < 1))
    case atStart => exact ⟨0, by omega, rfl, Still.refl _, fun j hj => by omega⟩
    case round =>
      obtain ⟨i, hi, rfl, ST, NJ⟩ := hrel
      cases gk with
      | zero =>
        obtain rfl : i = n := by omega
        have F1 : Hid (S.lane l a = -1 ∧ S.took l a q = 0 ∧ S.next l a = a ∧ S.after l a q = l) := by
          have hf : S.find l a = none := S.find_all HN.out HA.out.2.2 NJ.out
          exact ⟨by rw [S.lane, hf]; rfl, by rw [S.took, hf], by rw [S.next, hf], by rw [S.after, hf]⟩
        have T1 := hide (S1.out.1.below (Still.blw ST.out _))
        obtain ⟨c0, c1, c2⟩ := T1.out.c
        have e0 := T1.out.fz 0
        have e1 := T1.out.fz 1
        have e2 := T1.out.fz 2
        have q0 : ¬ (i : Int) < (i : Int) := by omega
        have T5 := hide (((T1.out.set0 (.int .i64 (-1))).set1 (.int .i64 0)).set2 (.int .i64 (a : Int)))
        have B5 := hide ((((S1.out.2.2.1.trans (Still.blw ST.out _)).setCell (p := ⟨w.heap.size, 0, none⟩) (Nat.le_refl _) (.int .i64 (-1))).setCell (p := ⟨w.heap.size, 1, none⟩) (Nat.le_refl _) (.int .i64 0)).setCell (p := ⟨w.heap.size, 2, none⟩) (Nat.le_refl _) (.int .i64 (a : Int)))
        have R5 := hide (((S1.out.2.1.below (Still.blw ST.out _)).chg (W := ((wr.setCell ⟨w.heap.size, 0, none⟩ (.int .i64 (-1))).setCell ⟨w.heap.size, 1, none⟩ (.int .i64 0)).setCell ⟨w.heap.size, 2, none⟩ (.int .i64 (a : Int))) (p := fun k => k = w.heap.size) (chg3 _ _ _ _ _) (fun j hj e => S1.out.2.2.2 (e ▸ hj))))
        clear hi
        go_wp2
        refine bodyPost_ret (results_rt Try.results14 _ _ w.heap.size _ rfl (var33 T5.out.row)) rfl ?_
        exact ⟨_, by rw [F1.out.1, F1.out.2.1, F1.out.2.2.1], by rw [F1.out.2.2.2]; exact R5.out, B5.out⟩
      | succ gO =>
        have hin : i < n := by omega
        obtain ⟨k, hk⟩ : ∃ k, k = (a + i) % n := ⟨_, rfl⟩
        have han : a < n := by have := HA.out.2.2; omega
        have hkn : k < n := by rw [hk]; exact Nat.mod_lt _ (by omega)
        have HK := hide hk
        have HKN := hide hkn
        have hkl : k < l.length := by rw [← HN.out]; exact hkn
        have HKL := hide hkl
        obtain ⟨g, off, rfl, hg, hra⟩ := lane_at HV.out k hkl
        have MX : Hid (S.Mild (l.getD k S.l0)) := by
          show S.Mild _
          rw [List.getD_eq_getElem?_getD, List.getElem?_eq_getElem hkl]
          exact HM.out _ (List.getElem_mem hkl)
        obtain ⟨x, hx⟩ : ∃ x, x = l.getD k S.l0 := ⟨_, rfl⟩
        rw [← hx] at MX hra
        have HX := hide hx
        have BW : Hid (Below w.heap.size w wr) := S1.out.2.2.1.trans (Still.blw ST.out _)
        have HRA : Hid (∀ W, Below w.heap.size w W → W.rangeAt g (off + k * 3) (encL x)) := fun W hb => rangeAt_below hra hb hg
        obtain ⟨c0, c1, c2⟩ := lane_cells (HRA.out wr BW.out)
        have q0 : (i : Int) < (n : Int) := by omega
        have q1 : IntKind.i64.wrap ((a : Int) + (i : Int)) = (a : Int) + (i : Int) := wrap_small (by omega) (by have := HB.out; omega)
        have q2 : Int.tmod ((a : Int) + (i : Int)) (n : Int) = (k : Int) := by rw [Int.tmod_eq_emod_of_nonneg (by omega), hk]; simp
        have q3 : ¬ (n : Int) = 0 := by omega
        have q4 : IntKind.i64.wrap (k : Int) = (k : Int) := wrap_small (by omega) (by have := HB.out; omega)
        have q5 : (0 : Int) ≤ (k : Int) := by omega
        have q6 : (k : Int) < (n : Int) := by omega
        have q7 : IntKind.i64.wrap ((i : Int) + 1) = (i : Int) + 1 := wrap_small (by omega) (by have := HB.out; omega)
        have HI := hide (And.intro hin hi)
        have HAN := hide han
        clear hk hkn hkl hra hg hx hin hi han
        obtain ⟨xw, xb, xd⟩ := x
        by_cases hw : xw < 1
        · have NX : Hid (∀ j, j < i + 1 → (l.getD ((a + j) % n) S.l0).w < 1) := fun j hj => by
            by_cases e : j = i
            · rw [e, ← HK.out, ← HX.out]; exact hw
            · exact NJ.out j (by omega)
          go_wp2_with fail
          go_roundg gO
          case rel => exact ⟨i + 1, by have := HI.out.2; omega, by simp, ST, NX⟩
          case measure => omega
        · have F0 : Hid (S.find l a = some k) := S.find_at HN.out HAN.out HI.out.1 HK.out (by rw [← HX.out]; show 1 ≤ xw; omega) NJ.out
          have F1 : Hid (S.lane l a = (k : Int) ∧ S.took l a q = S.tk ⟨xw, xb, xd⟩ q ∧ S.next l a = (k + 1) % n ∧ S.after l a q = l.set k (S.one ⟨xw, xb, xd⟩ q)) := by
            rw [HX.out]
            exact ⟨by rw [S.lane, F0.out]; rfl, by rw [S.took, F0.out], by rw [S.next, F0.out, HN.out], by rw [S.after, F0.out]⟩
          clear F0
          go_upto_region 9 with fail
          clear c0 c1 c2
          obtain ⟨gu, cu, rfl, hcu, hgB, cur, hcur⟩ := Rw.blk0 S1.out.2.1 (by have := HKL.out; omega)
          have GU : Hid (gu ≠ w.heap.size ∧ w.heap.size ≤ gu ∧ gu < wc.heap.size) := ⟨fun e => S1.out.2.2.2 (by rw [e]; rfl), hgB, block_lt_of_row hcur⟩
          clear hcu hgB hcur
          have hs := S.sh_bounds xw q
          obtain ⟨hm1, ⟨hb1, hb2⟩, ⟨hd1, hd2⟩⟩ := MX.out
          replace hb1 : -100000000 ≤ xb := hb1
          replace hb2 : xb ≤ 100000000 := hb2
          replace hd1 : -100000000 ≤ xd := hd1
          replace hd2 : xd ≤ 100000000 := hd2
          obtain ⟨s, es⟩ : ∃ s, s = S.sh xw q := ⟨_, rfl⟩
          obtain ⟨t, et⟩ : ∃ t, t = S.tk ⟨xw, xb, xd⟩ q := ⟨_, rfl⟩
          have et2 : t = max (min (xd + s) xb) 0 := by rw [et, es]; rfl
          have HT := hide et2
          have HO : Hid (S.one ⟨xw, xb, xd⟩ q = ⟨xw, xb - t, if xb - t = 0 then 0 else xd + s - t⟩) := by show S.one _ _ = _; rw [et, es]; rfl
          rw [← es] at hs
          rw [← et] at F1
          have HS : Hid (IntKind.i64.wrap (S.cl xw 1 4 * S.cl q 1 2) = s) := by
            rw [es]
            show IntKind.i64.wrap (S.sh xw q) = S.sh xw q
            exact wrap_small (by omega) (by omega)
          obtain ⟨u1, eu⟩ : ∃ u1, u1 = S.cl xw 1 4 := ⟨_, rfl⟩
          obtain ⟨v1, ev⟩ : ∃ v1, v1 = S.cl q 1 2 := ⟨_, rfl⟩
          rw [← eu, ← ev] at HS
          have EU := hide eu
          have EV := hide ev
          have q8 : IntKind.i64.wrap (u1 * v1) = s := HS.out
          have q9 : IntKind.i64.wrap (xd + s) = xd + s := wrap_small (by omega) (by omega)
          have Q10 : Hid (IntKind.i64.wrap (xb - t) = xb - t) := wrap_small (by omega) (by omega)
          have Q11 : Hid (IntKind.i64.wrap (xd + s - t) = xd + s - t) := wrap_small (by omega) (by omega)
          clear es et et2 eu ev hm1 hb1 hb2 hd1 hd2 hs HS
          refine wp_region_noPanic ?_
          refine wp_region_held_drew (S := (fun W => Still wr W)) follows ((Still.refl _).drew) (fun hHeld => ?_)
          clear hHeld
          have hHeld : Still wr wr.drew := (Still.refl _).drew
          have CZ := hide hHeld
          generalize wr.drew = Z0 at CZ hHeld ⊢
          refine wpAnyH_take (i := 0) (oi := { dst := some 43, op := Op.move (Operand.tmp 0), type := 34, pos := "ref.go:34", after := #[], guard := none }) (v := ?_) rfl (by kernel_rfl) (by kernel_rfl) (by kernel_rfl) (fun _ _ _ h => h) (Or.inl ⟨by rfl, ?_⟩) (by assumption) ?_
          rotate_left
          · intro w hSw
            clear hSw
            go_simp
            all_goals with_reducible rfl
          simp only [Act.put, List.setIfInBounds_toArray, List.set_cons_zero, List.set_cons_succ]
          refine wpAnyH_take (i := 1) (oi := { dst := some 44, op := Op.move (Operand.tmp 10), type := 3, pos := "ref.go:34", after := #[], guard := none }) (v := ?_) rfl (by kernel_rfl) (by kernel_rfl) (by kernel_rfl) (fun _ _ _ h => h) (Or.inl ⟨by rfl, ?_⟩) (by assumption) ?_
          rotate_left
          · intro w hSw
            clear hSw
            go_simp
            all_goals with_reducible rfl
          simp only [Act.put, List.setIfInBounds_toArray, List.set_cons_zero, List.set_cons_succ]
          refine wpAnyH_take (i := 2) (oi := { dst := some 45, op := Op.indexAddr 34 (Operand.tmp 43) (Operand.tmp 44), type := 0, pos := "ref.go:34", after := #[{ on := 0, ground := Ground.data }, { on := 1, ground := Ground.data }], guard := none }) (v := ?_) rfl (by kernel_rfl) (by kernel_rfl) (by kernel_rfl) (fun _ _ _ h => h) (Or.inl ⟨by rfl, ?_⟩) (by assumption) ?_
          rotate_left
          · intro w hSw
            clear hSw
            go_simp
            all_goals with_reducible rfl
          simp only [Act.put, List.setIfInBounds_toArray, List.set_cons_zero, List.set_cons_succ]
          refine wpAnyH_take (i := 3) (oi := { dst := some 46, op := Op.fieldAddr 39 (Operand.tmp 45) 2, type := 0, pos := "ref.go:34", after := #[{ on := 2, ground := Ground.data }], guard := none }) (v := ?_) rfl (by kernel_rfl) (by kernel_rfl) (by kernel_rfl) (fun _ _ _ h => h) (Or.inl ⟨by rfl, ?_⟩) (by assumption) ?_
          rotate_left
          · intro w hSw
            clear hSw
            go_simp
            all_goals with_reducible rfl
          simp only [Act.put, List.setIfInBounds_toArray, List.set_cons_zero, List.set_cons_succ]
          refine wpAnyH_take (i := 4) (oi := { dst := some 47, op := Op.load 3 (Operand.tmp 46), type := 3, pos := "ref.go:34", after := #[{ on := 3, ground := Ground.data }], guard := none }) (v := ?_) rfl (by kernel_rfl) (by kernel_rfl) (by kernel_rfl) (fun _ _ _ h => h) (Or.inl ⟨by rfl, ?_⟩) (by assumption) ?_
          rotate_left
          · intro w hSw
            have c2 := (lane_cells (HRA.out w (BW.out.trans (Still.blw hSw _)))).2.2
            clear hSw
            go_simp
            all_goals with_reducible rfl
          simp only [Act.put, List.setIfInBounds_toArray, List.set_cons_zero, List.set_cons_succ]
          refine wpAnyH_take (i := 5) (oi := { dst := some 48, op := Op.move (Operand.tmp 0), type := 34, pos := "ref.go:34", after := #[], guard := none }) (v := ?_) rfl (by kernel_rfl) (by kernel_rfl) (by kernel_rfl) (fun _ _ _ h => h) (Or.inl ⟨by rfl, ?_⟩) (by assumption) ?_
          rotate_left
          · intro w hSw
            clear hSw
            go_simp
            all_goals with_reducible rfl
          simp only [Act.put, List.setIfInBounds_toArray, List.set_cons_zero, List.set_cons_succ]
          refine wpAnyH_take (i := 6) (oi := { dst := some 49, op := Op.move (Operand.tmp 10), type := 3, pos := "ref.go:34", after := #[], guard := none }) (v := ?_) rfl (by kernel_rfl) (by kernel_rfl) (by kernel_rfl) (fun _ _ _ h => h) (Or.inl ⟨by rfl, ?_⟩) (by assumption) ?_
          rotate_left
          · intro w hSw
            clear hSw
            go_simp
            all_goals with_reducible rfl
          simp only [Act.put, List.setIfInBounds_toArray, List.set_cons_zero, List.set_cons_succ]
          refine wpAnyH_take (i := 7) (oi := { dst := some 50, op := Op.indexAddr 34 (Operand.tmp 48) (Operand.tmp 49), type := 0, pos := "ref.go:34", after := #[{ on := 5, ground := Ground.data }, { on := 6, ground := Ground.data }], guard := none }) (v := ?_) rfl (by kernel_rfl) (by kernel_rfl) (by kernel_rfl) (fun _ _ _ h => h) (Or.inl ⟨by rfl, ?_⟩) (by assumption) ?_
          rotate_left
          · intro w hSw
            clear hSw
            go_simp
            all_goals with_reducible rfl
          simp only [Act.put, List.setIfInBounds_toArray, List.set_cons_zero, List.set_cons_succ]
          refine wpAnyH_take (i := 8) (oi := { dst := some 51, op := Op.fieldAddr 39 (Operand.tmp 50) 0, type := 0, pos := "ref.go:34", after := #[{ on := 7, ground := Ground.data }], guard := none }) (v := ?_) rfl (by kernel_rfl) (by kernel_rfl) (by kernel_rfl) (fun _ _ _ h => h) (Or.inl ⟨by rfl, ?_⟩) (by assumption) ?_
          rotate_left
          · intro w hSw
            clear hSw
            go_simp
            all_goals with_reducible rfl
          simp only [Act.put, List.setIfInBounds_toArray, List.set_cons_zero, List.set_cons_succ]
          refine wpAnyH_take (i := 9) (oi := { dst := some 52, op := Op.load 3 (Operand.tmp 51), type := 3, pos := "ref.go:34", after := #[{ on := 8, ground := Ground.data }], guard := none }) (v := ?_) rfl (by kernel_rfl) (by kernel_rfl) (by kernel_rfl) (fun _ _ _ h => h) (Or.inl ⟨by rfl, ?_⟩) (by assumption) ?_
          rotate_left
          · intro w hSw
            have c0 := (lane_cells (HRA.out w (BW.out.trans (Still.blw hSw _)))).1
            clear hSw
            go_simp
            all_goals with_reducible rfl
          simp only [Act.put, List.setIfInBounds_toArray, List.set_cons_zero, List.set_cons_succ]
          refine wpAnyH_take (i := 11) (oi := { dst := some 54, op := Op.move (Operand.tmp 2), type := 3, pos := "ref.go:34", after := #[], guard := none }) (v := ?_) rfl (by kernel_rfl) (by kernel_rfl) (by kernel_rfl) (fun _ _ _ h => h) (Or.inl ⟨by rfl, ?_⟩) (by assumption) ?_
          rotate_left
          · intro w hSw
            clear hSw
            go_simp
            all_goals with_reducible rfl
          simp only [Act.put, List.setIfInBounds_toArray, List.set_cons_zero, List.set_cons_succ]
          refine wpAnyH_ready (rs := [10]) (by kernel_rfl) (by simp) ?_
          refine AllReadyH.cons (o := { dst := some 53, op := Op.call { callee := Callee.value (Operand.func 27), args := #[Operand.tmp 52, Operand.const (Value.int IntKind.i64 1), Operand.const (Value.int IntKind.i64 4)], argTypes := #[3, 3, 3] }, type := 3, pos := "ref.go:34", after := #[{ on := 9, ground := Ground.data }], guard := none }) rfl (fun K hK => ?_) AllReadyH.nil
          go_simp
          refine (in_any xw 1 4 (by omega) Z0).mono ?_
          rintro e Z1 ⟨rfl, rfl⟩
          rw [← EU.out]
          refine hK.out _ _ hHeld (fun hHeld => ?_)
          clear hK K
          try simp only [Act.put, List.setIfInBounds_toArray, List.set_cons_zero, List.set_cons_succ]
          refine wpAnyH_ready (rs := [12]) (by kernel_rfl) (by simp) ?_
          refine AllReadyH.cons (o := { dst := some 55, op := Op.call { callee := Callee.value (Operand.func 27), args := #[Operand.tmp 54, Operand.const (Value.int IntKind.i64 1), Operand.const (Value.int IntKind.i64 2)], argTypes := #[3, 3, 3] }, type := 3, pos := "ref.go:34", after := #[{ on := 11, ground := Ground.data }, { on := 10, ground := Ground.chain }], guard := none }) rfl (fun K hK => ?_) AllReadyH.nil
          go_simp
          refine (in_any q 1 2 (by omega) Z0).mono ?_
          rintro e Z1 ⟨rfl, rfl⟩
          rw [← EV.out]
          refine hK.out _ _ hHeld (fun hHeld => ?_)
          clear hK K
          try simp only [Act.put, List.setIfInBounds_toArray, List.set_cons_zero, List.set_cons_succ]
          refine wpAnyH_take (i := 13) (oi := { dst := some 56, op := Op.binOp BinOp.mul 3 (Operand.tmp 53) (Operand.tmp 55) 3, type := 3, pos := "ref.go:34", after := #[{ on := 10, ground := Ground.data }, { on := 12, ground := Ground.data }], guard := none }) (v := ?_) rfl (by kernel_rfl) (by kernel_rfl) (by kernel_rfl) (fun _ _ _ h => h) (Or.inl ⟨by rfl, ?_⟩) (by assumption) ?_
          rotate_left
          · intro w hSw
            clear hSw
            go_simp
            all_goals with_reducible rfl
          simp only [Act.put, List.setIfInBounds_toArray, List.set_cons_zero, List.set_cons_succ]
          refine wpAnyH_take (i := 14) (oi := { dst := some 57, op := Op.binOp BinOp.add 3 (Operand.tmp 47) (Operand.tmp 56) 3, type := 3, pos := "ref.go:34", after := #[{ on := 4, ground := Ground.data }, { on := 13, ground := Ground.data }], guard := none }) (v := ?_) rfl (by kernel_rfl) (by kernel_rfl) (by kernel_rfl) (fun _ _ _ h => h) (Or.inl ⟨by rfl, ?_⟩) (by assumption) ?_
          rotate_left
          · intro w hSw
            clear hSw
            go_simp
            all_goals with_reducible rfl
          simp only [Act.put, List.setIfInBounds_toArray, List.set_cons_zero, List.set_cons_succ]
          refine wpAnyH_take (i := 15) (oi := { dst := some 11, op := Op.assign (Operand.tmp 57), type := 3, pos := "ref.go:34", after := #[{ on := 14, ground := Ground.data }, { on := 12, ground := Ground.chain }, { on := 0, ground := Ground.phase }, { on := 1, ground := Ground.phase }, { on := 2, ground := Ground.phase }, { on := 3, ground := Ground.phase }, { on := 4, ground := Ground.phase }, { on := 5, ground := Ground.phase }, { on := 6, ground := Ground.phase }, { on := 7, ground := Ground.phase }, { on := 8, ground := Ground.phase }, { on := 9, ground := Ground.phase }, { on := 10, ground := Ground.phase }, { on := 11, ground := Ground.phase }, { on := 12, ground := Ground.phase }, { on := 13, ground := Ground.phase }, { on := 14, ground := Ground.phase }], guard := none }) (v := ?_) rfl (by kernel_rfl) (by kernel_rfl) (by kernel_rfl) (fun _ _ _ h => h) (Or.inl ⟨by rfl, ?_⟩) (by assumption) ?_
          rotate_left
          · intro w hSw
            clear hSw
            go_simp
            all_goals with_reducible rfl
          simp only [Act.put, List.setIfInBounds_toArray, List.set_cons_zero, List.set_cons_succ]
          refine wpAnyH_done (by kernel_rfl) ?_ _
          refine NoPanic.normal ?_
          have ST2 := hide ((show Still wr Z0 from CZ.out))
          have BZ : Hid (Below w.heap.size w Z0) := BW.out.trans (Still.blw CZ.out _)
          have TZ := hide (S1.out.1.below ((Still.blw ST.out _).trans (Still.blw CZ.out _)))
          have RZ := hide (S1.out.2.1.below ((Still.blw ST.out _).trans (Still.blw CZ.out _)))
          have GZ : Hid (gu < Z0.heap.size) := by show gu < Z0.heap.size; rw [CZ.out.1, ST.out.1]; exact GU.out.2.2
          clear CZ hHeld ST ST2 BW S1 NJ q0 q1 q2 q7 q8 q9 EU EV
          obtain ⟨c0, c1, c2⟩ := lane_cells (HRA.out Z0 BZ.out)
          go_upto_region 11 with fail
          go_cut [65] from 43 (fun s65 wx => s65 = .bool (decide (xb < xd + s)) ∧ wx = Z0)
          case first =>
            go_wp2_with fail
            all_goals (go_meet; exact ⟨rfl, rfl⟩)
          case rest =>
          obtain ⟨rfl, rfl⟩ := hcut
          obtain ⟨t1, ht1⟩ : ∃ t1 : Int, t1 = if xb < xd + s then xb else xd + s := ⟨_, rfl⟩
          have HT1 := hide ht1
          clear ht1
          go_upto_if 65 with fail
          obtain ⟨Z0, rfl⟩ : ∃ Z0 : World, Z0 = wc := ⟨_, rfl⟩
          go_cut [12] from 43 (fun s12 wx => s12 = .int .i64 t1 ∧ wx = Z0)
          case first =>
            have ht1 := HT1.out
            by_cases hA : xb < xd + s
            · rw [if_pos hA] at ht1
              go_wp2_with fail
              all_goals (go_meet; exact ⟨by rw [ht1], rfl⟩)
            · rw [if_neg hA] at ht1
              go_wp2_with fail
              all_goals (go_meet; exact ⟨by rw [ht1], rfl⟩)
          case rest =>
          obtain ⟨rfl, rfl⟩ := hcut
          go_upto_region 13 with fail
          obtain ⟨Z0, rfl⟩ : ∃ Z0 : World, Z0 = wc := ⟨_, rfl⟩
          go_cut [72] from 43 (fun s72 wx => s72 = .bool (decide (t1 < 0)) ∧ wx = Z0)
          case first =>
            go_wp2_with fail
            all_goals (go_meet; exact ⟨rfl, rfl⟩)
          case rest =>
          obtain ⟨rfl, rfl⟩ := hcut
          go_upto_if 72 with fail
          obtain ⟨Z0, rfl⟩ : ∃ Z0 : World, Z0 = wc := ⟨_, rfl⟩
          go_cut [12] from 43 (fun s12 wx => s12 = .int .i64 t ∧ wx = Z0)
          case first =>
            have ht1 := HT1.out
            have ht := HT.out
            by_cases hA : t1 < 0
            · have e : t = 0 := by split at ht1 <;> omega
              go_wp2_with fail
              all_goals (go_meet; exact ⟨by rw [e], rfl⟩)
            · have e : t = t1 := by split at ht1 <;> omega
              go_wp2_with fail
              all_goals (go_meet; exact ⟨by first | (rw [e]; done) | (rw [e, ht1, if_pos (by assumption)]) | (rw [e, ht1, if_neg (by omega)]), rfl⟩)
          case rest =>
          obtain ⟨rfl, rfl⟩ := hcut
          clear HT1 c0 c1 c2
          have q10 := Q10.out
          have q11 := Q11.out
          go_upto_region 15 with fail
          refine wp_region_noPanic ?_
          refine wp_region_held_drew (S := (fun W => Below wc.heap.size wc W)) follows ((Below.refl _ _).drew) (fun hHeld => ?_)
          clear hHeld
          have hHeld : Below wc.heap.size wc wc.drew := (Below.refl _ _).drew
          have CZ := hide hHeld
          generalize wc.drew = Z1 at CZ hHeld ⊢
          refine wpAnyH_take (i := 0) (oi := { dst := some 73, op := Op.move (Operand.tmp 0), type := 34, pos := "ref.go:42", after := #[], guard := none }) (v := ?_) rfl (by kernel_rfl) (by kernel_rfl) (by kernel_rfl) (fun _ _ _ h => h) (Or.inl ⟨by rfl, ?_⟩) (by assumption) ?_
          rotate_left
          · intro w hSw
            clear hSw
            go_simp
            all_goals with_reducible rfl
          simp only [Act.put, List.setIfInBounds_toArray, List.set_cons_zero, List.set_cons_succ]
          refine wpAnyH_take (i := 1) (oi := { dst := some 74, op := Op.move (Operand.tmp 10), type := 3, pos := "ref.go:42", after := #[], guard := none }) (v := ?_) rfl (by kernel_rfl) (by kernel_rfl) (by kernel_rfl) (fun _ _ _ h => h) (Or.inl ⟨by rfl, ?_⟩) (by assumption) ?_
          rotate_left
          · intro w hSw
            clear hSw
            go_simp
            all_goals with_reducible rfl
          simp only [Act.put, List.setIfInBounds_toArray, List.set_cons_zero, List.set_cons_succ]
          refine wpAnyH_take (i := 2) (oi := { dst := some 75, op := Op.indexAddr 34 (Operand.tmp 73) (Operand.tmp 74), type := 0, pos := "ref.go:42", after := #[{ on := 0, ground := Ground.data }, { on := 1, ground := Ground.data }], guard := none }) (v := ?_) rfl (by kernel_rfl) (by kernel_rfl) (by kernel_rfl) (fun _ _ _ h => h) (Or.inl ⟨by rfl, ?_⟩) (by assumption) ?_
          rotate_left
          · intro w hSw
            clear hSw
            go_simp
            all_goals with_reducible rfl
          simp only [Act.put, List.setIfInBounds_toArray, List.set_cons_zero, List.set_cons_succ]
          refine wpAnyH_take (i := 3) (oi := { dst := some 76, op := Op.fieldAddr 39 (Operand.tmp 75) 0, type := 0, pos := "ref.go:42", after := #[{ on := 2, ground := Ground.data }], guard := none }) (v := ?_) rfl (by kernel_rfl) (by kernel_rfl) (by kernel_rfl) (fun _ _ _ h => h) (Or.inl ⟨by rfl, ?_⟩) (by assumption) ?_
          rotate_left
          · intro w hSw
            clear hSw
            go_simp
            all_goals with_reducible rfl
          simp only [Act.put, List.setIfInBounds_toArray, List.set_cons_zero, List.set_cons_succ]
          refine wpAnyH_take (i := 4) (oi := { dst := some 77, op := Op.load 3 (Operand.tmp 76), type := 3, pos := "ref.go:42", after := #[{ on := 3, ground := Ground.data }], guard := none }) (v := ?_) rfl (by kernel_rfl) (by kernel_rfl) (by kernel_rfl) (fun _ _ _ h => h) (Or.inl ⟨by rfl, ?_⟩) (by assumption) ?_
          rotate_left
          · intro w hSw
            have c0 := (lane_cells (HRA.out w (BZ.out.trans (hSw.mono BZ.out.size)))).1
            clear hSw
            go_simp
            all_goals with_reducible rfl
          simp only [Act.put, List.setIfInBounds_toArray, List.set_cons_zero, List.set_cons_succ]
          refine wpAnyH_take (i := 5) (oi := { dst := some 78, op := Op.move (Operand.tmp 0), type := 34, pos := "ref.go:42", after := #[], guard := none }) (v := ?_) rfl (by kernel_rfl) (by kernel_rfl) (by kernel_rfl) (fun _ _ _ h => h) (Or.inl ⟨by rfl, ?_⟩) (by assumption) ?_
          rotate_left
          · intro w hSw
            clear hSw
            go_simp
            all_goals with_reducible rfl
          simp only [Act.put, List.setIfInBounds_toArray, List.set_cons_zero, List.set_cons_succ]
          refine wpAnyH_take (i := 6) (oi := { dst := some 79, op := Op.move (Operand.tmp 10), type := 3, pos := "ref.go:42", after := #[], guard := none }) (v := ?_) rfl (by kernel_rfl) (by kernel_rfl) (by kernel_rfl) (fun _ _ _ h => h) (Or.inl ⟨by rfl, ?_⟩) (by assumption) ?_
          rotate_left
          · intro w hSw
            clear hSw
            go_simp
            all_goals with_reducible rfl
          simp only [Act.put, List.setIfInBounds_toArray, List.set_cons_zero, List.set_cons_succ]
          refine wpAnyH_take (i := 7) (oi := { dst := some 80, op := Op.indexAddr 34 (Operand.tmp 78) (Operand.tmp 79), type := 0, pos := "ref.go:42", after := #[{ on := 5, ground := Ground.data }, { on := 6, ground := Ground.data }], guard := none }) (v := ?_) rfl (by kernel_rfl) (by kernel_rfl) (by kernel_rfl) (fun _ _ _ h => h) (Or.inl ⟨by rfl, ?_⟩) (by assumption) ?_
          rotate_left
          · intro w hSw
            clear hSw
            go_simp
            all_goals with_reducible rfl
          simp only [Act.put, List.setIfInBounds_toArray, List.set_cons_zero, List.set_cons_succ]
          refine wpAnyH_take (i := 8) (oi := { dst := some 81, op := Op.fieldAddr 39 (Operand.tmp 80) 1, type := 0, pos := "ref.go:42", after := #[{ on := 7, ground := Ground.data }], guard := none }) (v := ?_) rfl (by kernel_rfl) (by kernel_rfl) (by kernel_rfl) (fun _ _ _ h => h) (Or.inl ⟨by rfl, ?_⟩) (by assumption) ?_
          rotate_left
          · intro w hSw
            clear hSw
            go_simp
            all_goals with_reducible rfl
          simp only [Act.put, List.setIfInBounds_toArray, List.set_cons_zero, List.set_cons_succ]
          refine wpAnyH_take (i := 9) (oi := { dst := some 82, op := Op.load 3 (Operand.tmp 81), type := 3, pos := "ref.go:42", after := #[{ on := 8, ground := Ground.data }], guard := none }) (v := ?_) rfl (by kernel_rfl) (by kernel_rfl) (by kernel_rfl) (fun _ _ _ h => h) (Or.inl ⟨by rfl, ?_⟩) (by assumption) ?_
          rotate_left
          · intro w hSw
            have c1 := (lane_cells (HRA.out w (BZ.out.trans (hSw.mono BZ.out.size)))).2.1
            clear hSw
            go_simp
            all_goals with_reducible rfl
          simp only [Act.put, List.setIfInBounds_toArray, List.set_cons_zero, List.set_cons_succ]
          refine wpAnyH_take (i := 10) (oi := { dst := some 83, op := Op.move (Operand.tmp 12), type := 3, pos := "ref.go:42", after := #[], guard := none }) (v := ?_) rfl (by kernel_rfl) (by kernel_rfl) (by kernel_rfl) (fun _ _ _ h => h) (Or.inl ⟨by rfl, ?_⟩) (by assumption) ?_
          rotate_left
          · intro w hSw
            clear hSw
            go_simp
            all_goals with_reducible rfl
          simp only [Act.put, List.setIfInBounds_toArray, List.set_cons_zero, List.set_cons_succ]
          refine wpAnyH_take (i := 11) (oi := { dst := some 84, op := Op.binOp BinOp.sub 3 (Operand.tmp 82) (Operand.tmp 83) 3, type := 3, pos := "ref.go:42", after := #[{ on := 9, ground := Ground.data }, { on := 10, ground := Ground.data }], guard := none }) (v := ?_) rfl (by kernel_rfl) (by kernel_rfl) (by kernel_rfl) (fun _ _ _ h => h) (Or.inl ⟨by rfl, ?_⟩) (by assumption) ?_
          rotate_left
          · intro w hSw
            clear hSw
            go_simp
            all_goals with_reducible rfl
          simp only [Act.put, List.setIfInBounds_toArray, List.set_cons_zero, List.set_cons_succ]
          refine wpAnyH_take (i := 12) (oi := { dst := some 85, op := Op.move (Operand.tmp 11), type := 3, pos := "ref.go:42", after := #[], guard := none }) (v := ?_) rfl (by kernel_rfl) (by kernel_rfl) (by kernel_rfl) (fun _ _ _ h => h) (Or.inl ⟨by rfl, ?_⟩) (by assumption) ?_
          rotate_left
          · intro w hSw
            clear hSw
            go_simp
            all_goals with_reducible rfl
          simp only [Act.put, List.setIfInBounds_toArray, List.set_cons_zero, List.set_cons_succ]
          refine wpAnyH_take (i := 13) (oi := { dst := some 86, op := Op.move (Operand.tmp 12), type := 3, pos := "ref.go:42", after := #[], guard := none }) (v := ?_) rfl (by kernel_rfl) (by kernel_rfl) (by kernel_rfl) (fun _ _ _ h => h) (Or.inl ⟨by rfl, ?_⟩) (by assumption) ?_
          rotate_left
          · intro w hSw
            clear hSw
            go_simp
            all_goals with_reducible rfl
          simp only [Act.put, List.setIfInBounds_toArray, List.set_cons_zero, List.set_cons_succ]
          refine wpAnyH_take (i := 14) (oi := { dst := some 87, op := Op.binOp BinOp.sub 3 (Operand.tmp 85) (Operand.tmp 86) 3, type := 3, pos := "ref.go:42", after := #[{ on := 12, ground := Ground.data }, { on := 13, ground := Ground.data }], guard := none }) (v := ?_) rfl (by kernel_rfl) (by kernel_rfl) (by kernel_rfl) (fun _ _ _ h => h) (Or.inl ⟨by rfl, ?_⟩) (by assumption) ?_
          rotate_left
          · intro w hSw
            clear hSw
            go_simp
            all_goals with_reducible rfl
          simp only [Act.put, List.setIfInBounds_toArray, List.set_cons_zero, List.set_cons_succ]
          refine wpAnyH_take (i := 15) (oi := { dst := some 88, op := Op.build 39 #[(0, Operand.tmp 77), (1, Operand.tmp 84), (2, Operand.tmp 87)], type := 39, pos := "ref.go:42", after := #[{ on := 4, ground := Ground.data }, { on := 11, ground := Ground.data }, { on := 14, ground := Ground.data }], guard := none }) (v := ?_) rfl (by kernel_rfl) (by kernel_rfl) (by kernel_rfl) (fun _ _ _ h => h) (Or.inl ⟨by rfl, ?_⟩) (by assumption) ?_
          rotate_left
          · intro w hSw
            clear hSw
            go_simp
            all_goals with_reducible rfl
          simp only [Act.put, List.setIfInBounds_toArray, List.set_cons_zero, List.set_cons_succ]
          refine wpAnyH_ready (rs := [16]) (by kernel_rfl) (by simp) ?_
          refine AllReadyH.cons (o := { dst := some 13, op := Op.alloc 39, type := 0, pos := "ref.go:42", after := #[], guard := none }) rfl (fun K hK => ?_) AllReadyH.nil
          go_simp
          obtain ⟨Z2, hZ2⟩ : ∃ Z2, Z2 = Z1.alloc (.cells #[.int .i64 0, .int .i64 0, .int .i64 0] 39) := ⟨_, rfl⟩
          rw [← hZ2]
          have D2 : Hid (Cel Z2 Z1.heap.size 39 (.int .i64 0) (.int .i64 0) (.int .i64 0) ∧ Below wc.heap.size wc Z2 ∧ wc.heap.size ≤ Z1.heap.size) := by
            have := CZ.out.size
            refine ⟨?_, ?_, this⟩
            · rw [hZ2]; exact Cel.new _ _ _ _ _
            · rw [hZ2]; exact CZ.out.trans ((one_below _ _).mono this)
          generalize Z1.heap.size = gd at D2 ⊢
          clear hZ2 hHeld CZ
          refine hK.out _ _ D2.out.2.1 (fun hHeld => ?_)
          clear hK K
          try simp only [Act.put, List.setIfInBounds_toArray, List.set_cons_zero, List.set_cons_succ]
          refine wpAnyH_ready (rs := [17]) (by kernel_rfl) (by simp) ?_
          refine AllReadyH.cons (o := { dst := none, op := Op.store 39 (Operand.tmp 13) (Operand.tmp 88), type := 0, pos := "ref.go:42", after := #[{ on := 16, ground := Ground.data }, { on := 15, ground := Ground.data }, { on := 0, ground := Ground.phase }, { on := 1, ground := Ground.phase }, { on := 2, ground := Ground.phase }, { on := 3, ground := Ground.phase }, { on := 4, ground := Ground.phase }, { on := 5, ground := Ground.phase }, { on := 6, ground := Ground.phase }, { on := 7, ground := Ground.phase }, { on := 8, ground := Ground.phase }, { on := 9, ground := Ground.phase }, { on := 10, ground := Ground.phase }, { on := 11, ground := Ground.phase }, { on := 12, ground := Ground.phase }, { on := 13, ground := Ground.phase }, { on := 14, ground := Ground.phase }, { on := 15, ground := Ground.phase }, { on := 16, ground := Ground.phase }], guard := none }) rfl (fun K hK => ?_) AllReadyH.nil
          obtain ⟨d0, d1, d2⟩ := D2.out.1.c
          have f0 := D2.out.1.fz 0
          have f1 := D2.out.1.fz 1
          have f2 := D2.out.1.fz 2
          go_simp
          obtain ⟨Z3, hZ3⟩ : ∃ Z3, Z3 = ((Z2.setCell ⟨gd, 0, none⟩ (.int .i64 xw)).setCell ⟨gd, 1, none⟩ (.int .i64 (xb - t))).setCell ⟨gd, 2, none⟩ (.int .i64 (xd + s - t)) := ⟨_, rfl⟩
          rw [← hZ3]
          have D3 : Hid (Cel Z3 gd 39 (.int .i64 xw) (.int .i64 (xb - t)) (.int .i64 (xd + s - t)) ∧ Below wc.heap.size wc Z3 ∧ wc.heap.size ≤ gd) := by
            refine ⟨?_, ?_, D2.out.2.2⟩
            · rw [hZ3]; exact ((D2.out.1.set0 _).set1 _).set2 _
            · rw [hZ3]; exact ((D2.out.2.1.setCell (p := ⟨gd, 0, none⟩) D2.out.2.2 _).setCell (p := ⟨gd, 1, none⟩) D2.out.2.2 _).setCell (p := ⟨gd, 2, none⟩) D2.out.2.2 _
          clear hZ3 D2 hHeld
          refine hK.out _ _ D3.out.2.1 (fun hHeld => ?_)
          clear hK K d0 d1 d2 f0 f1 f2
          try simp only [Act.put, List.setIfInBounds_toArray, List.set_cons_zero, List.set_cons_succ]
          refine wpAnyH_done (by kernel_rfl) ?_ _
          refine NoPanic.normal ?_
          clear hHeld q10 q11
          have GD : Hid (gd ≠ w.heap.size ∧ gd ≠ gu ∧ w.heap.size ≤ gd) := ⟨by have := TZ.out.lt; have := D3.out.2.2; omega, by have := GZ.out; have := D3.out.2.2; omega, by have := BZ.out.size; have := D3.out.2.2; omega⟩
          have T3 := hide (TZ.out.below D3.out.2.1)
          have R3 := hide (RZ.out.below D3.out.2.1)
          have B3 := hide (BZ.out.trans (D3.out.2.1.mono BZ.out.size))
          have E3 := hide D3.out.1
          clear D3 TZ RZ BZ
          obtain ⟨d0, d1, d2⟩ := E3.out.c
          have f2 := E3.out.fz 2
          obtain ⟨de, hde⟩ : ∃ de : Int, de = if xb - t = 0 then 0 else xd + s - t := ⟨_, rfl⟩
          have HDE := hide hde
          rw [← hde] at HO
          clear hde
          go_upto_region 16 with fail
          go_cut [91] from 43 (fun s91 wx => s91 = .bool (decide (xb - t = 0)) ∧ wx = Z3)
          case first =>
            go_wp2_with fail
            all_goals (go_meet; exact ⟨by first | rfl | (congr 1; simp [beq_eq_decide]), rfl⟩)
          case rest =>
          obtain ⟨rfl, rfl⟩ := hcut
          go_upto_if 91 with fail
          obtain ⟨Z0, rfl⟩ : ∃ Z0 : World, Z0 = wc := ⟨_, rfl⟩
          go_cut [] from 43 (fun wx => Hid (Cel wx w.heap.size 33 (.int .i64 0) (.int .i64 0) (.int .i64 0) ∧ Rw 39 3 encL w.heap.size wx (.slice (some ⟨gu, 0, none⟩) l.length cu) l ∧ Below w.heap.size w wx ∧ Cel wx gd 39 (.int .i64 xw) (.int .i64 (xb - t)) (.int .i64 de)))
          case first =>
            have hde := HDE.out
            by_cases h0 : xb - t = 0
            · rw [if_pos h0] at hde
              have U := hide (And.intro (show Cel (Z0.setCell ⟨gd, 2, none⟩ (.int .i64 0)) w.heap.size 33 (.int .i64 0) (.int .i64 0) (.int .i64 0) from ⟨(heap_setCell_other _ _ _ _ (fun e => GD.out.1 e.symm)).trans T3.out.row⟩) (And.intro (R3.out.chg (p := fun k => k = gd) (Chg.setCell (p := fun k => k = gd) (Chg.refl _ Z0) gd 2 (.int .i64 0) (fun _ => rfl)) (fun j hj e => by simp [Value.ownBlock] at hj; exact GD.out.2.1 (by rw [← e, hj]))) (And.intro (B3.out.setCell (p := ⟨gd, 2, none⟩) GD.out.2.2 (.int .i64 0)) (E3.out.set2 (.int .i64 0)))))
              go_wp2_with fail
              all_goals (go_meet; rw [hde]; exact U)
            · rw [if_neg h0] at hde
              have U := hide (And.intro T3.out (And.intro R3.out (And.intro B3.out E3.out)))
              rw [← hde] at U
              go_wp2_with fail
              all_goals (go_meet; exact U)
          case rest =>
          have U := hcut
          clear hcut d0 d1 d2 f2 T3 R3 B3 E3 HDE
          obtain ⟨d0, d1, d2⟩ := U.out.2.2.2.c
          obtain ⟨r0, r1, r2⟩ := lane_cells (U.out.2.1.cells k HKL.out)
          obtain ⟨cur, hcur⟩ : ∃ cur, wc.heap[gu]? = some (.cells cur 39 (0, 0)) := (U.out.2.1.blk (j := gu) rfl).2.2
          have f0 := frozen_of_row _ _ (k * 3) _ _ hcur
          have f1 := frozen_of_row _ _ (k * 3 + 1) _ _ hcur
          have f2 := frozen_of_row _ _ (k * 3 + 2) _ _ hcur
          have q12 : (k : Int) < (l.length : Int) := by have := HKL.out; omega
          have hng : Hid (w.heap.size ≠ gu) := fun e => U.out.2.1.apart U.out.1.row (by decide) (by rw [e]; rfl)
          have P1 := hide (U.out.2.1.put k ⟨xw, xb - t, de⟩ HKL.out)
          go_upto_region 19 with fail
          clear d0 d1 d2 r0 r1 r2 f0 f1 f2 hcur
          obtain ⟨Y2, hY⟩ : ∃ Y2, Y2 = ((wc.setCell ⟨gu, k * 3, none⟩ (.int .i64 xw)).setCell ⟨gu, k * 3 + 1, none⟩ (.int .i64 (xb - t))).setCell ⟨gu, k * 3 + 2, none⟩ (.int .i64 de) := ⟨_, rfl⟩
          have Y3 : Hid (Rw 39 3 encL w.heap.size Y2 (.slice (some ⟨gu, 0, none⟩) l.length cu) (l.set k ⟨xw, xb - t, de⟩) ∧ Cel Y2 w.heap.size 33 (.int .i64 0) (.int .i64 0) (.int .i64 0) ∧ Below w.heap.size w Y2) := by
            rw [hY]
            refine ⟨P1.out, ⟨(heap_setCell_other _ _ _ _ hng.out).trans ((heap_setCell_other _ _ _ _ hng.out).trans ((heap_setCell_other _ _ _ _ hng.out).trans U.out.1.row))⟩, ?_⟩
            exact ((U.out.2.2.1.setCell (p := ⟨gu, k * 3, none⟩) GU.out.2.1 _).setCell (p := ⟨gu, k * 3 + 1, none⟩) GU.out.2.1 _).setCell (p := ⟨gu, k * 3 + 2, none⟩) GU.out.2.1 _
          rw [← hY]
          clear hY P1 U
          obtain ⟨m, hm⟩ : ∃ m, m = (k + 1) % n := ⟨_, rfl⟩
          rw [← hm] at F1
          have hkn := HKN.out
          have q13 : IntKind.i64.wrap ((k : Int) + 1) = (k : Int) + 1 := wrap_small (by omega) (by have := HB.out; omega)
          have q14 : Int.tmod ((k : Int) + 1) (n : Int) = (m : Int) := by rw [Int.tmod_eq_emod_of_nonneg (by omega), hm]; simp
          have hmn : m < n := by rw [hm]; exact Nat.mod_lt _ (by omega)
          have q15 : IntKind.i64.wrap (m : Int) = (m : Int) := wrap_small (by omega) (by have := HB.out; omega)
          obtain ⟨c0, c1, c2⟩ := Y3.out.2.1.c
          have e0 := Y3.out.2.1.fz 0
          have e1 := Y3.out.2.1.fz 1
          have e2 := Y3.out.2.1.fz 2
          have T5 := hide (((Y3.out.2.1.set0 (.int .i64 (k : Int))).set1 (.int .i64 t)).set2 (.int .i64 (m : Int)))
          have B5 := hide (((Y3.out.2.2.setCell (p := ⟨w.heap.size, 0, none⟩) (Nat.le_refl _) (.int .i64 (k : Int))).setCell (p := ⟨w.heap.size, 1, none⟩) (Nat.le_refl _) (.int .i64 t)).setCell (p := ⟨w.heap.size, 2, none⟩) (Nat.le_refl _) (.int .i64 (m : Int)))
          have R5 := hide (Y3.out.1.chg (chg3 Y2 w.heap.size (.int .i64 (k : Int)) (.int .i64 t) (.int .i64 (m : Int))) (fun j hj e => by simp [Value.ownBlock] at hj; exact hng.out (by rw [← e, hj])))
          clear hm hmn hkn
          go_wp2
          refine bodyPost_ret (results_rt Try.results14 _ _ w.heap.size _ rfl (var33 T5.out.row)) rfl ?_
          exact ⟨_, by rw [F1.out.1, F1.out.2.1, F1.out.2.2.1], by rw [F1.out.2.2.2, HO.out]; exact R5.out, B5.out⟩

end Go.Proofs.Ytnplijgdklnipaa
