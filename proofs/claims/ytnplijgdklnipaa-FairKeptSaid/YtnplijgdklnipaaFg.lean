/- Serve. -/
import Derived.Test.YtnplijgdklnipaaFf
import Derived.Laws.MakeOwn
import Derived.Laws.CopyOwn
namespace Go.Proofs.Ytnplijgdklnipaa
open Go.RowKit
theorem run_copy_rows {el dT sT ty : TypeId} {w : World} {g m cap : Nat} {u : Value} {l : List S.Ln} {cur : Array Value} {t : TypeId} (hu : Try.prog.underlying dT = some (.slice el)) (hs : (Try.prog.info? el).map (·.size) = some 3)
    (hg : w.heap[g]? = some (.cells cur t (0, 0))) (hsrc : Sce encL w u l) (hm : l.length ≤ m) (hc : cur.size = m * 3) :
    ∃ w', (Builtin.copy_ #[dT, sT] ty #[.slice (some ⟨g, 0, none⟩) m cap, u]).run Try.prog w = .ok (goInt l.length) w' ∧ w'.heap[g]? = some (.cells (l.flatMap encL ++ cur.toList.drop (l.length * 3)).toArray t (0, 0)) ∧ Chg (fun k => k = g) w w' ∧ w'.heap.size = w.heap.size := by
  have hl : (l.flatMap encL).length = l.length * 3 := flat_gen l (lenL l)
  have h1 : ∀ v ∈ l.flatMap encL, v.oneCell' = true := fun v hv => by
    rw [List.mem_flatMap] at hv
    obtain ⟨y, _, hy⟩ := hv
    exact encL_one y v hy
  have hst := run_storeCells_at Try.prog g 0 t (l.flatMap encL) 0 cur w hg (by rw [hl, hc]; have := Nat.mul_le_mul_right 3 hm; omega) h1
  simp only [Nat.zero_add, List.take_zero, List.nil_append] at hst
  rw [hl] at hst
  refine ⟨w.setRow g (l.flatMap encL ++ cur.toList.drop (l.length * 3)).toArray, ?_, setRow_heap _ _ _ _ _ _ hg, ⟨rfl, rfl, rfl, by simp, fun k _ hk => setRow_other _ _ _ _ hk⟩, by simp⟩
  cases hq : Try.prog.info? el with
  | none => simp [hq] at hs
  | some i =>
    have hi : i.size = 3 := by simpa [hq] using hs
    rcases hsrc with ⟨rfl, rfl⟩ | ⟨a, c, rfl, hsc⟩
    · simp only [List.flatMap_nil] at hst
      simp [Builtin.copy_, run_underlying hu, Builtin.lenOf, Builtin.firstCells, sizeOf, typeInfo, hq, hst]
    · have hld := run_loadCells_list (P := Try.prog) w a (l.flatMap encL) hsc
      rw [hl] at hld
      have hmin : Nat.min l.length m = l.length := Nat.min_eq_left hm
      simp [Builtin.copy_, run_underlying hu, Builtin.lenOf, Builtin.firstCells, sizeOf, typeInfo, hq, hi, hmin, hld, hst]
theorem wpList_copy_known {w : World} {ops : Array Oper} {rest : List Oper} {o : Oper} {a : Act} {Q : Exit → Act → World → Prop} (hgd : o.guard = none) (s x : Operand) (t tn : TypeId)
    (ho : o.op = .call { callee := .builtin .copy, args := #[s, x], argTypes := #[t, tn] }) (vs vx : Value) (hs : a.eval s = vs) (hx : a.eval x = vx) {n : Int} {R : World → Prop}
    (hr : ∃ w', (Builtin.copy_ #[t, tn] o.type #[vs, vx]).run Try.prog w = .ok (goInt n) w' ∧ R w')
    (h : ∀ w', R w' → wpList Try.prog ops Q rest (a.put o.dst (goInt n)) w') : wpList Try.prog ops Q (o :: rest) a w := by
  obtain ⟨w', hr, hR⟩ := hr
  refine wpList_plain hgd fun K hK => ?_
  unfold Oper.wp
  simp [execOp, ho, resolve, invoke, builtin, hs, hx, hr, Result.andThen]
  exact hK _ _ (h w' hR)
theorem make24 (n : Nat) (hn : n ≤ 100000) : ∃ Z : Array Value, Z.size = n * 3 ∧ ∀ w : World, (Instr.makeSlice 24 (.int .i64 (n : Int)) (.int .i64 (n : Int))).run Try.prog w = .ok (.slice (some ⟨w.heap.size, 0, none⟩) n n) (w.alloc (.cells Z 28)) := by
  obtain ⟨i, hi, hz, hs, hb⟩ := info_parts info28
  refine ⟨madeCells (Value.agg (encL S.l0).toArray).cells (n * 3), size_madeCells _ _, fun w => ?_⟩
  have h := run_make (P := Try.prog) w 24 28 i _ Try.underlying24 hi hz .i64 .i64 (n : Int) (n : Int) (by omega) (Int.le_refl _) (by rw [hb]; omega) (by omega)
  rw [hs, Int.toNat_natCast] at h
  exact h
namespace S
/-- What Serve answers. -/
def lane (l : List Ln) (a : Nat) : Int := num (find l a)
def took (l : List Ln) (a : Nat) (q : Int) : Int := match find l a with
  | some k => tk (l.getD k l0) q
  | none => 0
def next (l : List Ln) (a : Nat) : Nat := match find l a with
  | some k => (k + 1) % l.length
  | none => a
def after (l : List Ln) (a : Nat) (q : Int) : List Ln := match find l a with
  | some k => l.set k (one (l.getD k l0) q)
  | none => l
theorem first_yes {l : List Ln} : ∀ (f lo k : Nat), first l lo f = some k → lo ≤ k ∧ k < lo + f ∧ 1 ≤ (l.getD k l0).w ∧ ∀ j, lo ≤ j → j < k → (l.getD j l0).w < 1
  | 0, _, _, h => by simp [first] at h
  | f + 1, lo, k, h => by
    unfold first at h
    split at h
    · rename_i hw
      injection h with h
      subst h
      exact ⟨Nat.le_refl _, by omega, hw, fun j h1 h2 => by omega⟩
    · rename_i hw
      obtain ⟨h1, h2, h3, h4⟩ := first_yes f (lo + 1) k h
      refine ⟨by omega, by omega, h3, fun j hj hk => ?_⟩
      by_cases e : j = lo
      · subst e; omega
      · exact h4 j (by omega) hk
theorem first_no {l : List Ln} : ∀ (f lo : Nat), first l lo f = none → ∀ j, lo ≤ j → j < lo + f → (l.getD j l0).w < 1
  | 0, _, _ => fun j h1 h2 => by omega
  | f + 1, lo, h => fun j h1 h2 => by
    unfold first at h
    split at h
    · simp at h
    · rename_i hw
      by_cases e : j = lo
      · subst e; omega
      · exact first_no f (lo + 1) h j (by omega) (by omega)
/-- What a place that was found is. -/
theorem find_yes {l : List Ln} {a k : Nat} (ha : a ≤ l.length) (h : find l a = some k) : k < l.length ∧ 1 ≤ (l.getD k l0).w ∧ (a ≤ k ∧ (∀ j, a ≤ j → j < k → (l.getD j l0).w < 1) ∨ k < a ∧ (∀ j, a ≤ j → j < l.length → (l.getD j l0).w < 1) ∧ ∀ j, j < k → (l.getD j l0).w < 1) := by
  unfold find at h
  split at h
  · rename_i k' h1
    injection h with h
    subst h
    obtain ⟨h1, h2, h3, h4⟩ := first_yes _ _ _ h1
    exact ⟨by omega, h3, Or.inl ⟨h1, h4⟩⟩
  · rename_i h1
    obtain ⟨g1, g2, g3, g4⟩ := first_yes _ _ _ h
    exact ⟨by omega, g3, Or.inr ⟨by omega, fun j h2 h3 => first_no _ _ h1 j h2 (by omega), fun j hj => g4 j (by omega) hj⟩⟩
theorem find_no {l : List Ln} {a : Nat} (ha : a ≤ l.length) (h : find l a = none) : ∀ j, j < l.length → (l.getD j l0).w < 1 := fun j hj => by
  unfold find at h
  split at h
  · simp at h
  · rename_i h1
    by_cases e : j < a
    · exact first_no _ _ h j (by omega) (by omega)
    · exact first_no _ _ h1 j (by omega) (by omega)
end S
theorem flat_set : ∀ (l : List S.Ln) (k : Nat) (y : S.Ln), k < l.length → (((l.flatMap encL).set (k * 3) (.int .i64 y.w)).set (k * 3 + 1) (.int .i64 y.b)).set (k * 3 + 2) (.int .i64 y.d) = (l.set k y).flatMap encL
  | [], k, y, h => by simp at h
  | x :: l, 0, y, _ => by simp [encL]
  | x :: l, k + 1, y, h => by
    have ih := flat_set l k y (by simpa using h)
    rw [List.set_cons_succ, List.flatMap_cons, List.flatMap_cons, ← ih, show (k + 1) * 3 = k * 3 + 3 by omega]
    simp [encL, show k * 3 + 3 + 1 = k * 3 + 1 + 3 by omega, show k * 3 + 3 + 2 = k * 3 + 2 + 3 by omega]
theorem row_set3 {w : World} {g : Nat} {l : List S.Ln} {t : TypeId} (h : w.heap[g]? = some (.cells (l.flatMap encL).toArray t (0, 0))) (k : Nat) (y : S.Ln) (hk : k < l.length) :
    (((w.setCell ⟨g, k * 3, none⟩ (.int .i64 y.w)).setCell ⟨g, k * 3 + 1, none⟩ (.int .i64 y.b)).setCell ⟨g, k * 3 + 2, none⟩ (.int .i64 y.d)).heap[g]? = some (.cells ((l.set k y).flatMap encL).toArray t (0, 0)) := by
  have h1 := heap_setCell_same w g (k * 3) _ t (.int .i64 y.w) h
  have h2 := heap_setCell_same _ g (k * 3 + 1) _ t (.int .i64 y.b) h1
  have h3 := heap_setCell_same _ g (k * 3 + 2) _ t (.int .i64 y.d) h2
  rw [h3, ← flat_set l k y hk]
  simp
/-- What Serve has made: the turn's variable, the new lanes. -/
structure Sw (w W : World) (xs : List S.Ln) : Prop where
  t : Cel W w.heap.size 23 (.int .i64 0) (.int .i64 0) (.int .i64 0)
  r : W.heap[w.heap.size + 1]? = some (.cells (xs.flatMap encL).toArray 28 (0, 0))
  b : Below w.heap.size w W
theorem Sw.below {w W W2 : World} {xs : List S.Ln} (h : Sw w W xs) (hb : Below W.heap.size W W2) : Sw w W2 xs :=
  ⟨h.t.below hb, (hb.block _ (block_lt_of_row h.r)).trans h.r, h.b.trans (hb.mono h.b.size)⟩
theorem row_rw {el : TypeId} {W : World} {B g : Nat} {xs : List S.Ln} (h : W.heap[g]? = some (.cells (xs.flatMap encL).toArray el (0, 0))) (hg : B ≤ g) {n : Nat} (hn : n = xs.length) (hl : n ≤ 1000) : Rw el 3 encL B W (.slice (some ⟨g, 0, none⟩) n n) xs := by
  subst hn
  have e : (xs.flatMap encL).length = xs.length * 3 := flat_gen xs (lenL xs)
  refine ⟨e, Or.inr ⟨g, xs.length, _, rfl, hg, h, Nat.le_refl _, by simp [maxLen]; omega, by simp only [List.size_toArray]; exact e, ?_⟩⟩
  simp only [← e, List.take_length]
theorem Sw.turn {w W : World} {xs : List S.Ln} (h : Sw w W xs) (x y z : Value) :
    Cel (((W.setCell ⟨w.heap.size, 0, none⟩ x).setCell ⟨w.heap.size, 1, none⟩ y).setCell ⟨w.heap.size, 2, none⟩ z) w.heap.size 23 x y z ∧
    (((W.setCell ⟨w.heap.size, 0, none⟩ x).setCell ⟨w.heap.size, 1, none⟩ y).setCell ⟨w.heap.size, 2, none⟩ z).heap[w.heap.size + 1]? = some (.cells (xs.flatMap encL).toArray 28 (0, 0)) ∧
    Below w.heap.size w (((W.setCell ⟨w.heap.size, 0, none⟩ x).setCell ⟨w.heap.size, 1, none⟩ y).setCell ⟨w.heap.size, 2, none⟩ z) := by
  refine ⟨((h.t.set0 x).set1 y).set2 z, ?_, ((h.b.setCell (p := ⟨w.heap.size, 0, none⟩) (Nat.le_refl _) x).setCell (p := ⟨w.heap.size, 1, none⟩) (Nat.le_refl _) y).setCell (p := ⟨w.heap.size, 2, none⟩) (Nat.le_refl _) z⟩
  have hne : w.heap.size + 1 ≠ w.heap.size := by omega
  exact (heap_setCell_other _ _ _ _ hne).trans ((heap_setCell_other _ _ _ _ hne).trans ((heap_setCell_other _ _ _ _ hne).trans h.r))
theorem Sw.put {w W : World} {l : List S.Ln} (h : Sw w W l) (k : Nat) (y : S.Ln) (hk : k < l.length) :
    Sw w (((W.setCell ⟨w.heap.size + 1, k * 3, none⟩ (.int .i64 y.w)).setCell ⟨w.heap.size + 1, k * 3 + 1, none⟩ (.int .i64 y.b)).setCell ⟨w.heap.size + 1, k * 3 + 2, none⟩ (.int .i64 y.d)) (l.set k y) := by
  have hne : w.heap.size ≠ w.heap.size + 1 := by omega
  exact ⟨⟨(heap_setCell_other _ _ _ _ hne).trans ((heap_setCell_other _ _ _ _ hne).trans ((heap_setCell_other _ _ _ _ hne).trans h.t.row))⟩, row_set3 h.r k y hk,
    ((h.b.setCell (p := ⟨w.heap.size + 1, k * 3, none⟩) (Nat.le_succ _) _).setCell (p := ⟨w.heap.size + 1, k * 3 + 1, none⟩) (Nat.le_succ _) _).setCell (p := ⟨w.heap.size + 1, k * 3 + 2, none⟩) (Nat.le_succ _) _⟩
theorem row_cells {w : World} {g : Nat} {l : List S.Ln} {t : TypeId} (h : w.heap[g]? = some (.cells (l.flatMap encL).toArray t (0, 0))) (k : Nat) (hk : k < l.length) : w.rangeAt g (k * 3) (encL (l.getD k S.l0)) := fun i u hu => by
  have hi : i < 3 := by have := (List.getElem?_eq_some_iff.1 hu).1; rwa [encL_length] at this
  rw [cell_of_row w g _ _ _ _ h, List.getElem?_toArray, flat_get l (lenL l) k i hk hi]
  rw [List.getD_eq_getElem?_getD, List.getElem?_eq_getElem hk] at hu
  exact hu
set_option maxHeartbeats 3200000 in
set_option maxRecDepth 100000 in
theorem Serve_any (v : Value) (l : List S.Ln) (at_ q : Int) (w : World) (hv : LnAt w v l) (hm : ∀ x ∈ l, S.Mild x) (hl : l.length ≤ 1000) :
   Calls Try.prog 9 #[v, .int .i64 at_, .int .i64 q] w fun e w' => ∃ u, e = .returned (.tuple #[.agg #[.int .i64 (S.lane l (S.pos at_ l.length)), .int .i64 (S.took l (S.pos at_ l.length) q), .int .i64 (S.next l (S.pos at_ l.length) : Int)], u]) ∧ Rw 28 3 encL w.heap.size w' u (S.after l (S.pos at_ l.length) q) ∧ Below w.heap.size w w' := by
  obtain ⟨ao, n, cap, rfl, hn, hncap⟩ := hv.form
  obtain ⟨Z, hZ, hmk⟩ := make24 n (by omega)
  have HV := hide hv
  have HN := hide hn
  have HB : Hid (n ≤ 1000) := by show n ≤ 1000; omega
  have HM := hide hm
  have HZ := hide hZ
  obtain ⟨a, ha⟩ : ∃ a, a = S.pos at_ l.length := ⟨_, rfl⟩
  have HA : Hid (a ≤ n ∧ a = S.pos at_ n) := ⟨by rw [ha, hn]; exact S.pos_le _ _, by rw [ha, hn]⟩
  rw [← ha]
  clear hv hn ha hl hm hZ
  go_enter Try.func9, Try.ntmps9
  go_upto_region 2 with fail
  generalize hX : World.alloc _ _ = X
  have X0 : Hid (Cel X w.heap.size 23 (.int .i64 0) (.int .i64 0) (.int .i64 0) ∧ X.heap[w.heap.size + 1]? = some (.cells Z 28 (0, 0)) ∧ Below w.heap.size w X) := by
    show _ ∧ _ ∧ _
    rw [← hX]
    exact ⟨(Cel.new _ _ _ _ _).below (one_below _ _), two_top _ _ _, two_below _ _ _⟩
  clear hX hmk
  have CP := hide (run_copy_rows (dT := 24) (sT := 24) (ty := 3) (el := 28) (m := n) (cap := n) Try.underlying24 size28 X0.out.2.1 (HV.out.chg (Chg.ofBelow' X0.out.2.2 : Chg (fun _ => False) w X) (fun _ _ _ _ _ e => e)).src (by rw [HN.out]; exact Nat.le_refl _) HZ.out)
  go_upto_region 3 with (refine wpList_copy_known rfl (.tmp 15) (.tmp 16) 24 24 rfl _ _ rfl rfl CP.out ?_; rintro W1 ⟨hr1, hc1, hs1⟩; have S1 : Hid (Sw w W1 l) := ⟨⟨(hc1.block _ X0.out.1.lt (by omega)).trans X0.out.1.row⟩, (by rw [hr1, List.drop_eq_nil_of_le (by rw [Array.length_toList, HZ.out, HN.out]; exact Nat.le_refl _), List.append_nil]), X0.out.2.2.trans (hc1.below _ X0.out.2.2.size (fun k hk e => by omega))⟩; clear hr1 hc1 hs1 CP X0)
  simp only [Act.put, List.setIfInBounds_toArray, List.set_cons_zero, List.set_cons_succ]
  obtain ⟨bo, hbo⟩ : ∃ bo : Bool, bo = decide (at_ < 0 ∨ at_ ≥ (n : Int)) := ⟨_, rfl⟩
  have HBO := hide hbo
  clear hbo
  go_cut [25] from 18 (fun s25 wx => s25 = .bool bo ∧ wx = W1)
  case first =>
    have hbo := HBO.out
    by_cases p1 : at_ < 0
    · have e : bo = true := by rw [hbo]; simp [p1]
      clear hbo
      go_wp2_with fail
      all_goals (go_meet; exact ⟨by rw [e], rfl⟩)
    · by_cases p2 : at_ ≥ (n : Int)
      · have e : bo = true := by rw [hbo]; simp [p2]
        clear hbo
        go_wp2_with fail
        all_goals (go_meet; exact ⟨by rw [e], rfl⟩)
      · have e : bo = false := by rw [hbo]; simp; omega
        clear hbo
        go_wp2_with fail
        all_goals (go_meet; exact ⟨by rw [e], rfl⟩)
  case rest =>
  obtain ⟨rfl, rfl⟩ := hcut
  obtain ⟨wo, rfl⟩ : ∃ wo : World, wo = wc := ⟨_, rfl⟩
  go_upto_if 25 with fail
  go_cut [1] from 26 (fun s1 wx => s1 = .int .i64 (a : Int) ∧ wx = wo)
  case first =>
    obtain ⟨hA1, hA2⟩ := HA.out
    have hbo := HBO.out
    cases bo with
    | true =>
      have e : (a : Int) = 0 := by rw [hA2]; unfold S.pos; rw [if_neg (by have := of_decide_eq_true hbo.symm; omega)]; rfl
      clear hbo hA2
      go_wp2_with fail
      all_goals (go_meet; exact ⟨by rw [e], rfl⟩)
    | false =>
      have e : (a : Int) = at_ := by have h := of_decide_eq_false hbo.symm; rw [hA2]; unfold S.pos; rw [if_pos (by omega)]; omega
      clear hbo hA2
      go_wp2_with fail
      all_goals (go_meet; exact ⟨by rw [e], rfl⟩)
  case rest =>
    obtain ⟨rfl, rfl⟩ := hcut
    go_wp2_with fail
    go_at_call 23
    refine (find_any _ l a wc (HV.out.chg (Chg.ofBelow' S1.out.b : Chg (fun _ => False) w wc) (fun _ _ _ _ _ e => e)) (by rw [← HN.out]; exact HA.out.1) (by have := HN.out; have := HB.out; omega)).mono ?_
    rintro e W2 ⟨rfl, hb⟩
    have S2 := hide (S1.out.below hb)
    clear hb S1
    cases hf : S.find l a with
    | none =>
      have F1 : Hid (S.lane l a = -1 ∧ S.took l a q = 0 ∧ S.next l a = a ∧ S.after l a q = l) := ⟨by rw [S.lane, hf]; rfl, by rw [S.took, hf], by rw [S.next, hf], by rw [S.after, hf]⟩
      clear hf
      rw [show S.num none = -1 from rfl]
      obtain ⟨c0, c1, c2⟩ := S2.out.t.c
      have e0 := S2.out.t.fz 0
      have e1 := S2.out.t.fz 1
      have e2 := S2.out.t.fz 2
      have T5 := hide (S2.out.turn (.int .i64 (-1)) (.int .i64 0) (.int .i64 (a : Int)))
      go_wp2
      refine bodyPost_ret (results_rt Try.results9 _ _ w.heap.size _ rfl (var23 T5.out.1.row)) rfl ?_
      exact ⟨_, by rw [F1.out.1, F1.out.2.1, F1.out.2.2.1], by rw [F1.out.2.2.2]; exact row_rw T5.out.2.1 (by omega) HN.out HB.out, T5.out.2.2⟩
    | some k =>
      have fy := S.find_yes (by rw [← HN.out]; exact HA.out.1) hf
      have hkl : k < l.length := fy.1
      have hkn : k < n := by rw [HN.out]; exact hkl
      have F1 : Hid (S.lane l a = (k : Int) ∧ S.took l a q = S.tk (l.getD k S.l0) q ∧ S.next l a = (k + 1) % n ∧ S.after l a q = l.set k (S.one (l.getD k S.l0) q)) := ⟨by rw [S.lane, hf]; rfl, by rw [S.took, hf], by rw [S.next, hf, HN.out], by rw [S.after, hf]⟩
      rw [show S.num (some k) = (k : Int) from rfl]
      obtain ⟨g, off, rfl, hg, hra⟩ := lane_at HV.out k hkl
      have MX : Hid (S.Mild (l.getD k S.l0)) := by
        show S.Mild _
        rw [List.getD_eq_getElem?_getD, List.getElem?_eq_getElem hkl]
        exact HM.out _ (List.getElem_mem hkl)
      obtain ⟨x, hx⟩ : ∃ x, x = l.getD k S.l0 := ⟨_, rfl⟩
      rw [← hx] at F1 MX hra
      obtain ⟨c0, c1, c2⟩ := lane_cells (rangeAt_below hra S2.out.b hg)
      have KN := hide hkn
      have KL := hide hkl
      clear hf fy hx hkl hra hg
      obtain ⟨xw, xb, xd⟩ := x
      have p1 : ¬ (k : Int) < 0 := by omega
      have p2 : (0 : Int) ≤ (k : Int) := by omega
      have p3 : (k : Int) < (n : Int) := by omega
      go_wp2_with fail
      go_at_call 24
      refine (serve_any ⟨xw, xb, xd⟩ q MX.out W2).mono ?_
      rintro e W3 ⟨rfl, hb⟩
      have S3 := hide (S2.out.below hb)
      obtain ⟨t, ht⟩ : ∃ t, t = S.tk ⟨xw, xb, xd⟩ q := ⟨_, rfl⟩
      obtain ⟨y, hy⟩ : ∃ y, y = S.one ⟨xw, xb, xd⟩ q := ⟨_, rfl⟩
      rw [← ht, ← hy] at F1 ⊢
      clear hb S2 c0 c1 c2 ht hy
      obtain ⟨yw, yb, yd⟩ := y
      rw [show (encL ⟨yw, yb, yd⟩).toArray = #[.int .i64 yw, .int .i64 yb, .int .i64 yd] from rfl]
      go_upto_region 9 with fail
      generalize hX : World.alloc _ _ = X
      have X0 : Hid (Sw w X l ∧ Cel X W3.heap.size 28 (.int .i64 yw) (.int .i64 yb) (.int .i64 yd)) := by
        show _ ∧ _
        rw [← hX]
        exact ⟨S3.out.below (one_below _ _), Cel.new _ _ _ _ _⟩
      clear hX S3
      generalize W3.heap.size = gd at X0 ⊢
      obtain ⟨d0, d1, d2⟩ := X0.out.2.c
      obtain ⟨r0, r1, r2⟩ := lane_cells (row_cells X0.out.1.r k KL.out)
      have f0 := frozen_of_row _ _ (k * 3) _ _ X0.out.1.r
      have f1 := frozen_of_row _ _ (k * 3 + 1) _ _ X0.out.1.r
      have f2 := frozen_of_row _ _ (k * 3 + 2) _ _ X0.out.1.r
      have Y0 := hide (X0.out.1.put k ⟨yw, yb, yd⟩ KL.out)
      go_upto_region 10 with fail
      clear d0 d1 d2 r0 r1 r2 f0 f1 f2 X0
      obtain ⟨Y, hY⟩ : ∃ Y, Y = ((X.setCell ⟨w.heap.size + 1, k * 3, none⟩ (.int .i64 yw)).setCell ⟨w.heap.size + 1, k * 3 + 1, none⟩ (.int .i64 yb)).setCell ⟨w.heap.size + 1, k * 3 + 2, none⟩ (.int .i64 yd) := ⟨_, rfl⟩
      have Y1 : Hid (Sw w Y (l.set k ⟨yw, yb, yd⟩)) := by show Sw _ _ _; rw [hY]; exact Y0.out
      rw [← hY]
      clear hY Y0
      obtain ⟨m, hm⟩ : ∃ m, m = (k + 1) % n := ⟨_, rfl⟩
      rw [← hm] at F1
      have q1 : IntKind.i64.wrap ((k : Int) + 1) = (k : Int) + 1 := wrap_small (by omega) (by have := KN.out; have := HB.out; omega)
      have q2 : Int.tmod ((k : Int) + 1) (n : Int) = (m : Int) := by rw [Int.tmod_eq_emod_of_nonneg (by omega), hm]; simp
      have q3 : ¬ (n : Int) = 0 := by have := KN.out; omega
      have hmn : m < n := by rw [hm]; exact Nat.mod_lt _ (by have := KN.out; omega)
      have q4 : IntKind.i64.wrap (m : Int) = (m : Int) := wrap_small (by omega) (by have := HB.out; omega)
      obtain ⟨c0, c1, c2⟩ := Y1.out.t.c
      have e0 := Y1.out.t.fz 0
      have e1 := Y1.out.t.fz 1
      have e2 := Y1.out.t.fz 2
      have T5 := hide (Y1.out.turn (.int .i64 (k : Int)) (.int .i64 t) (.int .i64 (m : Int)))
      clear hm hmn p1
      go_wp2
      refine bodyPost_ret (results_rt Try.results9 _ _ w.heap.size _ rfl (var23 T5.out.1.row)) rfl ?_
      exact ⟨_, by rw [F1.out.1, F1.out.2.1, F1.out.2.2.1], by rw [F1.out.2.2.2]; exact row_rw T5.out.2.1 (by omega) (by rw [List.length_set]; exact HN.out) HB.out, T5.out.2.2⟩
end Go.Proofs.Ytnplijgdklnipaa
