/- Serve, where the new row is wanted; equal lanes. -/
import Derived.Test.YtnplijgdklnipaaFk
import Derived.Deep.MidRow
import Derived.Lib.JoinLaws
import Derived.LaidEql
import Derived.RowKitTokens
namespace Go.Proofs.Ytnplijgdklnipaa
open Go.RowKit
set_option maxHeartbeats 3200000 in
set_option maxRecDepth 100000 in
theorem Serve_row (v : Value) (l : List S.Ln) (at_ q : Int) (w : World) (hv : LnAt w v l) (hm : ∀ x ∈ l, S.Mild x) (hl : l.length ≤ 1000) :
   Calls Try.prog 9 #[v, .int .i64 at_, .int .i64 q] w fun e w' => ∃ g, e = .returned (.tuple #[.agg #[.int .i64 (S.lane l (S.pos at_ l.length)), .int .i64 (S.took l (S.pos at_ l.length) q), .int .i64 (S.next l (S.pos at_ l.length) : Int)], .slice (some ⟨g, 0, none⟩) l.length l.length]) ∧ w.heap.size ≤ g ∧ w'.heap[g]? = some (.cells ((S.after l (S.pos at_ l.length) q).flatMap encL).toArray 28 (0, 0)) ∧ Below w.heap.size w w' := by
  obtain ⟨ao, n, cap, rfl, hn, hncap⟩ := hv.form
  obtain ⟨Z, hZ, hmk⟩ := make24 n (by omega)
  have HV := hide hv
  have HN := hide hn
  have HB : Hid (n ≤ 1000) := by show n ≤ 1000; omega
  have HM := hide hm
  have HZ := hide hZ
  obtain ⟨a, ha⟩ : ∃ a, a = S.pos at_ l.length := ⟨_, rfl⟩
  have HA : Hid (a ≤ n ∧ a = S.pos at_ n) := ⟨by rw [ha, hn]; exact S.pos_le _ _, by rw [ha, hn]⟩
  rw [← ha]
  clear hv hn ha hl hm hZ
  go_enter Try.func9, Try.ntmps9
  go_upto_region 2 with fail
  generalize hX : World.alloc _ _ = X
  have X0 : Hid (Cel X w.heap.size 23 (.int .i64 0) (.int .i64 0) (.int .i64 0) ∧ X.heap[w.heap.size + 1]? = some (.cells Z 28 (0, 0)) ∧ Below w.heap.size w X) := by
    show _ ∧ _ ∧ _
    rw [← hX]
    exact ⟨(Cel.new _ _ _ _ _).below (one_below _ _), two_top _ _ _, two_below _ _ _⟩
  clear hX hmk
  have CP := hide (run_copy_rows (dT := 24) (sT := 24) (ty := 3) (el := 28) (m := n) (cap := n) Try.underlying24 size28 X0.out.2.1 (HV.out.chg (Chg.ofBelow' X0.out.2.2 : Chg (fun _ => False) w X) (fun _ _ _ _ _ e => e)).src (by rw [HN.out]; exact Nat.le_refl _) HZ.out)
  go_upto_region 3 with (refine wpList_copy_known rfl (.tmp 15) (.tmp 16) 24 24 rfl _ _ rfl rfl CP.out ?_; rintro W1 ⟨hr1, hc1, hs1⟩; have S1 : Hid (Sw w W1 l) := ⟨⟨(hc1.block _ X0.out.1.lt (by omega)).trans X0.out.1.row⟩, (by rw [hr1, List.drop_eq_nil_of_le (by rw [Array.length_toList, HZ.out, HN.out]; exact Nat.le_refl _), List.append_nil]), X0.out.2.2.trans (hc1.below _ X0.out.2.2.size (fun k hk e => by omega))⟩; clear hr1 hc1 hs1 CP X0)
  simp only [Act.put, List.setIfInBounds_toArray, List.set_cons_zero, List.set_cons_succ]
  obtain ⟨bo, hbo⟩ : ∃ bo : Bool, bo = decide (at_ < 0 ∨ at_ ≥ (n : Int)) := ⟨_, rfl⟩
  have HBO := hide hbo
  clear hbo
  go_cut [25] from 18 (fun s25 wx => s25 = .bool bo ∧ wx = W1)
  case first =>
    have hbo := HBO.out
    by_cases p1 : at_ < 0
    · have e : bo = true := by rw [hbo]; simp [p1]
      clear hbo
      go_wp2_with fail
      all_goals (go_meet; exact ⟨by rw [e], rfl⟩)
    · by_cases p2 : at_ ≥ (n : Int)
      · have e : bo = true := by rw [hbo]; simp [p2]
        clear hbo
        go_wp2_with fail
        all_goals (go_meet; exact ⟨by rw [e], rfl⟩)
      · have e : bo = false := by rw [hbo]; simp; omega
        clear hbo
        go_wp2_with fail
        all_goals (go_meet; exact ⟨by rw [e], rfl⟩)
  case rest =>
  obtain ⟨rfl, rfl⟩ := hcut
  obtain ⟨wo, rfl⟩ : ∃ wo : World, wo = wc := ⟨_, rfl⟩
  go_upto_if 25 with fail
  go_cut [1] from 26 (fun s1 wx => s1 = .int .i64 (a : Int) ∧ wx = wo)
  case first =>
    obtain ⟨hA1, hA2⟩ := HA.out
    have hbo := HBO.out
    cases bo with
    | true =>
      have e : (a : Int) = 0 := by rw [hA2]; unfold S.pos; rw [if_neg (by have := of_decide_eq_true hbo.symm; omega)]; rfl
      clear hbo hA2
      go_wp2_with fail
      all_goals (go_meet; exact ⟨by rw [e], rfl⟩)
    | false =>
      have e : (a : Int) = at_ := by have h := of_decide_eq_false hbo.symm; rw [hA2]; unfold S.pos; rw [if_pos (by omega)]; omega
      clear hbo hA2
      go_wp2_with fail
      all_goals (go_meet; exact ⟨by rw [e], rfl⟩)
  case rest =>
    obtain ⟨rfl, rfl⟩ := hcut
    go_wp2_with fail
    go_at_call 23
    refine (find_any _ l a wc (HV.out.chg (Chg.ofBelow' S1.out.b : Chg (fun _ => False) w wc) (fun _ _ _ _ _ e => e)) (by rw [← HN.out]; exact HA.out.1) (by have := HN.out; have := HB.out; omega)).mono ?_
    rintro e W2 ⟨rfl, hb⟩
    have S2 := hide (S1.out.below hb)
    clear hb S1
    cases hf : S.find l a with
    | none =>
      have F1 : Hid (S.lane l a = -1 ∧ S.took l a q = 0 ∧ S.next l a = a ∧ S.after l a q = l) := ⟨by rw [S.lane, hf]; rfl, by rw [S.took, hf], by rw [S.next, hf], by rw [S.after, hf]⟩
      clear hf
      rw [show S.num none = -1 from rfl]
      obtain ⟨c0, c1, c2⟩ := S2.out.t.c
      have e0 := S2.out.t.fz 0
      have e1 := S2.out.t.fz 1
      have e2 := S2.out.t.fz 2
      have T5 := hide (S2.out.turn (.int .i64 (-1)) (.int .i64 0) (.int .i64 (a : Int)))
      go_wp2
      refine bodyPost_ret (results_rt Try.results9 _ _ w.heap.size _ rfl (var23 T5.out.1.row)) rfl ?_
      exact ⟨w.heap.size + 1, by rw [F1.out.1, F1.out.2.1, F1.out.2.2.1, ← HN.out]; rfl, by omega, by rw [F1.out.2.2.2]; exact T5.out.2.1, T5.out.2.2⟩
    | some k =>
      have fy := S.find_yes (by rw [← HN.out]; exact HA.out.1) hf
      have hkl : k < l.length := fy.1
      have hkn : k < n := by rw [HN.out]; exact hkl
      have F1 : Hid (S.lane l a = (k : Int) ∧ S.took l a q = S.tk (l.getD k S.l0) q ∧ S.next l a = (k + 1) % n ∧ S.after l a q = l.set k (S.one (l.getD k S.l0) q)) := ⟨by rw [S.lane, hf]; rfl, by rw [S.took, hf], by rw [S.next, hf, HN.out], by rw [S.after, hf]⟩
      rw [show S.num (some k) = (k : Int) from rfl]
      obtain ⟨g, off, rfl, hg, hra⟩ := lane_at HV.out k hkl
      have MX : Hid (S.Mild (l.getD k S.l0)) := by
        show S.Mild _
        rw [List.getD_eq_getElem?_getD, List.getElem?_eq_getElem hkl]
        exact HM.out _ (List.getElem_mem hkl)
      obtain ⟨x, hx⟩ : ∃ x, x = l.getD k S.l0 := ⟨_, rfl⟩
      rw [← hx] at F1 MX hra
      obtain ⟨c0, c1, c2⟩ := lane_cells (rangeAt_below hra S2.out.b hg)
      have KN := hide hkn
      have KL := hide hkl
      clear hf fy hx hkl hra hg
      obtain ⟨xw, xb, xd⟩ := x
      have p1 : ¬ (k : Int) < 0 := by omega
      have p2 : (0 : Int) ≤ (k : Int) := by omega
      have p3 : (k : Int) < (n : Int) := by omega
      go_wp2_with fail
      go_at_call 24
      refine (serve_any ⟨xw, xb, xd⟩ q MX.out W2).mono ?_
      rintro e W3 ⟨rfl, hb⟩
      have S3 := hide (S2.out.below hb)
      obtain ⟨t, ht⟩ : ∃ t, t = S.tk ⟨xw, xb, xd⟩ q := ⟨_, rfl⟩
      obtain ⟨y, hy⟩ : ∃ y, y = S.one ⟨xw, xb, xd⟩ q := ⟨_, rfl⟩
      rw [← ht, ← hy] at F1 ⊢
      clear hb S2 c0 c1 c2 ht hy
      obtain ⟨yw, yb, yd⟩ := y
      rw [show (encL ⟨yw, yb, yd⟩).toArray = #[.int .i64 yw, .int .i64 yb, .int .i64 yd] from rfl]
      go_upto_region 9 with fail
      generalize hX : World.alloc _ _ = X
      have X0 : Hid (Sw w X l ∧ Cel X W3.heap.size 28 (.int .i64 yw) (.int .i64 yb) (.int .i64 yd)) := by
        show _ ∧ _
        rw [← hX]
        exact ⟨S3.out.below (one_below _ _), Cel.new _ _ _ _ _⟩
      clear hX S3
      generalize W3.heap.size = gd at X0 ⊢
      obtain ⟨d0, d1, d2⟩ := X0.out.2.c
      obtain ⟨r0, r1, r2⟩ := lane_cells (row_cells X0.out.1.r k KL.out)
      have f0 := frozen_of_row _ _ (k * 3) _ _ X0.out.1.r
      have f1 := frozen_of_row _ _ (k * 3 + 1) _ _ X0.out.1.r
      have f2 := frozen_of_row _ _ (k * 3 + 2) _ _ X0.out.1.r
      have Y0 := hide (X0.out.1.put k ⟨yw, yb, yd⟩ KL.out)
      go_upto_region 10 with fail
      clear d0 d1 d2 r0 r1 r2 f0 f1 f2 X0
      obtain ⟨Y, hY⟩ : ∃ Y, Y = ((X.setCell ⟨w.heap.size + 1, k * 3, none⟩ (.int .i64 yw)).setCell ⟨w.heap.size + 1, k * 3 + 1, none⟩ (.int .i64 yb)).setCell ⟨w.heap.size + 1, k * 3 + 2, none⟩ (.int .i64 yd) := ⟨_, rfl⟩
      have Y1 : Hid (Sw w Y (l.set k ⟨yw, yb, yd⟩)) := by show Sw _ _ _; rw [hY]; exact Y0.out
      rw [← hY]
      clear hY Y0
      obtain ⟨m, hm⟩ : ∃ m, m = (k + 1) % n := ⟨_, rfl⟩
      rw [← hm] at F1
      have q1 : IntKind.i64.wrap ((k : Int) + 1) = (k : Int) + 1 := wrap_small (by omega) (by have := KN.out; have := HB.out; omega)
      have q2 : Int.tmod ((k : Int) + 1) (n : Int) = (m : Int) := by rw [Int.tmod_eq_emod_of_nonneg (by omega), hm]; simp
      have q3 : ¬ (n : Int) = 0 := by have := KN.out; omega
      have hmn : m < n := by rw [hm]; exact Nat.mod_lt _ (by have := KN.out; omega)
      have q4 : IntKind.i64.wrap (m : Int) = (m : Int) := wrap_small (by omega) (by have := HB.out; omega)
      obtain ⟨c0, c1, c2⟩ := Y1.out.t.c
      have e0 := Y1.out.t.fz 0
      have e1 := Y1.out.t.fz 1
      have e2 := Y1.out.t.fz 2
      have T5 := hide (Y1.out.turn (.int .i64 (k : Int)) (.int .i64 t) (.int .i64 (m : Int)))
      clear hm hmn p1
      go_wp2
      refine bodyPost_ret (results_rt Try.results9 _ _ w.heap.size _ rfl (var23 T5.out.1.row)) rfl ?_
      exact ⟨w.heap.size + 1, by rw [F1.out.1, F1.out.2.1, F1.out.2.2.1, ← HN.out]; rfl, by omega, by rw [F1.out.2.2.2]; exact T5.out.2.1, T5.out.2.2⟩
theorem eq_p0 (x : S.Ln) (w : World) : (part 3 (encL x).toArray 0).run Try.prog w = .ok (.int .i64 x.w) w := by simp [part, encL]
theorem eq_p1 (x : S.Ln) (w : World) : (part 3 (encL x).toArray 1).run Try.prog w = .ok (.int .i64 x.b) w := by simp [part, encL]
theorem eq_p2 (x : S.Ln) (w : World) : (part 3 (encL x).toArray 2).run Try.prog w = .ok (.int .i64 x.d) w := by simp [part, encL]
def eqBody (d : Nat) (xs ys : Array Value) (f : Field) (_ : Option Bool × Unit) : Sem (ForInStep (Option Bool × Unit)) :=
  if f.name ≠ "_" then do
    let a ← part f.type xs f.offset
    let b ← part f.type ys f.offset
    let r ← Op.equalIn d f.type a b
    if (!r) = true then pure (ForInStep.done (some false, ())) else pure (ForInStep.yield (none, ()))
  else pure (ForInStep.yield (none, ()))
theorem eq_step {d : Nat} {xs ys : Array Value} {f : Field} {fs : List Field} {a b : Value} {r : Bool} {w : World} (hn : f.name ≠ "_") (pa : (part f.type xs f.offset).run Try.prog w = .ok a w) (pb : (part f.type ys f.offset).run Try.prog w = .ok b w) (e : (Op.equalIn d f.type a b).run Try.prog w = .ok r w) :
    (forIn (f :: fs) ((none, ()) : Option Bool × Unit) (eqBody d xs ys)).run Try.prog w = if r = true then (forIn fs ((none, ()) : Option Bool × Unit) (eqBody d xs ys)).run Try.prog w else .ok (some false, ()) w := by
  have h : (eqBody d xs ys f (none, ())).run Try.prog w = if r = true then .ok (ForInStep.yield (none, ())) w else .ok (ForInStep.done (some false, ())) w := by
    rw [eqBody, if_pos hn]
    simp only [Sem.run_bind, pa, pb, e, Result.andThen_ok]
    cases r <;> rfl
  rw [List.forIn_cons, Sem.run_bind, h]
  cases r <;> rfl
theorem eq_all {d t : Nat} {fs : Array Field} {xs ys : Array Value} {r : Bool} {w : World} (hu : Try.prog.underlying t = some (.struct fs)) (hp : Try.prog.stoodInHeld t = false)
    (h : (forIn fs.toList ((none, ()) : Option Bool × Unit) (eqBody d xs ys)).run Try.prog w = .ok (if r = true then none else some false, ()) w) : (Op.equalIn (d + 1) t (.agg xs) (.agg ys)).run Try.prog w = .ok r w := by
  rw [Op.equalIn]
  simp only [Sem.run_bind, run_underlying hu, Result.andThen_ok, run_program, hp, Bool.false_eq_true, if_false]
  rw [← Array.forIn_toList]
  unfold eqBody at h
  rw [h]
  cases r <;> rfl
set_option maxRecDepth 100000 in
theorem equal_ld (a b : S.Ln) (r : Bool) (hr : decide (a = b) = r) (d : Nat) (w : World) : (Op.equalIn (d + 2) 28 (.agg (encL a).toArray) (.agg (encL b).toArray)).run Try.prog w = .ok r w := by
  have hp : Try.prog.stoodInHeld 28 = false := by kernel_rfl
  have f0 : (Op.equalIn (d + 1) 3 (.int .i64 a.w) (.int .i64 b.w)).run Try.prog w = .ok (a.w == b.w) w := run_equalIn_int w d 3 .i64 .i64 _ _ Try.underlying3
  have f1 : (Op.equalIn (d + 1) 3 (.int .i64 a.b) (.int .i64 b.b)).run Try.prog w = .ok (a.b == b.b) w := run_equalIn_int w d 3 .i64 .i64 _ _ Try.underlying3
  have f2 : (Op.equalIn (d + 1) 3 (.int .i64 a.d) (.int .i64 b.d)).run Try.prog w = .ok (a.d == b.d) w := run_equalIn_int w d 3 .i64 .i64 _ _ Try.underlying3
  have e : r = ((a.w == b.w) && ((a.b == b.b) && (a.d == b.d))) := by
    rw [← hr, Bool.eq_iff_iff]
    obtain ⟨a1, a2, a3⟩ := a
    obtain ⟨b1, b2, b3⟩ := b
    simp
  rw [e]
  refine eq_all Try.underlying28 hp ?_
  refine (eq_step (by decide) (eq_p0 a w) (eq_p0 b w) f0).trans ?_
  cases h0 : (a.w == b.w)
  · rfl
  refine (eq_step (by decide) (eq_p1 a w) (eq_p1 b w) f1).trans ?_
  cases h1 : (a.b == b.b)
  · rfl
  refine (eq_step (by decide) (eq_p2 a w) (eq_p2 b w) f2).trans ?_
  cases h2 : (a.d == b.d)
  · rfl
  · rfl
theorem equal_l (a b : S.Ln) (r : Bool) (hr : decide (a = b) = r) (w : World) : (Op.equalIn 10000 28 (.agg (encL a).toArray) (.agg (encL b).toArray)).run Try.prog w = .ok r w := equal_ld a b r hr 9998 w
theorem wpList_store_known {w : World} {ops : Array Oper} {rest : List Oper} {o : Oper} {a : Act} {Q : Exit → Act → World → Prop} (hgd : o.guard = none) (t : TypeId) (x y : Operand) (ho : o.op = .store t x y) (w' : World)
    (hr : (Instr.storeAt t (a.eval x) (a.eval y)).run Try.prog w = .ok () w') (h : wpList Try.prog ops Q rest (a.put o.dst undef) w') : wpList Try.prog ops Q (o :: rest) a w :=
  wpList_plain hgd fun _ hK => by
    unfold Oper.wp execOp
    simp only [ho, Sem.run_bind, hr, Result.andThen_ok, Sem.run_pure]
    exact hK _ _ h
theorem wpList_store_as {w : World} {ops : Array Oper} {rest : List Oper} {o : Oper} {a : Act} {Q : Exit → Act → World → Prop} (hgd : o.guard = none) (t : TypeId) (x y : Operand) (ho : o.op = .store t x y) (vx vy : Value) (hx : a.eval x = vx) (hy : a.eval y = vy) (w' : World)
    (hr : (Instr.storeAt t vx vy).run Try.prog w = .ok () w') (h : wpList Try.prog ops Q rest (a.put o.dst undef) w') : wpList Try.prog ops Q (o :: rest) a w := by
  subst hx hy
  exact wpList_store_known hgd t x y ho w' hr h
theorem size_l (c : S.Ln) : (Try.prog.info? 28).map (·.size) = some (encL c).toArray.size := size28
end Go.Proofs.Ytnplijgdklnipaa
