/- The document's Write. -/
import Derived.Test.YtjnbjgkcliaipaaRapp
namespace Go.Proofs.Ytjnbjgkcliaipaa
open Go.RowKit
theorem rwrite_arg (r : Ro) (d : S.Dk) (n : Int) (ao : Option Addr) (len cap : Nat) (w : World) (hd : RkIs w r d) (hn : ¬ (0 ≤ n ∧ n < d.safe.length) ∨ len ≠ 128) :
   Calls Try.prog 23 #[.pointer (some ⟨r.g, 0, none⟩), .int .i64 n, .slice ao len cap] w fun e w' => e = .returned (.int .i64 1) ∧ w = w' := by
  obtain ⟨asv, c, hsv⟩ := ownsRow_form hd.safe
  have c0 := (cells3 hd.row).1
  rw [hsv, hd.sl] at c0
  obtain ⟨L, hL⟩ : ∃ L, L = d.safe.length := ⟨_, rfl⟩
  rw [← hL] at c0 hn
  clear hd hsv hL
  by_cases h0 : n < 0
  · go_enter Try.func23, Try.ntmps23
    go_wp2
    go_ret
    exact ⟨rfl, rfl⟩
  · by_cases h1 : (L : Int) ≤ n
    · go_enter Try.func23, Try.ntmps23
      go_wp2
      go_ret
      exact ⟨rfl, rfl⟩
    · have hl : ¬ ((len : Int) = 128) := by omega
      clear hn
      go_enter Try.func23, Try.ntmps23
      go_wp2
      go_ret
      exact ⟨rfl, rfl⟩
theorem rwrite_stop (r : Ro) (d : S.Dk) (n : Nat) (ao : Option Addr) (cap : Nat) (w : World) (hd : RkIs w r d) (hn : n < d.safe.length) (hg : d.goes = false) :
   Calls Try.prog 23 #[.pointer (some ⟨r.g, 0, none⟩), .int .i64 (n : Int), .slice ao 128 cap] w fun e w' => e = .returned (.int .i64 13) ∧ RkIs w' r d ∧ RkTo r w r w' := by
  obtain ⟨asv, c, hsv⟩ := ownsRow_form hd.safe
  have c0 := (cells3 hd.row).1
  rw [hsv, hd.sl] at c0
  obtain ⟨L, hL⟩ : ∃ L, L = d.safe.length := ⟨_, rfl⟩
  rw [← hL] at c0 hn
  have q2 : ¬ ((n : Int) < 0) := by omega
  have q3 : ¬ ((L : Int) ≤ (n : Int)) := by omega
  have HD := hide hd
  have T := hide (S.Dk.tried_no hg)
  clear hd hsv hL hn
  go_enter Try.func23, Try.ntmps23
  go_wp2_with fail
  refine (rgoes_any r d w HD.out).mono ?_
  rintro e w1 ⟨rfl, h1, h2⟩
  rw [T.out] at h1
  have H1 := hide h1
  have H2 := hide h2
  clear h1 h2
  go_wp2
  go_ret
  exact ⟨rfl, H1.out, H2.out⟩
/-- The disk behind one write more. -/
theorem RkIs.more {X Y w : World} {r : Ro} {d : S.Dk} {n : Nat} {t : List UInt8} {v2 u : Value} (h : RkIs X r d) (hn : n < d.safe.length) (ht : t.length = 128) (hu : URow X u t) (hub : ∀ k, u.ownBlock = some k → w.heap.size ≤ k ∧ ¬ r.has k) (hwX : w.heap.size ≤ X.heap.size) (hw : Below w.heap.size w X) (hlt : ∀ k, r.has k ∨ r.txt k → k < w.heap.size)
    (hp : Y.ownsRow 0 81 2 v2 (r.ws ++ [(n, u)]).length (wcells (r.ws ++ [(n, u)]))) (hg : X.grownBy Y r.pv.ownBlock) (ho : ∀ k, v2.ownBlock = some k → r.pv.ownBlock = some k ∨ X.heap.size ≤ k) :
    RkIs (Y.setCell ⟨r.g, 1, none⟩ v2) { r with pv := v2, ws := r.ws ++ [(n, u)] } (d.write n t) ∧ RkTo r w { r with pv := v2, ws := r.ws ++ [(n, u)] } (Y.setCell ⟨r.g, 1, none⟩ v2) := by
  have hrow : Y.heap[r.g]? = _ := (hg.block r.g (h.lt _ (Or.inl (Or.inl rfl))) (fun e => h.sep.2.1 e.symm)).trans h.row
  have R := heap_setCell_same _ _ 1 _ _ v2 hrow
  have hcY : Chg r.has X Y := (Chg.refl _ _).grown hg (fun k _ e => Or.inr (Or.inr e))
  have hc : Chg r.has X (Y.setCell ⟨r.g, 1, none⟩ v2) := hcY.setCell r.g 1 _ (fun _ => Or.inl rfl)
  have hco : Chg (fun k => k = r.g) Y (Y.setCell ⟨r.g, 1, none⟩ v2) := (Chg.refl (fun k => k = r.g) Y).setCell r.g 1 _ (fun _ => rfl)
  have htx := h.texts hc
  have hnew : ∀ k, v2.ownBlock = some k → ¬ r.pv.ownBlock = some k → w.heap.size ≤ k := fun k hk hn' => by rcases ho k hk with e | e; exact absurd e hn'; omega
  have hv2g : v2.ownBlock ≠ some r.g := fun e => by
    have := hlt r.g (Or.inl (Or.inl rfl))
    rcases ho _ e with e' | e'
    · exact h.sep.2.1 e'
    · omega
  have hwn : ∀ k, k < (r.ws ++ [(n, u)]).length → (r.ws ++ [(n, u)]).getD k (0, nilv) = if k < r.ws.length then r.wn k else (n, u) := fun k hk => by
    simp only [List.getD_eq_getElem?_getD]
    split
    · next e => rw [List.getElem?_append_left e]
    · next e =>
      obtain rfl : k = r.ws.length := by simp at hk; omega
      simp
  have hdn : ∀ k, k < (d.pend ++ [(n, t)]).length → S.Ws.nth (d.pend ++ [(n, t)]) k = if k < d.pend.length then S.Ws.nth d.pend k else (n, t) := fun k hk => by
    simp only [S.Ws.nth, List.getD_eq_getElem?_getD]
    split
    · next e => rw [List.getElem?_append_left e]
    · next e =>
      obtain rfl : k = d.pend.length := by simp at hk; omega
      simp
  refine ⟨⟨R, ownsRow_chg h.safe (fun k hk => ?_), ownsRow_chg hp (fun k hk => hco.block k (hp.lt k hk).2 (fun e => hv2g (by have e' : k = r.g := e; rw [← e']; exact hk))), h.sl, by simp [S.Dk.write, h.pl], htx.1, fun k hk => ?_, h.ok.write n t hn ht, h.left, ⟨h.sep.1, hv2g, fun k hk e => ?_⟩, fun k hk => ?_⟩, rfl, ?_, fun k hk => ?_, fun k hk => ?_⟩
  · exact (hco.block k (Nat.lt_of_lt_of_le (h.safe.lt k hk).2 hg.size) (fun e => h.sep.1 (by have e' : k = r.g := e; rw [← e']; exact hk))).trans (hg.block k (h.safe.lt k hk).2 (fun e => h.sep.2.2 k hk e.symm))
  · have hk' : k < (r.ws ++ [(n, u)]).length := hk
    have hkd : k < (d.pend ++ [(n, t)]).length := by simp [← h.pl] at hk' ⊢; omega
    show ((r.ws ++ [(n, u)]).getD k (0, nilv)).1 = (S.Ws.nth (d.pend ++ [(n, t)]) k).1 ∧ URow _ ((r.ws ++ [(n, u)]).getD k (0, nilv)).2 (S.Ws.nth (d.pend ++ [(n, t)]) k).2
    rw [hwn k hk', hdn k hkd, h.pl]
    split
    · next e => exact htx.2 k (by rw [h.pl]; exact e)
    · exact ⟨rfl, hu.chg hc (fun j hj => (hub j hj).2)⟩
  · rcases ho k e with e' | e'
    · exact h.sep.2.2 k hk e'
    · have := (h.safe.lt k hk).2; omega
  · intro e
    have hnot : ¬ r.has k := by
      rcases hk with ⟨i, hi, e'⟩ | ⟨i, hi, e'⟩
      · exact h.tsep k (Or.inl ⟨i, hi, e'⟩)
      · have hi' : i < (r.ws ++ [(n, u)]).length := hi
        have e2 : ((r.ws ++ [(n, u)]).getD i (0, nilv)).2.ownBlock = some k := e'
        rw [hwn i hi'] at e2
        split at e2
        · next e3 => exact h.tsep k (Or.inr ⟨i, e3, e2⟩)
        · exact (hub k e2).2
    have hkX : k < X.heap.size := by
      rcases hk with ⟨i, hi, e'⟩ | ⟨i, hi, e'⟩
      · exact h.lt k (Or.inr (Or.inl ⟨i, hi, e'⟩))
      · have hi' : i < (r.ws ++ [(n, u)]).length := hi
        have e2 : ((r.ws ++ [(n, u)]).getD i (0, nilv)).2.ownBlock = some k := e'
        rw [hwn i hi'] at e2
        split at e2
        · next e3 => exact h.lt k (Or.inr (Or.inr ⟨i, e3, e2⟩))
        · exact hu.lt e2
    rcases e with e | e | e
    · exact hnot (Or.inl e)
    · exact hnot (Or.inr (Or.inl e))
    · rcases ho k e with e' | e'
      · exact hnot (Or.inr (Or.inr e'))
      · omega
  · exact (Chg.ofBelow' hw).trans hc (fun _ _ e => e)
  · rcases hk with e | e | e
    · exact Or.inl (Or.inl e)
    · exact Or.inl (Or.inr (Or.inl e))
    · rcases ho k e with e' | e'
      · exact Or.inl (Or.inr (Or.inr e'))
      · exact Or.inr (by omega)
  · rcases hk with ⟨i, hi, e'⟩ | ⟨i, hi, e'⟩
    · exact Or.inl (Or.inl ⟨i, hi, e'⟩)
    · have hi' : i < (r.ws ++ [(n, u)]).length := hi
      have e2 : ((r.ws ++ [(n, u)]).getD i (0, nilv)).2.ownBlock = some k := e'
      rw [hwn i hi'] at e2
      split at e2
      · next e3 => exact Or.inl (Or.inr ⟨i, e3, e2⟩)
      · exact Or.inr (hub k e2).1
set_option maxHeartbeats 3200000 in
set_option maxRecDepth 100000 in
theorem rwrite_yes (r : Ro) (d : S.Dk) (n : Nat) (v : Value) (t : List UInt8) (w : World) (hd : RkIs w r d) (hn : n < d.safe.length) (hg : d.goes = true) (ht : t.length = 128) (hb : d.pend.length ≤ 1000000) (hv : ∀ W, Chg r.has w W → SliceAt W v t) :
   Calls Try.prog 23 #[.pointer (some ⟨r.g, 0, none⟩), .int .i64 (n : Int), v] w fun e w' => e = .returned (.int .i64 0) ∧ ∃ r', RkIs w' r' (d.went.write n t) ∧ RkTo r w r' w' := by
  obtain ⟨ao, len, cap, rfl, hlen, -⟩ := (hv w (Chg.refl _ _)).form
  rw [ht] at hlen
  subst hlen
  obtain ⟨asv, c, hsv⟩ := ownsRow_form hd.safe
  have c0 := (cells3 hd.row).1
  rw [hsv, hd.sl] at c0
  obtain ⟨L, hL⟩ : ∃ L, L = d.safe.length := ⟨_, rfl⟩
  rw [← hL] at c0
  have q2 : ¬ ((n : Int) < 0) := by omega
  have q3 : ¬ ((L : Int) ≤ (n : Int)) := by omega
  have HD := hide hd
  have T := hide (S.Dk.tried_yes hg)
  have HV := hide hv
  have HN : Hid (n < d.safe.length) := hn
  have HT := hide ht
  have HB := hide hb
  clear hd hsv hL hn hv ht hb
  go_enter Try.func23, Try.ntmps23
  go_wp2_with fail
  refine (rgoes_any r d w HD.out).mono ?_
  rintro e w1 ⟨rfl, h1, h2⟩
  rw [T.out] at h1
  have H1 := hide h1
  have H2 := hide h2
  have SV := hide (HV.out w1 h2.chg)
  have HLT := hide h1.lt
  obtain ⟨ap, cp, hpf⟩ := ownsRow_form h1.pend
  rw [h1.pl] at hpf
  have HPF := hide hpf
  obtain ⟨N, hN⟩ : ∃ N, N = d.went.pend.length := ⟨_, rfl⟩
  rw [← hN] at HPF
  have HNN := hide hN
  clear h1 h2 hpf hN c0 HV
  go_wp2_with fail
  refine wp_region_noPanic ?_
  refine wp_region_held_drew (S := (fun _ => True)) follows trivial (fun hHeld => ?_)
  have bD : Below w1.heap.size w1 w1.drew := (Chg.refl (fun _ => False) w1).drew.below _ (Nat.le_refl _) (fun _ _ e => e)
  have D0 := hide (H1.out.below bD)
  have V0 := hide (SV.out.below bD (Nat.le_refl _))
  have B0 := hide bD
  clear bD SV H1
  generalize w1.drew = z0 at D0 V0 B0 ⊢
  refine wpAnyH_take (i := 0) (oi := { dst := some 26, op := Op.move (Operand.tmp 0), type := 45, pos := "ref.go:68", after := #[], guard := none }) (v := ?_) rfl (by kernel_rfl) (by kernel_rfl) (by kernel_rfl) (fun _ _ _ h => h) (Or.inl ⟨by rfl, ?_⟩) (by assumption) ?_
  rotate_left
  · intro w hSw
    clear hSw
    go_simp
    all_goals with_reducible rfl
  simp only [Act.put, List.setIfInBounds_toArray, List.set_cons_zero, List.set_cons_succ]
  refine wpAnyH_take (i := 1) (oi := { dst := some 27, op := Op.move (Operand.tmp 0), type := 45, pos := "ref.go:68", after := #[], guard := none }) (v := ?_) rfl (by kernel_rfl) (by kernel_rfl) (by kernel_rfl) (fun _ _ _ h => h) (Or.inl ⟨by rfl, ?_⟩) (by assumption) ?_
  rotate_left
  · intro w hSw
    clear hSw
    go_simp
    all_goals with_reducible rfl
  simp only [Act.put, List.setIfInBounds_toArray, List.set_cons_zero, List.set_cons_succ]
  refine wpAnyH_take (i := 2) (oi := { dst := some 28, op := Op.nilCheck (Operand.tmp 27), type := 0, pos := "ref.go:68", after := #[{ on := 1, ground := Ground.data }], guard := none }) (v := ?_) rfl (by kernel_rfl) (by kernel_rfl) (by kernel_rfl) (fun _ _ _ h => h) (Or.inl ⟨by rfl, ?_⟩) (by assumption) ?_
  rotate_left
  · intro w hSw
    clear hSw
    go_simp
    all_goals with_reducible rfl
  simp only [Act.put, List.setIfInBounds_toArray, List.set_cons_zero, List.set_cons_succ]
  refine wpAnyH_take (i := 3) (oi := { dst := some 29, op := Op.fieldAddr 79 (Operand.tmp 28) 1, type := 0, pos := "ref.go:68", after := #[{ on := 2, ground := Ground.data }], guard := none }) (v := ?_) rfl (by kernel_rfl) (by kernel_rfl) (by kernel_rfl) (fun _ _ _ h => h) (Or.inl ⟨by rfl, ?_⟩) (by assumption) ?_
  rotate_left
  · intro w hSw
    clear hSw
    go_simp
    all_goals with_reducible rfl
  simp only [Act.put, List.setIfInBounds_toArray, List.set_cons_zero, List.set_cons_succ]
  refine wpAnyH_take (i := 5) (oi := { dst := some 31, op := Op.move (Operand.tmp 1), type := 3, pos := "ref.go:68", after := #[], guard := none }) (v := ?_) rfl (by kernel_rfl) (by kernel_rfl) (by kernel_rfl) (fun _ _ _ h => h) (Or.inl ⟨by rfl, ?_⟩) (by assumption) ?_
  rotate_left
  · intro w hSw
    clear hSw
    go_simp
    all_goals with_reducible rfl
  simp only [Act.put, List.setIfInBounds_toArray, List.set_cons_zero, List.set_cons_succ]
  refine wpAnyH_take (i := 7) (oi := { dst := some 33, op := Op.move (Operand.tmp 2), type := 29, pos := "ref.go:68", after := #[], guard := none }) (v := ?_) rfl (by kernel_rfl) (by kernel_rfl) (by kernel_rfl) (fun _ _ _ h => h) (Or.inl ⟨by rfl, ?_⟩) (by assumption) ?_
  rotate_left
  · intro w hSw
    clear hSw
    go_simp
    all_goals with_reducible rfl
  simp only [Act.put, List.setIfInBounds_toArray, List.set_cons_zero, List.set_cons_succ]
  refine wpAnyH_ready (rs := [4, 6]) (by kernel_rfl) (by simp) ?_
  refine AllReadyH.cons (o := { dst := some 30, op := Op.load 77 (Operand.tmp 29), type := 77, pos := "ref.go:68", after := #[{ on := 3, ground := Ground.data }], guard := none }) rfl (fun K hK => ?_) ?_
  · skip
    have c1 := (cells3 D0.out.row).2.1
    rw [HPF.out] at c1
    go_simp
    refine hK.out _ _ trivial (fun hHeld => ?_)
    clear hK K c1
    try simp only [Act.put, List.setIfInBounds_toArray, List.set_cons_zero, List.set_cons_succ]
    refine wpAnyH_ready (rs := [6]) (by kernel_rfl) (by simp) ?_
    refine step_buildSlice (o := { dst := some 32, op := Op.buildSlice 29 0 #[], type := 29, pos := "ref.go:68", after := #[], guard := none }) rfl rfl 29 0 [] rfl _ _ (empty29 _) AllReadyH.nil ⟨trivial, fun hHeld => ?_⟩
    simp only [Act.put, List.setIfInBounds_toArray, List.set_cons_zero, List.set_cons_succ]
    have bX : Below z0.heap.size z0 (z0.alloc (.cells #[] 5)) := (Below.refl _ _).alloc (Nat.le_refl _) _
    have U1 := hide (urow_empty z0)
    have D1 := hide (D0.out.below bX)
    have V1 := hide (V0.out.below bX (Nat.le_refl _))
    have B1 := hide (B0.out.trans (bX.mono B0.out.size))
    have hz0 : w1.heap.size ≤ z0.heap.size := B0.out.size
    clear bX D0 V0 B0 hHeld
    generalize z0.alloc (.cells #[] 5) = z1 at *
    generalize z0.heap.size = ge at *
    refine wpAnyH_ready (rs := [8]) (by kernel_rfl) (by simp) ?_
    refine step_append (o := { dst := some 34, op := Op.call { callee := Callee.builtin Builtin.append, args := #[Operand.tmp 32, Operand.tmp 33], argTypes := #[29, 29] }, type := 29, pos := "ref.go:68", after := #[{ on := 6, ground := Ground.data }, { on := 7, ground := Ground.data }], guard := none }) rfl rfl _ _ 29 29 rfl _ _ rfl rfl (run_append_row z1 (.slice (some ⟨ge, 0, none⟩) 0 0) (.slice ao 128 cap) [] t 29 U1.out V1.out (by rw [HT.out]; simp)) AllReadyH.nil ?_
    rintro u2 z2 ⟨hu, hgr, ho⟩
    rw [List.nil_append] at hu
    obtain ⟨gv, cv, curv, hv1, -, -, -, -, -⟩ := hu.lay (by rw [HT.out]; omega)
    rw [HT.out] at hv1
    have hgv : w1.heap.size ≤ gv := by
      rcases ho gv (by rw [hv1]; rfl) with e | e
      · simp only [Value.ownBlock, Option.some.injEq] at e; omega
      · have := B1.out.size; omega
    subst hv1
    have hcY : Chg (fun k => k = ge) z1 z2 := (Chg.refl _ _).grown hgr (fun k _ e => by simp only [Value.ownBlock, Option.some.injEq] at e; exact e.symm)
    have D2 := hide (D1.out.chg hcY (fun k hk e => by have := HLT.out k hk; have e' : k = ge := e; omega))
    have B2 := hide (B1.out.trans (hcY.below _ B1.out.size (fun k hk e => by have e' : k = ge := e; omega)))
    have U2 := hide hu
    refine ⟨trivial, fun hHeld => ?_⟩
    simp only [Act.put, List.setIfInBounds_toArray, List.set_cons_zero, List.set_cons_succ]
    clear hu hgr ho hcY D1 B1 V1 U1 hHeld
    refine wpAnyH_take (i := 9) (oi := { dst := some 35, op := Op.build 81 #[(0, Operand.tmp 31), (1, Operand.tmp 34)], type := 81, pos := "ref.go:68", after := #[{ on := 5, ground := Ground.data }, { on := 8, ground := Ground.data }], guard := none }) (v := ?_) rfl (by kernel_rfl) (by kernel_rfl) (by kernel_rfl) (fun _ _ _ h => h) (Or.inl ⟨by rfl, ?_⟩) (by assumption) ?_
    rotate_left
    · intro w hSw
      clear hSw
      go_simp
      all_goals with_reducible rfl
    simp only [Act.put, List.setIfInBounds_toArray, List.set_cons_zero, List.set_cons_succ]
    refine wpAnyH_ready (rs := [10]) (by kernel_rfl) (by simp) ?_
    refine step_buildSlice (o := { dst := some 36, op := Op.buildSlice 77 1 #[(0, Operand.tmp 35)], type := 77, pos := "ref.go:68", after := #[{ on := 9, ground := Ground.data }], guard := none }) rfl rfl 77 1 [(0, Operand.tmp 35)] rfl _ _ (buildSlice77 n (.slice (some ⟨gv, 0, none⟩) 128 cv) _) AllReadyH.nil ⟨trivial, fun hHeld => ?_⟩
    simp only [Act.put, List.setIfInBounds_toArray, List.set_cons_zero, List.set_cons_succ]
    have bX : Below z2.heap.size z2 (z2.alloc (.cells #[.int .i64 (n : Int), .slice (some ⟨gv, 0, none⟩) 128 cv] 81)) := (Below.refl _ _).alloc (Nat.le_refl _) _
    have RN : Hid ((z2.alloc (.cells #[.int .i64 (n : Int), .slice (some ⟨gv, 0, none⟩) 128 cv] 81)).heap[z2.heap.size]? = some (.cells #[.int .i64 (n : Int), .slice (some ⟨gv, 0, none⟩) 128 cv] 81 (0, 0))) := heap_alloc_new _ _
    have D3 := hide (D2.out.below bX)
    have U3 := hide (U2.out.kept (fun k hk => bX.block k (U2.out.lt hk)))
    have B3 := hide (B2.out.trans (bX.mono B2.out.size))
    clear bX D2 U2 B2 hHeld
    generalize z2.alloc (.cells #[.int .i64 (n : Int), .slice (some ⟨gv, 0, none⟩) 128 cv] 81) = z3 at *
    generalize z2.heap.size = gx at *
    refine wpAnyH_ready (rs := [11]) (by kernel_rfl) (by simp) ?_
    have PX := D3.out.pend
    rw [HPF.out] at PX
    refine step_append (o := { dst := some 37, op := Op.call { callee := Callee.builtin Builtin.append, args := #[Operand.tmp 30, Operand.tmp 36], argTypes := #[77, 77] }, type := 77, pos := "ref.go:68", after := #[{ on := 4, ground := Ground.data }, { on := 10, ground := Ground.data }, { on := 8, ground := Ground.chain }], guard := none }) rfl rfl _ _ 77 77 rfl _ _ rfl rfl (append77 z3 (.slice ap N cp) (.slice (some ⟨gv, 0, none⟩) 128 cv) n r.ws gx PX rfl RN.out (by rw [D3.out.pl]; exact HB.out)) AllReadyH.nil ?_
    rintro v2 Y ⟨hu, hgr, ho⟩
    rw [← HPF.out] at hgr ho
    obtain ⟨ao2, c3, hv2⟩ := ownsRow_form hu
    generalize hLL : List.length (r.ws ++ _) = LL at hv2
    have MM := hide (RkIs.more (w := w1) D3.out HN.out HT.out U3.out (fun k hk => by simp only [Value.ownBlock, Option.some.injEq] at hk; exact ⟨by omega, fun e => by have := HLT.out k (Or.inl e); omega⟩) B3.out.size B3.out HLT.out hu hgr ho)
    have RY : Hid (Y.heap[r.g]? = _) := (hgr.block r.g (block_lt_of_row D3.out.row) (fun e => D3.out.sep.2.1 e.symm)).trans D3.out.row
    subst hv2
    clear hu hgr ho hLL PX D3 U3 RN
    refine ⟨trivial, fun hHeld => ?_⟩
    simp only [Act.put, List.setIfInBounds_toArray, List.set_cons_zero, List.set_cons_succ]
    refine wpAnyH_take (i := 12) (oi := { dst := some 38, op := Op.nilCheck (Operand.tmp 26), type := 0, pos := "ref.go:68", after := #[{ on := 0, ground := Ground.data }, { on := 0, ground := Ground.phase }, { on := 1, ground := Ground.phase }, { on := 2, ground := Ground.phase }, { on := 3, ground := Ground.phase }, { on := 4, ground := Ground.phase }, { on := 5, ground := Ground.phase }, { on := 6, ground := Ground.phase }, { on := 7, ground := Ground.phase }, { on := 8, ground := Ground.phase }, { on := 9, ground := Ground.phase }, { on := 10, ground := Ground.phase }, { on := 11, ground := Ground.phase }], guard := none }) (v := ?_) rfl (by kernel_rfl) (by kernel_rfl) (by kernel_rfl) (fun _ _ _ h => h) (Or.inl ⟨by rfl, ?_⟩) (by assumption) ?_
    rotate_left
    · intro w hSw
      clear hSw
      go_simp
      all_goals with_reducible rfl
    simp only [Act.put, List.setIfInBounds_toArray, List.set_cons_zero, List.set_cons_succ]
    refine wpAnyH_take (i := 13) (oi := { dst := some 39, op := Op.fieldAddr 79 (Operand.tmp 38) 1, type := 0, pos := "ref.go:68", after := #[{ on := 12, ground := Ground.data }, { on := 0, ground := Ground.phase }, { on := 1, ground := Ground.phase }, { on := 2, ground := Ground.phase }, { on := 3, ground := Ground.phase }, { on := 4, ground := Ground.phase }, { on := 5, ground := Ground.phase }, { on := 6, ground := Ground.phase }, { on := 7, ground := Ground.phase }, { on := 8, ground := Ground.phase }, { on := 9, ground := Ground.phase }, { on := 10, ground := Ground.phase }, { on := 11, ground := Ground.phase }], guard := none }) (v := ?_) rfl (by kernel_rfl) (by kernel_rfl) (by kernel_rfl) (fun _ _ _ h => h) (Or.inl ⟨by rfl, ?_⟩) (by assumption) ?_
    rotate_left
    · intro w hSw
      clear hSw
      go_simp
      all_goals with_reducible rfl
    simp only [Act.put, List.setIfInBounds_toArray, List.set_cons_zero, List.set_cons_succ]
    refine wpAnyH_ready (rs := [14]) (by kernel_rfl) (by simp) ?_
    refine AllReadyH.cons (o := { dst := none, op := Op.store 77 (Operand.tmp 39) (Operand.tmp 37), type := 0, pos := "ref.go:68", after := #[{ on := 13, ground := Ground.data }, { on := 11, ground := Ground.data }, { on := 11, ground := Ground.chain }, { on := 0, ground := Ground.phase }, { on := 1, ground := Ground.phase }, { on := 2, ground := Ground.phase }, { on := 3, ground := Ground.phase }, { on := 4, ground := Ground.phase }, { on := 5, ground := Ground.phase }, { on := 6, ground := Ground.phase }, { on := 7, ground := Ground.phase }, { on := 8, ground := Ground.phase }, { on := 9, ground := Ground.phase }, { on := 10, ground := Ground.phase }, { on := 11, ground := Ground.phase }], guard := none }) rfl (fun K hK => ?_) AllReadyH.nil
    have c2 := (cells3 RY.out).2.1
    have f2 := frozen_of_row _ _ 1 _ _ RY.out
    go_simp
    refine hK.out _ _ trivial (fun hHeld => ?_)
    clear hK K c2 f2
    try simp only [Act.put, List.setIfInBounds_toArray, List.set_cons_zero, List.set_cons_succ]
    refine wpAnyH_done (by kernel_rfl) ?_ _
    refine NoPanic.normal ?_
    clear hHeld RY
    go_wp2_with fail
    go_ret
    exact ⟨rfl, _, MM.out.1, H2.out.trans MM.out.2⟩
  refine step_buildSlice (o := { dst := some 32, op := Op.buildSlice 29 0 #[], type := 29, pos := "ref.go:68", after := #[], guard := none }) rfl rfl 29 0 [] rfl _ _ (empty29 _) AllReadyH.nil ⟨trivial, fun hHeld => ?_⟩
  simp only [Act.put, List.setIfInBounds_toArray, List.set_cons_zero, List.set_cons_succ]
  have bX : Below z0.heap.size z0 (z0.alloc (.cells #[] 5)) := (Below.refl _ _).alloc (Nat.le_refl _) _
  have U1 := hide (urow_empty z0)
  have D1 := hide (D0.out.below bX)
  have V1 := hide (V0.out.below bX (Nat.le_refl _))
  have B1 := hide (B0.out.trans (bX.mono B0.out.size))
  have hz0 : w1.heap.size ≤ z0.heap.size := B0.out.size
  clear bX D0 V0 B0 hHeld
  generalize z0.alloc (.cells #[] 5) = z1 at *
  generalize z0.heap.size = ge at *
  refine wpAnyH_ready (rs := [4, 8]) (by kernel_rfl) (by simp) ?_
  refine AllReadyH.cons (o := { dst := some 30, op := Op.load 77 (Operand.tmp 29), type := 77, pos := "ref.go:68", after := #[{ on := 3, ground := Ground.data }], guard := none }) rfl (fun K hK => ?_) ?_
  · skip
    have c1 := (cells3 D1.out.row).2.1
    rw [HPF.out] at c1
    go_simp
    refine hK.out _ _ trivial (fun hHeld => ?_)
    clear hK K c1
    try simp only [Act.put, List.setIfInBounds_toArray, List.set_cons_zero, List.set_cons_succ]
    refine wpAnyH_ready (rs := [8]) (by kernel_rfl) (by simp) ?_
    refine step_append (o := { dst := some 34, op := Op.call { callee := Callee.builtin Builtin.append, args := #[Operand.tmp 32, Operand.tmp 33], argTypes := #[29, 29] }, type := 29, pos := "ref.go:68", after := #[{ on := 6, ground := Ground.data }, { on := 7, ground := Ground.data }], guard := none }) rfl rfl _ _ 29 29 rfl _ _ rfl rfl (run_append_row z1 (.slice (some ⟨ge, 0, none⟩) 0 0) (.slice ao 128 cap) [] t 29 U1.out V1.out (by rw [HT.out]; simp)) AllReadyH.nil ?_
    rintro u2 z2 ⟨hu, hgr, ho⟩
    rw [List.nil_append] at hu
    obtain ⟨gv, cv, curv, hv1, -, -, -, -, -⟩ := hu.lay (by rw [HT.out]; omega)
    rw [HT.out] at hv1
    have hgv : w1.heap.size ≤ gv := by
      rcases ho gv (by rw [hv1]; rfl) with e | e
      · simp only [Value.ownBlock, Option.some.injEq] at e; omega
      · have := B1.out.size; omega
    subst hv1
    have hcY : Chg (fun k => k = ge) z1 z2 := (Chg.refl _ _).grown hgr (fun k _ e => by simp only [Value.ownBlock, Option.some.injEq] at e; exact e.symm)
    have D2 := hide (D1.out.chg hcY (fun k hk e => by have := HLT.out k hk; have e' : k = ge := e; omega))
    have B2 := hide (B1.out.trans (hcY.below _ B1.out.size (fun k hk e => by have e' : k = ge := e; omega)))
    have U2 := hide hu
    refine ⟨trivial, fun hHeld => ?_⟩
    simp only [Act.put, List.setIfInBounds_toArray, List.set_cons_zero, List.set_cons_succ]
    clear hu hgr ho hcY D1 B1 V1 U1 hHeld
    refine wpAnyH_take (i := 9) (oi := { dst := some 35, op := Op.build 81 #[(0, Operand.tmp 31), (1, Operand.tmp 34)], type := 81, pos := "ref.go:68", after := #[{ on := 5, ground := Ground.data }, { on := 8, ground := Ground.data }], guard := none }) (v := ?_) rfl (by kernel_rfl) (by kernel_rfl) (by kernel_rfl) (fun _ _ _ h => h) (Or.inl ⟨by rfl, ?_⟩) (by assumption) ?_
    rotate_left
    · intro w hSw
      clear hSw
      go_simp
      all_goals with_reducible rfl
    simp only [Act.put, List.setIfInBounds_toArray, List.set_cons_zero, List.set_cons_succ]
    refine wpAnyH_ready (rs := [10]) (by kernel_rfl) (by simp) ?_
    refine step_buildSlice (o := { dst := some 36, op := Op.buildSlice 77 1 #[(0, Operand.tmp 35)], type := 77, pos := "ref.go:68", after := #[{ on := 9, ground := Ground.data }], guard := none }) rfl rfl 77 1 [(0, Operand.tmp 35)] rfl _ _ (buildSlice77 n (.slice (some ⟨gv, 0, none⟩) 128 cv) _) AllReadyH.nil ⟨trivial, fun hHeld => ?_⟩
    simp only [Act.put, List.setIfInBounds_toArray, List.set_cons_zero, List.set_cons_succ]
    have bX : Below z2.heap.size z2 (z2.alloc (.cells #[.int .i64 (n : Int), .slice (some ⟨gv, 0, none⟩) 128 cv] 81)) := (Below.refl _ _).alloc (Nat.le_refl _) _
    have RN : Hid ((z2.alloc (.cells #[.int .i64 (n : Int), .slice (some ⟨gv, 0, none⟩) 128 cv] 81)).heap[z2.heap.size]? = some (.cells #[.int .i64 (n : Int), .slice (some ⟨gv, 0, none⟩) 128 cv] 81 (0, 0))) := heap_alloc_new _ _
    have D3 := hide (D2.out.below bX)
    have U3 := hide (U2.out.kept (fun k hk => bX.block k (U2.out.lt hk)))
    have B3 := hide (B2.out.trans (bX.mono B2.out.size))
    clear bX D2 U2 B2 hHeld
    generalize z2.alloc (.cells #[.int .i64 (n : Int), .slice (some ⟨gv, 0, none⟩) 128 cv] 81) = z3 at *
    generalize z2.heap.size = gx at *
    refine wpAnyH_ready (rs := [11]) (by kernel_rfl) (by simp) ?_
    have PX := D3.out.pend
    rw [HPF.out] at PX
    refine step_append (o := { dst := some 37, op := Op.call { callee := Callee.builtin Builtin.append, args := #[Operand.tmp 30, Operand.tmp 36], argTypes := #[77, 77] }, type := 77, pos := "ref.go:68", after := #[{ on := 4, ground := Ground.data }, { on := 10, ground := Ground.data }, { on := 8, ground := Ground.chain }], guard := none }) rfl rfl _ _ 77 77 rfl _ _ rfl rfl (append77 z3 (.slice ap N cp) (.slice (some ⟨gv, 0, none⟩) 128 cv) n r.ws gx PX rfl RN.out (by rw [D3.out.pl]; exact HB.out)) AllReadyH.nil ?_
    rintro v2 Y ⟨hu, hgr, ho⟩
    rw [← HPF.out] at hgr ho
    obtain ⟨ao2, c3, hv2⟩ := ownsRow_form hu
    generalize hLL : List.length (r.ws ++ _) = LL at hv2
    have MM := hide (RkIs.more (w := w1) D3.out HN.out HT.out U3.out (fun k hk => by simp only [Value.ownBlock, Option.some.injEq] at hk; exact ⟨by omega, fun e => by have := HLT.out k (Or.inl e); omega⟩) B3.out.size B3.out HLT.out hu hgr ho)
    have RY : Hid (Y.heap[r.g]? = _) := (hgr.block r.g (block_lt_of_row D3.out.row) (fun e => D3.out.sep.2.1 e.symm)).trans D3.out.row
    subst hv2
    clear hu hgr ho hLL PX D3 U3 RN
    refine ⟨trivial, fun hHeld => ?_⟩
    simp only [Act.put, List.setIfInBounds_toArray, List.set_cons_zero, List.set_cons_succ]
    refine wpAnyH_take (i := 12) (oi := { dst := some 38, op := Op.nilCheck (Operand.tmp 26), type := 0, pos := "ref.go:68", after := #[{ on := 0, ground := Ground.data }, { on := 0, ground := Ground.phase }, { on := 1, ground := Ground.phase }, { on := 2, ground := Ground.phase }, { on := 3, ground := Ground.phase }, { on := 4, ground := Ground.phase }, { on := 5, ground := Ground.phase }, { on := 6, ground := Ground.phase }, { on := 7, ground := Ground.phase }, { on := 8, ground := Ground.phase }, { on := 9, ground := Ground.phase }, { on := 10, ground := Ground.phase }, { on := 11, ground := Ground.phase }], guard := none }) (v := ?_) rfl (by kernel_rfl) (by kernel_rfl) (by kernel_rfl) (fun _ _ _ h => h) (Or.inl ⟨by rfl, ?_⟩) (by assumption) ?_
    rotate_left
    · intro w hSw
      clear hSw
      go_simp
      all_goals with_reducible rfl
    simp only [Act.put, List.setIfInBounds_toArray, List.set_cons_zero, List.set_cons_succ]
    refine wpAnyH_take (i := 13) (oi := { dst := some 39, op := Op.fieldAddr 79 (Operand.tmp 38) 1, type := 0, pos := "ref.go:68", after := #[{ on := 12, ground := Ground.data }, { on := 0, ground := Ground.phase }, { on := 1, ground := Ground.phase }, { on := 2, ground := Ground.phase }, { on := 3, ground := Ground.phase }, { on := 4, ground := Ground.phase }, { on := 5, ground := Ground.phase }, { on := 6, ground := Ground.phase }, { on := 7, ground := Ground.phase }, { on := 8, ground := Ground.phase }, { on := 9, ground := Ground.phase }, { on := 10, ground := Ground.phase }, { on := 11, ground := Ground.phase }], guard := none }) (v := ?_) rfl (by kernel_rfl) (by kernel_rfl) (by kernel_rfl) (fun _ _ _ h => h) (Or.inl ⟨by rfl, ?_⟩) (by assumption) ?_
    rotate_left
    · intro w hSw
      clear hSw
      go_simp
      all_goals with_reducible rfl
    simp only [Act.put, List.setIfInBounds_toArray, List.set_cons_zero, List.set_cons_succ]
    refine wpAnyH_ready (rs := [14]) (by kernel_rfl) (by simp) ?_
    refine AllReadyH.cons (o := { dst := none, op := Op.store 77 (Operand.tmp 39) (Operand.tmp 37), type := 0, pos := "ref.go:68", after := #[{ on := 13, ground := Ground.data }, { on := 11, ground := Ground.data }, { on := 11, ground := Ground.chain }, { on := 0, ground := Ground.phase }, { on := 1, ground := Ground.phase }, { on := 2, ground := Ground.phase }, { on := 3, ground := Ground.phase }, { on := 4, ground := Ground.phase }, { on := 5, ground := Ground.phase }, { on := 6, ground := Ground.phase }, { on := 7, ground := Ground.phase }, { on := 8, ground := Ground.phase }, { on := 9, ground := Ground.phase }, { on := 10, ground := Ground.phase }, { on := 11, ground := Ground.phase }], guard := none }) rfl (fun K hK => ?_) AllReadyH.nil
    have c2 := (cells3 RY.out).2.1
    have f2 := frozen_of_row _ _ 1 _ _ RY.out
    go_simp
    refine hK.out _ _ trivial (fun hHeld => ?_)
    clear hK K c2 f2
    try simp only [Act.put, List.setIfInBounds_toArray, List.set_cons_zero, List.set_cons_succ]
    refine wpAnyH_done (by kernel_rfl) ?_ _
    refine NoPanic.normal ?_
    clear hHeld RY
    go_wp2_with fail
    go_ret
    exact ⟨rfl, _, MM.out.1, H2.out.trans MM.out.2⟩
  refine step_append (o := { dst := some 34, op := Op.call { callee := Callee.builtin Builtin.append, args := #[Operand.tmp 32, Operand.tmp 33], argTypes := #[29, 29] }, type := 29, pos := "ref.go:68", after := #[{ on := 6, ground := Ground.data }, { on := 7, ground := Ground.data }], guard := none }) rfl rfl _ _ 29 29 rfl _ _ rfl rfl (run_append_row z1 (.slice (some ⟨ge, 0, none⟩) 0 0) (.slice ao 128 cap) [] t 29 U1.out V1.out (by rw [HT.out]; simp)) AllReadyH.nil ?_
  rintro u2 z2 ⟨hu, hgr, ho⟩
  rw [List.nil_append] at hu
  obtain ⟨gv, cv, curv, hv1, -, -, -, -, -⟩ := hu.lay (by rw [HT.out]; omega)
  rw [HT.out] at hv1
  have hgv : w1.heap.size ≤ gv := by
    rcases ho gv (by rw [hv1]; rfl) with e | e
    · simp only [Value.ownBlock, Option.some.injEq] at e; omega
    · have := B1.out.size; omega
  subst hv1
  have hcY : Chg (fun k => k = ge) z1 z2 := (Chg.refl _ _).grown hgr (fun k _ e => by simp only [Value.ownBlock, Option.some.injEq] at e; exact e.symm)
  have D2 := hide (D1.out.chg hcY (fun k hk e => by have := HLT.out k hk; have e' : k = ge := e; omega))
  have B2 := hide (B1.out.trans (hcY.below _ B1.out.size (fun k hk e => by have e' : k = ge := e; omega)))
  have U2 := hide hu
  refine ⟨trivial, fun hHeld => ?_⟩
  simp only [Act.put, List.setIfInBounds_toArray, List.set_cons_zero, List.set_cons_succ]
  clear hu hgr ho hcY D1 B1 V1 U1 hHeld
  refine wpAnyH_take (i := 9) (oi := { dst := some 35, op := Op.build 81 #[(0, Operand.tmp 31), (1, Operand.tmp 34)], type := 81, pos := "ref.go:68", after := #[{ on := 5, ground := Ground.data }, { on := 8, ground := Ground.data }], guard := none }) (v := ?_) rfl (by kernel_rfl) (by kernel_rfl) (by kernel_rfl) (fun _ _ _ h => h) (Or.inl ⟨by rfl, ?_⟩) (by assumption) ?_
  rotate_left
  · intro w hSw
    clear hSw
    go_simp
    all_goals with_reducible rfl
  simp only [Act.put, List.setIfInBounds_toArray, List.set_cons_zero, List.set_cons_succ]
  refine wpAnyH_ready (rs := [4, 10]) (by kernel_rfl) (by simp) ?_
  refine AllReadyH.cons (o := { dst := some 30, op := Op.load 77 (Operand.tmp 29), type := 77, pos := "ref.go:68", after := #[{ on := 3, ground := Ground.data }], guard := none }) rfl (fun K hK => ?_) ?_
  · skip
    have c1 := (cells3 D2.out.row).2.1
    rw [HPF.out] at c1
    go_simp
    refine hK.out _ _ trivial (fun hHeld => ?_)
    clear hK K c1
    try simp only [Act.put, List.setIfInBounds_toArray, List.set_cons_zero, List.set_cons_succ]
    refine wpAnyH_ready (rs := [10]) (by kernel_rfl) (by simp) ?_
    refine step_buildSlice (o := { dst := some 36, op := Op.buildSlice 77 1 #[(0, Operand.tmp 35)], type := 77, pos := "ref.go:68", after := #[{ on := 9, ground := Ground.data }], guard := none }) rfl rfl 77 1 [(0, Operand.tmp 35)] rfl _ _ (buildSlice77 n (.slice (some ⟨gv, 0, none⟩) 128 cv) _) AllReadyH.nil ⟨trivial, fun hHeld => ?_⟩
    simp only [Act.put, List.setIfInBounds_toArray, List.set_cons_zero, List.set_cons_succ]
    have bX : Below z2.heap.size z2 (z2.alloc (.cells #[.int .i64 (n : Int), .slice (some ⟨gv, 0, none⟩) 128 cv] 81)) := (Below.refl _ _).alloc (Nat.le_refl _) _
    have RN : Hid ((z2.alloc (.cells #[.int .i64 (n : Int), .slice (some ⟨gv, 0, none⟩) 128 cv] 81)).heap[z2.heap.size]? = some (.cells #[.int .i64 (n : Int), .slice (some ⟨gv, 0, none⟩) 128 cv] 81 (0, 0))) := heap_alloc_new _ _
    have D3 := hide (D2.out.below bX)
    have U3 := hide (U2.out.kept (fun k hk => bX.block k (U2.out.lt hk)))
    have B3 := hide (B2.out.trans (bX.mono B2.out.size))
    clear bX D2 U2 B2 hHeld
    generalize z2.alloc (.cells #[.int .i64 (n : Int), .slice (some ⟨gv, 0, none⟩) 128 cv] 81) = z3 at *
    generalize z2.heap.size = gx at *
    refine wpAnyH_ready (rs := [11]) (by kernel_rfl) (by simp) ?_
    have PX := D3.out.pend
    rw [HPF.out] at PX
    refine step_append (o := { dst := some 37, op := Op.call { callee := Callee.builtin Builtin.append, args := #[Operand.tmp 30, Operand.tmp 36], argTypes := #[77, 77] }, type := 77, pos := "ref.go:68", after := #[{ on := 4, ground := Ground.data }, { on := 10, ground := Ground.data }, { on := 8, ground := Ground.chain }], guard := none }) rfl rfl _ _ 77 77 rfl _ _ rfl rfl (append77 z3 (.slice ap N cp) (.slice (some ⟨gv, 0, none⟩) 128 cv) n r.ws gx PX rfl RN.out (by rw [D3.out.pl]; exact HB.out)) AllReadyH.nil ?_
    rintro v2 Y ⟨hu, hgr, ho⟩
    rw [← HPF.out] at hgr ho
    obtain ⟨ao2, c3, hv2⟩ := ownsRow_form hu
    generalize hLL : List.length (r.ws ++ _) = LL at hv2
    have MM := hide (RkIs.more (w := w1) D3.out HN.out HT.out U3.out (fun k hk => by simp only [Value.ownBlock, Option.some.injEq] at hk; exact ⟨by omega, fun e => by have := HLT.out k (Or.inl e); omega⟩) B3.out.size B3.out HLT.out hu hgr ho)
    have RY : Hid (Y.heap[r.g]? = _) := (hgr.block r.g (block_lt_of_row D3.out.row) (fun e => D3.out.sep.2.1 e.symm)).trans D3.out.row
    subst hv2
    clear hu hgr ho hLL PX D3 U3 RN
    refine ⟨trivial, fun hHeld => ?_⟩
    simp only [Act.put, List.setIfInBounds_toArray, List.set_cons_zero, List.set_cons_succ]
    refine wpAnyH_take (i := 12) (oi := { dst := some 38, op := Op.nilCheck (Operand.tmp 26), type := 0, pos := "ref.go:68", after := #[{ on := 0, ground := Ground.data }, { on := 0, ground := Ground.phase }, { on := 1, ground := Ground.phase }, { on := 2, ground := Ground.phase }, { on := 3, ground := Ground.phase }, { on := 4, ground := Ground.phase }, { on := 5, ground := Ground.phase }, { on := 6, ground := Ground.phase }, { on := 7, ground := Ground.phase }, { on := 8, ground := Ground.phase }, { on := 9, ground := Ground.phase }, { on := 10, ground := Ground.phase }, { on := 11, ground := Ground.phase }], guard := none }) (v := ?_) rfl (by kernel_rfl) (by kernel_rfl) (by kernel_rfl) (fun _ _ _ h => h) (Or.inl ⟨by rfl, ?_⟩) (by assumption) ?_
    rotate_left
    · intro w hSw
      clear hSw
      go_simp
      all_goals with_reducible rfl
    simp only [Act.put, List.setIfInBounds_toArray, List.set_cons_zero, List.set_cons_succ]
    refine wpAnyH_take (i := 13) (oi := { dst := some 39, op := Op.fieldAddr 79 (Operand.tmp 38) 1, type := 0, pos := "ref.go:68", after := #[{ on := 12, ground := Ground.data }, { on := 0, ground := Ground.phase }, { on := 1, ground := Ground.phase }, { on := 2, ground := Ground.phase }, { on := 3, ground := Ground.phase }, { on := 4, ground := Ground.phase }, { on := 5, ground := Ground.phase }, { on := 6, ground := Ground.phase }, { on := 7, ground := Ground.phase }, { on := 8, ground := Ground.phase }, { on := 9, ground := Ground.phase }, { on := 10, ground := Ground.phase }, { on := 11, ground := Ground.phase }], guard := none }) (v := ?_) rfl (by kernel_rfl) (by kernel_rfl) (by kernel_rfl) (fun _ _ _ h => h) (Or.inl ⟨by rfl, ?_⟩) (by assumption) ?_
    rotate_left
    · intro w hSw
      clear hSw
      go_simp
      all_goals with_reducible rfl
    simp only [Act.put, List.setIfInBounds_toArray, List.set_cons_zero, List.set_cons_succ]
    refine wpAnyH_ready (rs := [14]) (by kernel_rfl) (by simp) ?_
    refine AllReadyH.cons (o := { dst := none, op := Op.store 77 (Operand.tmp 39) (Operand.tmp 37), type := 0, pos := "ref.go:68", after := #[{ on := 13, ground := Ground.data }, { on := 11, ground := Ground.data }, { on := 11, ground := Ground.chain }, { on := 0, ground := Ground.phase }, { on := 1, ground := Ground.phase }, { on := 2, ground := Ground.phase }, { on := 3, ground := Ground.phase }, { on := 4, ground := Ground.phase }, { on := 5, ground := Ground.phase }, { on := 6, ground := Ground.phase }, { on := 7, ground := Ground.phase }, { on := 8, ground := Ground.phase }, { on := 9, ground := Ground.phase }, { on := 10, ground := Ground.phase }, { on := 11, ground := Ground.phase }], guard := none }) rfl (fun K hK => ?_) AllReadyH.nil
    have c2 := (cells3 RY.out).2.1
    have f2 := frozen_of_row _ _ 1 _ _ RY.out
    go_simp
    refine hK.out _ _ trivial (fun hHeld => ?_)
    clear hK K c2 f2
    try simp only [Act.put, List.setIfInBounds_toArray, List.set_cons_zero, List.set_cons_succ]
    refine wpAnyH_done (by kernel_rfl) ?_ _
    refine NoPanic.normal ?_
    clear hHeld RY
    go_wp2_with fail
    go_ret
    exact ⟨rfl, _, MM.out.1, H2.out.trans MM.out.2⟩
  refine step_buildSlice (o := { dst := some 36, op := Op.buildSlice 77 1 #[(0, Operand.tmp 35)], type := 77, pos := "ref.go:68", after := #[{ on := 9, ground := Ground.data }], guard := none }) rfl rfl 77 1 [(0, Operand.tmp 35)] rfl _ _ (buildSlice77 n (.slice (some ⟨gv, 0, none⟩) 128 cv) _) AllReadyH.nil ⟨trivial, fun hHeld => ?_⟩
  simp only [Act.put, List.setIfInBounds_toArray, List.set_cons_zero, List.set_cons_succ]
  have bX : Below z2.heap.size z2 (z2.alloc (.cells #[.int .i64 (n : Int), .slice (some ⟨gv, 0, none⟩) 128 cv] 81)) := (Below.refl _ _).alloc (Nat.le_refl _) _
  have RN : Hid ((z2.alloc (.cells #[.int .i64 (n : Int), .slice (some ⟨gv, 0, none⟩) 128 cv] 81)).heap[z2.heap.size]? = some (.cells #[.int .i64 (n : Int), .slice (some ⟨gv, 0, none⟩) 128 cv] 81 (0, 0))) := heap_alloc_new _ _
  have D3 := hide (D2.out.below bX)
  have U3 := hide (U2.out.kept (fun k hk => bX.block k (U2.out.lt hk)))
  have B3 := hide (B2.out.trans (bX.mono B2.out.size))
  clear bX D2 U2 B2 hHeld
  generalize z2.alloc (.cells #[.int .i64 (n : Int), .slice (some ⟨gv, 0, none⟩) 128 cv] 81) = z3 at *
  generalize z2.heap.size = gx at *
  refine wpAnyH_ready (rs := [4]) (by kernel_rfl) (by simp) ?_
  refine AllReadyH.cons (o := { dst := some 30, op := Op.load 77 (Operand.tmp 29), type := 77, pos := "ref.go:68", after := #[{ on := 3, ground := Ground.data }], guard := none }) rfl (fun K hK => ?_) AllReadyH.nil
  have c1 := (cells3 D3.out.row).2.1
  rw [HPF.out] at c1
  go_simp
  refine hK.out _ _ trivial (fun hHeld => ?_)
  clear hK K c1
  try simp only [Act.put, List.setIfInBounds_toArray, List.set_cons_zero, List.set_cons_succ]
  refine wpAnyH_ready (rs := [11]) (by kernel_rfl) (by simp) ?_
  have PX := D3.out.pend
  rw [HPF.out] at PX
  refine step_append (o := { dst := some 37, op := Op.call { callee := Callee.builtin Builtin.append, args := #[Operand.tmp 30, Operand.tmp 36], argTypes := #[77, 77] }, type := 77, pos := "ref.go:68", after := #[{ on := 4, ground := Ground.data }, { on := 10, ground := Ground.data }, { on := 8, ground := Ground.chain }], guard := none }) rfl rfl _ _ 77 77 rfl _ _ rfl rfl (append77 z3 (.slice ap N cp) (.slice (some ⟨gv, 0, none⟩) 128 cv) n r.ws gx PX rfl RN.out (by rw [D3.out.pl]; exact HB.out)) AllReadyH.nil ?_
  rintro v2 Y ⟨hu, hgr, ho⟩
  rw [← HPF.out] at hgr ho
  obtain ⟨ao2, c3, hv2⟩ := ownsRow_form hu
  generalize hLL : List.length (r.ws ++ _) = LL at hv2
  have MM := hide (RkIs.more (w := w1) D3.out HN.out HT.out U3.out (fun k hk => by simp only [Value.ownBlock, Option.some.injEq] at hk; exact ⟨by omega, fun e => by have := HLT.out k (Or.inl e); omega⟩) B3.out.size B3.out HLT.out hu hgr ho)
  have RY : Hid (Y.heap[r.g]? = _) := (hgr.block r.g (block_lt_of_row D3.out.row) (fun e => D3.out.sep.2.1 e.symm)).trans D3.out.row
  subst hv2
  clear hu hgr ho hLL PX D3 U3 RN
  refine ⟨trivial, fun hHeld => ?_⟩
  simp only [Act.put, List.setIfInBounds_toArray, List.set_cons_zero, List.set_cons_succ]
  refine wpAnyH_take (i := 12) (oi := { dst := some 38, op := Op.nilCheck (Operand.tmp 26), type := 0, pos := "ref.go:68", after := #[{ on := 0, ground := Ground.data }, { on := 0, ground := Ground.phase }, { on := 1, ground := Ground.phase }, { on := 2, ground := Ground.phase }, { on := 3, ground := Ground.phase }, { on := 4, ground := Ground.phase }, { on := 5, ground := Ground.phase }, { on := 6, ground := Ground.phase }, { on := 7, ground := Ground.phase }, { on := 8, ground := Ground.phase }, { on := 9, ground := Ground.phase }, { on := 10, ground := Ground.phase }, { on := 11, ground := Ground.phase }], guard := none }) (v := ?_) rfl (by kernel_rfl) (by kernel_rfl) (by kernel_rfl) (fun _ _ _ h => h) (Or.inl ⟨by rfl, ?_⟩) (by assumption) ?_
  rotate_left
  · intro w hSw
    clear hSw
    go_simp
    all_goals with_reducible rfl
  simp only [Act.put, List.setIfInBounds_toArray, List.set_cons_zero, List.set_cons_succ]
  refine wpAnyH_take (i := 13) (oi := { dst := some 39, op := Op.fieldAddr 79 (Operand.tmp 38) 1, type := 0, pos := "ref.go:68", after := #[{ on := 12, ground := Ground.data }, { on := 0, ground := Ground.phase }, { on := 1, ground := Ground.phase }, { on := 2, ground := Ground.phase }, { on := 3, ground := Ground.phase }, { on := 4, ground := Ground.phase }, { on := 5, ground := Ground.phase }, { on := 6, ground := Ground.phase }, { on := 7, ground := Ground.phase }, { on := 8, ground := Ground.phase }, { on := 9, ground := Ground.phase }, { on := 10, ground := Ground.phase }, { on := 11, ground := Ground.phase }], guard := none }) (v := ?_) rfl (by kernel_rfl) (by kernel_rfl) (by kernel_rfl) (fun _ _ _ h => h) (Or.inl ⟨by rfl, ?_⟩) (by assumption) ?_
  rotate_left
  · intro w hSw
    clear hSw
    go_simp
    all_goals with_reducible rfl
  simp only [Act.put, List.setIfInBounds_toArray, List.set_cons_zero, List.set_cons_succ]
  refine wpAnyH_ready (rs := [14]) (by kernel_rfl) (by simp) ?_
  refine AllReadyH.cons (o := { dst := none, op := Op.store 77 (Operand.tmp 39) (Operand.tmp 37), type := 0, pos := "ref.go:68", after := #[{ on := 13, ground := Ground.data }, { on := 11, ground := Ground.data }, { on := 11, ground := Ground.chain }, { on := 0, ground := Ground.phase }, { on := 1, ground := Ground.phase }, { on := 2, ground := Ground.phase }, { on := 3, ground := Ground.phase }, { on := 4, ground := Ground.phase }, { on := 5, ground := Ground.phase }, { on := 6, ground := Ground.phase }, { on := 7, ground := Ground.phase }, { on := 8, ground := Ground.phase }, { on := 9, ground := Ground.phase }, { on := 10, ground := Ground.phase }, { on := 11, ground := Ground.phase }], guard := none }) rfl (fun K hK => ?_) AllReadyH.nil
  have c2 := (cells3 RY.out).2.1
  have f2 := frozen_of_row _ _ 1 _ _ RY.out
  go_simp
  refine hK.out _ _ trivial (fun hHeld => ?_)
  clear hK K c2 f2
  try simp only [Act.put, List.setIfInBounds_toArray, List.set_cons_zero, List.set_cons_succ]
  refine wpAnyH_done (by kernel_rfl) ?_ _
  refine NoPanic.normal ?_
  clear hHeld RY
  go_wp2_with fail
  go_ret
  exact ⟨rfl, _, MM.out.1, H2.out.trans MM.out.2⟩
end Go.Proofs.Ytjnbjgkcliaipaa
