/- put: the first bytes of a write are safe; the sector's text is a new one. -/
import Derived.Test.YtjnbjgkcliaipaaRk
namespace Go.Proofs.Ytjnbjgkcliaipaa
open Go.RowKit
theorem empty29 (w : World) : (Instr.buildSlice 29 0 #[]).run Try.prog w = .ok (.slice (some ⟨w.heap.size, 0, none⟩) 0 0) (w.alloc (.cells #[] 5)) := by
  have hi : ∃ i, Try.prog.info? 5 = some i ∧ i.size = 1 := by
    cases h : Try.prog.info? 5 with
    | none => have := size5; rw [h] at this; cases this
    | some i => have := size5; rw [h] at this; exact ⟨i, rfl, by simpa using this⟩
  obtain ⟨i, hi, hs⟩ := hi
  simp [Instr.buildSlice, run_underlying Try.underlying29, sizeOf, typeInfo, hi, newRow, Instr.fill, Array.range_zero']
theorem urow_empty (w : World) : URow (w.alloc (.cells #[] 5)) (.slice (some ⟨w.heap.size, 0, none⟩) 0 0) [] :=
  ⟨rfl, Or.inr ⟨w.heap.size, 0, #[], rfl, Nat.zero_le _, heap_alloc_new _ _, Nat.le_refl _, Nat.zero_le _, rfl, rfl⟩⟩
/-- A text that is not empty, by its row. -/
theorem URow.lay {w : World} {u : Value} {bs : List UInt8} (h : URow w u bs) (hp : 0 < bs.length) : ∃ g cap cur, u = .slice (some ⟨g, 0, none⟩) bs.length cap ∧ w.heap[g]? = some (.cells cur 5 (0, 0)) ∧ bs.length ≤ cap ∧ cap ≤ maxLen ∧ cur.size = cap ∧ cur.toList.take bs.length = S.v8l bs := by
  rcases h.2 with ⟨_, h3⟩ | ⟨g, cap, cur, h1, _, h4, h5, h6, h7, h8⟩
  · omega
  · exact ⟨g, cap, cur, h1, h4, h5, h6, by omega, by rw [← h8, Nat.mul_one]⟩
/-- A text behind a copy of some bytes over its beginning. -/
theorem urow_mix {W : World} {g cap : Nat} {cur : List Value} {s t : List UInt8} {m : Nat} (hm : m ≤ 128) (hs : s.length = 128) (ht : t.length = 128) (h5 : 128 ≤ cap) (h6 : cap ≤ maxLen) (h7 : cur.length = cap) (h8 : cur.take 128 = S.v8l s)
    (hW : W.heap[g]? = some (.cells (splice cur 0 (S.v8l (t.take m))).toArray 5 (0, 0))) : URow W (.slice (some ⟨g, 0, none⟩) 128 cap) (S.mix m t s) := by
  have hlt : (S.v8l (t.take m)).length = m := by rw [S.v8l_length, List.length_take]; omega
  have hmix : (S.mix m t s).length = 128 := by rw [S.mix_length _ _ _ (by omega) (by rw [ht, hs])]; exact hs
  refine ⟨by rw [S.v8l_length, Nat.mul_one], Or.inr ⟨g, cap, _, by rw [hmix], Nat.zero_le _, hW, by rw [hmix]; exact h5, h6, ?_, ?_⟩⟩
  · rw [List.size_toArray, Go.length_splice _ _ _ (by rw [hlt]; omega), h7, Nat.mul_one]
  · rw [hmix, Nat.mul_one]
    show (splice cur 0 (S.v8l (t.take m))).take 128 = _
    unfold Go.splice S.mix
    rw [v8l_append, List.take_zero, List.nil_append, Nat.zero_add, hlt, List.take_append, hlt, List.take_of_length_le (by rw [hlt]; exact hm)]
    congr 1
    have : S.v8l (s.drop m) = (S.v8l s).drop m := by simp [S.v8l, List.map_drop]
    rw [this, ← h8, List.drop_take]
/-- The disk behind a new text of a sector. -/
theorem RkIs.text {w w0 : World} {r : Ro} {d : S.Dk} {gs cs : Nat} (h : RkIs w r d) (hsv : r.sv = .slice (some ⟨gs, 0, none⟩) r.ts.length cs) (n : Nat) (hn : n < d.safe.length) (v : Value) (s : List UInt8) (hs : s.length = 128) (hv : URow w v s) (hb : ∀ k, v.ownBlock = some k → w0.heap.size ≤ k ∧ ¬ r.has k) (hc : Chg r.has w0 w) :
    RkIs (w.setCell ⟨gs, n, none⟩ v) { r with ts := r.ts.set n v } { d with safe := d.safe.set n s } ∧ RkTo r w0 { r with ts := r.ts.set n v } (w.setCell ⟨gs, n, none⟩ v) := by
  have hob : r.sv.ownBlock = some gs := by rw [hsv]; rfl
  have hsf := h.safe
  rw [hsv] at hsf
  have hst := (hsf.stored n v).1
  have hcg : Chg (fun k => k = gs) w (w.setCell ⟨gs, n, none⟩ v) := (Chg.refl (fun k => k = gs) w).setCell gs n _ (fun _ => rfl)
  have hcr : Chg r.has w (w.setCell ⟨gs, n, none⟩ v) := hcg.mono (fun k _ e => Or.inr (Or.inl (by have e' : k = gs := e; rw [e']; exact hob)))
  have ht := h.texts hcr
  have hn' : n < r.ts.length := by rw [h.sl]; exact hn
  have hgs : gs ≠ r.g := fun e => h.sep.1 (by rw [← e]; exact hob)
  have hgp : r.pv.ownBlock ≠ some gs := h.sep.2.2 gs hob
  have htn : ∀ i, i < r.ts.length → (r.ts.set n v).getD i nilv = if n = i then v else r.tn i := fun i _ => S.getD_set _ _ _ _ _ hn'
  refine ⟨⟨hcg.row h.row (fun e => hgs e.symm), ?_, ownsRow_chg h.pend (fun k hk => hcg.block k (h.pend.lt k hk).2 (fun e => hgp (by have e' : k = gs := e; rw [← e']; exact hk))), by simp [h.sl], h.pl, fun i hi => ?_, ht.2, ⟨fun i hi => ?_, fun k hk => by simpa using h.ok.pend k hk, by simpa using h.ok.few⟩, h.left, h.sep, fun k hk => ?_⟩, rfl, hc.trans hcr (fun _ _ e => e), fun k hk => Or.inl hk, fun k hk => ?_⟩
  · show World.ownsRow _ 0 29 1 r.sv (r.ts.set n v).length (r.ts.set n v)
    rw [hsv, List.length_set]
    exact hst
  · have hi' : i < r.ts.length := by simpa using hi
    show URow _ ((r.ts.set n v).getD i nilv) ((d.safe.set n s).getD i [])
    rw [htn i hi', S.getD_set _ _ _ _ _ hn]
    split
    · exact hv.chg hcg (fun k hk e => (hb k hk).2 (Or.inr (Or.inl (by have e' : k = gs := e; rw [e']; exact hob))))
    · exact ht.1 i hi'
  · have hi' : i < d.safe.length := by simpa using hi
    show ((d.safe.set n s).getD i []).length = 128
    rw [S.getD_set _ _ _ _ _ hn]
    split
    · exact hs
    · exact h.ok.len i hi'
  · rcases hk with ⟨i, hi, e⟩ | ⟨i, hi, e⟩
    · have hi' : i < r.ts.length := by simpa using hi
      have e' : ((r.ts.set n v).getD i nilv).ownBlock = some k := e
      rw [htn i hi'] at e'
      split at e'
      · exact (hb k e').2
      · exact h.tsep k (Or.inl ⟨i, hi', e'⟩)
    · exact h.tsep k (Or.inr ⟨i, hi, e⟩)
  · rcases hk with ⟨i, hi, e⟩ | ⟨i, hi, e⟩
    · have hi' : i < r.ts.length := by simpa using hi
      have e' : ((r.ts.set n v).getD i nilv).ownBlock = some k := e
      rw [htn i hi'] at e'
      split at e'
      · exact Or.inr (hb k e').1
      · exact Or.inl (Or.inl ⟨i, hi', e'⟩)
    · exact Or.inl (Or.inr ⟨i, hi, e⟩)
set_option maxHeartbeats 1600000 in
set_option maxRecDepth 100000 in
theorem put_any (r : Ro) (d : S.Dk) (n m : Nat) (tv : Value) (t : List UInt8) (w : World) (hd : RkIs w r d) (hn : n < d.safe.length) (htv : URow w tv t) (htb : ∀ k, tv.ownBlock = some k → ¬ r.has k) (ht : t.length = 128) (hm : m ≤ 128) :
   Calls Try.prog 39 #[.pointer (some ⟨r.g, 0, none⟩), .agg #[.int .i64 (n : Int), tv], .int .i64 (m : Int)] w fun e w' => e = .returned (.tuple #[]) ∧ ∃ r', RkIs w' r' { d with safe := d.safe.set n (S.mix m t (d.safe.getD n [])) } ∧ RkTo r w r' w' := by
  obtain ⟨gt, ct, curt, htv1, htv2, htv3, htv4, htv5, htv6⟩ := htv.lay (by omega)
  rw [ht] at htv1 htv3 htv6
  subst htv1
  have hsl : d.safe.length = r.ts.length := hd.sl.symm
  obtain ⟨gs, cs, hsv⟩ : ∃ gs cs, r.sv = .slice (some ⟨gs, 0, none⟩) r.ts.length cs := by
    rcases hd.safe.2 with ⟨_, h3⟩ | ⟨g, cap, cur, h1, _⟩
    · omega
    · exact ⟨g, cap, h1⟩
  obtain ⟨N, hN⟩ : ∃ N, N = r.ts.length := ⟨_, rfl⟩
  obtain ⟨xv, hxv⟩ : ∃ xv, xv = r.tn n := ⟨_, rfl⟩
  obtain ⟨s, hs⟩ : ∃ s, s = d.safe.getD n [] := ⟨_, rfl⟩
  have hxs : URow w xv s := by rw [hxv, hs]; exact hd.st n (by omega)
  have hsn : s.length = 128 := by rw [hs]; exact hd.ok.len n hn
  have bb : Below w.heap.size w (w.alloc (.cells #[.int .i64 (n : Int), .slice (some ⟨gt, 0, none⟩) 128 ct] 81)) := (Below.refl _ _).alloc (Nat.le_refl _) _
  have HD := hide (hd.below bb)
  have RB : Hid ((w.alloc (.cells #[.int .i64 (n : Int), .slice (some ⟨gt, 0, none⟩) 128 ct] 81)).heap[w.heap.size]? = some (.cells #[.int .i64 (n : Int), .slice (some ⟨gt, 0, none⟩) 128 ct] 81 (0, 0))) := heap_alloc_new _ _
  have TV := hide (htv.kept (w' := w.alloc (.cells #[.int .i64 (n : Int), .slice (some ⟨gt, 0, none⟩) 128 ct] 81)) (fun k hk => bb.block k (htv.lt hk)))
  have XV := hide (hxs.kept (w' := w.alloc (.cells #[.int .i64 (n : Int), .slice (some ⟨gt, 0, none⟩) 128 ct] 81)) (fun k hk => bb.block k (hxs.lt hk)))
  have XB : Hid (∀ k, xv.ownBlock = some k → ¬ r.has k) := fun k hk => hd.tsep k (Or.inl ⟨n, by omega, by rw [← hxv]; exact hk⟩)
  have BB := hide bb
  have HLT := hide hd.lt
  have HSV := hide hsv
  have HNN := hide hN
  have HS := hide hs
  have HXV := hide hxv
  have HTB := hide htb
  have HNL : Hid (n < d.safe.length) := hn
  have hgtb : gt < w.heap.size := htv.lt rfl
  obtain ⟨ax, cx, hxf⟩ := hxs.shape
  rw [hsn] at hxf
  have HXF := hide hxf
  have q1 : (0 : Int) ≤ (n : Int) := by omega
  have q2 : (n : Int) < (N : Int) := by omega
  have q3 : (0 : Int) ≤ (m : Int) := by omega
  have q4 : (m : Int) ≤ (ct : Int) := by omega
  clear hd hn htv htb bb hs hxs hsv hN hxv hxf htv2 htv6 hsl
  go_enter Try.func39, Try.ntmps39
  go_wp2_with fail
  have hbsz : w.heap.size < (w.alloc (.cells #[.int .i64 (n : Int), .slice (some ⟨gt, 0, none⟩) 128 ct] 81)).heap.size := by simp
  generalize w.alloc (.cells #[.int .i64 (n : Int), .slice (some ⟨gt, 0, none⟩) 128 ct] 81) = wb at *
  obtain ⟨gb, hgb⟩ : ∃ gb, gb = w.heap.size := ⟨_, rfl⟩
  have HGB := hide hgb
  rw [← hgb] at RB hbsz ⊢
  clear hgb
  have rowS : Hid (wb.cell? ⟨r.g, 0, none⟩ = some (.slice (some ⟨gs, 0, none⟩) N cs)) := by
    have := (cells3 HD.out.row).1
    rw [HSV.out, ← HNN.out] at this
    exact this
  have cellN : Hid (wb.cell? ⟨gs, n, none⟩ = some xv) := by
    have h := HD.out.safe
    rw [HSV.out] at h
    have hnl : n < r.ts.length := by have := HNL.out; have := HD.out.sl; omega
    have := h.cellAt n (by omega)
    rw [this, HXV.out, Ro.tn, List.getD_eq_getElem?_getD, List.getElem?_eq_getElem hnl]
    rfl
  refine wp_region_noPanic ?_
  refine wp_region_held_drew (S := (fun W => W.heap[gb]? = some (.cells #[.int .i64 (n : Int), .slice (some ⟨gt, 0, none⟩) 128 ct] 81 (0, 0)) ∧ W.cell? ⟨r.g, 0, none⟩ = some (.slice (some ⟨gs, 0, none⟩) N cs) ∧ W.cell? ⟨gs, n, none⟩ = some xv)) follows ⟨RB.out, rowS.out, cellN.out⟩ (fun hHeld => ?_)
  refine wpAnyH_take (i := 1) (oi := { dst := some 8, op := Op.move (Operand.tmp 0), type := 45, pos := "ref.go:74", after := #[], guard := none }) (v := ?_) rfl (by kernel_rfl) (by kernel_rfl) (by kernel_rfl) (fun _ _ _ h => h) (Or.inl ⟨by rfl, ?_⟩) (by assumption) ?_
  rotate_left
  · intro w hSw
    clear hSw
    go_simp
    all_goals with_reducible rfl
  simp only [Act.put, List.setIfInBounds_toArray, List.set_cons_zero, List.set_cons_succ]
  refine wpAnyH_take (i := 2) (oi := { dst := some 9, op := Op.nilCheck (Operand.tmp 8), type := 0, pos := "ref.go:74", after := #[{ on := 1, ground := Ground.data }], guard := none }) (v := ?_) rfl (by kernel_rfl) (by kernel_rfl) (by kernel_rfl) (fun _ _ _ h => h) (Or.inl ⟨by rfl, ?_⟩) (by assumption) ?_
  rotate_left
  · intro w hSw
    clear hSw
    go_simp
    all_goals with_reducible rfl
  simp only [Act.put, List.setIfInBounds_toArray, List.set_cons_zero, List.set_cons_succ]
  refine wpAnyH_take (i := 3) (oi := { dst := some 10, op := Op.fieldAddr 79 (Operand.tmp 9) 0, type := 0, pos := "ref.go:74", after := #[{ on := 2, ground := Ground.data }], guard := none }) (v := ?_) rfl (by kernel_rfl) (by kernel_rfl) (by kernel_rfl) (fun _ _ _ h => h) (Or.inl ⟨by rfl, ?_⟩) (by assumption) ?_
  rotate_left
  · intro w hSw
    clear hSw
    go_simp
    all_goals with_reducible rfl
  simp only [Act.put, List.setIfInBounds_toArray, List.set_cons_zero, List.set_cons_succ]
  refine wpAnyH_take (i := 4) (oi := { dst := some 11, op := Op.load 57 (Operand.tmp 10), type := 57, pos := "ref.go:74", after := #[{ on := 3, ground := Ground.data }], guard := none }) (v := ?_) rfl (by kernel_rfl) (by kernel_rfl) (by kernel_rfl) (fun _ _ _ h => h) (Or.inl ⟨by rfl, ?_⟩) (by assumption) ?_
  rotate_left
  · intro w hSw
    have c0 := hSw.2.1
    clear hSw
    go_simp
    all_goals with_reducible rfl
  simp only [Act.put, List.setIfInBounds_toArray, List.set_cons_zero, List.set_cons_succ]
  refine wpAnyH_take (i := 5) (oi := { dst := some 12, op := Op.fieldAddr 81 (Operand.tmp 4) 0, type := 0, pos := "ref.go:74", after := #[], guard := none }) (v := ?_) rfl (by kernel_rfl) (by kernel_rfl) (by kernel_rfl) (fun _ _ _ h => h) (Or.inl ⟨by rfl, ?_⟩) (by assumption) ?_
  rotate_left
  · intro w hSw
    clear hSw
    go_simp
    all_goals with_reducible rfl
  simp only [Act.put, List.setIfInBounds_toArray, List.set_cons_zero, List.set_cons_succ]
  refine wpAnyH_take (i := 6) (oi := { dst := some 13, op := Op.load 3 (Operand.tmp 12), type := 3, pos := "ref.go:74", after := #[{ on := 5, ground := Ground.data }], guard := none }) (v := ?_) rfl (by kernel_rfl) (by kernel_rfl) (by kernel_rfl) (fun _ _ _ h => h) (Or.inl ⟨by rfl, ?_⟩) (by assumption) ?_
  rotate_left
  · intro w hSw
    have c0 : w.cell? ⟨gb, 0, none⟩ = some (.int .i64 (n : Int)) := by rw [cell_of_row w gb 0 _ _ _ hSw.1]; rfl
    clear hSw
    go_simp
    all_goals with_reducible rfl
  simp only [Act.put, List.setIfInBounds_toArray, List.set_cons_zero, List.set_cons_succ]
  refine wpAnyH_take (i := 7) (oi := { dst := some 14, op := Op.indexAddr 57 (Operand.tmp 11) (Operand.tmp 13), type := 0, pos := "ref.go:74", after := #[{ on := 4, ground := Ground.data }, { on := 6, ground := Ground.data }], guard := none }) (v := ?_) rfl (by kernel_rfl) (by kernel_rfl) (by kernel_rfl) (fun _ _ _ h => h) (Or.inl ⟨by rfl, ?_⟩) (by assumption) ?_
  rotate_left
  · intro w hSw
    clear hSw
    go_simp
    all_goals with_reducible rfl
  simp only [Act.put, List.setIfInBounds_toArray, List.set_cons_zero, List.set_cons_succ]
  refine wpAnyH_take (i := 8) (oi := { dst := some 15, op := Op.load 29 (Operand.tmp 14), type := 29, pos := "ref.go:74", after := #[{ on := 7, ground := Ground.data }], guard := none }) (v := ?_) rfl (by kernel_rfl) (by kernel_rfl) (by kernel_rfl) (fun _ _ _ h => h) (Or.inl ⟨by rfl, ?_⟩) (by assumption) ?_
  rotate_left
  · intro w hSw
    have c0 := hSw.2.2
    rw [HXF.out] at c0
    clear hSw
    go_simp
    all_goals with_reducible rfl
  simp only [Act.put, List.setIfInBounds_toArray, List.set_cons_zero, List.set_cons_succ]
  refine wpAnyH_ready (rs := [0]) (by kernel_rfl) (by simp) ?_
  refine step_buildSlice (o := { dst := some 7, op := Op.buildSlice 29 0 #[], type := 29, pos := "ref.go:74", after := #[], guard := none }) rfl rfl 29 0 [] rfl _ _ (empty29 _) AllReadyH.nil ⟨?_, fun hHeld => ?_⟩
  · have hb : Below wb.drew.heap.size wb.drew (wb.drew.alloc (.cells #[] 5)) := (Below.refl _ _).alloc (Nat.le_refl _) _
    exact ⟨(hb.block gb (block_lt_of_row RB.out)).trans RB.out, (hb.cell (p := ⟨r.g, 0, none⟩) (block_lt_of_row HD.out.row)).trans rowS.out, (hb.cell (p := ⟨gs, n, none⟩) (World.block_lt_of_cell? wb _ cellN.out)).trans cellN.out⟩
  simp only [Act.put, List.setIfInBounds_toArray, List.set_cons_zero, List.set_cons_succ]
  rw [show wb.drew.heap.size = wb.heap.size from rfl]
  have bX : Below wb.heap.size wb (wb.drew.alloc (.cells #[] 5)) := ((Chg.refl (fun _ => False) wb).drew.alloc (.cells #[] 5)).below _ (Nat.le_refl _) (fun _ _ e => e)
  have UE : Hid (URow (wb.drew.alloc (.cells #[] 5)) (.slice (some ⟨wb.heap.size, 0, none⟩) 0 0) []) := urow_empty wb.drew
  have DX := hide (HD.out.below bX)
  have RX := hide ((bX.block gb (block_lt_of_row RB.out)).trans RB.out)
  have TX := hide (TV.out.kept (fun k hk => bX.block k (TV.out.lt hk)))
  have XX := hide (XV.out.kept (fun k hk => bX.block k (XV.out.lt hk)))
  have CX := hide (BB.out.trans (bX.mono BB.out.size))
  have SX := hHeld
  have hge : w.heap.size ≤ wb.heap.size := BB.out.size
  clear bX HD RB TV XV BB rowS cellN hHeld
  generalize wb.drew.alloc (.cells #[] 5) = X at *
  generalize wb.heap.size = ge at *
  refine wpAnyH_ready (rs := [9]) (by kernel_rfl) (by simp) ?_
  rw [HXF.out] at XX
  refine step_append (o := { dst := some 16, op := Op.call { callee := Callee.builtin Builtin.append, args := #[Operand.tmp 7, Operand.tmp 15], argTypes := #[29, 29] }, type := 29, pos := "ref.go:74", after := #[{ on := 0, ground := Ground.data }, { on := 8, ground := Ground.data }], guard := none }) rfl rfl _ _ 29 29 rfl _ _ rfl rfl (run_append_row X (.slice (some ⟨ge, 0, none⟩) 0 0) (.slice ax 128 cx) [] s 29 UE.out (XX.out.sliceAt (by omega)) (by simp; omega)) AllReadyH.nil ?_
  rintro v2 Y ⟨hu, hgr, ho⟩
  rw [List.nil_append] at hu
  obtain ⟨gv, cv, curv, hv1, hv2, hv3, hv4, hv5, hv6⟩ := hu.lay (by omega)
  rw [hsn] at hv1 hv3 hv6
  have hgvn : w.heap.size ≤ gv ∧ gv ≠ gb := by
    have hgbX := block_lt_of_row RX.out
    have := CX.out.size
    rcases ho gv (by rw [hv1]; rfl) with e | e
    · simp only [Value.ownBlock, Option.some.injEq] at e
      omega
    · omega
  subst hv1
  have hcY : Chg (fun k => k = ge) X Y := (Chg.refl _ _).grown hgr (fun k _ e => by simp only [Value.ownBlock, Option.some.injEq] at e; exact e.symm)
  have hold : ∀ k, r.has k ∨ r.txt k → k < ge := fun k hk => by have := HLT.out k hk; omega
  have DY := hide (DX.out.chg hcY (fun k hk e => by have := hold k hk; have e' : k = ge := e; omega))
  have RY := hide (hcY.row RX.out (fun e => by have e' : gb = ge := e; omega))
  have TY := hide (TX.out.chg hcY (fun k hk e => by have e' : k = ge := e; simp only [Value.ownBlock, Option.some.injEq] at hk; omega))
  have CY : Hid (Below w.heap.size w Y) := CX.out.trans (hcY.below _ CX.out.size (fun k hk e => by have e' : k = ge := e; omega))
  have hnY : n < r.ts.length := by have := HNL.out; have := DX.out.sl; omega
  have SY1 : Y.cell? ⟨r.g, 0, none⟩ = some (.slice (some ⟨gs, 0, none⟩) N cs) := by have := (cells3 DY.out.row).1; rw [HSV.out, ← HNN.out] at this; exact this
  have SY2 : Y.cell? ⟨gs, n, none⟩ = some xv := by
    have h := DY.out.safe
    rw [HSV.out] at h
    have := h.cellAt n (by omega)
    rw [this, HXV.out, Ro.tn, List.getD_eq_getElem?_getD, List.getElem?_eq_getElem hnY]
    rfl
  refine ⟨⟨RY.out, SY1, SY2⟩, fun hHeld => ?_⟩
  simp only [Act.put, List.setIfInBounds_toArray, List.set_cons_zero, List.set_cons_succ]
  have HU := hide hu
  have HV2 := hide hv2
  have HV6 := hide hv6
  clear hu hgr ho hcY hold DX RX TX XX CX SX UE hv2 hv6 SY1 SY2
  refine wpAnyH_take (i := 10) (oi := { dst := some 6, op := Op.assign (Operand.tmp 16), type := 29, pos := "ref.go:74", after := #[{ on := 9, ground := Ground.data }, { on := 9, ground := Ground.chain }, { on := 0, ground := Ground.phase }, { on := 1, ground := Ground.phase }, { on := 2, ground := Ground.phase }, { on := 3, ground := Ground.phase }, { on := 4, ground := Ground.phase }, { on := 5, ground := Ground.phase }, { on := 6, ground := Ground.phase }, { on := 7, ground := Ground.phase }, { on := 8, ground := Ground.phase }, { on := 9, ground := Ground.phase }], guard := none }) (v := ?_) rfl (by kernel_rfl) (by kernel_rfl) (by kernel_rfl) (fun _ _ _ h => h) (Or.inl ⟨by rfl, ?_⟩) (by assumption) ?_
  rotate_left
  · intro w hSw
    clear hSw
    go_simp
    all_goals with_reducible rfl
  simp only [Act.put, List.setIfInBounds_toArray, List.set_cons_zero, List.set_cons_succ]
  refine wpAnyH_done (by kernel_rfl) ?_ _
  refine NoPanic.normal ?_
  clear hHeld
  obtain ⟨L8, hL8⟩ : ∃ L8, L8 = S.v8l (t.take m) := ⟨_, rfl⟩
  have hL8n : L8.length = m := by rw [hL8, S.v8l_length, List.length_take]; omega
  have HN8 : Hid (L8.length = Nat.min m 128) := by show L8.length = min m 128; omega
  have ecv : curv.toList.length = cv := by simp [hv5]
  have HF8 : Hid (0 + L8.length ≤ curv.toList.length) := by show 0 + L8.length ≤ curv.toList.length; omega
  have HO8 : Hid (∀ v ∈ L8, v.oneCell' = true) := by show ∀ v ∈ L8, v.oneCell' = true; rw [hL8]; exact S.v8l_one _
  have HP8 : Hid (0 < L8.length → some (⟨gv, 0, none⟩ : Addr) = some ⟨gv, 0, none⟩ ∧ ∃ ad, some (⟨gt, 0, none⟩ : Addr) = some ad ∧ ∀ j v, L8[j]? = some v → Y.cell? (ad.add j) = some v) := fun _ => ⟨rfl, _, rfl, fun j v hv => by
    rw [hL8] at hv
    obtain ⟨rfl, hj⟩ := S.v8l_at _ j v hv
    rw [List.length_take] at hj
    rw [Addr.add_lit]
    have hc := World.ownsRow.cells TY.out (g := gt) rfl j (.int .u8 ((t.getD j 0).toNat : Int)) (v8l_get _ _ (by omega))
    rw [Addr.add_lit] at hc
    rw [hc]
    congr 4
    simp only [List.getD_eq_getElem?_getD, List.getElem?_take]
    rw [if_pos (by omega)]⟩
  have HG8 : Hid (Y.heap[gv]? = some (.cells curv.toList.toArray 5 (0, 0))) := by show Y.heap[gv]? = _; simpa using HV2.out
  have cB := (show Y.cell? ⟨gb, 1, none⟩ = some (.slice (some ⟨gt, 0, none⟩) 128 ct) from by rw [cell_of_row Y gb 1 _ _ _ RY.out]; rfl)
  have HL8 := hide hL8
  clear hL8
  go_wp2_with (refine wpList_copy_splice rfl (.tmp 17) (.tmp 21) 29 29 rfl 5 Try.underlying29 size5 _ _ _ _ _ _ rfl rfl gv 0 curv.toList 5 HG8.out L8 HN8.out HP8.out HF8.out HO8.out gv Y (Below.refl _ _) (Nat.le_refl _) ?_; intro W HG3 hB3; have HB3 := hide hB3; clear hB3)
  have hgvr : ∀ k, r.has k ∨ r.txt k → k < gv := fun k hk => by have := HLT.out k hk; omega
  have DW := hide (DY.out.chg (p := fun k => gv ≤ k) (Chg.ofBelow HB3.out (fun _ _ h => h)) (fun k hk e => by have := hgvr k hk; omega))
  have RW := hide ((HB3.out.block gb (by have := HGB.out; omega)).trans RY.out)
  have UW : Hid (URow W (.slice (some ⟨gv, 0, none⟩) 128 cv) (S.mix m t s)) := urow_mix hm hsn ht hv3 hv4 (by simp [hv5]) HV6.out (by rw [← HL8.out]; exact HG3.out)
  have CW : Hid (Below w.heap.size w W) := CY.out.trans (HB3.out.mono hgvn.1)
  have cN : W.cell? ⟨gs, n, none⟩ = some xv := by
    have h := DW.out.safe
    rw [HSV.out] at h
    have := h.cellAt n (by omega)
    rw [this, HXV.out, Ro.tn, List.getD_eq_getElem?_getD, List.getElem?_eq_getElem hnY]
    rfl
  rw [HXF.out] at cN
  have fN : W.frozen? ⟨gs, n, none⟩ = false := by
    have h := DW.out.safe
    rw [HSV.out] at h
    exact h.frozenAt n
  have c0 : W.cell? ⟨r.g, 0, none⟩ = some (.slice (some ⟨gs, 0, none⟩) N cs) := by have := (cells3 DW.out.row).1; rw [HSV.out, ← HNN.out] at this; exact this
  have cb0 : W.cell? ⟨gb, 0, none⟩ = some (.int .i64 (n : Int)) := by rw [cell_of_row W gb 0 _ _ _ RW.out]; rfl
  have FIN := hide (DW.out.text HSV.out n HNL.out (.slice (some ⟨gv, 0, none⟩) 128 cv) (S.mix m t s) (by rw [S.mix_length _ _ _ (by omega) (by omega)]; exact hsn) UW.out (w0 := w) (fun k hk => by
    simp only [Value.ownBlock, Option.some.injEq] at hk
    exact ⟨by omega, fun e => by have := hgvr k (Or.inl e); omega⟩) (Chg.ofBelow' CW.out))
  clear cB HG3 HB3 HV2 HV6 HU DY RY TY CY HN8 HF8 HO8 HP8 HG8 HL8 UW CW RW ecv
  go_region
  go_wp2_with fail
  go_end0
  refine ⟨rfl, { r with ts := r.ts.set n (.slice (some ⟨gv, 0, none⟩) 128 cv) }, ?_, ?_⟩
  · rw [← HS.out]
    exact FIN.out.1.chg (p := fun _ => False) ((Chg.refl _ _).drew) (fun _ _ e => e)
  · exact ⟨FIN.out.2.g, FIN.out.2.chg.drew, FIN.out.2.own, FIN.out.2.txt⟩
end Go.Proofs.Ytjnbjgkcliaipaa
