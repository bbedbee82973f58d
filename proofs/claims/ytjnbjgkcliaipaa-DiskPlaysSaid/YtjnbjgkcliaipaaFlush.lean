/- Flush: all pending writes, in order, are safe; or the disk is stopped. -/
import Derived.Test.YtjnbjgkcliaipaaWrite
namespace Go.Proofs.Ytjnbjgkcliaipaa
open Go.RowKit
/-- A disk whose sectors are under way: ss those that are safe, es those that are read. -/
structure Loose (w : World) (o : Ow) (d : S.Dk) (ss es : List (List UInt8)) : Prop where
  row : w.heap[o.g]? = some (.cells #[.slice (some ⟨o.gs, 0, none⟩) d.safe.length o.cs, .slice (some ⟨o.ge, 0, none⟩) d.safe.length o.ce, o.pv, .bool d.left.isSome, .int .i64 o.lf] 70 (0, 0))
  safe : SecAt w o.gs ss
  sl : ss.length = d.safe.length
  seen : SecAt w o.ge es
  el : es.length = d.safe.length
  pend : PRow w o.pv d.pend
theorem DkIs.loose {w : World} {o : Ow} {d : S.Dk} (h : DkIs w o d) : Loose w o d d.safe d.seen := ⟨h.row, h.safe, rfl, h.seen, S.Dk.seen_length _, h.pend⟩
theorem Loose.chg {p : Nat → Prop} {w W : World} {o : Ow} {d : S.Dk} {ss es : List (List UInt8)} (h : Loose w o d ss es) (hc : Chg p w W) (hp : ∀ k, o.has k → ¬ p k) : Loose W o d ss es :=
  ⟨hc.row h.row (hp _ (Or.inl rfl)), h.safe.chg hc (hp _ (Or.inr (Or.inl rfl))), h.sl, h.seen.chg hc (hp _ (Or.inr (Or.inr (Or.inl rfl)))), h.el, h.pend.chg hc (fun k hk => hp k (Or.inr (Or.inr (Or.inr hk))))⟩
theorem Loose.below {w W : World} {o : Ow} {d : S.Dk} {ss es : List (List UInt8)} (h : Loose w o d ss es) (hb : Below w.heap.size w W) : Loose W o d ss es := h.chg (p := fun _ => False) (Chg.ofBelow' hb) (fun _ _ e => e)
theorem Loose.lt {w : World} {o : Ow} {d : S.Dk} {ss es : List (List UInt8)} (h : Loose w o d ss es) : ∀ k, o.has k → k < w.heap.size := by
  rintro k (rfl | rfl | rfl | hk)
  · exact block_lt_of_row h.row
  · exact h.safe.lt
  · exact h.seen.lt
  · exact h.pend.lt hk
/-- A safe sector is stored. -/
theorem Loose.put {w w0 : World} {o : Ow} {d : S.Dk} {ss es : List (List UInt8)} (h : Loose w o d ss es) (hd : DkIs w0 o d) (p : Nat) (hp : p < d.safe.length) (t : List UInt8) (ht : t.length = 128) : Loose (w.setCells o.gs (p * 128) (S.v8l t)) o d (ss.set p t) es := by
  have hc : Chg (fun k => k = o.gs) w (w.setCells o.gs (p * 128) (S.v8l t)) := Chg.setCells (p := fun k => k = o.gs) o.gs (fun _ => rfl) _ _ (Chg.refl _ _)
  exact ⟨hc.row h.row hd.sep.1, h.safe.store p (by rw [h.sl]; exact hp) t ht, by rw [List.length_set]; exact h.sl, h.seen.chg hc (fun e => hd.sep.2.2 e.symm), h.el, h.pend.chg hc (fun k hk => (hd.psep k hk).2.1)⟩
/-- A sector that is read is stored. -/
theorem Loose.show {w w0 : World} {o : Ow} {d : S.Dk} {ss es : List (List UInt8)} (h : Loose w o d ss es) (hd : DkIs w0 o d) (p : Nat) (hp : p < d.safe.length) (t : List UInt8) (ht : t.length = 128) : Loose (w.setCells o.ge (p * 128) (S.v8l t)) o d ss (es.set p t) := by
  have hc : Chg (fun k => k = o.ge) w (w.setCells o.ge (p * 128) (S.v8l t)) := Chg.setCells (p := fun k => k = o.ge) o.ge (fun _ => rfl) _ _ (Chg.refl _ _)
  exact ⟨hc.row h.row hd.sep.2.1, h.safe.chg hc hd.sep.2.2, h.sl, h.seen.store p (by rw [h.el]; exact hp) t ht, by rw [List.length_set]; exact h.el, h.pend.chg hc (fun k hk => (hd.psep k hk).2.2)⟩
/-- The place in a write that is kept in a variable. -/
theorem cell_place {w : World} {g : Nat} {p : Nat × List UInt8} {t : TypeId} (h : w.heap[g]? = some (.cells (S.pc p).toArray t (0, 0))) : w.cell? ⟨g, 0, none⟩ = some (.int .i64 (p.1 : Int)) := by
  rw [cell_of_row w g 0 _ t (0, 0) h]; rfl
theorem load75 {w : World} {g c n : Nat} {p : S.Ws} (h : PRow w (.slice (some ⟨g, 0, none⟩) n c) p) (hp : ∀ k, k < p.length → (S.Ws.nth p k).2.length = 128) (k : Nat) (hk : k < p.length) : (Instr.loadAt 75 (.pointer (some ⟨g, k * 129, none⟩))).run Try.prog w = .ok (.agg (S.pc (S.Ws.nth p k)).toArray) w :=
  run_loadAt_mid w g (k * 129) 75 _ _ (h.range hp k hk) Try.underlying75 rfl (by rw [size75, S.pc_length _ (hp k hk)])
theorem flush_stop (o : Ow) (d : S.Dk) (w : World) (hd : DkIs w o d) (hg : d.goes = false) :
   Calls Try.prog 15 #[o.ptr] w fun e w' => e = .returned (.int .i64 13) ∧ ∃ o', DkIs w' o' d ∧ DkTo o w o' w' := by
  have HD := hide hd
  have T := hide (S.Dk.tried_no hg)
  clear hd
  go_enter Try.func15, Try.ntmps15
  go_wp2_with fail
  refine (works_any o d w HD.out).mono ?_
  rintro e w1 ⟨rfl, o1, h1, h2, _⟩
  rw [T.out] at h1
  have H1 := hide h1
  have H2 := hide h2
  clear h1 h2
  go_wp2
  go_ret
  exact ⟨rfl, o1, H1.out, H2.out⟩
theorem flush_fin {w w1 : World} {o : Ow} {d : S.Dk} (h : DkIs w1 o d) (hl : Loose w o d (S.overTo d.safe d.pend d.pend.length) d.seen) (hc : Chg o.has w1 w) :
    DkIs (w.setCell ⟨o.g, 2, none⟩ (.slice none 0 0)) { o with pv := .slice none 0 0 } d.flush ∧ DkTo o w1 { o with pv := .slice none 0 0 } (w.setCell ⟨o.g, 2, none⟩ (.slice none 0 0)) := by
  have R := heap_setCell_same _ _ 2 _ _ (.slice none 0 0) hl.row
  have hco : Chg (fun k => k = o.g) w (w.setCell ⟨o.g, 2, none⟩ (.slice none 0 0)) := (Chg.refl (fun k => k = o.g) w).setCell o.g 2 _ (fun _ => rfl)
  have hn : d.flush.safe.length = d.safe.length := S.Dk.seen_length d
  refine ⟨⟨by rw [hn]; exact R, hl.safe.chg hco (fun e => h.sep.1 e.symm), hl.seen.chg hco (fun e => h.sep.2.1 e.symm), prow_nil _, h.ok.flush, h.left, h.sep, fun k hk => (by cases hk), by rw [hn]; exact h.caps⟩, rfl, hc.setCell o.g 2 _ (fun _ => Or.inl rfl), fun k hk => ?_⟩
  rcases hk with e | e | e | e
  · exact Or.inl (Or.inl e)
  · exact Or.inl (Or.inr (Or.inl e))
  · exact Or.inl (Or.inr (Or.inr (Or.inl e)))
  · cases e
set_option maxHeartbeats 1600000 in
set_option maxRecDepth 100000 in
theorem flush_yes (o : Ow) (d : S.Dk) (w : World) (hd : DkIs w o d) (hg : d.goes = true) (hb : d.pend.length ≤ 1000000) :
   Calls Try.prog 15 #[o.ptr] w fun e w' => e = .returned (.int .i64 0) ∧ ∃ o', DkIs w' o' d.went.flush ∧ DkTo o w o' w' := by
  have HD := hide hd
  have T := hide (S.Dk.tried_yes hg)
  clear hd
  go_enter Try.func15, Try.ntmps15
  go_wp2_with fail
  refine (works_any o d w HD.out).mono ?_
  rintro e w1 ⟨rfl, o1, h1, h2, _⟩
  rw [T.out] at h1
  obtain ⟨DW, hDW⟩ : ∃ DW, DW = d.went := ⟨_, rfl⟩
  obtain ⟨N, hN⟩ : ∃ N, N = DW.pend.length := ⟨_, rfl⟩
  have hNb : N ≤ 1000000 := by rw [hN, hDW]; exact hb
  rw [← hDW] at h1
  have HDW := hide hDW
  have H1 := hide h1
  have H2 := hide h2
  obtain ⟨aop, cp, hpv⟩ := h1.pend.form
  rw [← hN] at hpv
  obtain ⟨c0, c1, c2, c3, c4⟩ := cells5 h1.row
  rw [hpv] at c2
  have HPV := hide hpv
  have HN := hide hN
  have HG := hide h2.g
  unfold Ow.ptr
  rw [← h2.g]
  clear h1 h2 hpv hDW hN hb
  go_wp2_with fail
  clear c0 c1 c2 c3 c4
  go_loopw [13] (fun i wr => ∃ k : Nat, k ≤ N ∧ i = .int .i64 (k : Int) ∧ Loose wr o1 DW (S.overTo DW.safe DW.pend k) DW.seen ∧ Chg o1.has w1 wr) (fun i _ => N - (intOf i).toNat)
  case atStart => exact ⟨0, Nat.zero_le _, rfl, H1.out.loose, Chg.refl _ _⟩
  case round =>
    obtain ⟨k, hk, rfl, hl, hc⟩ := hrel
    have HL := hide hl
    have HC := hide hc
    by_cases hlt : k < N
    · have hlt' : k < DW.pend.length := by rw [← HN.out]; exact hlt
      obtain ⟨x, hx⟩ : ∃ x, x = S.Ws.nth DW.pend k := ⟨_, rfl⟩
      have hok := H1.out.ok.pend k hlt'
      rw [← hx] at hok
      obtain ⟨gp, rfl⟩ : ∃ gp, aop = some ⟨gp, 0, none⟩ := by
        rcases hl.pend.shape with ⟨_, e⟩ | ⟨g, c, e, _⟩
        · rw [e] at hlt'; exact absurd hlt' (Nat.not_lt_zero _)
        · rw [HPV.out] at e
          simp only [Value.slice.injEq] at e
          exact ⟨g, e.1⟩
      have hpr := hl.pend
      rw [HPV.out] at hpr
      have hld := load75 hpr (fun j hj => (H1.out.ok.pend j hj).2) k hlt'
      have hst := store75 x hok.2 wr (.int .i64 0 :: S.v8l (S.zeros 128)).toArray (by simp [S.v8l_length, S.zeros_length])
      have hal := alloc75
      obtain ⟨PCL, hPCL⟩ : ∃ PCL, PCL = S.pc x := ⟨_, rfl⟩
      obtain ⟨VL, hVL⟩ : ∃ VL, VL = S.v8l x.2 := ⟨_, rfl⟩
      obtain ⟨ZA, hZA⟩ : ∃ ZA, ZA = (Value.int .i64 0 :: S.v8l (S.zeros 128)).toArray := ⟨_, rfl⟩
      rw [← hx, ← hPCL] at hld
      rw [← hZA, ← hPCL] at hst
      simp only [← hZA] at hal
      have q1 : (0 : Int) ≤ (k : Int) := by omega
      have q2 : (k : Int) < (N : Int) := by omega
      have q3 : IntKind.i64.wrap ((k : Int) + 1) = (k : Int) + 1 := by rw [IntKind.wrap_i64]; omega
      have HX := hide hx
      have HPCL := hide hPCL
      have HVL := hide hVL
      have HOK := hide hok
      clear hl hc hpr hx hPCL hVL hZA hok hlt'
      go_wp2_with (refine wpList_load_known rfl 75 (.tmp 15) rfl (.agg PCL.toArray) hld ?_; refine wpList_alloc_known rfl 75 rfl (.pointer (some ⟨wr.heap.size, 0, none⟩)) (wr.alloc (.cells ZA 75)) (hal _) ?_; refine wpList_store_known rfl 75 (.tmp 4) (.tmp 16) rfl (wr.alloc (.cells PCL.toArray 75)) hst ?_)
      simp only [Act.put, List.setIfInBounds_toArray, List.set_cons_zero, List.set_cons_succ]
      clear hld hst hal
      have hbw : Below wr.heap.size wr (wr.alloc (.cells PCL.toArray 75)) := (Below.refl _ _).alloc (Nat.le_refl _) _
      have HL2 := hide (HL.out.below hbw)
      have HC2 := hide (HC.out.trans (q := fun _ => False) (Chg.ofBelow' hbw) (fun _ _ e => e.elim))
      have HR2 : Hid ((wr.alloc (.cells PCL.toArray 75)).heap[wr.heap.size]? = some (.cells PCL.toArray 75 (0, 0))) := heap_alloc_new _ _
      have HLT := hide HL.out.lt
      have HSZ := hide HC.out.size
      clear hbw HL HC
      generalize wr.alloc (.cells PCL.toArray 75) = w2 at *
      generalize wr.heap.size = gw at *
      have q4 : (0 : Int) ≤ (x.1 : Int) := by omega
      have q5 : (x.1 : Int) < (DW.safe.length : Int) := by have := HOK.out.1; omega
      refine wp_region_noPanic ?_
      refine wp_region_held_drew (S := (fun W => W.heap[gw]? = some (.cells PCL.toArray 75 (0, 0)) ∧ W.cell? ⟨o1.g, 0, none⟩ = some (.slice (some ⟨o1.gs, 0, none⟩) DW.safe.length o1.cs))) follows ⟨HR2.out, (cells5 HL2.out.row).1⟩ (fun hHeld => ?_)
      have HLd := hide (HL2.out.below (W := w2.drew) ((Chg.refl (fun _ => False) w2).drew.below _ (Nat.le_refl _) (fun _ _ e => e)))
      have HCd := hide HC2.out.drew
      have HRd : Hid (w2.drew.heap[gw]? = some (.cells PCL.toArray 75 (0, 0))) := HR2.out
      clear HL2 HC2 HR2
      generalize w2.drew = Z1 at HLd HCd HRd hHeld ⊢
      refine wpAnyH_take (i := 0) (oi := { dst := some 17, op := Op.move (Operand.tmp 0), type := 22, pos := "disk.go:68", after := #[], guard := none }) (v := ?_) rfl (by kernel_rfl) (by kernel_rfl) (by kernel_rfl) (fun _ _ _ h => h) (Or.inl ⟨by rfl, ?_⟩) (by assumption) ?_
      rotate_left
      · intro w hSw
        clear hSw
        go_simp
        all_goals with_reducible rfl
      simp only [Act.put, List.setIfInBounds_toArray, List.set_cons_zero, List.set_cons_succ]
      refine wpAnyH_take (i := 1) (oi := { dst := some 18, op := Op.nilCheck (Operand.tmp 17), type := 0, pos := "disk.go:68", after := #[{ on := 0, ground := Ground.data }], guard := none }) (v := ?_) rfl (by kernel_rfl) (by kernel_rfl) (by kernel_rfl) (fun _ _ _ h => h) (Or.inl ⟨by rfl, ?_⟩) (by assumption) ?_
      rotate_left
      · intro w hSw
        clear hSw
        go_simp
        all_goals with_reducible rfl
      simp only [Act.put, List.setIfInBounds_toArray, List.set_cons_zero, List.set_cons_succ]
      refine wpAnyH_take (i := 2) (oi := { dst := some 19, op := Op.fieldAddr 70 (Operand.tmp 18) 0, type := 0, pos := "disk.go:68", after := #[{ on := 1, ground := Ground.data }], guard := none }) (v := ?_) rfl (by kernel_rfl) (by kernel_rfl) (by kernel_rfl) (fun _ _ _ h => h) (Or.inl ⟨by rfl, ?_⟩) (by assumption) ?_
      rotate_left
      · intro w hSw
        clear hSw
        go_simp
        all_goals with_reducible rfl
      simp only [Act.put, List.setIfInBounds_toArray, List.set_cons_zero, List.set_cons_succ]
      refine wpAnyH_take (i := 3) (oi := { dst := some 20, op := Op.load 67 (Operand.tmp 19), type := 67, pos := "disk.go:68", after := #[{ on := 2, ground := Ground.data }], guard := none }) (v := ?_) rfl (by kernel_rfl) (by kernel_rfl) (by kernel_rfl) (fun _ _ _ h => h) (Or.inl ⟨by rfl, ?_⟩) (by assumption) ?_
      rotate_left
      · intro w hSw
        have c0 := hSw.2
        clear hSw
        go_simp
        all_goals with_reducible rfl
      simp only [Act.put, List.setIfInBounds_toArray, List.set_cons_zero, List.set_cons_succ]
      refine wpAnyH_take (i := 4) (oi := { dst := some 21, op := Op.fieldAddr 75 (Operand.tmp 4) 0, type := 0, pos := "disk.go:68", after := #[], guard := none }) (v := ?_) rfl (by kernel_rfl) (by kernel_rfl) (by kernel_rfl) (fun _ _ _ h => h) (Or.inl ⟨by rfl, ?_⟩) (by assumption) ?_
      rotate_left
      · intro w hSw
        clear hSw
        go_simp
        all_goals with_reducible rfl
      simp only [Act.put, List.setIfInBounds_toArray, List.set_cons_zero, List.set_cons_succ]
      refine wpAnyH_take (i := 5) (oi := { dst := some 22, op := Op.load 3 (Operand.tmp 21), type := 3, pos := "disk.go:68", after := #[{ on := 4, ground := Ground.data }], guard := none }) (v := ?_) rfl (by kernel_rfl) (by kernel_rfl) (by kernel_rfl) (fun _ _ _ h => h) (Or.inl ⟨by rfl, ?_⟩) (by assumption) ?_
      rotate_left
      · intro w hSw
        have cp0 : w.cell? ⟨gw, 0, none⟩ = some (.int .i64 (x.1 : Int)) := cell_place (p := x) (by rw [← HPCL.out]; exact hSw.1)
        clear hSw
        go_simp
        all_goals with_reducible rfl
      simp only [Act.put, List.setIfInBounds_toArray, List.set_cons_zero, List.set_cons_succ]
      refine wpAnyH_take (i := 6) (oi := { dst := some 23, op := Op.fieldAddr 75 (Operand.tmp 4) 1, type := 0, pos := "disk.go:68", after := #[], guard := none }) (v := ?_) rfl (by kernel_rfl) (by kernel_rfl) (by kernel_rfl) (fun _ _ _ h => h) (Or.inl ⟨by rfl, ?_⟩) (by assumption) ?_
      rotate_left
      · intro w hSw
        clear hSw
        go_simp
        all_goals with_reducible rfl
      simp only [Act.put, List.setIfInBounds_toArray, List.set_cons_zero, List.set_cons_succ]
      refine wpAnyH_take (i := 7) (oi := { dst := some 24, op := Op.load 73 (Operand.tmp 23), type := 73, pos := "disk.go:68", after := #[{ on := 6, ground := Ground.data }], guard := none }) (v := .agg VL.toArray) rfl (by kernel_rfl) (by kernel_rfl) (by kernel_rfl) (fun _ _ _ h => h) (yieldsIf_load_mid (by kernel_rfl) 73 (.tmp 23) rfl gw 1 rfl VL _ (fun W hW => by rw [HVL.out]; exact rangeAt_tail (p := x) (by rw [← HPCL.out]; exact hW.1)) Try.underlying73 rfl (by rw [size73, HVL.out, S.v8l_length, HOK.out.2])) (by assumption) ?_
      simp only [Act.put, List.setIfInBounds_toArray, List.set_cons_zero, List.set_cons_succ]
      refine wpAnyH_take (i := 8) (oi := { dst := some 25, op := Op.indexAddr 67 (Operand.tmp 20) (Operand.tmp 22), type := 0, pos := "disk.go:68", after := #[{ on := 3, ground := Ground.data }, { on := 5, ground := Ground.data }, { on := 0, ground := Ground.phase }, { on := 1, ground := Ground.phase }, { on := 2, ground := Ground.phase }, { on := 3, ground := Ground.phase }, { on := 4, ground := Ground.phase }, { on := 5, ground := Ground.phase }, { on := 6, ground := Ground.phase }, { on := 7, ground := Ground.phase }], guard := none }) (v := ?_) rfl (by kernel_rfl) (by kernel_rfl) (by kernel_rfl) (fun _ _ _ h => h) (Or.inl ⟨by rfl, ?_⟩) (by assumption) ?_
      rotate_left
      · intro w hSw
        clear hSw
        go_simp
        all_goals with_reducible rfl
      simp only [Act.put, List.setIfInBounds_toArray, List.set_cons_zero, List.set_cons_succ]
      refine wpAnyH_ready (rs := [9]) (by kernel_rfl) (by simp) ?_
      have hth : Z1.there o1.gs (x.1 * 128) VL.toArray.size := by rw [List.size_toArray, HVL.out, S.v8l_length, HOK.out.2]; exact HLd.out.safe.there x.1 (by rw [HLd.out.sl]; exact HOK.out.1)
      have HC7 : Hid (Chg (fun k => k = o1.gs) Z1 (Z1.setCells o1.gs (x.1 * 128) VL)) := Chg.setCells (p := fun k => k = o1.gs) o1.gs (fun _ => rfl) _ _ (Chg.refl _ _)
      have HLN : Hid (Loose (Z1.setCells o1.gs (x.1 * 128) VL) o1 DW (S.overTo DW.safe DW.pend (k + 1)) DW.seen) := by rw [HVL.out, S.overTo, ← HX.out]; exact HLd.out.put H1.out x.1 HOK.out.1 x.2 HOK.out.2
      refine step_store (o := { dst := none, op := Op.store 73 (Operand.tmp 25) (Operand.tmp 24), type := 0, pos := "disk.go:68", after := #[{ on := 8, ground := Ground.data }, { on := 7, ground := Ground.data }, { on := 0, ground := Ground.phase }, { on := 1, ground := Ground.phase }, { on := 2, ground := Ground.phase }, { on := 3, ground := Ground.phase }, { on := 4, ground := Ground.phase }, { on := 5, ground := Ground.phase }, { on := 6, ground := Ground.phase }, { on := 7, ground := Ground.phase }], guard := none }) rfl rfl 73 (.tmp 25) (.tmp 24) rfl (Z1.setCells o1.gs (x.1 * 128) VL) (run_storeAt_mid Z1 o1.gs (x.1 * 128) 73 VL.toArray hth (by rw [size73, List.size_toArray, HVL.out, S.v8l_length, HOK.out.2]) (by rw [HVL.out]; exact v8l_one' _)) AllReadyH.nil ⟨⟨HC7.out.row HRd.out (fun e => by have := HLT.out o1.gs (Or.inr (Or.inl rfl)); omega), (cells5 HLN.out.row).1⟩, fun hHeld => ?_⟩
      refine wpAnyH_done (by kernel_rfl) ?_ _
      refine NoPanic.normal ?_
      simp only [Act.put]
      clear hHeld hth HRd HLd
      have HCN : Hid (Chg o1.has w1 (Z1.setCells o1.gs (x.1 * 128) VL)) := HCd.out.trans HC7.out (fun j _ e => Or.inr (Or.inl e))
      clear HCd HC7
      generalize Z1.setCells o1.gs (x.1 * 128) VL = Z2 at *
      go_wp2_with fail
      go_roundw
      case rel => exact ⟨k + 1, by omega, by go_num, HLN.out, HCN.out⟩
      case measure => simp [intOf]; omega
    · obtain rfl : k = N := by omega
      have q2 : ¬ ((k : Int) < (k : Int)) := by omega
      have hrow := hl.row
      rw [HPV.out] at hrow
      have f2 := frozen_of_row _ _ 2 _ _ hrow
      obtain ⟨c0, c1, c2, c3, c4⟩ := cells5 hrow
      have FIN : Hid (DkIs (wr.setCell ⟨o1.g, 2, none⟩ (.slice none 0 0)) { o1 with pv := .slice none 0 0 } DW.flush ∧ DkTo o1 w1 { o1 with pv := .slice none 0 0 } (wr.setCell ⟨o1.g, 2, none⟩ (.slice none 0 0))) := by
        rw [HN.out] at hl
        exact flush_fin H1.out hl hc
      clear hl hc hrow
      go_wp2_with fail
      go_ret
      rw [← HDW.out]
      exact ⟨rfl, _, FIN.out.1, H2.out.trans FIN.out.2⟩
end Go.Proofs.Ytjnbjgkcliaipaa
