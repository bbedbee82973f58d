/- Flush: all pending writes, in order, are safe; or the disk is stopped. -/
/- bytesOf: how many bytes of a pending write a crash leaves. -/
/- Crash: of the pending writes some are safe, one in part; what is read is what is safe; the disk is not stopped any more. -/
import Derived.Test.YthjlhngjpbmieaaGreatDoorGi
namespace Go.Proofs.YthjlhngjpbmieaaGreatDoor
open Go.RowKit
/-- A disk whose sectors are under way: ss those that are safe, es those that are read. -/
structure Loose (w : World) (o : Ow) (d : S.Dk) (ss es : List (List UInt8)) : Prop where
  row : w.heap[o.g]? = some (.cells #[.slice (some ⟨o.gs, 0, none⟩) d.safe.length o.cs, .slice (some ⟨o.ge, 0, none⟩) d.safe.length o.ce, o.pv, .bool d.left.isSome, .int .i64 o.lf] 61 (0, 0))
  safe : SecAt w o.gs ss
  sl : ss.length = d.safe.length
  seen : SecAt w o.ge es
  el : es.length = d.safe.length
  pend : PRow w o.pv d.pend
theorem DkIs.loose {w : World} {o : Ow} {d : S.Dk} (h : DkIs w o d) : Loose w o d d.safe d.seen := ⟨h.row, h.safe, rfl, h.seen, S.Dk.seen_length _, h.pend⟩
theorem Loose.chg {p : Nat → Prop} {w W : World} {o : Ow} {d : S.Dk} {ss es : List (List UInt8)} (h : Loose w o d ss es) (hc : Chg p w W) (hp : ∀ k, o.has k → ¬ p k) : Loose W o d ss es :=
  ⟨hc.row h.row (hp _ (Or.inl rfl)), h.safe.chg hc (hp _ (Or.inr (Or.inl rfl))), h.sl, h.seen.chg hc (hp _ (Or.inr (Or.inr (Or.inl rfl)))), h.el, h.pend.chg hc (fun k hk => hp k (Or.inr (Or.inr (Or.inr hk))))⟩
theorem Loose.below {w W : World} {o : Ow} {d : S.Dk} {ss es : List (List UInt8)} (h : Loose w o d ss es) (hb : Below w.heap.size w W) : Loose W o d ss es := h.chg (p := fun _ => False) (Chg.ofBelow' hb) (fun _ _ e => e)
theorem Loose.lt {w : World} {o : Ow} {d : S.Dk} {ss es : List (List UInt8)} (h : Loose w o d ss es) : ∀ k, o.has k → k < w.heap.size := by
  rintro k (rfl | rfl | rfl | hk)
  · exact block_lt_of_row h.row
  · exact h.safe.lt
  · exact h.seen.lt
  · exact h.pend.lt hk
/-- A safe sector is stored. -/
theorem Loose.put {w w0 : World} {o : Ow} {d : S.Dk} {ss es : List (List UInt8)} (h : Loose w o d ss es) (hd : DkIs w0 o d) (p : Nat) (hp : p < d.safe.length) (t : List UInt8) (ht : t.length = 128) : Loose (w.setCells o.gs (p * 128) (S.v8l t)) o d (ss.set p t) es := by
  have hc : Chg (fun k => k = o.gs) w (w.setCells o.gs (p * 128) (S.v8l t)) := Chg.setCells (p := fun k => k = o.gs) o.gs (fun _ => rfl) _ _ (Chg.refl _ _)
  exact ⟨hc.row h.row hd.sep.1, h.safe.store p (by rw [h.sl]; exact hp) t ht, by rw [List.length_set]; exact h.sl, h.seen.chg hc (fun e => hd.sep.2.2 e.symm), h.el, h.pend.chg hc (fun k hk => (hd.psep k hk).2.1)⟩
/-- A sector that is read is stored. -/
theorem Loose.show {w w0 : World} {o : Ow} {d : S.Dk} {ss es : List (List UInt8)} (h : Loose w o d ss es) (hd : DkIs w0 o d) (p : Nat) (hp : p < d.safe.length) (t : List UInt8) (ht : t.length = 128) : Loose (w.setCells o.ge (p * 128) (S.v8l t)) o d ss (es.set p t) := by
  have hc : Chg (fun k => k = o.ge) w (w.setCells o.ge (p * 128) (S.v8l t)) := Chg.setCells (p := fun k => k = o.ge) o.ge (fun _ => rfl) _ _ (Chg.refl _ _)
  exact ⟨hc.row h.row hd.sep.2.1, h.safe.chg hc hd.sep.2.2, h.sl, h.seen.store p (by rw [h.el]; exact hp) t ht, by rw [List.length_set]; exact h.el, h.pend.chg hc (fun k hk => (hd.psep k hk).2.2)⟩
/-- The place in a write that is kept in a variable. -/
theorem cell_place {w : World} {g : Nat} {p : Nat × List UInt8} {t : TypeId} (h : w.heap[g]? = some (.cells (S.pc p).toArray t (0, 0))) : w.cell? ⟨g, 0, none⟩ = some (.int .i64 (p.1 : Int)) := by
  rw [cell_of_row w g 0 _ t (0, 0) h]; rfl
theorem load75 {w : World} {g c n : Nat} {p : S.Ws} (h : PRow w (.slice (some ⟨g, 0, none⟩) n c) p) (hp : ∀ k, k < p.length → (S.Ws.nth p k).2.length = 128) (k : Nat) (hk : k < p.length) : (Instr.loadAt 86 (.pointer (some ⟨g, k * 129, none⟩))).run Tryz.prog w = .ok (.agg (S.pc (S.Ws.nth p k)).toArray) w :=
  run_loadAt_mid w g (k * 129) 86 _ _ (h.range hp k hk) Tryz.underlying86 rfl (by rw [size75, S.pc_length _ (hp k hk)])
theorem flush_stop (o : Ow) (d : S.Dk) (w : World) (hd : DkIs w o d) (hg : d.goes = false) :
   Calls Tryz.prog 42 #[o.ptr] w fun e w' => e = .returned (.int .i64 13) ∧ ∃ o', DkIs w' o' d ∧ DkTo o w o' w' := by
  have HD := hide hd
  have T := hide (S.Dk.tried_no hg)
  clear hd
  go_enter Tryz.func42, Tryz.ntmps42
  go_wp2_with fail
  refine (works_any o d w HD.out).mono ?_
  rintro e w1 ⟨rfl, o1, h1, h2, _⟩
  rw [T.out] at h1
  have H1 := hide h1
  have H2 := hide h2
  clear h1 h2
  go_wp2
  go_ret
  exact ⟨rfl, o1, H1.out, H2.out⟩
theorem flush_fin {w w1 : World} {o : Ow} {d : S.Dk} (h : DkIs w1 o d) (hl : Loose w o d (S.overTo d.safe d.pend d.pend.length) d.seen) (hc : Chg o.has w1 w) :
    DkIs (w.setCell ⟨o.g, 2, none⟩ (.slice none 0 0)) { o with pv := .slice none 0 0 } d.flush ∧ DkTo o w1 { o with pv := .slice none 0 0 } (w.setCell ⟨o.g, 2, none⟩ (.slice none 0 0)) := by
  have R := heap_setCell_same _ _ 2 _ _ (.slice none 0 0) hl.row
  have hco : Chg (fun k => k = o.g) w (w.setCell ⟨o.g, 2, none⟩ (.slice none 0 0)) := (Chg.refl (fun k => k = o.g) w).setCell o.g 2 _ (fun _ => rfl)
  have hn : d.flush.safe.length = d.safe.length := S.Dk.seen_length d
  refine ⟨⟨by rw [hn]; exact R, hl.safe.chg hco (fun e => h.sep.1 e.symm), hl.seen.chg hco (fun e => h.sep.2.1 e.symm), prow_nil _, h.ok.flush, h.left, h.sep, fun k hk => (by cases hk), by rw [hn]; exact h.caps⟩, rfl, hc.setCell o.g 2 _ (fun _ => Or.inl rfl), fun k hk => ?_⟩
  rcases hk with e | e | e | e
  · exact Or.inl (Or.inl e)
  · exact Or.inl (Or.inr (Or.inl e))
  · exact Or.inl (Or.inr (Or.inr (Or.inl e)))
  · cases e
set_option maxHeartbeats 1600000 in
set_option maxRecDepth 100000 in
theorem flush_yes (o : Ow) (d : S.Dk) (w : World) (hd : DkIs w o d) (hg : d.goes = true) (hb : d.pend.length ≤ 1000000) :
   Calls Tryz.prog 42 #[o.ptr] w fun e w' => e = .returned (.int .i64 0) ∧ ∃ o', DkIs w' o' d.went.flush ∧ DkTo o w o' w' := by
  have HD := hide hd
  have T := hide (S.Dk.tried_yes hg)
  clear hd
  go_enter Tryz.func42, Tryz.ntmps42
  go_wp2_with fail
  refine (works_any o d w HD.out).mono ?_
  rintro e w1 ⟨rfl, o1, h1, h2, _⟩
  rw [T.out] at h1
  obtain ⟨DW, hDW⟩ : ∃ DW, DW = d.went := ⟨_, rfl⟩
  obtain ⟨N, hN⟩ : ∃ N, N = DW.pend.length := ⟨_, rfl⟩
  have hNb : N ≤ 1000000 := by rw [hN, hDW]; exact hb
  rw [← hDW] at h1
  have HDW := hide hDW
  have H1 := hide h1
  have H2 := hide h2
  obtain ⟨aop, cp, hpv⟩ := h1.pend.form
  rw [← hN] at hpv
  obtain ⟨c0, c1, c2, c3, c4⟩ := cells5 h1.row
  rw [hpv] at c2
  have HPV := hide hpv
  have HN := hide hN
  have HG := hide h2.g
  unfold Ow.ptr
  rw [← h2.g]
  clear h1 h2 hpv hDW hN hb
  go_wp2_with fail
  clear c0 c1 c2 c3 c4
  go_loopw [13] (fun i wr => ∃ k : Nat, k ≤ N ∧ i = .int .i64 (k : Int) ∧ Loose wr o1 DW (S.overTo DW.safe DW.pend k) DW.seen ∧ Chg o1.has w1 wr) (fun i _ => N - (intOf i).toNat)
  case atStart => exact ⟨0, Nat.zero_le _, rfl, H1.out.loose, Chg.refl _ _⟩
  case round =>
    obtain ⟨k, hk, rfl, hl, hc⟩ := hrel
    have HL := hide hl
    have HC := hide hc
    by_cases hlt : k < N
    · have hlt' : k < DW.pend.length := by rw [← HN.out]; exact hlt
      obtain ⟨x, hx⟩ : ∃ x, x = S.Ws.nth DW.pend k := ⟨_, rfl⟩
      have hok := H1.out.ok.pend k hlt'
      rw [← hx] at hok
      obtain ⟨gp, rfl⟩ : ∃ gp, aop = some ⟨gp, 0, none⟩ := by
        rcases hl.pend.shape with ⟨_, e⟩ | ⟨g, c, e, _⟩
        · rw [e] at hlt'; exact absurd hlt' (Nat.not_lt_zero _)
        · rw [HPV.out] at e
          simp only [Value.slice.injEq] at e
          exact ⟨g, e.1⟩
      have hpr := hl.pend
      rw [HPV.out] at hpr
      have hld := load75 hpr (fun j hj => (H1.out.ok.pend j hj).2) k hlt'
      have hst := store75 x hok.2 wr (.int .i64 0 :: S.v8l (S.zeros 128)).toArray (by simp [S.v8l_length, S.zeros_length])
      have hal := alloc75
      obtain ⟨PCL, hPCL⟩ : ∃ PCL, PCL = S.pc x := ⟨_, rfl⟩
      obtain ⟨VL, hVL⟩ : ∃ VL, VL = S.v8l x.2 := ⟨_, rfl⟩
      obtain ⟨ZA, hZA⟩ : ∃ ZA, ZA = (Value.int .i64 0 :: S.v8l (S.zeros 128)).toArray := ⟨_, rfl⟩
      rw [← hx, ← hPCL] at hld
      rw [← hZA, ← hPCL] at hst
      simp only [← hZA] at hal
      have q1 : (0 : Int) ≤ (k : Int) := by omega
      have q2 : (k : Int) < (N : Int) := by omega
      have q3 : IntKind.i64.wrap ((k : Int) + 1) = (k : Int) + 1 := by rw [IntKind.wrap_i64]; omega
      have HX := hide hx
      have HPCL := hide hPCL
      have HVL := hide hVL
      have HOK := hide hok
      clear hl hc hpr hx hPCL hVL hZA hok hlt'
      go_wp2_with (refine wpList_load_known rfl 86 (.tmp 15) rfl (.agg PCL.toArray) hld ?_; refine wpList_alloc_known rfl 86 rfl (.pointer (some ⟨wr.heap.size, 0, none⟩)) (wr.alloc (.cells ZA 86)) (hal _) ?_; refine wpList_store_known rfl 86 (.tmp 4) (.tmp 16) rfl (wr.alloc (.cells PCL.toArray 86)) hst ?_)
      simp only [Act.put, List.setIfInBounds_toArray, List.set_cons_zero, List.set_cons_succ]
      clear hld hst hal
      have hbw : Below wr.heap.size wr (wr.alloc (.cells PCL.toArray 86)) := (Below.refl _ _).alloc (Nat.le_refl _) _
      have HL2 := hide (HL.out.below hbw)
      have HC2 := hide (HC.out.trans (q := fun _ => False) (Chg.ofBelow' hbw) (fun _ _ e => e.elim))
      have HR2 : Hid ((wr.alloc (.cells PCL.toArray 86)).heap[wr.heap.size]? = some (.cells PCL.toArray 86 (0, 0))) := heap_alloc_new _ _
      have HLT := hide HL.out.lt
      have HSZ := hide HC.out.size
      clear hbw HL HC
      generalize wr.alloc (.cells PCL.toArray 86) = w2 at *
      generalize wr.heap.size = gw at *
      have q4 : (0 : Int) ≤ (x.1 : Int) := by omega
      have q5 : (x.1 : Int) < (DW.safe.length : Int) := by have := HOK.out.1; omega
      refine wp_region_noPanic ?_
      refine wp_region_held_drew (S := (fun W => W.heap[gw]? = some (.cells PCL.toArray 86 (0, 0)) ∧ W.cell? ⟨o1.g, 0, none⟩ = some (.slice (some ⟨o1.gs, 0, none⟩) DW.safe.length o1.cs))) follows ⟨HR2.out, (cells5 HL2.out.row).1⟩ (fun hHeld => ?_)
      have HLd := hide (HL2.out.below (W := w2.drew) ((Chg.refl (fun _ => False) w2).drew.below _ (Nat.le_refl _) (fun _ _ e => e)))
      have HCd := hide HC2.out.drew
      have HRd : Hid (w2.drew.heap[gw]? = some (.cells PCL.toArray 86 (0, 0))) := HR2.out
      clear HL2 HC2 HR2
      generalize w2.drew = Z1 at HLd HCd HRd hHeld ⊢
      refine tk 0 ?_ rfl (Or.inl ⟨by rfl, ?_⟩) ?_
      rotate_left
      · intro w hSw
        clear hSw
        go_simp
        all_goals with_reducible rfl
      simp only [Act.put, List.setIfInBounds_toArray, List.set_cons_zero, List.set_cons_succ]
      refine tk 1 ?_ rfl (Or.inl ⟨by rfl, ?_⟩) ?_
      rotate_left
      · intro w hSw
        clear hSw
        go_simp
        all_goals with_reducible rfl
      simp only [Act.put, List.setIfInBounds_toArray, List.set_cons_zero, List.set_cons_succ]
      refine tk 2 ?_ rfl (Or.inl ⟨by rfl, ?_⟩) ?_
      rotate_left
      · intro w hSw
        clear hSw
        go_simp
        all_goals with_reducible rfl
      simp only [Act.put, List.setIfInBounds_toArray, List.set_cons_zero, List.set_cons_succ]
      refine tk 3 ?_ rfl (Or.inl ⟨by rfl, ?_⟩) ?_
      rotate_left
      · intro w hSw
        have c0 := hSw.2
        clear hSw
        go_simp
        all_goals with_reducible rfl
      simp only [Act.put, List.setIfInBounds_toArray, List.set_cons_zero, List.set_cons_succ]
      refine tk 4 ?_ rfl (Or.inl ⟨by rfl, ?_⟩) ?_
      rotate_left
      · intro w hSw
        clear hSw
        go_simp
        all_goals with_reducible rfl
      simp only [Act.put, List.setIfInBounds_toArray, List.set_cons_zero, List.set_cons_succ]
      refine tk 5 ?_ rfl (Or.inl ⟨by rfl, ?_⟩) ?_
      rotate_left
      · intro w hSw
        have cp0 : w.cell? ⟨gw, 0, none⟩ = some (.int .i64 (x.1 : Int)) := cell_place (p := x) (by rw [← HPCL.out]; exact hSw.1)
        clear hSw
        go_simp
        all_goals with_reducible rfl
      simp only [Act.put, List.setIfInBounds_toArray, List.set_cons_zero, List.set_cons_succ]
      refine tk 6 ?_ rfl (Or.inl ⟨by rfl, ?_⟩) ?_
      rotate_left
      · intro w hSw
        clear hSw
        go_simp
        all_goals with_reducible rfl
      simp only [Act.put, List.setIfInBounds_toArray, List.set_cons_zero, List.set_cons_succ]
      refine wpAnyH_take (i := 7) (oi := ⟨_, _, _, _, _, _⟩) (v := .agg VL.toArray) rfl (by kernel_rfl) (by kernel_rfl) (by kernel_rfl) (fun _ _ _ h => h) (yieldsIf_load_mid (by kernel_rfl) 84 (.tmp 23) rfl gw 1 rfl VL _ (fun W hW => by rw [HVL.out]; exact rangeAt_tail (p := x) (by rw [← HPCL.out]; exact hW.1)) Tryz.underlying84 rfl (by rw [size73, HVL.out, S.v8l_length, HOK.out.2])) (by assumption) ?_
      simp only [Act.put, List.setIfInBounds_toArray, List.set_cons_zero, List.set_cons_succ]
      refine tk 8 ?_ rfl (Or.inl ⟨by rfl, ?_⟩) ?_
      rotate_left
      · intro w hSw
        clear hSw
        go_simp
        all_goals with_reducible rfl
      simp only [Act.put, List.setIfInBounds_toArray, List.set_cons_zero, List.set_cons_succ]
      refine wpAnyH_ready (rs := [9]) (by kernel_rfl) (by simp) ?_
      have hth : Z1.there o1.gs (x.1 * 128) VL.toArray.size := by rw [List.size_toArray, HVL.out, S.v8l_length, HOK.out.2]; exact HLd.out.safe.there x.1 (by rw [HLd.out.sl]; exact HOK.out.1)
      have HC7 : Hid (Chg (fun k => k = o1.gs) Z1 (Z1.setCells o1.gs (x.1 * 128) VL)) := Chg.setCells (p := fun k => k = o1.gs) o1.gs (fun _ => rfl) _ _ (Chg.refl _ _)
      have HLN : Hid (Loose (Z1.setCells o1.gs (x.1 * 128) VL) o1 DW (S.overTo DW.safe DW.pend (k + 1)) DW.seen) := by rw [HVL.out, S.overTo, ← HX.out]; exact HLd.out.put H1.out x.1 HOK.out.1 x.2 HOK.out.2
      refine step_store (o := { dst := none, op := Op.store 84 (Operand.tmp 25) (Operand.tmp 24), type := 0, pos := "disk.go:68", after := #[⟨8, .data⟩, ⟨7, .data⟩, ⟨0, .phase⟩, ⟨1, .phase⟩, ⟨2, .phase⟩, ⟨3, .phase⟩, ⟨4, .phase⟩, ⟨5, .phase⟩, ⟨6, .phase⟩, ⟨7, .phase⟩], guard := none }) rfl rfl 84 (.tmp 25) (.tmp 24) rfl (Z1.setCells o1.gs (x.1 * 128) VL) (run_storeAt_mid Z1 o1.gs (x.1 * 128) 84 VL.toArray hth (by rw [size73, List.size_toArray, HVL.out, S.v8l_length, HOK.out.2]) (by rw [HVL.out]; exact v8l_one' _)) AllReadyH.nil ⟨⟨HC7.out.row HRd.out (fun e => by have := HLT.out o1.gs (Or.inr (Or.inl rfl)); omega), (cells5 HLN.out.row).1⟩, fun hHeld => ?_⟩
      refine wpAnyH_done (by kernel_rfl) ?_ _
      refine NoPanic.normal ?_
      simp only [Act.put]
      clear hHeld hth HRd HLd
      have HCN : Hid (Chg o1.has w1 (Z1.setCells o1.gs (x.1 * 128) VL)) := HCd.out.trans HC7.out (fun j _ e => Or.inr (Or.inl e))
      clear HCd HC7
      generalize Z1.setCells o1.gs (x.1 * 128) VL = Z2 at *
      go_wp2_with fail
      go_roundw
      case rel => exact ⟨k + 1, by omega, by go_num, HLN.out, HCN.out⟩
      case measure => simp [intOf]; omega
    · obtain rfl : k = N := by omega
      have q2 : ¬ ((k : Int) < (k : Int)) := by omega
      have hrow := hl.row
      rw [HPV.out] at hrow
      have f2 := frozen_of_row _ _ 2 _ _ hrow
      obtain ⟨c0, c1, c2, c3, c4⟩ := cells5 hrow
      have FIN : Hid (DkIs (wr.setCell ⟨o1.g, 2, none⟩ (.slice none 0 0)) { o1 with pv := .slice none 0 0 } DW.flush ∧ DkTo o1 w1 { o1 with pv := .slice none 0 0 } (wr.setCell ⟨o1.g, 2, none⟩ (.slice none 0 0))) := by
        rw [HN.out] at hl
        exact flush_fin H1.out hl hc
      clear hl hc hrow
      go_wp2_with fail
      go_ret
      rw [← HDW.out]
      exact ⟨rfl, _, FIN.out.1, H2.out.trans FIN.out.2⟩
end Go.Proofs.YthjlhngjpbmieaaGreatDoor
namespace Go.Proofs.YthjlhngjpbmieaaGreatDoor
open Go.RowKit
/-- The value v is a []bool that reads as ks. -/
def BoolsAt (w : World) (v : Value) (ks : List Bool) : Prop :=
  ∃ ao cap, v = .slice ao ks.length cap ∧ ks.length ≤ 9223372036854775807 ∧ (0 < ks.length → ∃ b off, ao = some ⟨b, off, none⟩ ∧ b < w.heap.size ∧ ∀ j, j < ks.length → w.cell? ⟨b, off + j, none⟩ = some (.bool (ks.getD j false)))
theorem BoolsAt.below {w w' : World} {v : Value} {ks : List Bool} {B : Nat} (h : BoolsAt w v ks) (hb : Below B w w') (hB : w.heap.size ≤ B) : BoolsAt w' v ks := by
  obtain ⟨ao, cap, e, h1, h2⟩ := h
  refine ⟨ao, cap, e, h1, fun hp => ?_⟩
  obtain ⟨b, off, e2, h3, h4⟩ := h2 hp
  exact ⟨b, off, e2, Nat.lt_of_lt_of_le h3 hb.size, fun j hj => (hb.cell (p := ⟨b, off + j, none⟩) (by show b < B; omega)).trans (h4 j hj)⟩
theorem bools_nil (w : World) : BoolsAt w (.slice none 0 0) [] := ⟨none, 0, rfl, by simp, fun h => absurd h (by simp)⟩
namespace S
theorem Cut.of_keep {c : Cut} {k : Nat} (h : c.keep.getD k false = true) : c.of k = 128 := by unfold Cut.of; rw [if_pos h]
theorem Cut.of_torn {c : Cut} {k : Nat} (h : c.keep.getD k false = false) (ht : (k : Int) = c.torn) : c.of k = (min (max c.bytes 0) 128).toNat := by unfold Cut.of; rw [if_neg (by rw [h]; decide), if_pos ht]
theorem Cut.of_lost {c : Cut} {k : Nat} (h : c.keep.getD k false = false) (ht : ¬ (k : Int) = c.torn) : c.of k = 0 := by unfold Cut.of; rw [if_neg (by rw [h]; decide), if_neg ht]
end S
set_option maxHeartbeats 1600000 in
theorem bytesOf_any (v : Value) (c : S.Cut) (k : Nat) (w : World) (hv : BoolsAt w v c.keep) (hk : k ≤ 1000000) :
   Calls Tryz.prog 39 #[.agg #[v, .int .i64 c.torn, .int .i64 c.bytes], .int .i64 (k : Int)] w fun e w' => e = .returned (.int .i64 (c.of k : Int)) ∧ Below w.heap.size w w' := by
  obtain ⟨ao, cap, rfl, hmax, hcell⟩ := hv
  have HB : Hid (∀ a b d : Value, Below w.heap.size w (w.alloc (.cells #[a, b, d] 45))) := fun a b d => (Below.refl _ _).alloc (Nat.le_refl _) _
  obtain ⟨L, hL⟩ : ∃ L, L = c.keep.length := ⟨_, rfl⟩
  by_cases hlt : k < L
  · obtain ⟨b, off, rfl, hbl, hc⟩ := hcell (by omega)
    have hck := hc k (by omega)
    rw [← hL]
    have hck' : ∀ o : Obj, (w.alloc o).cell? ⟨b, off + k, none⟩ = some (.bool (c.keep.getD k false)) := fun o => (World.cell?_alloc_lt _ _ _ hbl).trans hck
    have hck2 := hck' (.cells #[.slice (some ⟨b, off, none⟩) L cap, .int .i64 c.torn, .int .i64 c.bytes] 45)
    have q1 : (0 : Int) ≤ (k : Int) := by omega
    have q2 : (k : Int) < (L : Int) := by omega
    cases hkb : c.keep.getD k false
    · rw [hkb] at hck2
      by_cases ht : (k : Int) = c.torn
      · have E := S.Cut.of_torn hkb ht
        rw [← ht] at hck2 ⊢
        clear ht
        by_cases h1 : c.bytes < 0
        · have e : Hid ((c.of k : Int) = 0) := by show (c.of k : Int) = 0; omega
          clear hcell hc hck hck' hL hkb E
          go_enter Tryz.func39, Tryz.ntmps39
          go_wp2
          go_ret
          exact ⟨by rw [e.out]; rfl, HB.out _ _ _⟩
        · by_cases h2 : 128 < c.bytes
          · have e : Hid ((c.of k : Int) = 128) := by show (c.of k : Int) = 128; omega
            clear hcell hc hck hck' hL hkb E
            go_enter Tryz.func39, Tryz.ntmps39
            go_wp2
            go_ret
            exact ⟨by rw [e.out]; rfl, HB.out _ _ _⟩
          · have e : Hid ((c.of k : Int) = c.bytes) := by show (c.of k : Int) = c.bytes; omega
            clear hcell hc hck hck' hL hkb E
            go_enter Tryz.func39, Tryz.ntmps39
            go_wp2
            go_ret
            exact ⟨by rw [e.out]; rfl, HB.out _ _ _⟩
      · have e : Hid ((c.of k : Int) = 0) := by show (c.of k : Int) = 0; rw [S.Cut.of_lost hkb ht]; rfl
        clear hcell hc hck hck' hL hkb
        go_enter Tryz.func39, Tryz.ntmps39
        go_wp2
        go_ret
        exact ⟨by rw [e.out]; rfl, HB.out _ _ _⟩
    · rw [hkb] at hck2
      have e : Hid ((c.of k : Int) = 128) := by show (c.of k : Int) = 128; rw [S.Cut.of_keep hkb]; rfl
      clear hcell hc hck hck' hL hkb
      go_enter Tryz.func39, Tryz.ntmps39
      go_wp2
      go_ret
      exact ⟨by rw [e.out]; rfl, HB.out _ _ _⟩
  · have hkb : c.keep.getD k false = false := by rw [List.getD_eq_getElem?_getD, List.getElem?_eq_none (by omega)]; rfl
    rw [← hL]
    have q2 : ¬ ((k : Int) < (L : Int)) := by omega
    by_cases ht : (k : Int) = c.torn
    · have E := S.Cut.of_torn hkb ht
      by_cases h1 : c.bytes < 0
      · have e : Hid ((c.of k : Int) = 0) := by show (c.of k : Int) = 0; omega
        clear hcell hL hkb E
        go_enter Tryz.func39, Tryz.ntmps39
        go_wp2
        go_ret
        exact ⟨by rw [e.out]; rfl, HB.out _ _ _⟩
      · by_cases h2 : 128 < c.bytes
        · have e : Hid ((c.of k : Int) = 128) := by show (c.of k : Int) = 128; omega
          clear hcell hL hkb E
          go_enter Tryz.func39, Tryz.ntmps39
          go_wp2
          go_ret
          exact ⟨by rw [e.out]; rfl, HB.out _ _ _⟩
        · have e : Hid ((c.of k : Int) = c.bytes) := by show (c.of k : Int) = c.bytes; omega
          clear hcell hL hkb E
          go_enter Tryz.func39, Tryz.ntmps39
          go_wp2
          go_ret
          exact ⟨by rw [e.out]; rfl, HB.out _ _ _⟩
    · have e : Hid ((c.of k : Int) = 0) := by show (c.of k : Int) = 0; rw [S.Cut.of_lost hkb ht]; rfl
      clear hcell hL hkb
      go_enter Tryz.func39, Tryz.ntmps39
      go_wp2
      go_ret
      exact ⟨by rw [e.out]; rfl, HB.out _ _ _⟩
end Go.Proofs.YthjlhngjpbmieaaGreatDoor
namespace Go.Proofs.YthjlhngjpbmieaaGreatDoor
open Go.RowKit
theorem Chg.setRow {p : Nat → Prop} {w : World} (g : Nat) (cs : Array Value) (hp : p g) : Chg p w (w.setRow g cs) :=
  ⟨rfl, rfl, rfl, by simp [World.setRow], fun k _ hn => setRow_other w g k cs (fun e => hn (by rw [e]; exact hp))⟩
theorem copy_sector {w : World} {g gw i n : Nat} {ss : List (List UInt8)} {x : Nat × List UInt8} (h : SecAt w g ss) (hi : i < ss.length) (hx : w.heap[gw]? = some (.cells (S.pc x).toArray 86 (0, 0))) (hl : x.2.length = 128) (hn : n ≤ 128) (c1 c2 : Nat) (ty : TypeId) :
    ∃ W, (Builtin.copy_ #[31, 31] ty #[.slice (some ⟨g, i * 128, none⟩) 128 c1, .slice (some ⟨gw, 1, none⟩) n c2]).run Tryz.prog w = .ok (goInt n) W ∧ (SecAt W g (ss.set i (S.mix n x.2 (ss.getD i []))) ∧ Chg (fun k => k = g) w W) := by
  obtain ⟨cur, h1, h2⟩ := h.row
  have hlen : (S.v8l (x.2.take n)).length = n := by rw [S.v8l_length, List.length_take]; omega
  have hr := run_copy_row (P := Tryz.prog) w 31 31 ty 5 g (i * 128) 128 c1 ⟨gw, 1, none⟩ n c2 cur 84 (S.v8l (x.2.take n)) Tryz.underlying31 size5 h1 (by rw [hlen]; show n = min n 128; omega) (fun j v hv => by
    rw [Addr.add_lit]
    refine rangeAt_tail hx j v ?_
    obtain ⟨rfl, hj⟩ := S.v8l_at _ j v hv
    rw [List.length_take] at hj
    rw [v8l_get _ _ (by omega)]
    congr 4
    simp only [List.getD_eq_getElem?_getD, List.getElem?_take]
    rw [if_pos (by omega)]) (by rw [hlen]; omega) (S.v8l_one _)
  rw [hlen] at hr
  refine ⟨_, hr, ?_, Chg.setRow (p := fun k => k = g) g _ rfl⟩
  refine h.splice (cur := cur.toList) (by simpa using h1) i hi n hn x.2 hl ?_
  rw [setRow_heap w g cur _ 84 _ h1]
  simp [Go.splice, hlen]
/-- A step of a drawn region: a copy whose run is known. -/
theorem step_copy {md : Region.Mode} {ops : Array Oper} {Q : Exit → Act → World → Prop} {S : World → Prop} {fuel : Nat} {listed : Array Bool} {a : Act} {w : World} {i : Nat} {o : Oper} {rs : List Nat} (ho : ops[i]? = some o) (hgd : o.guard = none) (d s : Operand) (t tn : TypeId)
    (hop : o.op = .call { callee := .builtin .copy, args := #[d, s], argTypes := #[t, tn] }) (vd vs : Value) (hd : a.eval d = vd) (hs : a.eval s = vs) (v' : Value) {R : World → Prop}
    (hr : ∃ w', (Builtin.copy_ #[t, tn] o.type #[vd, vs]).run Tryz.prog w = .ok v' w' ∧ R w') (hrest : AllReadyH Tryz.prog md ops Q S fuel listed a w rs)
    (h : ∀ w', R w' → S w' ∧ (S w' → wpAnyH Tryz.prog md ops Q S fuel (listed.setIfInBounds i true) (a.put o.dst v') w')) : AllReadyH Tryz.prog md ops Q S fuel listed a w (i :: rs) := by
  obtain ⟨w', hr, hR⟩ := hr
  refine AllReadyH.cons ho (fun K hK => ?_) hrest
  rw [if_pos (by simp [Region.wanted, hgd])]
  unfold Oper.wp
  simp [execOp, hop, resolve, invoke, builtin, hd, hs, hr, Result.andThen]
  exact hK.out _ _ (h w' hR).1 (h w' hR).2
/-- A safe sector is written in part. -/
theorem Loose.part {w w0 W : World} {o : Ow} {d : S.Dk} {ss es : List (List UInt8)} (h : Loose w o d ss es) (hd : DkIs w0 o d) {t : List (List UInt8)} (hs : SecAt W o.gs t) (hl : t.length = ss.length) (hc : Chg (fun k => k = o.gs) w W) : Loose W o d t es :=
  ⟨hc.row h.row hd.sep.1, hs, by rw [hl]; exact h.sl, h.seen.chg hc (fun e => hd.sep.2.2 e.symm), h.el, h.pend.chg hc (fun k hk => (hd.psep k hk).2.1)⟩
theorem crash_fin {w w1 : World} {o : Ow} {d : S.Dk} {c : S.Cut} (h : DkIs w1 o d) (hl : Loose w o d (S.crashTo c d.safe d.pend d.pend.length) (S.backTo (S.crashTo c d.safe d.pend d.pend.length) d.seen d.pend d.pend.length)) (hc : Chg o.has w1 w) :
    DkIs (((w.setCell ⟨o.g, 2, none⟩ (.slice none 0 0)).setCell ⟨o.g, 3, none⟩ (.bool false)).setCell ⟨o.g, 4, none⟩ (.int .i64 0)) { o with pv := .slice none 0 0, lf := 0 } (d.crash c) ∧ DkTo o w1 { o with pv := .slice none 0 0, lf := 0 } (((w.setCell ⟨o.g, 2, none⟩ (.slice none 0 0)).setCell ⟨o.g, 3, none⟩ (.bool false)).setCell ⟨o.g, 4, none⟩ (.int .i64 0)) := by
  have R2 := heap_setCell_same _ _ 2 _ _ (.slice none 0 0) hl.row
  have R3 := heap_setCell_same _ _ 3 _ _ (.bool false) R2
  have R4 := heap_setCell_same _ _ 4 _ _ (.int .i64 0) R3
  have hco : Chg (fun k => k = o.g) w (((w.setCell ⟨o.g, 2, none⟩ (.slice none 0 0)).setCell ⟨o.g, 3, none⟩ (.bool false)).setCell ⟨o.g, 4, none⟩ (.int .i64 0)) := (((Chg.refl (fun k => k = o.g) w).setCell o.g 2 _ (fun _ => rfl)).setCell o.g 3 _ (fun _ => rfl)).setCell o.g 4 _ (fun _ => rfl)
  have hn : (d.crash c).safe.length = d.safe.length := S.crashTo_length _ _ _ _
  have hse : SecAt w o.ge (d.crash c).seen := by
    have := hl.seen
    rw [S.back_crash d h.ok c] at this
    exact this
  refine ⟨⟨by rw [hn]; exact R4, hl.safe.chg hco (fun e => h.sep.1 e.symm), hse.chg hco (fun e => h.sep.2.1 e.symm), prow_nil _, h.ok.crash c, fun k hk => (by cases hk), h.sep, fun k hk => (by cases hk), by rw [hn]; exact h.caps⟩, rfl, hc.trans hco (fun j _ e => Or.inl e), fun k hk => ?_⟩
  rcases hk with e | e | e | e
  · exact Or.inl (Or.inl e)
  · exact Or.inl (Or.inr (Or.inl e))
  · exact Or.inl (Or.inr (Or.inr (Or.inl e)))
  · cases e
set_option maxHeartbeats 3200000 in
set_option maxRecDepth 100000 in
theorem crash_any (o : Ow) (d : S.Dk) (v : Value) (c : S.Cut) (w : World) (hd : DkIs w o d) (hb : d.pend.length ≤ 1000000) (hk : ∀ W, Chg o.has w W → BoolsAt W v c.keep) :
   Calls Tryz.prog 19 #[o.ptr, .agg #[v, .int .i64 c.torn, .int .i64 c.bytes]] w fun e w' => e = .returned (.tuple #[]) ∧ ∃ o', DkIs w' o' (d.crash c) ∧ DkTo o w o' w' := by
  obtain ⟨aok, capk, rfl, -, -⟩ := hk w (Chg.refl _ _)
  obtain ⟨KL, hKL⟩ : ∃ KL, KL = c.keep.length := ⟨_, rfl⟩
  rw [← hKL] at hk ⊢
  obtain ⟨N, hN⟩ : ∃ N, N = d.pend.length := ⟨_, rfl⟩
  have hNb : N ≤ 1000000 := by rw [hN]; exact hb
  obtain ⟨aop, cp, hpv⟩ := hd.pend.form
  rw [← hN] at hpv
  have HD := hide hd
  have HK := hide hk
  have HPV := hide hpv
  have HN := hide hN
  have HLT0 := hide hd.lt
  obtain ⟨TN, hTN⟩ : ∃ T, T = c.torn := ⟨_, rfl⟩
  obtain ⟨BY, hBY⟩ : ∃ B, B = c.bytes := ⟨_, rfl⟩
  rw [← hTN, ← hBY]
  have HTN := hide hTN
  have HBY := hide hBY
  have HCB : Hid (Below w.heap.size w (w.alloc (.cells #[.slice aok KL capk, .int .i64 TN, .int .i64 BY] 45))) := (Below.refl _ _).alloc (Nat.le_refl _) _
  have c2 := (cells5 (HD.out.below HCB.out).row).2.2.1
  rw [HPV.out] at c2
  have HG0 : Hid ((w.alloc (.cells #[.slice aok KL capk, .int .i64 TN, .int .i64 BY] 45)).heap[w.heap.size]? = some (.cells #[.slice aok KL capk, .int .i64 TN, .int .i64 BY] 45 (0, 0))) := heap_alloc_new _ _
  have HL0 := hide (HD.out.loose.below HCB.out)
  clear hd hpv hN hb hk hKL hTN hBY
  unfold Ow.ptr
  go_enter Tryz.func19, Tryz.ntmps19
  go_wp2_with fail
  have HC0 : Hid (Chg o.has w (w.alloc (.cells #[.slice aok KL capk, .int .i64 TN, .int .i64 BY] 45))) := (Chg.refl _ _).alloc _
  clear c2 HCB
  generalize w.alloc (.cells #[.slice aok KL capk, .int .i64 TN, .int .i64 BY] 45) = wb at *
  obtain ⟨gc, hgc⟩ : ∃ gc, gc = w.heap.size := ⟨_, rfl⟩
  have HGC := hide hgc
  rw [← hgc] at HG0 ⊢
  clear hgc
  go_loopw [13] (fun i wr => ∃ k : Nat, k ≤ N ∧ i = .int .i64 (k : Int) ∧ Loose wr o d (S.crashTo c d.safe d.pend k) d.seen ∧ wr.heap[gc]? = some (.cells #[.slice aok KL capk, .int .i64 TN, .int .i64 BY] 45 (0, 0)) ∧ Chg o.has w wr) (fun i _ => N - (intOf i).toNat)
  case atStart => exact ⟨0, Nat.zero_le _, rfl, HL0.out, HG0.out, HC0.out⟩
  case round =>
    obtain ⟨k, hk, rfl, hl, hgr, hc⟩ := hrel
    have HL := hide hl
    have HC := hide hc
    have HGR := hide hgr
    by_cases hlt : k < N
    · have hlt' : k < d.pend.length := by rw [← HN.out]; exact hlt
      obtain ⟨x, hx⟩ : ∃ x, x = S.Ws.nth d.pend k := ⟨_, rfl⟩
      have hok := HD.out.ok.pend k hlt'
      rw [← hx] at hok
      obtain ⟨gp, rfl⟩ : ∃ gp, aop = some ⟨gp, 0, none⟩ := by
        rcases hl.pend.shape with ⟨_, e⟩ | ⟨g, c, e, _⟩
        · rw [e] at hlt'; exact absurd hlt' (Nat.not_lt_zero _)
        · rw [HPV.out] at e
          simp only [Value.slice.injEq] at e
          exact ⟨g, e.1⟩
      have hpr := hl.pend
      rw [HPV.out] at hpr
      have hld := load75 hpr (fun j hj => (HD.out.ok.pend j hj).2) k hlt'
      have hst := store75 x hok.2 wr (.int .i64 0 :: S.v8l (S.zeros 128)).toArray (by simp [S.v8l_length, S.zeros_length])
      have hal := alloc75
      obtain ⟨PCL, hPCL⟩ : ∃ PCL, PCL = S.pc x := ⟨_, rfl⟩
      obtain ⟨ZA, hZA⟩ : ∃ ZA, ZA = (Value.int .i64 0 :: S.v8l (S.zeros 128)).toArray := ⟨_, rfl⟩
      rw [← hx, ← hPCL] at hld
      rw [← hZA, ← hPCL] at hst
      simp only [← hZA] at hal
      have q1 : (0 : Int) ≤ (k : Int) := by omega
      have q2 : (k : Int) < (N : Int) := by omega
      have q3 : IntKind.i64.wrap ((k : Int) + 1) = (k : Int) + 1 := by rw [IntKind.wrap_i64]; omega
      have HX := hide hx
      have HPCL := hide hPCL
      have HOK := hide hok
      have hn := c.of_le k
      obtain ⟨n, hnn⟩ : ∃ n, n = c.of k := ⟨_, rfl⟩
      rw [← hnn] at hn
      have HNN := hide hnn
      have HNL := hide hn
      clear hl hc hgr hpr hx hPCL hZA hok hlt' hnn HL0 HG0 HC0
      go_wp2_with (refine wpList_load_known rfl 86 (.tmp 16) rfl (.agg PCL.toArray) hld ?_; refine wpList_alloc_known rfl 86 rfl (.pointer (some ⟨wr.heap.size, 0, none⟩)) (wr.alloc (.cells ZA 86)) (hal _) ?_; simp only [Act.put, List.setIfInBounds_toArray, List.set_cons_zero, List.set_cons_succ]; refine wpList_assign_known rfl (.tmp 15) rfl ?_; simp only [Act.put, List.setIfInBounds_toArray, List.set_cons_zero, List.set_cons_succ]; refine wpList_store_known rfl 86 (.tmp 5) (.tmp 17) rfl (wr.alloc (.cells PCL.toArray 86)) hst ?_)
      simp only [Act.put]
      clear hld hst hal
      have hbw : Below wr.heap.size wr (wr.alloc (.cells PCL.toArray 86)) := (Below.refl _ _).alloc (Nat.le_refl _) _
      have HL2 := hide (HL.out.below hbw)
      have HC2 := hide (HC.out.trans (q := fun _ => False) (Chg.ofBelow' hbw) (fun _ _ e => e.elim))
      have HG2 := hide ((hbw.block gc (block_lt_of_row HGR.out)).trans HGR.out)
      have HR2 : Hid ((wr.alloc (.cells PCL.toArray 86)).heap[wr.heap.size]? = some (.cells PCL.toArray 86 (0, 0))) := heap_alloc_new _ _
      have HLT := hide HL.out.lt
      have HSZ := hide HC.out.size
      clear hbw HL HC HGR
      generalize wr.alloc (.cells PCL.toArray 86) = w2 at *
      generalize wr.heap.size = gw at *
      have q4 : (0 : Int) ≤ (x.1 : Int) := by omega
      have q5 : (x.1 : Int) < (d.safe.length : Int) := by have := HOK.out.1; omega
      have q6 : (0 : Int) ≤ (n : Int) := by omega
      have q7 : (n : Int) ≤ 128 := by have := HNL.out; omega
      refine wp_region_noPanic ?_
      refine wp_region_held_drew (S := (fun W => W.heap[gw]? = some (.cells PCL.toArray 86 (0, 0)) ∧ W.cell? ⟨o.g, 0, none⟩ = some (.slice (some ⟨o.gs, 0, none⟩) d.safe.length o.cs) ∧ W.heap[gc]? = some (.cells #[.slice aok KL capk, .int .i64 TN, .int .i64 BY] 45 (0, 0)))) follows ⟨HR2.out, (cells5 HL2.out.row).1, HG2.out⟩ (fun hHeld => ?_)
      have hbd := (Chg.refl (fun _ => False) w2).drew.below _ (Nat.le_refl _) (fun _ _ e => e)
      have HLd := hide (HL2.out.below (W := w2.drew) hbd)
      have HCd := hide HC2.out.drew
      have HRd : Hid (w2.drew.heap[gw]? = some (.cells PCL.toArray 86 (0, 0))) := HR2.out
      have HGd : Hid (w2.drew.heap[gc]? = some (.cells #[.slice aok KL capk, .int .i64 TN, .int .i64 BY] 45 (0, 0))) := HG2.out
      clear HL2 HC2 HR2 HG2 hbd
      generalize w2.drew = Z1 at HLd HCd HRd HGd hHeld ⊢
      refine tk 0 ?_ rfl (Or.inl ⟨by rfl, ?_⟩) ?_
      rotate_left
      · intro w hSw
        clear hSw
        go_simp
        all_goals with_reducible rfl
      simp only [Act.put, List.setIfInBounds_toArray, List.set_cons_zero, List.set_cons_succ]
      refine tk 1 ?_ rfl (Or.inl ⟨by rfl, ?_⟩) ?_
      rotate_left
      · intro w hSw
        clear hSw
        go_simp
        all_goals with_reducible rfl
      simp only [Act.put, List.setIfInBounds_toArray, List.set_cons_zero, List.set_cons_succ]
      refine tk 2 ?_ rfl (Or.inl ⟨by rfl, ?_⟩) ?_
      rotate_left
      · intro w hSw
        clear hSw
        go_simp
        all_goals with_reducible rfl
      simp only [Act.put, List.setIfInBounds_toArray, List.set_cons_zero, List.set_cons_succ]
      refine tk 3 ?_ rfl (Or.inl ⟨by rfl, ?_⟩) ?_
      rotate_left
      · intro w hSw
        have c0 := hSw.2.1
        clear hSw
        go_simp
        all_goals with_reducible rfl
      simp only [Act.put, List.setIfInBounds_toArray, List.set_cons_zero, List.set_cons_succ]
      refine tk 4 ?_ rfl (Or.inl ⟨by rfl, ?_⟩) ?_
      rotate_left
      · intro w hSw
        clear hSw
        go_simp
        all_goals with_reducible rfl
      simp only [Act.put, List.setIfInBounds_toArray, List.set_cons_zero, List.set_cons_succ]
      refine tk 5 ?_ rfl (Or.inl ⟨by rfl, ?_⟩) ?_
      rotate_left
      · intro w hSw
        have cp0 : w.cell? ⟨gw, 0, none⟩ = some (.int .i64 (x.1 : Int)) := cell_place (p := x) (by rw [← HPCL.out]; exact hSw.1)
        clear hSw
        go_simp
        all_goals with_reducible rfl
      simp only [Act.put, List.setIfInBounds_toArray, List.set_cons_zero, List.set_cons_succ]
      refine tk 6 ?_ rfl (Or.inl ⟨by rfl, ?_⟩) ?_
      rotate_left
      · intro w hSw
        clear hSw
        go_simp
        all_goals with_reducible rfl
      simp only [Act.put, List.setIfInBounds_toArray, List.set_cons_zero, List.set_cons_succ]
      refine tk 7 ?_ rfl (Or.inl ⟨by rfl, ?_⟩) ?_
      rotate_left
      · intro w hSw
        clear hSw
        go_simp
        all_goals with_reducible rfl
      simp only [Act.put, List.setIfInBounds_toArray, List.set_cons_zero, List.set_cons_succ]
      refine tk 8 ?_ rfl (Or.inl ⟨by rfl, ?_⟩) ?_
      rotate_left
      · intro w hSw
        clear hSw
        go_simp
        all_goals with_reducible rfl
      simp only [Act.put, List.setIfInBounds_toArray, List.set_cons_zero, List.set_cons_succ]
      refine wpAnyH_take (i := 9) (oi := ⟨_, _, _, _, _, _⟩) (v := .agg #[.slice aok KL capk, .int .i64 TN, .int .i64 BY]) rfl (by kernel_rfl) (by kernel_rfl) (by kernel_rfl) (fun _ _ _ h => h) (yieldsIf_load_mid (by kernel_rfl) 45 (.tmp 3) rfl gc 0 rfl [.slice aok KL capk, .int .i64 TN, .int .i64 BY] _ (fun W hW => rangeAt_row hW.2.2) Tryz.underlying45 rfl (by kernel_rfl)) (by assumption) ?_
      simp only [Act.put, List.setIfInBounds_toArray, List.set_cons_zero, List.set_cons_succ]
      refine tk 10 ?_ rfl (Or.inl ⟨by rfl, ?_⟩) ?_
      rotate_left
      · intro w hSw
        clear hSw
        go_simp
        all_goals with_reducible rfl
      simp only [Act.put, List.setIfInBounds_toArray, List.set_cons_zero, List.set_cons_succ]
      refine wpAnyH_ready (rs := [11]) (by kernel_rfl) (by simp) ?_
      refine AllReadyH.cons (o := { dst := some 29, op := Op.call { callee := Callee.value (Operand.func 39), args := #[Operand.tmp 27, Operand.tmp 28], argTypes := #[45, 3] }, type := 3, pos := "crash.go:20", after := #[⟨9, .data⟩, ⟨10, .data⟩], guard := none }) rfl (fun K hK => ?_) AllReadyH.nil
      go_simp
      have CALL := bytesOf_any (.slice aok KL capk) c k Z1 (HK.out Z1 HCd.out) (by omega)
      rw [← HTN.out, ← HBY.out, ← HNN.out] at CALL
      refine CALL.mono ?_
      rintro e Z2 ⟨rfl, hb2⟩
      clear CALL
      refine hK.out _ _ ⟨(hb2.block gw (block_lt_of_row HRd.out)).trans HRd.out, (cells5 (HLd.out.below hb2).row).1, (hb2.block gc (block_lt_of_row HGd.out)).trans HGd.out⟩ (fun hHeld => ?_)
      clear hK K
      try simp only [Act.put, List.setIfInBounds_toArray, List.set_cons_zero, List.set_cons_succ]
      have HL3 := hide (HLd.out.below hb2)
      have HC3 := hide (HCd.out.trans (q := fun _ => False) (Chg.ofBelow' hb2) (fun _ _ e => e.elim))
      have HR3 := hide hHeld.1
      have HG3 := hide hHeld.2.2
      clear HLd HCd HRd HGd hb2
      refine tk 12 ?_ rfl (Or.inl ⟨by rfl, ?_⟩) ?_
      rotate_left
      · intro w hSw
        clear hSw
        go_simp
        all_goals with_reducible rfl
      simp only [Act.put, List.setIfInBounds_toArray, List.set_cons_zero, List.set_cons_succ]
      refine wpAnyH_ready (rs := [13]) (by kernel_rfl) (by simp) ?_
      refine step_copy (o := { dst := some 31, op := Op.call { callee := Callee.builtin Builtin.copy, args := #[Operand.tmp 25, Operand.tmp 30], argTypes := #[31, 31] }, type := 3, pos := "crash.go:20", after := #[⟨7, .data⟩, ⟨12, .data⟩, ⟨11, .chain⟩], guard := none }) rfl rfl _ _ 31 31 rfl _ _ rfl rfl _ (copy_sector (x := x) (gw := gw) (i := x.1) (n := n) HL3.out.safe (by rw [HL3.out.sl]; exact HOK.out.1) (by rw [← HPCL.out]; exact HR3.out) HOK.out.2 HNL.out _ _ 3) AllReadyH.nil ?_
      rintro Z4 ⟨hs4, hc4⟩
      rw [HNN.out, HX.out] at hs4
      have HL4 : Hid (Loose Z4 o d (S.crashTo c d.safe d.pend (k + 1)) d.seen) := HL3.out.part HD.out hs4 (by rw [S.crashTo_length, S.crashTo_length]) hc4
      have HG4 := hide (hc4.row HG3.out (fun e => by have := HLT0.out o.gs (Or.inr (Or.inl rfl)); have := HGC.out; omega))
      have HR4 := hc4.row HR3.out (fun e => by have := HLT.out o.gs (Or.inr (Or.inl rfl)); omega)
      have HC4 := hide (HC3.out.trans hc4 (fun j _ e => Or.inr (Or.inl e)))
      refine ⟨⟨HR4, (cells5 HL4.out.row).1, HG4.out⟩, fun hHeld => ?_⟩
      clear hs4 hc4 HR4 HL3 HC3 HR3 HG3
      refine wpAnyH_done (by kernel_rfl) ?_ _
      refine NoPanic.normal ?_
      simp only [Act.put, List.setIfInBounds_toArray, List.set_cons_zero, List.set_cons_succ]
      clear hHeld
      go_wp2_with fail
      go_roundw
      case rel => exact ⟨k + 1, by omega, by go_num, HL4.out, HG4.out, HC4.out⟩
      case measure => simp [intOf]; omega
    · obtain rfl : k = N := by omega
      have q2 : ¬ ((k : Int) < (k : Int)) := by omega
      have c2 := (cells5 hl.row).2.2.1
      rw [HPV.out] at c2
      clear hl hc hgr HL0 HG0 HC0
      go_wp2_with fail
      clear c2
      have HL5 : Hid (Loose wr o d (S.crashTo c d.safe d.pend d.pend.length) d.seen) := by rw [← HN.out]; exact HL.out
      clear HL HGR
      obtain ⟨NW, hNW⟩ : ∃ NW, NW = S.crashTo c d.safe d.pend d.pend.length := ⟨_, rfl⟩
      rw [← hNW] at HL5
      have HNW := hide hNW
      clear hNW
      generalize hN2 : k = N2 at *
      clear hN2
      go_loopw [38] (fun i wr => ∃ k : Nat, k ≤ N2 ∧ i = .int .i64 (k : Int) ∧ Loose wr o d NW (S.backTo NW d.seen d.pend k) ∧ Chg o.has w wr) (fun i _ => N2 - (intOf i).toNat)
      case atStart => exact ⟨0, Nat.zero_le _, rfl, HL5.out, HC.out⟩
      case round =>
        obtain ⟨k, hk, rfl, hl, hc⟩ := hrel
        clear HL5 HC
        have HL := hide hl
        have HC := hide hc
        by_cases hlt : k < N2
        · have hlt' : k < d.pend.length := by rw [← HN.out]; exact hlt
          obtain ⟨x, hx⟩ : ∃ x, x = S.Ws.nth d.pend k := ⟨_, rfl⟩
          have hok := HD.out.ok.pend k hlt'
          rw [← hx] at hok
          obtain ⟨gp, rfl⟩ : ∃ gp, aop = some ⟨gp, 0, none⟩ := by
            rcases hl.pend.shape with ⟨_, e⟩ | ⟨g, c, e, _⟩
            · rw [e] at hlt'; exact absurd hlt' (Nat.not_lt_zero _)
            · rw [HPV.out] at e
              simp only [Value.slice.injEq] at e
              exact ⟨g, e.1⟩
          have hpr := hl.pend
          rw [HPV.out] at hpr
          have hld := load75 hpr (fun j hj => (HD.out.ok.pend j hj).2) k hlt'
          have hst := store75 x hok.2 wr (.int .i64 0 :: S.v8l (S.zeros 128)).toArray (by simp [S.v8l_length, S.zeros_length])
          have hal := alloc75
          obtain ⟨PCL, hPCL⟩ : ∃ PCL, PCL = S.pc x := ⟨_, rfl⟩
          obtain ⟨ZA, hZA⟩ : ∃ ZA, ZA = (Value.int .i64 0 :: S.v8l (S.zeros 128)).toArray := ⟨_, rfl⟩
          rw [← hx, ← hPCL] at hld
          rw [← hZA, ← hPCL] at hst
          simp only [← hZA] at hal
          have q1 : (0 : Int) ≤ (k : Int) := by omega
          have q2 : (k : Int) < (N2 : Int) := by omega
          have q3 : IntKind.i64.wrap ((k : Int) + 1) = (k : Int) + 1 := by rw [IntKind.wrap_i64]; omega
          have HX := hide hx
          have HPCL := hide hPCL
          have HOK := hide hok
          obtain ⟨VL, hVL⟩ : ∃ VL, VL = S.v8l (NW.getD x.1 []) := ⟨_, rfl⟩
          have HVL := hide hVL
          have HVN : Hid ((NW.getD x.1 []).length = 128) := hl.safe.len x.1 (by rw [hl.sl]; exact hok.1)
          clear hl hc hpr hx hPCL hZA hok hlt' hVL
          go_wp2_with (refine wpList_load_known rfl 86 (.tmp 40) rfl (.agg PCL.toArray) hld ?_; refine wpList_alloc_known rfl 86 rfl (.pointer (some ⟨wr.heap.size, 0, none⟩)) (wr.alloc (.cells ZA 86)) (hal _) ?_; refine wpList_store_known rfl 86 (.tmp 7) (.tmp 41) rfl (wr.alloc (.cells PCL.toArray 86)) hst ?_)
          simp only [Act.put, List.setIfInBounds_toArray, List.set_cons_zero, List.set_cons_succ]
          clear hld hst hal
          have hbw : Below wr.heap.size wr (wr.alloc (.cells PCL.toArray 86)) := (Below.refl _ _).alloc (Nat.le_refl _) _
          have HL2 := hide (HL.out.below hbw)
          have HC2 := hide (HC.out.trans (q := fun _ => False) (Chg.ofBelow' hbw) (fun _ _ e => e.elim))
          have HR2 : Hid ((wr.alloc (.cells PCL.toArray 86)).heap[wr.heap.size]? = some (.cells PCL.toArray 86 (0, 0))) := heap_alloc_new _ _
          have HLT := hide HL.out.lt
          clear hbw HL HC
          generalize wr.alloc (.cells PCL.toArray 86) = w2 at *
          generalize wr.heap.size = gw at *
          have q4 : (0 : Int) ≤ (x.1 : Int) := by omega
          have q5 : (x.1 : Int) < (d.safe.length : Int) := by have := HOK.out.1; omega
          refine wp_region_noPanic ?_
          refine wp_region_held_drew (S := (fun W => W.heap[gw]? = some (.cells PCL.toArray 86 (0, 0)) ∧ W.cell? ⟨o.g, 0, none⟩ = some (.slice (some ⟨o.gs, 0, none⟩) d.safe.length o.cs) ∧ W.cell? ⟨o.g, 1, none⟩ = some (.slice (some ⟨o.ge, 0, none⟩) d.safe.length o.ce) ∧ SecAt W o.gs NW)) follows ⟨HR2.out, (cells5 HL2.out.row).1, (cells5 HL2.out.row).2.1, HL2.out.safe.kept rfl⟩ (fun hHeld => ?_)
          have hbd := (Chg.refl (fun _ => False) w2).drew.below _ (Nat.le_refl _) (fun _ _ e => e)
          have HLd := hide (HL2.out.below (W := w2.drew) hbd)
          have HCd := hide HC2.out.drew
          have HRd : Hid (w2.drew.heap[gw]? = some (.cells PCL.toArray 86 (0, 0))) := HR2.out
          clear HL2 HC2 HR2 hbd
          generalize w2.drew = Z1 at HLd HCd HRd hHeld ⊢
          refine tk 0 ?_ rfl (Or.inl ⟨by rfl, ?_⟩) ?_
          rotate_left
          · intro w hSw
            clear hSw
            go_simp
            all_goals with_reducible rfl
          simp only [Act.put, List.setIfInBounds_toArray, List.set_cons_zero, List.set_cons_succ]
          refine tk 1 ?_ rfl (Or.inl ⟨by rfl, ?_⟩) ?_
          rotate_left
          · intro w hSw
            clear hSw
            go_simp
            all_goals with_reducible rfl
          simp only [Act.put, List.setIfInBounds_toArray, List.set_cons_zero, List.set_cons_succ]
          refine tk 2 ?_ rfl (Or.inl ⟨by rfl, ?_⟩) ?_
          rotate_left
          · intro w hSw
            clear hSw
            go_simp
            all_goals with_reducible rfl
          simp only [Act.put, List.setIfInBounds_toArray, List.set_cons_zero, List.set_cons_succ]
          refine tk 3 ?_ rfl (Or.inl ⟨by rfl, ?_⟩) ?_
          rotate_left
          · intro w hSw
            have c1 := hSw.2.2.1
            clear hSw
            go_simp
            all_goals with_reducible rfl
          simp only [Act.put, List.setIfInBounds_toArray, List.set_cons_zero, List.set_cons_succ]
          refine tk 4 ?_ rfl (Or.inl ⟨by rfl, ?_⟩) ?_
          rotate_left
          · intro w hSw
            clear hSw
            go_simp
            all_goals with_reducible rfl
          simp only [Act.put, List.setIfInBounds_toArray, List.set_cons_zero, List.set_cons_succ]
          refine tk 5 ?_ rfl (Or.inl ⟨by rfl, ?_⟩) ?_
          rotate_left
          · intro w hSw
            have cp0 : w.cell? ⟨gw, 0, none⟩ = some (.int .i64 (x.1 : Int)) := cell_place (p := x) (by rw [← HPCL.out]; exact hSw.1)
            clear hSw
            go_simp
            all_goals with_reducible rfl
          simp only [Act.put, List.setIfInBounds_toArray, List.set_cons_zero, List.set_cons_succ]
          refine tk 6 ?_ rfl (Or.inl ⟨by rfl, ?_⟩) ?_
          rotate_left
          · intro w hSw
            clear hSw
            go_simp
            all_goals with_reducible rfl
          simp only [Act.put, List.setIfInBounds_toArray, List.set_cons_zero, List.set_cons_succ]
          refine tk 7 ?_ rfl (Or.inl ⟨by rfl, ?_⟩) ?_
          rotate_left
          · intro w hSw
            clear hSw
            go_simp
            all_goals with_reducible rfl
          simp only [Act.put, List.setIfInBounds_toArray, List.set_cons_zero, List.set_cons_succ]
          refine tk 8 ?_ rfl (Or.inl ⟨by rfl, ?_⟩) ?_
          rotate_left
          · intro w hSw
            clear hSw
            go_simp
            all_goals with_reducible rfl
          simp only [Act.put, List.setIfInBounds_toArray, List.set_cons_zero, List.set_cons_succ]
          refine tk 9 ?_ rfl (Or.inl ⟨by rfl, ?_⟩) ?_
          rotate_left
          · intro w hSw
            have c0 := hSw.2.1
            clear hSw
            go_simp
            all_goals with_reducible rfl
          simp only [Act.put, List.setIfInBounds_toArray, List.set_cons_zero, List.set_cons_succ]
          refine tk 10 ?_ rfl (Or.inl ⟨by rfl, ?_⟩) ?_
          rotate_left
          · intro w hSw
            clear hSw
            go_simp
            all_goals with_reducible rfl
          simp only [Act.put, List.setIfInBounds_toArray, List.set_cons_zero, List.set_cons_succ]
          refine tk 11 ?_ rfl (Or.inl ⟨by rfl, ?_⟩) ?_
          rotate_left
          · intro w hSw
            have cp0 : w.cell? ⟨gw, 0, none⟩ = some (.int .i64 (x.1 : Int)) := cell_place (p := x) (by rw [← HPCL.out]; exact hSw.1)
            clear hSw
            go_simp
            all_goals with_reducible rfl
          simp only [Act.put, List.setIfInBounds_toArray, List.set_cons_zero, List.set_cons_succ]
          refine tk 12 ?_ rfl (Or.inl ⟨by rfl, ?_⟩) ?_
          rotate_left
          · intro w hSw
            clear hSw
            go_simp
            all_goals with_reducible rfl
          simp only [Act.put, List.setIfInBounds_toArray, List.set_cons_zero, List.set_cons_succ]
          refine wpAnyH_take (i := 13) (oi := ⟨_, _, _, _, _, _⟩) (v := .agg VL.toArray) rfl (by kernel_rfl) (by kernel_rfl) (by kernel_rfl) (fun _ _ _ h => h) (yieldsIf_load_mid (by kernel_rfl) 84 (.tmp 54) rfl o.gs (x.1 * 128) rfl VL _ (fun W hW => by rw [HVL.out]; exact hW.2.2.2.cells x.1 (by rw [HLd.out.sl]; exact HOK.out.1)) Tryz.underlying84 rfl (by rw [size73, HVL.out, S.v8l_length, HVN.out])) (by assumption) ?_
          simp only [Act.put, List.setIfInBounds_toArray, List.set_cons_zero, List.set_cons_succ]
          refine tk 14 ?_ rfl (Or.inl ⟨by rfl, ?_⟩) ?_
          rotate_left
          · intro w hSw
            clear hSw
            go_simp
            all_goals with_reducible rfl
          simp only [Act.put, List.setIfInBounds_toArray, List.set_cons_zero, List.set_cons_succ]
          refine wpAnyH_ready (rs := [15]) (by kernel_rfl) (by simp) ?_
          have hth : Z1.there o.ge (x.1 * 128) VL.toArray.size := by rw [List.size_toArray, HVL.out, S.v8l_length, HVN.out]; exact HLd.out.seen.there x.1 (by rw [HLd.out.el]; exact HOK.out.1)
          have HC7 : Hid (Chg (fun k => k = o.ge) Z1 (Z1.setCells o.ge (x.1 * 128) VL)) := Chg.setCells (p := fun k => k = o.ge) o.ge (fun _ => rfl) _ _ (Chg.refl _ _)
          have HLN : Hid (Loose (Z1.setCells o.ge (x.1 * 128) VL) o d NW (S.backTo NW d.seen d.pend (k + 1))) := by rw [HVL.out, S.backTo, ← HX.out]; exact HLd.out.show HD.out x.1 HOK.out.1 _ HVN.out
          refine step_store (o := { dst := none, op := Op.store 84 (Operand.tmp 56) (Operand.tmp 55), type := 0, pos := "crash.go:24", after := #[⟨14, .data⟩, ⟨13, .data⟩, ⟨0, .phase⟩, ⟨1, .phase⟩, ⟨2, .phase⟩, ⟨3, .phase⟩, ⟨4, .phase⟩, ⟨5, .phase⟩, ⟨6, .phase⟩, ⟨7, .phase⟩, ⟨8, .phase⟩, ⟨9, .phase⟩, ⟨10, .phase⟩, ⟨11, .phase⟩, ⟨12, .phase⟩, ⟨13, .phase⟩], guard := none }) rfl rfl 84 (.tmp 56) (.tmp 55) rfl (Z1.setCells o.ge (x.1 * 128) VL) (run_storeAt_mid Z1 o.ge (x.1 * 128) 84 VL.toArray hth (by rw [size73, List.size_toArray, HVL.out, S.v8l_length, HVN.out]) (by rw [HVL.out]; exact v8l_one' _)) AllReadyH.nil ⟨⟨HC7.out.row HRd.out (fun e => by have := HLT.out o.ge (Or.inr (Or.inr (Or.inl rfl))); omega), (cells5 HLN.out.row).1, (cells5 HLN.out.row).2.1, HLN.out.safe⟩, fun hHeld => ?_⟩
          refine wpAnyH_done (by kernel_rfl) ?_ _
          refine NoPanic.normal ?_
          simp only [Act.put]
          clear hHeld hth HRd HLd
          have HCN : Hid (Chg o.has w (Z1.setCells o.ge (x.1 * 128) VL)) := HCd.out.trans HC7.out (fun j _ e => Or.inr (Or.inr (Or.inl e)))
          clear HCd HC7
          generalize Z1.setCells o.ge (x.1 * 128) VL = Z2 at *
          go_wp2_with fail
          go_roundw
          case rel => exact ⟨k + 1, by omega, by go_num, HLN.out, HCN.out⟩
          case measure => simp [intOf]; omega
        · obtain rfl : k = N2 := by omega
          have q2 : ¬ ((k : Int) < (k : Int)) := by omega
          have hrow := hl.row
          rw [HPV.out] at hrow
          have f2 := frozen_of_row _ _ 2 _ _ hrow
          have f3 := frozen_of_row _ _ 3 _ _ hrow
          have f4 := frozen_of_row _ _ 4 _ _ hrow
          obtain ⟨c0, c1, c2, c3, c4⟩ := cells5 hrow
          have FIN := hide (crash_fin (c := c) HD.out (w := wr) (by rw [← HNW.out, ← HN.out]; exact hl) hc)
          clear hl hc hrow HL HC
          go_wp2_with fail
          go_end0
          exact ⟨rfl, _, FIN.out.1, FIN.out.2⟩
end Go.Proofs.YthjlhngjpbmieaaGreatDoor
