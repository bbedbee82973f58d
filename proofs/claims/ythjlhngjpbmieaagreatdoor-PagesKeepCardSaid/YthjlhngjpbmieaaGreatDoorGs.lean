/- Two heads that are the same are the same to the program. -/
/- spare: the place for the next head, blank and safe. -/
import Derived.Test.YthjlhngjpbmieaaGreatDoorGr
import Derived.Laws.StructEq
namespace Go.Proofs.YthjlhngjpbmieaaGreatDoor
open Go.RowKit

theorem eqf_step {d : Nat} {xs ys : Array Value} {f : Field} {fs : List Field} {a b : Value} {w : World} (hn : f.name ≠ "_") (pa : (part f.type xs f.offset).run Tryz.prog w = .ok a w) (pb : (part f.type ys f.offset).run Tryz.prog w = .ok b w) (e : (Op.equalIn d f.type a b).run Tryz.prog w = .ok true w) :
    (Op.eqFields d xs ys (f :: fs)).run Tryz.prog w = (Op.eqFields d xs ys fs).run Tryz.prog w := by
  rw [Op.eqFields, if_pos hn]
  simp only [Sem.run_bind, pa, pb, e, Result.andThen_ok]
  rfl
set_option maxRecDepth 100000 in
theorem equal_heads (h : S.Hd) (hl : h.sl.length = 32) (w : World) : (Op.equalIn 10000 106 (hdv h) (hdv h)).run Tryz.prog w = .ok true w := by
  have hS : Tryz.prog.underlying 106 = some (.struct (Tryz.prog.fieldsOf 106)) := by kernel_rfl
  have hp : Tryz.prog.stoodInHeld 106 = false := by kernel_rfl
  unfold hdv
  rw [show (10000 : Nat) = 9999 + 1 from rfl, run_equalIn_agg w 9999 106 _ _ hS hp]
  simp only [Program.fieldsOf, Tryz.underlying106]
  have p0 : (part 102 (S.hc h).toArray 0).run Tryz.prog w = .ok (.int .u64 (h.turn : Int)) w := by
    simp [part, S.hc]
  have p1 : (part 3 (S.hc h).toArray 1).run Tryz.prog w = .ok (.int .i64 (h.used : Int)) w := by
    simp [part, S.hc]
  have p2 : (part 104 (S.hc h).toArray 2).run Tryz.prog w = .ok (.agg (S.v8 h.sl)) w := by
    have e : (S.hc h).toArray.extract 2 34 = S.v8 h.sl := by
      apply Array.ext'
      rw [Array.toList_extract, S.v8_eq]
      show List.take (34 - 2) (List.drop 2 (S.hc h)) = S.v8l h.sl
      rw [show List.drop 2 (S.hc h) = S.v8l h.sl from rfl, List.take_of_length_le (by rw [S.v8l_length, hl]; omega)]
    have ag : (isAgg 104).run Tryz.prog w = .ok true w := by kernel_rfl
    have sz : (sizeOf 104).run Tryz.prog w = .ok 32 w := by kernel_rfl
    simp only [part, Sem.run_bind, ag, sz, Result.andThen_ok, if_true, Sem.run_pure]
    rw [e]
  have e0 : (Op.equalIn 9999 102 (.int .u64 (h.turn : Int)) (.int .u64 (h.turn : Int))).run Tryz.prog w = .ok true w := by
    rw [show (9999 : Nat) = 9998 + 1 from rfl, run_equalIn_int w 9998 102 .u64 .u64 _ _ Tryz.underlying102, beq_self_eq_true]
  have e1 : (Op.equalIn 9999 3 (.int .i64 (h.used : Int)) (.int .i64 (h.used : Int))).run Tryz.prog w = .ok true w := by
    rw [show (9999 : Nat) = 9998 + 1 from rfl, run_equalIn_int w 9998 3 .i64 .i64 _ _ Tryz.underlying3, beq_self_eq_true]
  have e2 : (Op.equalIn 9999 104 (.agg (S.v8 h.sl)) (.agg (S.v8 h.sl))).run Tryz.prog w = .ok true w := by
    have := run_equalIn_bytes (P := Tryz.prog) w 9997 104 5 32 Tryz.underlying104 Tryz.underlying5 (fun _ => by kernel_rfl) h.sl h.sl hl hl
    rw [beq_self_eq_true] at this
    exact this
  rw [eqf_step (by decide) p0 p0 e0, eqf_step (by decide) p1 p1 e1, eqf_step (by decide) p2 p2 e2]
  rfl
end Go.Proofs.YthjlhngjpbmieaaGreatDoor
namespace Go.Proofs.YthjlhngjpbmieaaGreatDoor
open Go.RowKit

/-- A call that does a plan on a disk, and answers something beside. -/
def Does2 (x : Value) (d : S.Dk) (l : List S.Act) (o : Ow) (w : World) (e : Ending) (w' : World) : Prop :=
  e = .returned (.tuple #[x, .int .i64 (S.why (d.plan l).2)]) ∧ ∃ o', DkIs w' o' (d.plan l).1 ∧ DkTo o w o' w'
theorem wpList_neq_when {w : World} {ops : Array Oper} {rest : List Oper} {o : Oper} {a : Act} {Q : Exit → Act → World → Prop} (hw : Region.wanted o (yielded ops a.tmps) = true) (t t2 : TypeId) (x y : Operand) (ho : o.op = .binOp .neq t x y t2) (xs ys : Array Value) (hx : a.eval x = .agg xs) (hy : a.eval y = .agg ys) (b : Bool)
    (hm : Tryz.prog.eqGuardType Tryz.prog.depth t = false) (hr : (Op.equalIn 10000 t (.agg xs) (.agg ys)).run Tryz.prog w = .ok b w) (h : wpList Tryz.prog ops Q rest (a.put o.dst (.bool (!b))) w) : wpList Tryz.prog ops Q (o :: rest) a w := by
  refine wpList_step fun _ hK => ?_
  rw [if_pos hw]
  unfold Oper.wp execOp
  simp only [ho, hx, hy, Sem.run_bind, run_eqGuard_agg w _ _ _ _ _ _ hm, run_neq_struct, hr, Result.andThen_ok]
  exact hK _ _ h
set_option maxHeartbeats 4000000 in
set_option maxRecDepth 10000 in
theorem spare_any (o : Ow) (d : S.Dk) (f c p t : Nat) (rs : List (List UInt8)) (w : World) (hd : Dsk w o d) (hpe : d.pend = []) (hg : S.Good d.safe f c p t rs) :
   Calls Tryz.prog 78 #[arv o.ptr f c, hdv (S.hdOf t rs)] w (Does2 (.int .i64 ((1 - p : Nat) : Int)) d (S.spareActs f c (1 - p) (d.safe.getD (f + (1 - p)) [])) o w) := by
  have hns := hd.dk.n
  have hfc := hg.few
  have h4 := hg.four
  have h8 := hg.most
  have hp1 := hg.place
  have HF : Hid (f + c ≤ d.safe.length) := hfc
  have HG := hide hg
  have HPE := hide hpe
  have HSEEN : Hid (d.seen = d.safe) := d.seen_flushed hpe
  have HOK := hide hg.hd
  have HLT : Hid (∀ k, o.has k → k < w.heap.size) := hd.dk.lt
  obtain ⟨h, hh⟩ : ∃ h, h = S.hdOf t rs := ⟨_, rfl⟩
  rw [← hh] at HOK ⊢
  have HH := hide hh
  obtain ⟨w0, hw0, HA, HHD, HB, HZ⟩ := box_ah w o.ptr f c h
  have HX0 : Hid (TxIs w0 o d w.heap.size (w.heap.size + 1) f c h) := ⟨hd.below HB.out, HA.out, HHD.out⟩
  obtain ⟨ga, hga⟩ : ∃ ga, ga = w.heap.size := ⟨_, rfl⟩
  obtain ⟨gh, hgh⟩ : ∃ gh, gh = w.heap.size + 1 := ⟨_, rfl⟩
  rw [← hgh, ← hga] at HX0
  have HGA : Hid (ga = w.heap.size ∧ gh = w.heap.size + 1) := ⟨hga, hgh⟩
  obtain ⟨C, hC⟩ : ∃ C, C = (S.hc h).toArray := ⟨_, rfl⟩
  rw [← hC] at hw0
  unfold arv hdv
  rw [← hC]
  clear hC hd hg hpe hfc HA HHD hh
  go_enter Tryz.func78, Tryz.ntmps78
  go_upto_region 1 with fail
  rw [← hw0, ← hgh, ← hga]
  clear hw0 hga hgh
  obtain ⟨a0, a1, a2⟩ := HX0.out.ar.cells
  go_wp2_with fail
  refine (pending_any o d w0 HX0.out.dk.dk).mono ?_
  rintro e w1 ⟨rfl, rfl⟩
  rw [HPE.out, List.length_nil]
  have q0 : ¬ ((0 : Int) < ((0 : Nat) : Int)) := by omega
  go_wp2_with fail
  refine (current_any o d f c w0 HX0.out.dk (by have := HF.out; omega) (by omega) _ _ rfl rfl).mono ?_
  rintro e w3 ⟨rfl, b3⟩
  rw [HSEEN.out, HG.out.cur, ← HH.out]
  have X3 := HX0.out.below b3
  have B3 := HB.out.trans (b3.mono HB.out.size)
  have hal := alloc73 w3
  have hd4 : HdAt (w3.alloc (.cells (S.hc S.Hd.none).toArray 106)) w3.heap.size S.Hd.none := heap_alloc_new _ _
  obtain ⟨w5, hst, hd5, c5⟩ := store73 (h := h) hd4 (S.zeros_length _) HOK.out.sl
  have b34 : Below w3.heap.size w3 (w3.alloc (.cells (S.hc S.Hd.none).toArray 106)) := (Below.refl _ _).alloc (Nat.le_refl _) _
  have b5 : Below w3.heap.size w3 w5 := b34.trans (c5.base b34.size (Nat.le_refl _))
  have HX5 := hide (X3.below b5)
  have HB5 : Hid (Below w.heap.size w w5) := B3.trans (b5.mono B3.size)
  obtain ⟨gk, hgk⟩ : ∃ gk, gk = w3.heap.size := ⟨_, rfl⟩
  rw [← hgk] at hd5 hal hst
  have l1 := hd5.load HOK.out.sl
  have l2 := HX5.out.hd.load HOK.out.sl
  have heq := equal_heads h HOK.out.sl w5
  obtain ⟨CV, hCV⟩ : ∃ X, X = (S.hc h).toArray := ⟨_, rfl⟩
  have hHV : hdv h = .agg CV := by rw [hCV]; rfl
  rw [hHV] at l1 l2 hst heq
  obtain ⟨HC0, hHC0⟩ : ∃ X, X = (S.hc S.Hd.none).toArray := ⟨_, rfl⟩
  rw [← hHC0] at hal hst
  have ecv : curv (some (h, p)) = .tuple #[.agg CV, .int .i64 (p : Int), .bool true] := by rw [← hHV]; rfl
  rw [ecv]
  clear a0 a1 a2
  obtain ⟨a0, a1, a2⟩ := HX5.out.ar.cells
  clear b3 X3 B3 hd4 hd5 c5 b34 b5 hgk hCV hHV hHC0 ecv q0 HX0
  go_wp2_with (first | (with_reducible refine at_op ⟨some 7, .alloc 106, 0, "area.go:97", #[], none⟩ ?_; refine wpList_alloc_known rfl 106 rfl (.pointer (some ⟨gk, 0, none⟩)) (w3.alloc (.cells HC0 106)) hal ?_) | (with_reducible refine at_op ⟨none, .store 106 (.tmp 7) (.tmp 24), 0, "area.go:97", #[⟨6, .data⟩, ⟨3, .data⟩, ⟨1, .chain⟩, ⟨0, .phase⟩, ⟨1, .phase⟩, ⟨2, .phase⟩, ⟨3, .phase⟩, ⟨4, .textOnly .lateStores⟩, ⟨5, .textOnly .lateStores⟩, ⟨6, .phase⟩], none⟩ ?_; refine wpList_store_as rfl 106 (.tmp 7) (.tmp 24) rfl (.pointer (some ⟨gk, 0, none⟩)) (.agg CV) rfl rfl w5 hst ?_) | (with_reducible refine at_op { dst := some 30, op := Op.load 106 (Operand.tmp 7), type := 106, pos := "area.go:98", after := #[⟨2, .guard⟩], guard := some (2, false) } ?_; refine wpList_load_when rfl 106 (.tmp 7) rfl (.pointer (some ⟨gk, 0, none⟩)) rfl (.agg CV) l1 ?_) | (with_reducible refine at_op { dst := some 31, op := Op.load 106 (Operand.tmp 3), type := 106, pos := "area.go:98", after := #[⟨2, .guard⟩], guard := some (2, false) } ?_; refine wpList_load_when rfl 106 (.tmp 3) rfl (.pointer (some ⟨gh, 0, none⟩)) rfl (.agg CV) l2 ?_) | (with_reducible refine at_op { dst := some 32, op := Op.binOp BinOp.neq 106 (Operand.tmp 30) (Operand.tmp 31) 106, type := 4, pos := "area.go:98", after := #[⟨3, .data⟩, ⟨4, .data⟩, ⟨2, .guard⟩], guard := some (2, false) } ?_; refine wpList_neq_when rfl 106 106 (.tmp 30) (.tmp 31) rfl CV CV rfl rfl true (by kernel_rfl) heq ?_))
  refine (other_any p w5 hp1).mono ?_
  rintro e w9 ⟨rfl, rfl⟩
  obtain ⟨Q, hQ⟩ : ∃ Q, Q = 1 - p := ⟨_, rfl⟩
  have hQ1 : Q ≤ 1 := by omega
  rw [← hQ]
  have HQ := hide hQ
  clear hal hst l1 l2 heq hQ
  go_wp2_with fail
  refine (blank_any o.ptr f c Q w5 (by have := HF.out; omega) (by omega) (by omega)).mono ?_
  rintro e w6 ⟨gb, rfl, g6, r6, b6⟩
  have HX6 := hide (HX5.out.below b6)
  have HB6 := hide (HB5.out.trans (b6.mono HB5.out.size))
  have R6 := hide r6
  have HGB : Hid (¬ o.has gb) := fun e => by have := HLT.out _ e; have := HB5.out.size; omega
  clear a0 a1 a2
  obtain ⟨a0, a1, a2⟩ := HX6.out.ar.cells
  clear g6 r6 b6 HX5 HB5
  go_wp2_with fail
  refine (read_ar o d f c Q w6 HX6.out.dk.dk (by have := HF.out; omega)).mono ?_
  rintro e w7 ⟨gs, rfl, g7, r7, b7⟩
  rw [HSEEN.out] at r7
  have hsl : (d.safe.getD (f + Q) []).length = 128 := HX6.out.dk.dk.ok.len _ (by have := HF.out; omega)
  have HX7 := hide (HX6.out.below b7)
  have HB7 := hide (HB6.out.trans (b7.mono HB6.out.size))
  have r6 := (b7.block gb (block_lt_of_row R6.out)).trans R6.out
  have R7 := hide r6
  obtain ⟨s, hs⟩ : ∃ s, s = d.safe.getD (f + Q) [] := ⟨_, rfl⟩
  rw [← hs] at r7 hsl
  have HS := hide hs
  have SB := hide (slice_row r6 (S.blank_length f c Q).symm (by rw [S.blank_length]; omega))
  have SS := hide (slice_row r7 hsl.symm (by rw [hsl]; omega))
  clear a0 a1 a2
  obtain ⟨a0, a1, a2⟩ := HX7.out.ar.cells
  clear g7 r7 b7 r6 HX6 HB6 R6 hs hsl
  go_wp2_with fail
  refine (equal_any _ _ _ _ w7 SS.out SB.out).mono ?_
  rintro e w9 ⟨rfl, rfl⟩
  by_cases hb : s = S.blank f c Q
  · rw [decide_eq_true hb]
    have EA : Hid (S.spareActs f c (1 - p) (d.safe.getD (f + (1 - p)) []) = []) := by
      show S.spareActs f c (1 - p) (d.safe.getD (f + (1 - p)) []) = []
      rw [← HQ.out, ← HS.out, S.spareActs, if_pos hb]
    clear hb
    go_wp2_with fail
    go_ret2
    rw [EA.out, ← HQ.out]
    exact ⟨rfl, o, HX7.out.dk.dk, (DkTo.refl o w).then HB7.out⟩
  · rw [decide_eq_false hb]
    have EA : Hid (S.spareActs f c (1 - p) (d.safe.getD (f + (1 - p)) []) = [.write (f + Q) (S.blank f c Q), .flush]) := by
      show S.spareActs f c (1 - p) (d.safe.getD (f + (1 - p)) []) = _
      rw [← HQ.out, ← HS.out, S.spareActs, if_neg hb]
    clear hb
    go_wp2_with fail
    refine (keep_ar o d f c Q (some ⟨gb, 0, none⟩) 128 (S.blank f c Q) w7 HX7.out.dk.dk (by have := HF.out; omega) (S.blank_length _ _ _) (by rw [HPE.out]; simp) (fun W hW => slice_row (hW.row R7.out (fun e => HGB.out (Or.inl e))) (S.blank_length f c Q).symm (by rw [S.blank_length]; omega))).mono ?_
    intro e w8 hdo
    obtain ⟨b, d1, o1, rfl, h1, h2, h3⟩ := hdo.start
    have HF8 : Hid (Does d [.write (f + Q) (S.blank f c Q), .flush] o w (.returned (.int .i64 (S.why b))) w8) := hdo.after HB7.out
    have HWB : Hid (S.why b = S.why (d.plan [.write (f + Q) (S.blank f c Q), .flush]).2) := by rw [h1]; rfl
    clear h1 h2 h3 hdo
    generalize S.why b = y at HF8 HWB ⊢
    go_wp2_with fail
    go_ret2
    unfold Does2
    rw [EA.out, ← HQ.out]
    obtain ⟨_, o', h5, h6⟩ := HF8.out
    exact ⟨by rw [← HWB.out]; rfl, o', h5, h6⟩
end Go.Proofs.YthjlhngjpbmieaaGreatDoor
