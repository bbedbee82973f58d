/- The statement's maps: made, asked, put into, copied; and what a store must be. -/
import Derived.Test.YthjlhngjpbmieaaGreatDoorXb
import Derived.Test.YthjlhngjpbmieaaGreatDoorQn
import Derived.Maps.OwnOps
import Derived.Maps.Ext
import Derived.Maps.RangeWalk
import Derived.WalkKit
namespace Go.Proofs.YthjlhngjpbmieaaGreatDoor
open Go.RowKit
open Go.Maps

theorem law3 : Keyed Tryz.prog 3 := int_keyed Tryz.underlying3
set_option maxRecDepth 100000 in
theorem copied_own (b n : Nat) (D0 : DataW Unit) (w : World) (hown : w.ownsMap Tryz.prog 3 (plainElem Tryz.prog 5) b n D0) (hmax : Maps.size D0 ≤ maxLen) :
    Calls Tryz.prog 16 #[.map (some b)] w fun e w' => e = .returned (.map (some w.heap.size)) ∧ w'.ownsMap Tryz.prog 3 (plainElem Tryz.prog 5) w.heap.size (Maps.size D0) D0 ∧ Below w.heap.size w w' := by
  have hmm := @run_makeMap Tryz.prog
  have hbl := hown.lt
  have e1 : (w.alloc (.map #[] 0)).heap.size = w.heap.size + 1 := by simp
  go_enter Tryz.func16, Tryz.ntmps16
  go_wp2_with (first
    | (at_range; refine wpList_range_own _ rfl _ 42 rfl 3 5 law3 Tryz.underlying42 _ b n _ rfl (hown.alloc _) ?_; intro w0 hrg0 hg0 hs0)
    | go_in)
  go_frame
  rw [e1] at hrg0 hs0 ⊢
  go_loopw [9] (fun _ wr => ∃ (left : Lit → Bool) (cnt : Nat) (Dout : DataW Unit), wr.ranges Tryz.prog 3 (plainElem Tryz.prog 5) b (w.heap.size + 1) n D0 left cnt ∧ cnt ≤ Maps.size D0 ∧
      wr.ownsMap Tryz.prog 3 (plainElem Tryz.prog 5) w.heap.size (Maps.size D0 - cnt) Dout ∧ Agree Dout D0 left ∧ Below w.heap.size w wr)
    (fun _ wr => wr.rangeLeft b (w.heap.size + 1))
  case atStart =>
    exact ⟨_, _, .map [], hrg0, Nat.le_refl _, ((World.ownsMap_made _ _ _ _).kept hg0 (by simp)).mono (Nat.zero_le _), agree_start D0, ((Below.refl _ _).alloc (Nat.le_refl _) _).grown hg0 (by simp) (fun j hj => by cases hj)⟩
  case round =>
    obtain ⟨left, cnt, Dout, hrg, hcs, hout, hA, hnx⟩ := hrel
    go_wp2_with (first
      | (at_next; refine wpList_next_ranges_ii _ rfl _ rfl 3 5 .i64 .u8 law3 Tryz.underlying3 Tryz.underlying5 b (w.heap.size + 1) n _ _ _ rfl hrg ?_ ?_)
      | go_in)
    · intro hc0 hl0
      go_wp2
      go_ret
      subst hc0
      have e := agree_end hA hl0 (hout.canon law3) (hown.canon law3)
      subst e
      exact ⟨rfl, by simpa using hout, hnx⟩
    · intro x c w1 cnt1 hwx hwc hlx hat hrg1 hlt hg1 hs1 hen
      have hout1 := hout.kept hg1 (by simp)
      go_wp2_with (first
        | (at_mapUpdate; refine wpList_mapUpdate_own _ rfl _ _ _ 42 rfl 3 5 law3 Tryz.underlying42 _ w.heap.size _ _ rfl hout1 (by omega) _ _ _ rfl rfl (keyOf_int_mk Tryz.underlying3 hwx) _ [] (plainElem_int Tryz.underlying5 hwc) ?_; intro w2 hout2 hg2; go_frame)
        | go_in)
      have hrg2 := hrg1.kept hg2 (fun e => by have := Option.some.inj e; omega) (fun e => by have := Option.some.inj e; omega)
      go_roundw
      case rel =>
        exact ⟨_, cnt1, _, hrg2, by omega, hout2.mono (by omega), agree_step hA hout.isMap trivial hat,
          (hnx.grown hg1 hnx.size (fun j hj => by cases hj; exact Nat.le_succ _)).grown hg2 (by have := hnx.size; omega) (fun j hj => by cases hj; exact Nat.le_refl _)⟩
      case measure => rw [hrg2.left_eq, hrg.left_eq]; exact hlt
/-- A map of the statement's own: at most n entries; f tells what it answers. -/
structure MpIs (w : World) (b n : Nat) (f : Nat → UInt8) : Prop where
  ex : ∃ D : DataW Unit, w.ownsMap Tryz.prog 3 (plainElem Tryz.prog 5) b n D ∧ ∀ k : Nat, k < 12 → D.atKey (.int .i64 (k : Int)) (.lit (.int .u8 0)) = .lit (.int .u8 ((f k).toNat : Int))
theorem owns_size {w : World} {b n : Nat} {D : DataW Unit} (h : w.ownsMap Tryz.prog 3 (plainElem Tryz.prog 5) b n D) : Maps.size D ≤ n := by
  obtain ⟨es, clock, _, _, h3, rfl⟩ := h
  rw [Maps.size_eq, length_sorted]
  simpa using h3
theorem MpIs.lt {w : World} {b n : Nat} {f : Nat → UInt8} (h : MpIs w b n f) : b < w.heap.size := by obtain ⟨D, h1, _⟩ := h.ex; exact h1.lt
theorem MpIs.kept {w W : World} {b n : Nat} {f : Nat → UInt8} (h : MpIs w b n f) (hb : W.heap[b]? = w.heap[b]?) : MpIs W b n f := by
  obtain ⟨D, ⟨es, clock, h1, h2⟩, h3⟩ := h.ex
  exact ⟨D, ⟨es, clock, hb.trans h1, h2⟩, h3⟩
theorem MpIs.below {w W : World} {b n : Nat} {f : Nat → UInt8} (h : MpIs w b n f) (hb : Below w.heap.size w W) : MpIs W b n f := h.kept (hb.block b h.lt)
theorem MpIs.chg {q : Nat → Prop} {w W : World} {b n : Nat} {f : Nat → UInt8} (h : MpIs w b n f) (hc : Chg q w W) (hq : ¬ q b) : MpIs W b n f := h.kept (hc.block b h.lt hq)
theorem MpIs.made (w : World) : MpIs (w.alloc (.map #[] 0)) w.heap.size 0 (fun _ => 0) := ⟨.map [], World.ownsMap_made _ _ _ _, fun _ _ => rfl⟩
theorem wf_small {k : Nat} (h : k < 12) : (Lit.int .i64 (k : Int)).wf = true := by
  simp [Lit.wf, IntKind.min, IntKind.max, IntKind.signed, IntKind.bits]
  omega
theorem wf_byte (c : UInt8) : (Lit.int .u8 (c.toNat : Int)).wf = true := by
  have := c.toNat_lt
  simp [Lit.wf, IntKind.min, IntKind.max, IntKind.signed, IntKind.bits]
  omega
theorem MpIs.look {w : World} {b n : Nat} {f : Nat → UInt8} (h : MpIs w b n f) (k : Nat) (hk : k < 12) : (Instr.lookup 42 (.map (some b)) (.int .i64 (k : Int)) false).run Tryz.prog w = .ok (.int .u8 ((f k).toNat : Int)) w := by
  obtain ⟨D, h1, h2⟩ := h.ex
  have hz : (zeroValue 5).run Tryz.prog w = .ok (.int .u8 0) w := by kernel_rfl
  obtain ⟨c, hr, ha, _⟩ := h1.lookup_int law3 Tryz.underlying42 Tryz.underlying5 hz (keyOf_int_mk Tryz.underlying3 (wf_small hk))
  rw [h2 k hk] at ha
  simp at ha
  rw [hr, ← ha]
theorem MpIs.put {w : World} {b n : Nat} {f : Nat → UInt8} (h : MpIs w b n f) (hn : n ≤ 100000) (k : Nat) (hk : k < 12) (c : UInt8) : ∃ w', (Instr.mapUpdate 42 (.map (some b)) (.int .i64 (k : Int)) (.int .u8 (c.toNat : Int))).run Tryz.prog w = .ok () w' ∧ MpIs w' b (n + 1) (fun m => if m = k then c else f m) ∧ w.grownBy w' (some b) := by
  obtain ⟨D, h1, h2⟩ := h.ex
  obtain ⟨w', hr, ho, hg⟩ := h1.update law3 Tryz.underlying42 (by simp [maxLen]; omega) (keyOf_int_mk Tryz.underlying3 (wf_small hk)) (plainElem_int Tryz.underlying5 (wf_byte c))
  refine ⟨w', hr, ⟨_, ho, fun m hm => ?_⟩, hg⟩
  by_cases e : m = k
  · subst e
    rw [if_pos rfl]
    exact atKey_put_same (k := .int .i64 (m : Int)) h1.isMap trivial _ _
  · rw [if_neg e, atKey_put_other (fun e' => e (by simp at e'; omega))]
    exact h2 m hm
theorem copied_any (b n : Nat) (f : Nat → UInt8) (w : World) (h : MpIs w b n f) (hn : n ≤ 100000) : Calls Tryz.prog 16 #[.map (some b)] w fun e w' => ∃ b', e = .returned (.map (some b')) ∧ w.heap.size ≤ b' ∧ MpIs w' b' n f ∧ Below w.heap.size w w' := by
  obtain ⟨D, h1, h2⟩ := h.ex
  have hs := owns_size h1
  refine (copied_own b n D w h1 (by simp [maxLen]; omega)).mono ?_
  rintro e w' ⟨rfl, h3, h4⟩
  exact ⟨w.heap.size, rfl, Nat.le_refl _, ⟨D, h3.mono hs, h2⟩, h4⟩
end Go.Proofs.YthjlhngjpbmieaaGreatDoor
namespace Go.Proofs.YthjlhngjpbmieaaGreatDoor
open Go.RowKit

namespace S
/-- The page that a map's answer tells. -/
def cellPg (c : UInt8) : List UInt8 := if c = 0 then zeros 1024 else pgOf c
theorem cellPg_length (c : UInt8) : (cellPg c).length = 1024 := by
  unfold cellPg
  split
  · exact zeros_length _
  · exact pgOf_length c
/-- Are the first twelve pages as the map tells? -/
def isSo (pg : Nat → List UInt8) (f : Nat → UInt8) : Bool := (List.range 12).all fun m => pg m == cellPg (f m)
theorem isSo_iff (pg : Nat → List UInt8) (f : Nat → UInt8) : isSo pg f = true ↔ ∀ m, m < 12 → pg m = cellPg (f m) := by
  unfold isSo
  rw [List.all_eq_true]
  exact ⟨fun h m hm => beq_iff_eq.1 (h m (List.mem_range.2 hm)), fun h m hm => beq_iff_eq.2 (h m (List.mem_range.1 hm))⟩
theorem isSo_yes {pg : Nat → List UInt8} {f : Nat → UInt8} (h : ∀ m, m < 12 → pg m = cellPg (f m)) : isSo pg f = true := (isSo_iff pg f).2 h
theorem isSo_no {pg : Nat → List UInt8} {f : Nat → UInt8} (h : ¬ ∀ m, m < 12 → pg m = cellPg (f m)) : isSo pg f = false := by
  cases e : isSo pg f with
  | false => rfl
  | true => exact absurd ((isSo_iff pg f).1 e) h
end S
set_option maxHeartbeats 4000000 in
set_option maxRecDepth 10000 in
theorem is_any (w0 w : World) (o : Ow) (d : S.Dk) (p t gs b n : Nat) (ns : List Nat) (pg : Nat → List UInt8) (f : Nat → UInt8) (h : Pw w0 w o d p t ns pg) (hs : StAt w gs o) (hm : MpIs w b n f) :
   Calls Tryz.prog 20 #[.pointer (some ⟨gs, 0, none⟩), .map (some b)] w fun e w' => e = .returned (.bool (S.isSo pg f)) ∧ Pw w0 w' o d p t ns pg ∧ StAt w' gs o ∧ MpIs w' b n f ∧ Below w.heap.size w w' := by
  have P0 := hide h
  have S0 := hide hs
  have M0 := hide hm
  clear h hs hm
  go_enter Tryz.func20, Tryz.ntmps20
  go_wp2_with fail
  go_loopw [5] (fun i wr => ∃ k : Nat, k ≤ 12 ∧ i = .int .i64 (k : Int) ∧ Pw w0 wr o d p t ns pg ∧ StAt wr gs o ∧ MpIs wr b n f ∧ Below w.heap.size w wr ∧ ∀ m, m < k → pg m = S.cellPg (f m)) (fun i _ => 12 - (intOf i).toNat)
  case atStart => exact ⟨0, by omega, rfl, P0.out, S0.out, M0.out, Below.refl _ _, fun m hm => absurd hm (Nat.not_lt_zero _)⟩
  case round =>
  obtain ⟨k, hk, rfl, hp, hst, hmp, hb, hal⟩ := hrel
  have P1 := hide hp
  have S1 := hide hst
  have M1 := hide hmp
  have B1 := hide hb
  have AL := hide hal
  clear hp hst hmp hb hal P0 S0 M0
  by_cases hlt : k < 12
  · have q1 : (k : Int) < 12 := by omega
    have q2 : IntKind.i64.wrap ((k : Int) + 1) = (k : Int) + 1 := by rw [IntKind.wrap_i64]; omega
    go_wp2_with fail
    refine (pread_all w0 wr o d p t gs k ns pg P1.out S1.out (by omega)).mono ?_
    rintro e w2 ⟨gx, rfl, hgx, hrx, hp2, hst2, b2⟩
    obtain ⟨X, hX⟩ : ∃ X, X = pg k := ⟨_, rfl⟩
    rw [← hX] at hrx
    have HX := hide hX
    have XL : Hid (X.length = 1024) := by rw [hX]; exact hp2.has.size k (by omega)
    have SX2 : Hid (SliceAt w2 (.slice (some ⟨gx, 0, none⟩) 1024 1024) X) := by
      have h1 := hrx.sliceAt (by rw [XL.out]; omega)
      rw [XL.out] at h1
      exact h1
    have hmk : ∀ w : World, (Instr.makeSlice 31 (.int .i64 1024) (.int .i64 1024)).run Tryz.prog w = .ok (.slice (some ⟨w.heap.size, 0, none⟩) 1024 1024) (w.alloc (.cells (S.v8 (S.zeros 1024)) 5)) := fun w => make_bytes_big 1024 (by omega) w
    obtain ⟨w3, hw3⟩ : ∃ w3, w3 = w2.alloc (.cells (S.v8 (S.zeros 1024)) 5) := ⟨_, rfl⟩
    have b3 : Below w2.heap.size w2 w3 := by rw [hw3]; exact (Below.refl _ _).alloc (Nat.le_refl _) _
    have R3 : Hid (w3.heap[w2.heap.size]? = some (.cells (S.v8 (S.zeros 1024)) 5 (0, 0))) := by rw [hw3]; exact heap_alloc_new _ _
    have P3 := hide (hp2.then b3)
    have S3 : Hid (StAt w3 gs o) := (b3.block gs (block_lt_of_row hst2)).trans hst2
    have M3 := hide ((M1.out.below b2).below b3)
    have B3 : Hid (Below w.heap.size w w3) := (B1.out.trans (b2.mono B1.out.size)).trans (b3.mono (Nat.le_trans B1.out.size b2.size))
    have SX3 := hide (SX2.out.below b3 (Nat.le_refl _))
    have hlk := M3.out.look k hlt
    obtain ⟨c, hc⟩ : ∃ c, c = f k := ⟨_, rfl⟩
    rw [← hc] at hlk
    have HC := hide hc
    rw [hw3] at hlk
    have HW3 := hide hw3
    clear hgx hrx hp2 hst2 b2 b3 hw3 hX hc P1 S1 M1 B1 SX2
    by_cases hc0 : c = 0
    · subst hc0
      have q3 : ¬ ((0 : Int) < ((0 : UInt8).toNat : Int)) := by decide
      go_upto_region 8 with fail
      rw [← HW3.out]
      clear hlk hmk
      obtain ⟨Y, hY⟩ : ∃ Y, Y = S.zeros 1024 := ⟨_, rfl⟩
      have HY : Hid (Y = S.cellPg (f k)) := by rw [hY, ← HC.out]; rfl
      have YL : Y.length = 1024 := by rw [hY]; exact S.zeros_length _
      have SX := SX3
      have SY : Hid (SliceAt w3 (.slice (some ⟨w2.heap.size, 0, none⟩) 1024 1024) Y) := slice_row (by rw [hY]; exact R3.out) YL.symm (by rw [YL]; omega)
      have PP := P3
      have SS := S3
      have MM := M3
      have BB := B3
      clear hY YL SX3 P3 S3 M3 B3 R3 HW3 q3
      have cx := conv_slice SX.out
      have cy := conv_slice SY.out
      by_cases hxy : X = Y
      · have e1 : (X == Y) = true := beq_iff_eq.2 hxy
        have AG : Hid (∀ m, m < k + 1 → pg m = S.cellPg (f m)) := fun m hm => by
          by_cases e : m < k
          · exact AL.out m e
          · obtain rfl : m = k := by omega
            rw [HX.out, HY.out] at hxy
            exact hxy
        clear hxy
        go_wp2_with fail
        go_roundw
        case rel => exact ⟨k + 1, by omega, by go_num, PP.out, SS.out, MM.out, BB.out, AG.out⟩
        case measure => simp [intOf]; omega
      · have e1 : (X == Y) = false := beq_false_of_ne hxy
        have NO : Hid (S.isSo pg f = false) := S.isSo_no (fun h => hxy (by rw [HX.out, HY.out]; exact h k hlt))
        clear hxy
        go_wp2_with fail
        go_ret
        exact ⟨by rw [NO.out]; rfl, PP.out, SS.out, MM.out, BB.out⟩
    · have q3 : (0 : Int) < (c.toNat : Int) := by
        have : c.toNat ≠ 0 := fun e => hc0 (by apply UInt8.toNat_inj.1; rw [e]; rfl)
        omega
      go_wp2_with fail
      rw [← HW3.out]
      refine (page_any c w3).mono ?_
      rintro e w4 ⟨g4, rfl, hg4, hr4, b4⟩
      clear hlk hmk
      obtain ⟨Y, hY⟩ : ∃ Y, Y = S.pgOf c := ⟨_, rfl⟩
      rw [← hY] at hr4
      have HY : Hid (Y = S.cellPg (f k)) := by rw [hY, ← HC.out]; unfold S.cellPg; rw [if_neg hc0]; exact rfl
      have YL : Y.length = 1024 := by rw [hY]; exact S.pgOf_length c
      have SX := hide (SX3.out.below b4 (Nat.le_refl _))
      have SY : Hid (SliceAt w4 (.slice (some ⟨g4, 0, none⟩) 1024 1024) Y) := slice_row hr4 YL.symm (by rw [YL]; omega)
      have PP := hide (P3.out.then b4)
      have SS : Hid (StAt w4 gs o) := (b4.block gs (block_lt_of_row S3.out)).trans S3.out
      have MM := hide (M3.out.below b4)
      have BB := hide (B3.out.trans (b4.mono B3.out.size))
      clear hY YL SX3 P3 S3 M3 B3 R3 HW3 q3 hg4 hr4 b4 hc0
      have cx := conv_slice SX.out
      have cy := conv_slice SY.out
      by_cases hxy : X = Y
      · have e1 : (X == Y) = true := beq_iff_eq.2 hxy
        have AG : Hid (∀ m, m < k + 1 → pg m = S.cellPg (f m)) := fun m hm => by
          by_cases e : m < k
          · exact AL.out m e
          · obtain rfl : m = k := by omega
            rw [HX.out, HY.out] at hxy
            exact hxy
        clear hxy
        go_wp2_with fail
        go_roundw
        case rel => exact ⟨k + 1, by omega, by go_num, PP.out, SS.out, MM.out, BB.out, AG.out⟩
        case measure => simp [intOf]; omega
      · have e1 : (X == Y) = false := beq_false_of_ne hxy
        have NO : Hid (S.isSo pg f = false) := S.isSo_no (fun h => hxy (by rw [HX.out, HY.out]; exact h k hlt))
        clear hxy
        go_wp2_with fail
        go_ret
        exact ⟨by rw [NO.out]; rfl, PP.out, SS.out, MM.out, BB.out⟩
  · obtain rfl : k = 12 := by omega
    have q1 : ¬ ((12 : Int) < 12) := by omega
    go_wp2_with fail
    go_ret
    exact ⟨by rw [S.isSo_yes AL.out]; rfl, P1.out, S1.out, M1.out, B1.out⟩
end Go.Proofs.YthjlhngjpbmieaaGreatDoor
