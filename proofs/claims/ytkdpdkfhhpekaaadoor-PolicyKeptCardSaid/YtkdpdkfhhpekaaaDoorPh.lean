/- The statements' own test of a refusal. -/
import Derived.Test.YtkdpdkfhhpekaaaDoorPg
import Derived.LaidEqlPtr
namespace Go.Proofs.YtkdpdkfhhpekaaaDoor
open Go.RowKit

open Go.Extern.Stop Go.Stop Go.Extern
/-- The variable errors.errorType. -/
def ErrT (w : World) : Prop := w.cell? ⟨0, 0, none⟩ = some (.iface 84 (.agg #[.pointer (some ⟨4, 26, none⟩)]))
theorem ErrT.pos {w : World} (h : ErrT w) : 0 < w.heap.size := by
  rcases Nat.eq_zero_or_pos w.heap.size with h0 | h0
  · simp [ErrT, World.cell?, h0] at h
  · exact h0
theorem ErrT.below {w w' : World} (h : ErrT w) (hb : Below w.heap.size w w') : ErrT w' := (hb.cell (p := ⟨0, 0, none⟩) h.pos).trans h
theorem as_any (e : Addr) (g : Nat) (old : Value) (w : World) (hg : ErrT w) (hr : w.heap[g]? = some (.cells #[old] 41 (0, 0))) :
    Calls Tryd.prog 24 #[.iface 41 (.pointer (some e)), .iface 49 (.pointer (some ⟨g, 0, none⟩))] w fun ev w' => ev = .returned (.bool true) ∧ w'.cell? ⟨g, 0, none⟩ = some (.pointer (some e)) ∧ Chg (fun k => k = g) w w' := by
  refine (as_hit e ⟨g, 0, none⟩ old w hg (cells1 hr) (frozen_of_row w g 0 _ 41 hr)).mono ?_
  rintro ev w' ⟨rfl, rfl⟩
  refine ⟨rfl, ?_, ((((Chg.refl _ w).alloc _).alloc _).alloc _).alloc _ |>.setCell g 0 _ (fun _ => rfl)⟩
  have hlt := block_lt_of_row hr
  have h4 : ∀ (o1 o2 o3 o4 : Obj), ((((w.alloc o1).alloc o2).alloc o3).alloc o4).heap[g]? = some (.cells #[old] 41 (0, 0)) := fun o1 o2 o3 o4 => by
    rw [heap_alloc_old _ _ (by simp; omega), heap_alloc_old _ _ (by simp; omega), heap_alloc_old _ _ (by simp; omega), heap_alloc_old _ _ hlt]
    exact hr
  have key : ∀ (W : World) (v : Value), W.heap[g]? = some (.cells #[old] 41 (0, 0)) → (W.setCell ⟨g, 0, none⟩ v).cell? ⟨g, 0, none⟩ = some v := fun W v hW => by
    have h5 := heap_setCell_same W g 0 _ 41 v hW
    exact cells1 (by simpa using h5)
  exact key _ _ (h4 _ _ _ _)
theorem eql_ptr (a : Addr) (w : World) : (binOp .eql 41 (.pointer (some a)) (.pointer (some a))).run Tryd.prog w = .ok (.bool true) w := by
  obtain ⟨j, hj⟩ : ∃ j, Tryd.prog.info? 44 = some j := by
    have h : (Tryd.prog.info? 44).isSome = true := by kernel_rfl
    exact Option.isSome_iff_exists.1 h
  exact run_eql_ptr_same w a Tryd.underlying41 hj
theorem text_some (s : ByteArray) (h : 0 < s.size) : s.toList.isEmpty = false := by
  rw [ByteArray.toList_eq]
  rcases s with ⟨⟨l⟩⟩
  cases l with
  | nil => exact absurd h (by decide)
  | cons x t => rfl
theorem assert_ref (p : Option Addr) (w : World) : (Instr.typeAssert (.iface 41 (.pointer p)) 26 41 true).run Tryd.prog w = .ok (.tuple #[.pointer p, .bool true]) w := by kernel_rfl
set_option maxHeartbeats 1600000 in
set_option maxRecDepth 100000 in
theorem denied_any (q : Nat) (o r : Int) (w : World) (h : RefAt w q o r) (hp : PowAt w) (he : ErrT w) (ho : inWord o) (hr : inWord r) :
   Calls Tryd.prog 15 #[.iface 41 (.pointer (some ⟨q, 0, none⟩)), .int .i64 o, .int .i64 r] w fun e w' => e = .returned (.bool true) ∧ Below w.heap.size w w' := by
  have HR := hide h
  have HP := hide hp
  have HE := hide he
  have hq := block_lt_of_row h
  have e2 := assert_ref
  have bb : (o == o) = true := beq_self_eq_true o
  have bc : (r == r) = true := beq_self_eq_true r
  clear h hp he
  go_enter Tryd.func15, Tryd.ntmps15
  go_upto_region 3 with fail
  generalize hW : w.alloc _ = W
  have B1 : Below w.heap.size w W := by rw [← hW]; exact (Below.refl _ _).alloc (Nat.le_refl _) _
  have R1 : W.heap[w.heap.size]? = some (.cells #[.pointer none] 41 (0, 0)) := by rw [← hW]; exact heap_alloc_new _ _
  have HB1 := hide B1
  have HR1 := hide R1
  have HQ := hide (HR.out.below B1)
  clear hW B1 R1
  obtain ⟨c0, c1, c2⟩ := cells3 HQ.out
  go_wp2_with fail
  refine (rerror_any q o r W HQ.out (HP.out.below HB1.out) ho hr).mono ?_
  rintro e w2 ⟨s, rfl, hs, hb2⟩
  have tx := text_some s hs
  have HQ2 := hide (HQ.out.below hb2)
  have HB2 := hide (HB1.out.trans (hb2.mono HB1.out.size))
  have HR2 := hide ((hb2.block _ (block_lt_of_row HR1.out)).trans HR1.out)
  clear hb2 HB1 HR1 HQ c0 c1 c2
  go_wp2_with fail
  refine (Is_any q o r 21 w2 HQ2.out).mono ?_
  rintro e w3 ⟨rfl, rfl⟩
  rw [show ((21 : Int) == 21) = true from rfl]
  go_wp2_with fail
  refine (Is_any q o r 20 w2 HQ2.out).mono ?_
  rintro e w3 ⟨rfl, rfl⟩
  rw [show ((21 : Int) == 20) = false from rfl]
  go_wp2_with fail
  refine (as_any ⟨q, 0, none⟩ w.heap.size (.pointer none) w2 (HE.out.below HB2.out) HR2.out).mono ?_
  rintro e w3 ⟨rfl, hc, hchg⟩
  have HB3 := hide (HB2.out.trans (hchg.below w.heap.size HB2.out.size (fun k hk e => by omega)))
  clear hchg
  have ep := eql_ptr ⟨q, 0, none⟩ w3
  go_wp2_with fail
  go_ret
  exact ⟨rfl, HB3.out⟩
set_option maxHeartbeats 1600000 in
theorem known_any (w : World) (hp : PowAt w) (he : ErrT w) : Calls Tryd.prog 13 #[] w fun e w' => e = .returned (.bool true) ∧ Below w.heap.size w w' := by
  have HP := hide hp
  have HE := hide he
  clear hp he
  go_enter Tryd.func13, Tryd.ntmps13
  go_wp2_with fail
  refine (may_any 2 1 w).mono ?_
  rintro e w1 ⟨rfl, hb1⟩
  rw [show S.may 2 1 = true by decide]
  have B1 := hide hb1
  clear hb1
  go_wp2_with fail
  refine (may_any 1 1 w1).mono ?_
  rintro e w2 ⟨rfl, hb2⟩
  rw [show S.may 1 1 = false by decide]
  have B2 := hide (B1.out.trans (hb2.mono B1.out.size))
  clear hb2 B1
  go_wp2_with fail
  refine (decide_any 2 1 1 2 w2).mono ?_
  rintro e w3 ⟨hd, hb3⟩
  rw [show S.decide_ 2 1 1 2 = false by decide] at hd
  obtain ⟨h, -⟩ | ⟨-, q, rfl, hr⟩ := hd
  · cases h
  have B3 := hide (B2.out.trans (hb3.mono B2.out.size))
  have HR := hide hr
  clear hb3 B2 hr
  go_wp2_with fail
  refine (denied_any q 1 2 w3 HR.out (HP.out.below B3.out) (HE.out.below B3.out) (by unfold inWord; omega) (by unfold inWord; omega)).mono ?_
  rintro e w4 ⟨rfl, hb4⟩
  have B4 := hide (B3.out.trans (hb4.mono B3.out.size))
  clear hb4 B3
  go_wp2_with fail
  go_ret
  exact ⟨rfl, B4.out⟩
end Go.Proofs.YtkdpdkfhhpekaaaDoor
