/- A Reader: its state, refused, refuse, take: what they answer is the plain function's; only the reader's own block changes. -/
import Derived.Test.YtdhaeepaemneaaaDoorWrb
namespace Go.Proofs.YtdhaeepaemneaaaDoor
open Go.RowKit
namespace S
/-- A reader: its text, where it stands, and the first refusal (why 0: none). -/
structure Rd where
  bs : List UInt8
  pl : Nat
  ba : Int
  why : Int
def Rd.refuse (r : Rd) (a y : Int) : Rd := if r.why = 0 then { r with ba := a, why := y } else r
def Rd.take (r : Rd) (n : Nat) : Rd × List UInt8 :=
  if r.why = 0 then (if r.pl + n ≤ r.bs.length then ({ r with pl := r.pl + n }, (r.bs.drop r.pl).take n) else ({ r with ba := r.bs.length, why := 10 }, [])) else (r, [])
theorem Rd.take_bs (r : Rd) (n : Nat) : (r.take n).1.bs = r.bs := by unfold Rd.take; split; (split <;> rfl); rfl
theorem Rd.refuse_bs (r : Rd) (a y : Int) : (r.refuse a y).bs = r.bs := by unfold Rd.refuse; split <;> rfl
end S
/-- The reader in block g, its text in block t. -/
structure RdIs (w : World) (g t : Nat) (r : S.Rd) : Prop where
  row : w.heap[g]? = some (.cells #[.slice (some ⟨t, 0, none⟩) r.bs.length r.bs.length, .int .i64 (r.pl : Int), .int .i64 r.ba, .int .i64 r.why] 76 (0, 0))
  text : w.heap[t]? = some (.cells (S.v8 r.bs) 5 (0, 0))
  sep : t ≠ g
  pl : r.pl ≤ r.bs.length
  len : r.bs.length ≤ 140737488355328
theorem RdIs.chg {p : Nat → Prop} {w W : World} {g t : Nat} {r : S.Rd} (h : RdIs w g t r) (hc : Chg p w W) (hg : ¬ p g) (ht : ¬ p t) : RdIs W g t r :=
  ⟨hc.row h.row hg, hc.row h.text ht, h.sep, h.pl, h.len⟩
theorem RdIs.below {w W : World} {g t : Nat} {r : S.Rd} (h : RdIs w g t r) (hb : Below w.heap.size w W) : RdIs W g t r := h.chg (p := fun _ => False) (Chg.ofBelow' hb) (fun e => e) (fun e => e)
theorem RdIs.lt {w : World} {g t : Nat} {r : S.Rd} (h : RdIs w g t r) : g < w.heap.size := block_lt_of_row h.row
theorem RdIs.tlt {w : World} {g t : Nat} {r : S.Rd} (h : RdIs w g t r) : t < w.heap.size := block_lt_of_row h.text
theorem cells4 {w : World} {g : Nat} {a b c d : Value} {t : TypeId} (h : w.heap[g]? = some (.cells #[a, b, c, d] t (0, 0))) :
    w.cell? ⟨g, 0, none⟩ = some a ∧ w.cell? ⟨g, 1, none⟩ = some b ∧ w.cell? ⟨g, 2, none⟩ = some c ∧ w.cell? ⟨g, 3, none⟩ = some d :=
  ⟨by rw [cell_of_row w g 0 _ _ _ h]; rfl, by rw [cell_of_row w g 1 _ _ _ h]; rfl, by rw [cell_of_row w g 2 _ _ _ h]; rfl, by rw [cell_of_row w g 3 _ _ _ h]; rfl⟩
theorem newReader_any (v : Value) (bs : List UInt8) (w : World) (hv : SliceAt w v bs) (hb : bs.length ≤ 140737488355328) :
   Calls Tryd.prog 9 #[v] w fun e w' => ∃ g t, e = .returned (.pointer (some ⟨g, 0, none⟩)) ∧ w.heap.size ≤ g ∧ w.heap.size ≤ t ∧ RdIs w' g t ⟨bs, 0, 0, 0⟩ ∧ Below w.heap.size w w' := by
  have HV := hide hv
  clear hv
  go_enter Tryd.func9, Tryd.ntmps9
  go_wp2_with fail
  refine (copyOf_any _ bs w HV.out).mono ?_
  rintro e w1 ⟨rfl, h1, h2⟩
  have H1 := hide h1
  have H2 := hide h2
  have hlt := block_lt_of_row h1
  clear h1 h2
  go_wp2_with fail
  go_ret
  exact ⟨w1.heap.size, w.heap.size, rfl, H2.out.size, Nat.le_refl _, ⟨heap_alloc_new _ _, (heap_alloc_old _ _ hlt).trans H1.out, by omega, Nat.zero_le _, hb⟩, H2.out.alloc H2.out.size _⟩
theorem rrefused_any (g t : Nat) (r : S.Rd) (w : World) (hr : RdIs w g t r) :
   Calls Tryd.prog 43 #[.pointer (some ⟨g, 0, none⟩)] w fun e w' => e = .returned (.bool (r.why != 0)) ∧ w = w' := by
  obtain ⟨c0, c1, c2, c3⟩ := cells4 hr.row
  clear hr
  go_enter Tryd.func43, Tryd.ntmps43
  go_wp2
  go_ret
  exact ⟨rfl, rfl⟩
theorem rrefuse_any (g t : Nat) (r : S.Rd) (a y : Int) (w : World) (hr : RdIs w g t r) :
   Calls Tryd.prog 39 #[.pointer (some ⟨g, 0, none⟩), .int .i64 a, .int .i64 y] w fun e w' => e = .returned (.tuple #[]) ∧ RdIs w' g t (r.refuse a y) ∧ Chg (fun k => k = g) w w' := by
  have HR := hide hr
  obtain ⟨c0, c1, c2, c3⟩ := cells4 hr.row
  have f2 := frozen_of_row _ _ 2 _ _ hr.row
  have f3 := frozen_of_row _ _ 3 _ _ hr.row
  clear hr
  by_cases h0 : r.why = 0
  · have b0 : (r.why != 0) = false := by simp [h0]
    have E : Hid (r.refuse a y = { r with ba := a, why := y }) := by show r.refuse a y = _; unfold S.Rd.refuse; rw [if_pos h0]
    clear h0
    go_enter Tryd.func39, Tryd.ntmps39
    go_wp2_with fail
    refine (rrefused_any g t r w HR.out).mono ?_
    rintro e w1 ⟨rfl, rfl⟩
    go_wp2_with fail
    go_end0
    have R2 := heap_setCell_same _ _ 2 _ _ (.int .i64 a) HR.out.row
    have R3 := heap_setCell_same _ _ 3 _ _ (.int .i64 y) R2
    refine ⟨rfl, ?_, ((Chg.refl (fun k => k = g) w).setCell g 2 _ (fun _ => rfl)).setCell g 3 _ (fun _ => rfl)⟩
    rw [E.out]
    exact ⟨R3, ((heap_setCell_other _ _ _ _ HR.out.sep).trans (heap_setCell_other _ _ _ _ HR.out.sep)).trans HR.out.text, HR.out.sep, HR.out.pl, HR.out.len⟩
  · have b0 : (r.why != 0) = true := by simp [h0]
    have E : Hid (r.refuse a y = r) := by show r.refuse a y = _; unfold S.Rd.refuse; rw [if_neg h0]
    clear h0
    go_enter Tryd.func39, Tryd.ntmps39
    go_wp2_with fail
    refine (rrefused_any g t r w HR.out).mono ?_
    rintro e w1 ⟨rfl, rfl⟩
    go_wp2_with fail
    go_end0
    exact ⟨rfl, by rw [E.out]; exact HR.out, Chg.refl _ _⟩
theorem RdIs.drewN {w : World} {g t : Nat} {r : S.Rd} (n : Nat) (h : RdIs w g t r) : RdIs (w.drewN n) g t r := h.chg (p := fun _ => False) ((Chg.refl _ _).drewN n) (fun e => e) (fun e => e)
theorem RdIs.sliceAt {w : World} {g t : Nat} {r : S.Rd} (h : RdIs w g t r) : SliceAt w (.slice (some ⟨t, 0, none⟩) r.bs.length r.bs.length) r.bs := (stays_row (p := fun _ => False) h.text (fun e => e) h.len).now
theorem taken_form {w : World} {g t pl : Nat} {r : S.Rd} (h : RdIs w g t { r with pl := pl }) (n : Nat) (hf : r.pl + n ≤ r.bs.length) : SliceAt w (.slice (if r.bs.length = r.pl then some ⟨t, 0, none⟩ else some ⟨t, r.pl, none⟩) n (r.bs.length - r.pl)) ((r.bs.drop r.pl).take n) := by
  have hp := part_form h.sliceAt r.pl (r.pl + n) (Nat.le_add_right _ _) hf
  have e : (r.bs.take (r.pl + n)).drop r.pl = (r.bs.drop r.pl).take n := by rw [List.drop_take, Nat.add_sub_cancel_left]
  rw [Nat.add_sub_cancel_left, Option.map_some, Addr.add_lit, Nat.zero_add] at hp
  rw [← e]
  exact hp
set_option maxHeartbeats 800000 in
set_option maxRecDepth 100000 in
theorem take_any (g t : Nat) (r : S.Rd) (n : Nat) (w : World) (hn : n ≤ 140737488355328) (hr : RdIs w g t r) :
   Calls Tryd.prog 37 #[.pointer (some ⟨g, 0, none⟩), .int .i64 (n : Int)] w fun e w' => ∃ v, e = .returned v ∧ SliceAt w' v (r.take n).2 ∧ RdIs w' g t (r.take n).1 ∧ Chg (fun k => k = g) w w' := by
  have HR := hide hr
  obtain ⟨c0, c1, c2, c3⟩ := cells4 hr.row
  have f1 := frozen_of_row _ _ 1 _ _ hr.row
  have hp := hr.pl
  have hl := hr.len
  have q0 : IntKind.i64.wrap ((r.bs.length : Int) - (r.pl : Int)) = (r.bs.length : Int) - (r.pl : Int) := by rw [IntKind.wrap_i64]; omega
  clear hr
  by_cases hfit : r.pl + n ≤ r.bs.length
  · have q1 : ¬ ((r.bs.length : Int) - (r.pl : Int) < (n : Int)) := by omega
    by_cases h0 : r.why = 0
    · have b0 : (r.why != 0) = false := by simp [h0]
      have E : Hid (r.take n = ({ r with pl := r.pl + n }, (r.bs.drop r.pl).take n)) := by show r.take n = _; unfold S.Rd.take; rw [if_pos h0, if_pos hfit]
      have q2 : IntKind.i64.wrap ((r.pl : Int) + (n : Int)) = ((r.pl + n : Nat) : Int) := by rw [IntKind.wrap_i64]; omega
      have q3 : (0 : Int) ≤ (r.pl : Int) := by omega
      have q4 : (r.pl : Int) ≤ (r.pl : Int) + (n : Int) := by omega
      have q5 : (r.pl : Int) + (n : Int) ≤ (r.bs.length : Int) := by omega
      have HRD : ∀ w1 : World, RdIs w1 g t r → RdIs (w1.setCell ⟨g, 1, none⟩ (.int .i64 ((r.pl : Int) + (n : Int)))) g t { r with pl := r.pl + n } := fun w1 h1 => by
        have R1 := heap_setCell_same _ _ 1 _ _ (.int .i64 ((r.pl : Int) + (n : Int))) h1.row
        exact ⟨R1, (heap_setCell_other _ _ _ _ h1.sep).trans h1.text, h1.sep, hfit, h1.len⟩
      have RD := hide HRD
      clear h0 HRD
      go_enter Tryd.func37, Tryd.ntmps37
      go_wp2_with fail
      go_quiet (fail)
      generalize hw1 : w.drewN nq = w1
      have HR1 : Hid (RdIs w1 g t r) := by rw [← hw1]; exact HR.out.drewN nq
      have HC1 : Hid (Chg (fun k => k = g) w w1) := by rw [← hw1]; exact (Chg.refl _ _).drewN nq
      clear hw1 c0 c1 c2 c3 f1
      go_wp2_with fail
      refine (rrefused_any g t r w1 HR1.out).mono ?_
      rintro e w2 ⟨rfl, rfl⟩
      obtain ⟨c0, c1, c2, c3⟩ := cells4 HR1.out.row
      have f1 := frozen_of_row _ _ 1 _ _ HR1.out.row
      go_wp2_with fail
      go_quiet (fail)
      go_wp2_with fail
      all_goals
        go_ret
        have RX := RD.out w1 HR1.out
        have SP := taken_form RX n hfit
        first | rw [if_pos h, show r.bs.length - r.pl = 0 from by omega] at SP | rw [if_neg h] at SP
        refine ⟨_, rfl, ?_, ?_, ?_⟩
        · rw [E.out]; exact SP.of_heap rfl
        · rw [E.out]; exact RX.drewN _
        · exact (HC1.out.setCell g 1 _ (fun _ => rfl)).drewN _
    · have b0 : (r.why != 0) = true := by simp [h0]
      have E : Hid (r.take n = (r, [])) := by show r.take n = _; unfold S.Rd.take; rw [if_neg h0]
      clear h0
      go_enter Tryd.func37, Tryd.ntmps37
      go_wp2_with fail
      go_quiet (fail)
      go_wp2_with fail
      refine (rrefused_any g t r _ (HR.out.drewN nq)).mono ?_
      rintro e w1 ⟨rfl, rfl⟩
      go_wp2_with fail
      go_ret
      exact ⟨_, rfl, by rw [E.out]; exact Or.inl ⟨rfl, rfl⟩, by rw [E.out]; exact HR.out.drewN nq, (Chg.refl _ _).drewN nq⟩
  · have q1 : (r.bs.length : Int) - (r.pl : Int) < (n : Int) := by omega
    go_enter Tryd.func37, Tryd.ntmps37
    go_wp2_with fail
    go_quiet (fail)
    go_wp2_with fail
    refine (rrefuse_any g t r _ 10 _ (HR.out.drewN nq)).mono ?_
    rintro e w1 ⟨rfl, h1, h2⟩
    have H1 := hide h1
    have H2 := hide h2
    have b0 : ((r.refuse (r.bs.length : Int) 10).why != 0) = true := by
      unfold S.Rd.refuse
      split
      · rfl
      · rename_i h; simpa using h
    have E : Hid (r.take n = (r.refuse (r.bs.length : Int) 10, [])) := by
      show r.take n = (r.refuse (r.bs.length : Int) 10, [])
      unfold S.Rd.take S.Rd.refuse
      by_cases h : r.why = 0
      · rw [if_pos h, if_pos h, if_neg hfit]
      · rw [if_neg h, if_neg h]
    clear h1 h2 c0 c1 c2 c3 f1
    go_wp2_with fail
    refine (rrefused_any g t _ w1 H1.out).mono ?_
    rintro e w2 ⟨rfl, rfl⟩
    go_wp2_with fail
    go_ret
    exact ⟨_, rfl, by rw [E.out]; exact Or.inl ⟨rfl, rfl⟩, by rw [E.out]; exact H1.out, ((Chg.refl _ _).drewN nq).trans H2.out (fun _ _ h => h)⟩
end Go.Proofs.YtdhaeepaemneaaaDoor
