/- The document's own reader: refuse, take, Fail, End: what they answer is the plain function's; only the reader's own block changes. -/
import Derived.Test.YtlcilclhaahopaaDoorTi
import Derived.Test.YtlcilclhaahopaaDoorPure
namespace Go.Proofs.YtlcilclhaahopaaDoor
open Go.RowKit
/-- The document's reader in block g, over the text that came in. -/
structure DrIs (w : World) (g : Nat) (ao : Option Addr) (len cap : Nat) (r : S.Rd) : Prop where
  row : ∃ a y b : Int, w.heap[g]? = some (.cells #[.slice ao len cap, .int .i64 a, .int .i64 y, .int .i64 b, .bool (r.why != 0)] 111 (0, 0)) ∧ (r.why = 0 → a = (r.pl : Int)) ∧ (r.why ≠ 0 → y = r.why ∧ b = r.ba)
  ln : len = r.bs.length
  pl : r.pl ≤ r.bs.length
  max : r.bs.length ≤ 140737488355328
  text : Stays (fun k => k = g) w (.slice ao len cap) r.bs
theorem Stays.on {p q : Nat → Prop} {w W : World} {u : Value} {xs : List UInt8} (h : Stays p w u xs) (hc : Chg q w W) (hq : ∀ k, k < w.heap.size → q k → p k) : Stays p W u xs := fun W2 h2 => h W2 ((hc.mono hq).trans h2 (fun _ _ h => h))
theorem DrIs.below {w W : World} {g : Nat} {ao : Option Addr} {len cap : Nat} {r : S.Rd} (h : DrIs w g ao len cap r) (hb : Below w.heap.size w W) : DrIs W g ao len cap r := by
  obtain ⟨a, y, b, h1, h2⟩ := h.row
  exact ⟨⟨a, y, b, (hb.block g (block_lt_of_row h1)).trans h1, h2⟩, h.ln, h.pl, h.max, h.text.on (Chg.ofBelow' (p := fun _ => False) hb) (fun _ _ e => e.elim)⟩
theorem DrIs.chg {p : Nat → Prop} {w W : World} {g : Nat} {ao : Option Addr} {len cap : Nat} {r : S.Rd} (h : DrIs w g ao len cap r) (hc : Chg p w W) (hg : ¬ p g) (ht : Stays (fun k => k = g) W (.slice ao len cap) r.bs) : DrIs W g ao len cap r := by
  obtain ⟨a, y, b, h1, h2⟩ := h.row
  exact ⟨⟨a, y, b, hc.row h1 hg, h2⟩, h.ln, h.pl, h.max, ht⟩
theorem DrIs.lt {w : World} {g : Nat} {ao : Option Addr} {len cap : Nat} {r : S.Rd} (h : DrIs w g ao len cap r) : g < w.heap.size := by
  obtain ⟨a, y, b, h1, h2⟩ := h.row
  exact block_lt_of_row h1
theorem DrIs.drewN {w : World} {g : Nat} {ao : Option Addr} {len cap : Nat} {r : S.Rd} (n : Nat) (h : DrIs w g ao len cap r) : DrIs (w.drewN n) g ao len cap r := h.below (belowN (Below.refl _ _) n)
theorem fiveCells {w : World} {g : Nat} {a b c d e : Value} {t : TypeId} (h : w.heap[g]? = some (.cells #[a, b, c, d, e] t (0, 0))) :
    w.cell? ⟨g, 0, none⟩ = some a ∧ w.cell? ⟨g, 1, none⟩ = some b ∧ w.cell? ⟨g, 2, none⟩ = some c ∧ w.cell? ⟨g, 3, none⟩ = some d ∧ w.cell? ⟨g, 4, none⟩ = some e :=
  ⟨by rw [cell_of_row w g 0 _ _ _ h]; rfl, by rw [cell_of_row w g 1 _ _ _ h]; rfl, by rw [cell_of_row w g 2 _ _ _ h]; rfl, by rw [cell_of_row w g 3 _ _ _ h]; rfl, by rw [cell_of_row w g 4 _ _ _ h]; rfl⟩
theorem drefuse_any (g : Nat) (ao : Option Addr) (len cap : Nat) (r : S.Rd) (a y : Int) (w : World) (hy : y ≠ 0) (hr : DrIs w g ao len cap r) :
   Calls Tryd.prog 81 #[.pointer (some ⟨g, 0, none⟩), .int .i64 a, .int .i64 y] w fun e w' => e = .returned (.tuple #[]) ∧ DrIs w' g ao len cap (r.refuse a y) ∧ Chg (fun k => k = g) w w' := by
  have HR := hide hr
  obtain ⟨a1, y1, b1, hrow, hz, hn⟩ := hr.row
  obtain ⟨c0, c1, c2, c3, c4⟩ := fiveCells hrow
  have f2 := frozen_of_row _ _ 2 _ _ hrow
  have f3 := frozen_of_row _ _ 3 _ _ hrow
  have f4 := frozen_of_row _ _ 4 _ _ hrow
  have RO := hide hrow
  have HZ := hide hz
  clear hr hrow hz hn
  by_cases h0 : r.why = 0
  · have b0 : (r.why != 0) = false := by simp [h0]
    have b2 : Hid ((y != 0) = true) := by show (y != 0) = true; simp [hy]
    have HY := hide hy
    have H0 := hide h0
    have E : Hid (r.refuse a y = { r with ba := a, why := y }) := by show r.refuse a y = _; unfold S.Rd.refuse; rw [if_pos h0]
    clear h0 hy
    go_enter Tryd.func81, Tryd.ntmps81
    go_wp2_with fail
    go_end0
    have R4 := heap_setCell_same _ _ 4 _ _ (.bool true) RO.out
    have R2 := heap_setCell_same _ _ 2 _ _ (.int .i64 y) R4
    have R3 := heap_setCell_same _ _ 3 _ _ (.int .i64 a) R2
    have C := (((Chg.refl (fun k => k = g) w).setCell g 4 (.bool true) (fun _ => rfl)).setCell g 2 (.int .i64 y) (fun _ => rfl)).setCell g 3 (.int .i64 a) (fun _ => rfl)
    refine ⟨rfl, ?_, C⟩
    rw [E.out]
    refine ⟨⟨a1, y, a, ?_, fun h => absurd h HY.out, fun _ => ⟨rfl, rfl⟩⟩, HR.out.ln, HR.out.pl, HR.out.max, HR.out.text.on C (fun _ _ h => h)⟩
    show _ = some (Obj.cells #[.slice ao len cap, .int .i64 a1, .int .i64 y, .int .i64 a, .bool (y != 0)] 111 (0, 0))
    rw [b2.out]
    exact R3
  · have b0 : (r.why != 0) = true := by simp [h0]
    have E : Hid (r.refuse a y = r) := by show r.refuse a y = _; unfold S.Rd.refuse; rw [if_neg h0]
    clear h0 hy
    go_enter Tryd.func81, Tryd.ntmps81
    go_wp2_with fail
    go_end0
    exact ⟨rfl, by rw [E.out]; exact HR.out, Chg.refl _ _⟩
theorem dfail_any (g : Nat) (ao : Option Addr) (len cap : Nat) (r : S.Rd) (why : Int) (w : World) (hr : DrIs w g ao len cap r) :
   Calls Tryd.prog 59 #[.pointer (some ⟨g, 0, none⟩), .int .i64 why] w fun e w' => e = .returned (.tuple #[]) ∧ DrIs w' g ao len cap (r.fail why) ∧ Chg (fun k => k = g) w w' := by
  have HR := hide hr
  obtain ⟨a1, y1, b1, hrow, hz, hn⟩ := hr.row
  obtain ⟨c0, c1, c2, c3, c4⟩ := fiveCells hrow
  have RO := hide hrow
  have HZ := hide hz
  have HN := hide hn
  clear hr hrow hz hn
  by_cases h0 : why = 0
  · have b0 : (why != 0) = false := by simp [h0]
    have D : Hid (DrIs w g ao len cap (r.fail why)) := by
      show DrIs w g ao len cap (r.fail why)
      unfold S.Rd.fail S.Rd.refuse
      by_cases h : r.why = 0
      · rw [if_pos h]
        refine ⟨⟨a1, y1, b1, ?_, fun _ => HZ.out h, fun h2 => absurd h0 h2⟩, HR.out.ln, HR.out.pl, HR.out.max, HR.out.text⟩
        show _ = some (Obj.cells #[.slice ao len cap, .int .i64 a1, .int .i64 y1, .int .i64 b1, .bool (why != 0)] 111 (0, 0))
        rw [RO.out, h, h0]
      · rw [if_neg h]; exact HR.out
    clear h0
    go_enter Tryd.func59, Tryd.ntmps59
    go_wp2_with fail
    go_end0
    exact ⟨rfl, D.out, Chg.refl _ _⟩
  · have b0 : (why != 0) = true := by simp [h0]
    have HY := hide h0
    clear h0
    go_enter Tryd.func59, Tryd.ntmps59
    go_wp2_with fail
    refine (drefuse_any g ao len cap r _ why w HY.out HR.out).mono ?_
    rintro e w1 ⟨rfl, h1, h2⟩
    have E : Hid (DrIs w1 g ao len cap (r.fail why)) := by
      by_cases h : r.why = 0
      · have e1 := HZ.out h
        rw [e1] at h1
        exact h1
      · have e2 : ∀ x : Int, r.refuse x why = r := fun x => by unfold S.Rd.refuse; rw [if_neg h]
        show DrIs w1 g ao len cap (r.refuse _ why)
        rw [e2] at h1 ⊢
        exact h1
    have H2 := hide h2
    clear h1 h2 c0 c1 c2 c3 c4
    go_wp2_with fail
    go_end0
    exact ⟨rfl, E.out, H2.out⟩
set_option maxHeartbeats 800000 in
set_option maxRecDepth 100000 in
theorem dend_any (g : Nat) (ao : Option Addr) (len cap : Nat) (r : S.Rd) (w : World) (hr : DrIs w g ao len cap r) :
   Calls Tryd.prog 61 #[.pointer (some ⟨g, 0, none⟩)] w fun e w' => e = .returned (.tuple #[.int .i64 r.fin.1, .int .i64 r.fin.2]) ∧ Below w.heap.size w w' := by
  obtain ⟨a1, y1, b1, hrow, hz, hn⟩ := hr.row
  obtain ⟨c0, c1, c2, c3, c4⟩ := fiveCells hrow
  have hl := hr.ln
  by_cases h0 : r.why = 0
  · have b0 : (r.why != 0) = false := by simp [h0]
    have ea := hz h0
    subst ea
    by_cases hp : r.pl < r.bs.length
    · have E : Hid (r.fin = ((r.pl : Int), 11)) := by show r.fin = _; unfold S.Rd.fin; rw [if_pos h0, if_pos hp]
      have q1 : (r.pl : Int) < (len : Int) := by omega
      clear h0 hr hrow hz hn hl
      go_enter Tryd.func61, Tryd.ntmps61
      go_wp2_with fail
      go_quiet (fail)
      go_wp2_with fail
      go_ret2
      exact ⟨by rw [E.out]; rfl, belowN (Below.refl _ _) nq⟩
    · have E : Hid (r.fin = (0, 0)) := by show r.fin = _; unfold S.Rd.fin; rw [if_pos h0, if_neg hp]
      have q1 : ¬ ((r.pl : Int) < (len : Int)) := by omega
      clear h0 hr hrow hz hn hl
      go_enter Tryd.func61, Tryd.ntmps61
      go_wp2_with fail
      go_quiet (fail)
      go_wp2_with fail
      go_ret2
      exact ⟨by rw [E.out]; rfl, belowN (Below.refl _ _) nq⟩
  · have b0 : (r.why != 0) = true := by simp [h0]
    obtain ⟨e1, e2⟩ := hn h0
    have E : Hid (r.fin = (b1, y1)) := by show r.fin = _; unfold S.Rd.fin; rw [if_neg h0, e1, e2]
    clear h0 hr hrow hz hn hl e1 e2
    go_enter Tryd.func61, Tryd.ntmps61
    go_wp2_with fail
    go_quiet (fail)
    go_wp2_with fail
    go_ret2
    exact ⟨by rw [E.out]; rfl, belowN (Below.refl _ _) nq⟩
end Go.Proofs.YtlcilclhaahopaaDoor
