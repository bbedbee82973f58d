/- The document's own reader: take, Number, Bytes: what they answer is the plain function's; only the reader's own block changes. -/
import Derived.Test.YtlcilclhaahopaaDoorDrd
namespace Go.Proofs.YtlcilclhaahopaaDoor
open Go.RowKit
set_option maxHeartbeats 800000 in
set_option maxRecDepth 100000 in
theorem dtake_any (g : Nat) (ao : Option Addr) (len cap : Nat) (r : S.Rd) (n : Nat) (w : World) (hn : n ≤ 140737488355328) (hr : DrIs w g ao len cap r) :
   Calls Tryd.prog 80 #[.pointer (some ⟨g, 0, none⟩), .int .i64 (n : Int)] w fun e w' => ∃ v, e = .returned v ∧ SliceAt w' v (r.take n).2 ∧ DrIs w' g ao len cap (r.take n).1 ∧ Chg (fun k => k = g) w w' := by
  have HR := hide hr
  obtain ⟨a1, y1, b1, hrow, hz, hnn⟩ := hr.row
  obtain ⟨c0, c1, c2, c3, c4⟩ := fiveCells hrow
  have f1 := frozen_of_row _ _ 1 _ _ hrow
  have hp := hr.pl
  have hl := hr.max
  have hle := hr.ln
  have hlc := hr.text.now.le_cap
  have RO := hide hrow
  by_cases h0 : r.why = 0
  · have b0 : (r.why != 0) = false := by simp [h0]
    have ea := hz h0
    subst ea
    have q0 : IntKind.i64.wrap ((len : Int) - (r.pl : Int)) = (len : Int) - (r.pl : Int) := by rw [IntKind.wrap_i64]; omega
    have H0 := hide h0
    by_cases hfit : r.pl + n ≤ r.bs.length
    · have q1 : ¬ ((len : Int) - (r.pl : Int) < (n : Int)) := by omega
      have E : Hid (r.take n = ({ r with pl := r.pl + n }, (r.bs.drop r.pl).take n)) := by show r.take n = _; unfold S.Rd.take; rw [if_pos h0, if_pos hfit]
      have q2 : IntKind.i64.wrap ((r.pl : Int) + (n : Int)) = ((r.pl + n : Nat) : Int) := by rw [IntKind.wrap_i64]; omega
      have q3 : (0 : Int) ≤ (r.pl : Int) := by omega
      have q4 : (r.pl : Int) ≤ (r.pl : Int) + (n : Int) := by omega
      have q5 : (r.pl : Int) + (n : Int) ≤ (len : Int) := by omega
      have q6 : (r.pl : Int) + (n : Int) ≤ (cap : Int) := by omega
      have HLE := hide hle
      have RD : Hid (∀ w1 : World, w1.heap = w.heap → Chg (fun k => k = g) w w1 → DrIs (w1.setCell ⟨g, 1, none⟩ (.int .i64 ((r.pl : Int) + (n : Int)))) g ao len cap { r with pl := r.pl + n } ∧ Chg (fun k => k = g) w (w1.setCell ⟨g, 1, none⟩ (.int .i64 ((r.pl : Int) + (n : Int))))) := fun w1 hw C0 => by
        have R := HR.out
        have r1 : w1.heap[g]? = some (Obj.cells #[.slice ao len cap, .int .i64 (r.pl : Int), .int .i64 y1, .int .i64 b1, .bool (r.why != 0)] 111 (0, 0)) := by rw [hw]; exact RO.out
        have R1 := heap_setCell_same _ _ 1 _ _ (.int .i64 ((r.pl : Int) + (n : Int))) r1
        have C := C0.setCell g 1 (.int .i64 ((r.pl : Int) + (n : Int))) (fun _ => rfl)
        exact ⟨⟨⟨_, y1, b1, R1, fun _ => (by show (r.pl : Int) + (n : Int) = ((r.pl + n : Nat) : Int); omega), fun h => absurd H0.out h⟩, R.ln, hfit, R.max, R.text.on C (fun _ _ h => h)⟩, C⟩
      clear h0 hr hrow hz hnn hle
      go_enter Tryd.func80, Tryd.ntmps80
      go_wp2_with fail
      go_quiet (fail)
      generalize hw1 : w.drewN nq = w1
      have HW1 : Hid (w1.heap = w.heap) := by rw [← hw1]; exact rfl
      have HC1 : Hid (Chg (fun k => k = g) w w1) := by rw [← hw1]; exact (Chg.refl _ _).drewN nq
      have ro := HR.out.drewN nq
      have c0' := c0
      obtain ⟨c0, c1, c2, c3, c4⟩ := fiveCells (w := w1) (by rw [HW1.out]; exact RO.out)
      have f1 := frozen_of_row w1 g 1 _ _ (by rw [HW1.out]; exact RO.out)
      clear ro c0'
      clear hw1
      go_wp2_with fail
      go_quiet (fail)
      go_wp2_with fail
      all_goals
        go_ret
        obtain ⟨RX, CX⟩ := RD.out w1 HW1.out HC1.out
        have SP := part_form RX.text.now r.pl (r.pl + n) (Nat.le_add_right _ _) (by have := HLE.out; omega)
        rw [Nat.add_sub_cancel_left, show (r.bs.take (r.pl + n)).drop r.pl = (r.bs.drop r.pl).take n from by rw [List.drop_take, Nat.add_sub_cancel_left]] at SP
        first | rw [if_pos h, show cap - r.pl = 0 from by omega] at SP | rw [if_neg h] at SP
        refine ⟨_, rfl, ?_, ?_, ?_⟩
        · rw [E.out]; exact SP.of_heap rfl
        · rw [E.out]; first | exact RX.drewN _ | (have RX2 := RX.drewN nq; rw [h] at RX2; exact RX2)
        · exact CX.drewN _
    · have q1 : (len : Int) - (r.pl : Int) < (n : Int) := by omega
      have E : Hid (r.take n = (r.refuse (r.bs.length : Int) 10, [])) := by
        show r.take n = (r.refuse (r.bs.length : Int) 10, [])
        unfold S.Rd.take S.Rd.refuse
        rw [if_pos h0, if_pos h0, if_neg hfit]
      have HLE := hide hle
      clear h0 hr hrow hz hnn hle
      go_enter Tryd.func80, Tryd.ntmps80
      go_wp2_with fail
      go_quiet (fail)
      go_wp2_with fail
      refine (drefuse_any g ao len cap r _ 10 _ (by decide) (HR.out.drewN nq)).mono ?_
      rintro e w1 ⟨rfl, h1, h2⟩
      have H1 : Hid (DrIs w1 g ao len cap (r.refuse (r.bs.length : Int) 10)) := by have e := HLE.out; rw [← e]; exact h1
      have H2 := hide h2
      clear h1 h2 c0 c1 c2 c3 c4 f1
      go_wp2_with fail
      go_ret
      exact ⟨_, rfl, by rw [E.out]; exact Or.inl ⟨rfl, rfl⟩, by rw [E.out]; exact H1.out, ((Chg.refl _ _).drewN nq).trans H2.out (fun _ _ h => h)⟩
  · have b0 : (r.why != 0) = true := by simp [h0]
    have E : Hid (r.take n = (r, [])) := by show r.take n = _; unfold S.Rd.take; rw [if_neg h0]
    clear h0 hr hrow hz hnn hle hlc
    go_enter Tryd.func80, Tryd.ntmps80
    go_wp2_with fail
    go_ret
    exact ⟨_, rfl, by rw [E.out]; exact Or.inl ⟨rfl, rfl⟩, by rw [E.out]; exact HR.out, Chg.refl _ _⟩
theorem add_byte (a : Nat) (x : UInt8) (ha : a * 256 < 18446744073709551616 - 255) : IntKind.u64.wrap ((a : Int) * 256) = ((a : Int) * 256) ∧ IntKind.u64.wrap (x.toNat : Int) = (x.toNat : Int) ∧ IntKind.u64.wrap ((a : Int) * 256 + (x.toNat : Int)) = ((a * 256 + x.toNat : Nat) : Int) := by
  have hx := x.toNat_lt
  refine ⟨?_, ?_, ?_⟩
  · rw [IntKind.wrap_u64]; omega
  · rw [IntKind.wrap_u64]; omega
  · rw [IntKind.wrap_u64]; omega
theorem val_room (xs : List UInt8) (j : Nat) (h : j < xs.length) (h8 : xs.length ≤ 8) : S.val (xs.take j) * 256 < 18446744073709551616 - 255 := by
  have h1 := S.val_lt (xs.take j)
  have h2 : (xs.take j).length ≤ 7 := by rw [List.length_take]; omega
  have h3 : 256 ^ (xs.take j).length ≤ 256 ^ 7 := Nat.pow_le_pow_right (by decide) h2
  have h4 : (256 : Nat) ^ 7 = 72057594037927936 := by decide
  omega
set_option maxHeartbeats 800000 in
set_option maxRecDepth 100000 in
theorem dnum_any (g : Nat) (ao : Option Addr) (alen acap : Nat) (r : S.Rd) (k : Int) (w : World) (hr : DrIs w g ao alen acap r) :
   Calls Tryd.prog 58 #[.pointer (some ⟨g, 0, none⟩), .int .i64 k] w fun e w' => e = .returned (.int .u64 ((r.number k).2 : Int)) ∧ DrIs w' g ao alen acap (r.number k).1 ∧ Chg (fun k => k = g) w w' := by
  have HR := hide hr
  clear hr
  go_enter Tryd.func58, Tryd.ntmps58
  go_wp2_with fail
  refine (width_any k w).mono ?_
  rintro e w1 ⟨rfl, rfl⟩
  go_wp2_with fail
  refine (dtake_any g ao alen acap r (S.size k) w (by have := S.size_le k; omega) HR.out).mono ?_
  rintro e w1 ⟨v, rfl, hv, hr1, hc1⟩
  obtain ⟨xs, hxs⟩ : ∃ xs, xs = (r.take (S.size k)).2 := ⟨_, rfl⟩
  have hl8 : xs.length ≤ 8 := by rw [hxs]; exact Nat.le_trans (r.take_len _) (S.size_le k)
  rw [← hxs] at hv
  have FIN : Hid (S.val xs = (r.number k).2) := by show S.val xs = (r.number k).2; rw [hxs]; rfl
  have R1 : Hid (DrIs w1 g ao alen acap (r.number k).1) := hr1
  have C1 := hide hc1
  have HV := hide hv
  obtain ⟨bo, len, cap, rfl, hlen, hmax⟩ := hv.form
  have HL := hide hlen
  clear hv hr1 hc1 hxs hlen HR
  have hln : len ≤ 8 := by have := HL.out; omega
  go_wp2_with fail
  go_loopw [5, 13] (fun n i wr => ∃ k : Nat, k ≤ len ∧ i = .int .i64 (k : Int) ∧ n = .int .u64 (S.val (xs.take k) : Int) ∧ wr = w1) (fun _ i _ => len - (intOf i).toNat)
  case atStart => exact ⟨0, Nat.zero_le _, rfl, rfl, rfl⟩
  case round =>
    obtain ⟨j, hj, rfl, rfl, rfl⟩ := hrel
    by_cases hlt : j < len
    · have q1 : (0 : Int) ≤ (j : Int) := by omega
      have q2 : (j : Int) < (len : Int) := by omega
      have hp : 0 < xs.length := by have := HL.out; omega
      obtain ⟨b, off, rfl, _, _, hc⟩ := HV.out.src hp
      have c1 := hc j (by have := HL.out; omega)
      have q4 : IntKind.i64.wrap ((j : Int) + 1) = (j : Int) + 1 := by rw [IntKind.wrap_i64]; omega
      have hjx : j < xs.length := by have := HL.out; omega
      have e1 := add_byte (S.val (xs.take j)) (xs.getD j 0) (val_room xs j hjx hl8)
      rw [← S.val_take xs j hjx] at e1
      generalize xs.getD j 0 = x at c1 e1
      obtain ⟨e1, e2, e3⟩ := e1
      clear hc
      go_wp2
      exact ⟨⟨j + 1, by omega, by go_num, rfl, trivial⟩, by simp [intOf]; omega⟩
    · obtain rfl : j = len := by omega
      have q2 : ¬ ((j : Int) < (j : Int)) := by omega
      have E : Hid (S.val (xs.take j) = (r.number k).2) := by rw [← FIN.out, HL.out, List.take_length]; exact rfl
      go_wp2
      go_ret
      exact ⟨by rw [← E.out]; rfl, R1.out, C1.out⟩
end Go.Proofs.YtlcilclhaahopaaDoor
