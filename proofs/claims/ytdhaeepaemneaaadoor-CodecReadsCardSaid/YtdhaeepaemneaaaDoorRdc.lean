/- A Reader's Bytes, Digest, Fail and End: what is read is the plain function's; only the reader's own block changes. -/
import Derived.Test.YtdhaeepaemneaaaDoorRdb
namespace Go.Proofs.YtdhaeepaemneaaaDoor
open Go.RowKit
namespace S
def Rd.bytes (r : Rd) (most : Int) : Rd × List UInt8 :=
  (if most < ((r.number 2).2 : Int) then (r.number 2).1.refuse (r.pl : Int) 3 else (r.number 2).1).take (r.number 2).2
def Rd.digest (r : Rd) : Rd × List UInt8 := ((r.take 32).1, splice (zeros 32) 0 (r.take 32).2)
def Rd.fail (r : Rd) (why : Int) : Rd := r.refuse (r.pl : Int) why
theorem Rd.digest_length (r : Rd) : r.digest.2.length = 32 := by
  show (splice (zeros 32) 0 (r.take 32).2).length = 32
  rw [length_splice _ _ _ (by have := r.take_len 32; rw [zeros_length]; omega), zeros_length]
/-- End: at which place, and why (0: nothing). -/
def Rd.fin (r : Rd) : Int × Int := if r.why = 0 then (if r.pl < r.bs.length then ((r.pl : Int), 11) else (0, 0)) else (r.ba, r.why)
theorem number2_lt (r : Rd) : (r.number 2).2 < 65536 := by
  have h1 := val_lt (r.take (size 2)).2
  have h2 : (r.take (size 2)).2.length ≤ 2 := r.take_len (size 2)
  have h3 : 256 ^ (r.take (size 2)).2.length ≤ 256 ^ 2 := Nat.pow_le_pow_right (by decide) h2
  exact Nat.lt_of_lt_of_le h1 h3
end S
theorem belowN {B : Nat} {w W : World} (h : Below B w W) (n : Nat) : Below B w (W.drewN n) := ⟨h.os, h.tape, h.output, h.size, h.block⟩
theorem rfail_any (g t : Nat) (r : S.Rd) (why : Int) (w : World) (hr : RdIs w g t r) :
   Calls Tryd.prog 12 #[.pointer (some ⟨g, 0, none⟩), .int .i64 why] w fun e w' => e = .returned (.tuple #[]) ∧ RdIs w' g t (r.fail why) ∧ Chg (fun k => k = g) w w' := by
  have HR := hide hr
  obtain ⟨c0, c1, c2, c3⟩ := cells4 hr.row
  clear hr
  go_enter Tryd.func12, Tryd.ntmps12
  go_wp2_with fail
  refine (rrefuse_any g t r _ why w HR.out).mono ?_
  rintro e w1 ⟨rfl, h1, h2⟩
  have H1 := hide h1
  have H2 := hide h2
  clear h1 h2 c0 c1 c2 c3
  go_wp2_with fail
  go_end0
  exact ⟨rfl, H1.out, H2.out⟩
set_option maxHeartbeats 800000 in
set_option maxRecDepth 100000 in
theorem rbytes_any (g t : Nat) (r : S.Rd) (most : Int) (w : World) (hr : RdIs w g t r) :
   Calls Tryd.prog 26 #[.pointer (some ⟨g, 0, none⟩), .int .i64 most] w fun e w' => ∃ q, e = .returned (.slice (some ⟨q, 0, none⟩) (r.bytes most).2.length (r.bytes most).2.length) ∧ w.heap.size ≤ q ∧ w'.heap[q]? = some (.cells (S.v8 (r.bytes most).2) 5 (0, 0)) ∧ RdIs w' g t (r.bytes most).1 ∧ Chg (fun k => k = g) w w' := by
  have HR := hide hr
  obtain ⟨c0, c1, c2, c3⟩ := cells4 hr.row
  clear hr
  go_enter Tryd.func26, Tryd.ntmps26
  go_wp2_with fail
  refine (rnumber_any g t r 2 w HR.out).mono ?_
  rintro e w1 ⟨rfl, h1, h2⟩
  obtain ⟨c, hc⟩ : ∃ c, c = (r.number 2).2 := ⟨_, rfl⟩
  have hlt : c < 65536 := by rw [hc]; exact S.number2_lt r
  rw [← hc]
  have HC := hide hc
  have R1 := hide h1
  have C1 := hide h2
  have q1 : IntKind.i64.wrap (c : Int) = (c : Int) := by rw [IntKind.wrap_i64]; omega
  clear h1 h2 c0 c1 c2 c3 hc
  by_cases hm : most < (c : Int)
  · have E : Hid (r.bytes most = ((r.number 2).1.refuse (r.pl : Int) 3).take c) := by show r.bytes most = _; unfold S.Rd.bytes; rw [← HC.out, if_pos hm]
    go_wp2_with fail
    refine (rrefuse_any g t _ _ 3 w1 R1.out).mono ?_
    rintro e w2 ⟨rfl, h1, h2⟩
    have R2 := hide h1
    have C2 := hide (C1.out.trans h2 (fun _ _ h => h))
    clear h1 h2 C1 R1
    go_wp2_with fail
    refine (take_any g t _ c w2 (by omega) R2.out).mono ?_
    rintro e w3 ⟨v, rfl, hv, h1, h2⟩
    rw [← E.out] at hv h1
    have R3 := hide h1
    have C3 := hide (C2.out.trans h2 (fun _ _ h => h))
    have SV := hide hv
    clear h1 h2 hv C2 R2
    go_wp2_with fail
    refine (copyOf_any v _ w3 SV.out).mono ?_
    rintro e w4 ⟨rfl, h1, h2⟩
    have N4 := hide h1
    have R4 := hide (R3.out.below h2)
    have C4 := hide (C3.out.trans (Chg.ofBelow' (p := fun k => k = g) h2) (fun _ _ h => h))
    have hq := C3.out.size
    clear h1 h2 R3 C3 SV
    generalize hXS : (r.bytes most).2 = XS at *
    generalize hXR : (r.bytes most).1 = XR at *
    have HXS := hide hXS
    have HXR := hide hXR
    clear hXS hXR E
    go_wp2_with fail
    go_ret
    exact ⟨w3.heap.size, by rw [HXS.out]; rfl, hq, by rw [HXS.out]; exact N4.out, by rw [HXR.out]; exact R4.out, C4.out⟩
  · have E : Hid (r.bytes most = (r.number 2).1.take c) := by show r.bytes most = _; unfold S.Rd.bytes; rw [← HC.out, if_neg hm]
    have R2 := R1
    have C2 := C1
    clear R1 C1
    go_wp2_with fail
    refine (take_any g t _ c w1 (by omega) R2.out).mono ?_
    rintro e w3 ⟨v, rfl, hv, h1, h2⟩
    rw [← E.out] at hv h1
    have R3 := hide h1
    have C3 := hide (C2.out.trans h2 (fun _ _ h => h))
    have SV := hide hv
    clear h1 h2 hv C2 R2
    go_wp2_with fail
    refine (copyOf_any v _ w3 SV.out).mono ?_
    rintro e w4 ⟨rfl, h1, h2⟩
    have N4 := hide h1
    have R4 := hide (R3.out.below h2)
    have C4 := hide (C3.out.trans (Chg.ofBelow' (p := fun k => k = g) h2) (fun _ _ h => h))
    have hq := C3.out.size
    clear h1 h2 R3 C3 SV
    generalize hXS : (r.bytes most).2 = XS at *
    generalize hXR : (r.bytes most).1 = XR at *
    have HXS := hide hXS
    have HXR := hide hXR
    clear hXS hXR E
    go_wp2_with fail
    go_ret
    exact ⟨w3.heap.size, by rw [HXS.out]; rfl, hq, by rw [HXS.out]; exact N4.out, by rw [HXR.out]; exact R4.out, C4.out⟩
set_option maxHeartbeats 800000 in
set_option maxRecDepth 100000 in
theorem rend_any (g t : Nat) (r : S.Rd) (w : World) (hr : RdIs w g t r) :
   Calls Tryd.prog 15 #[.pointer (some ⟨g, 0, none⟩)] w fun e w' => ((r.fin.2 = 0 ∧ e = .returned .nilIface) ∨ (r.fin.2 ≠ 0 ∧ ∃ q, e = .returned (.iface 81 (.pointer (some ⟨q, 0, none⟩))) ∧ w.heap.size ≤ q ∧ w'.heap[q]? = some (.cells #[.int .i64 r.fin.1, .int .i64 r.fin.2] 74 (0, 0)))) ∧ Below w.heap.size w w' := by
  have HR := hide hr
  obtain ⟨c0, c1, c2, c3⟩ := cells4 hr.row
  clear hr
  by_cases h0 : r.why = 0
  · have b0 : (r.why != 0) = false := by simp [h0]
    by_cases hp : r.pl < r.bs.length
    · have E : Hid (r.fin = ((r.pl : Int), 11)) := by show r.fin = _; unfold S.Rd.fin; rw [if_pos h0, if_pos hp]
      have q1 : (r.pl : Int) < (r.bs.length : Int) := by omega
      clear h0
      go_enter Tryd.func15, Tryd.ntmps15
      go_wp2_with fail
      refine (rrefused_any g t r w HR.out).mono ?_
      rintro e w1 ⟨rfl, rfl⟩
      go_wp2_with fail
      go_quiet (fail)
      go_wp2_with fail
      go_ret
      refine ⟨Or.inr ⟨by rw [E.out]; exact (by decide : (11 : Int) ≠ 0), w.heap.size, rfl, Nat.le_refl _, ?_⟩, ?_⟩
      · rw [E.out]; exact heap_alloc_new w _
      · exact belowN ((Below.refl _ _).alloc (Nat.le_refl _) _) nq
    · have E : Hid (r.fin = (0, 0)) := by show r.fin = _; unfold S.Rd.fin; rw [if_pos h0, if_neg hp]
      have q1 : ¬ ((r.pl : Int) < (r.bs.length : Int)) := by omega
      clear h0
      go_enter Tryd.func15, Tryd.ntmps15
      go_wp2_with fail
      refine (rrefused_any g t r w HR.out).mono ?_
      rintro e w1 ⟨rfl, rfl⟩
      go_wp2_with fail
      go_quiet (fail)
      go_wp2_with fail
      go_ret
      exact ⟨Or.inl ⟨by rw [E.out], rfl⟩, belowN (Below.refl _ _) nq⟩
  · have b0 : (r.why != 0) = true := by simp [h0]
    have E : Hid (r.fin = (r.ba, r.why)) := by show r.fin = _; unfold S.Rd.fin; rw [if_neg h0]
    have HW := hide h0
    clear h0
    go_enter Tryd.func15, Tryd.ntmps15
    go_wp2_with fail
    refine (rrefused_any g t r w HR.out).mono ?_
    rintro e w1 ⟨rfl, rfl⟩
    go_wp2_with fail
    go_ret
    refine ⟨Or.inr ⟨by rw [E.out]; exact HW.out, w.heap.size, rfl, Nat.le_refl _, ?_⟩, ?_⟩
    · rw [E.out]; exact heap_alloc_new w _
    · exact (Below.refl _ _).alloc (Nat.le_refl _) _
end Go.Proofs.YtdhaeepaemneaaaDoor
