/- The document's own reader: Bytes: what is read is the plain function's; only the reader's own block changes. -/
import Derived.Test.YtdhaeepaemneaaaDoorDrg
namespace Go.Proofs.YtdhaeepaemneaaaDoor
open Go.RowKit
set_option maxHeartbeats 800000 in
set_option maxRecDepth 100000 in
theorem drbytes_any (g : Nat) (ao : Option Addr) (alen acap : Nat) (r : S.Rd) (most : Int) (w : World) (hr : DrIs w g ao alen acap r) :
   Calls Tryd.prog 27 #[.pointer (some ⟨g, 0, none⟩), .int .i64 most] w fun e w' => ∃ v, e = .returned v ∧ SliceAt w' v (r.bytes most).2 ∧ DrIs w' g ao alen acap (r.bytes most).1 ∧ Chg (fun k => k = g) w w' := by
  have HR := hide hr
  obtain ⟨a1, y1, b1, hrow, hz, hnn⟩ := hr.row
  obtain ⟨c0, c1, c2, c3, c4⟩ := fiveCells hrow
  have NZ : Hid ((r.number 2).1.why = 0 → a1 = (r.pl : Int)) := fun h => by
    refine hz ?_
    by_cases h0 : r.why = 0
    · exact h0
    · have h2 : (r.take (S.size 2)).1.why = 0 := h
      unfold S.Rd.take at h2
      rw [if_neg h0] at h2
      exact h2
  clear hr hrow hz hnn
  go_enter Tryd.func27, Tryd.ntmps27
  go_wp2_with fail
  refine (dnum_any g ao alen acap r 2 w HR.out).mono ?_
  rintro e w1 ⟨rfl, h1, h2⟩
  obtain ⟨c, hc⟩ : ∃ c, c = (r.number 2).2 := ⟨_, rfl⟩
  have hlt : c < 65536 := by rw [hc]; exact S.number2_lt r
  rw [← hc]
  have HC := hide hc
  have C1 := hide h2
  have q1 : IntKind.i64.wrap (c : Int) = (c : Int) := by rw [IntKind.wrap_i64]; omega
  obtain ⟨r1, hr1⟩ : ∃ r1, r1 = (r.number 2).1 := ⟨_, rfl⟩
  rw [← hr1] at h1
  have NZ1 : Hid (r1.why = 0 → a1 = (r.pl : Int)) := by rw [hr1]; exact NZ.out
  have PB : Hid (r.pl ≤ r1.bs.length) := by show r.pl ≤ r1.bs.length; rw [hr1]; show r.pl ≤ (r.take _).1.bs.length; rw [S.Rd.take_bs]; exact HR.out.pl
  have EB : Hid (r.bytes most = (if most < (c : Int) then r1.refuse (r.pl : Int) 3 else r1).take c) := by show r.bytes most = _; unfold S.Rd.bytes; rw [← HC.out, ← hr1]
  have R1 := hide h1
  clear h1 h2 c0 c1 c2 c3 c4 hc hr1 NZ HC
  obtain ⟨a2, y2, b2, hrow, hz, hnn⟩ := R1.out.row
  obtain ⟨c0, c1, c2, c3, c4⟩ := fiveCells hrow
  by_cases h0 : r1.why = 0
  · have b0 : (r1.why != 0) = false := by simp [h0]
    have e0 := NZ1.out h0
    subst e0
    by_cases hm : most < (c : Int)
    · have E : Hid (r.bytes most = (r1.refuse (r.pl : Int) 3, [])) := by
        show r.bytes most = _
        rw [EB.out, if_pos hm]
        unfold S.Rd.take S.Rd.refuse
        rw [if_pos h0, if_neg (show ¬ ((3 : Int) = 0) by decide)]
      have f1 := frozen_of_row _ _ 1 _ _ hrow
      have DX : Hid (DrIs (w1.setCell ⟨g, 1, none⟩ (.int .i64 (r.pl : Int))) g ao alen acap { r1 with pl := r.pl }) := by
        have R := R1.out
        have R1' := heap_setCell_same _ _ 1 _ _ (.int .i64 (r.pl : Int)) hrow
        exact ⟨⟨_, y2, b2, R1', fun _ => rfl, fun h => absurd h0 h⟩, R.ln, PB.out, R.max, R.text.on ((Chg.refl (fun k => k = g) w1).setCell g 1 _ (fun _ => rfl)) (fun _ _ h => h)⟩
      have CX := hide (C1.out.setCell g 1 (.int .i64 (r.pl : Int)) (fun _ => rfl))
      have H0 := hide h0
      clear hrow hz hnn h0
      go_wp2_with fail
      refine (drefuse_any g ao alen acap { r1 with pl := r.pl } _ 3 _ (by decide) DX.out).mono ?_
      rintro e w2 ⟨rfl, h1, h2⟩
      have C2 := hide (CX.out.trans h2 (fun _ _ h => h))
      have R2 : Hid (DrIs w2 g ao alen acap (r1.refuse (r.pl : Int) 3)) := by
        have e1 : ({ r1 with pl := r.pl } : S.Rd).refuse (r.pl : Int) 3 = { r1 with pl := r.pl, ba := (r.pl : Int), why := 3 } := by unfold S.Rd.refuse; rw [if_pos H0.out]
        have e2 : r1.refuse (r.pl : Int) 3 = { r1 with ba := (r.pl : Int), why := 3 } := by unfold S.Rd.refuse; rw [if_pos H0.out]
        show DrIs w2 g ao alen acap (r1.refuse (r.pl : Int) 3)
        rw [e1] at h1
        rw [e2]
        obtain ⟨a3, y3, b3, k1, k2, k3⟩ := h1.row
        exact ⟨⟨a3, y3, b3, k1, fun h => absurd h (show ¬ ((3 : Int) = 0) by decide), k3⟩, h1.ln, R1.out.pl, h1.max, h1.text⟩
      clear h1 h2 c0 c1 c2 c3 c4 f1 DX CX C1 R1
      go_wp2_with fail
      go_ret
      exact ⟨_, rfl, by rw [E.out]; exact Or.inl ⟨rfl, rfl⟩, by rw [E.out]; exact R2.out, C2.out⟩
    · have E : Hid (r.bytes most = r1.take c) := by
        show r.bytes most = _
        rw [EB.out, if_neg hm]
      have NX : Hid (Below w1.heap.size w1 (w1.alloc (.cells #[] 5))) := (Below.refl _ _).alloc (Nat.le_refl _) _
      have hg := R1.out.lt
      clear hrow hz hnn h0 EB
      go_wp2_with fail
      refine (dtake_any g ao alen acap r1 c _ (by omega) (R1.out.below NX.out)).mono ?_
      rintro e w2 ⟨v, rfl, hv, h1, h2⟩
      rw [← E.out] at hv h1
      have SV := hide hv
      have R2 := hide h1
      have C2 := hide (C1.out.trans ((Chg.ofBelow' (p := fun k => k = g) NX.out).trans h2 (fun _ _ h => h)) (fun _ _ h => h))
      have U2 := hide ((urow_empty w1).chg h2 (fun k hk e => by have hk2 : some w1.heap.size = some k := hk; have := Option.some.inj hk2; omega))
      have hlx : (r.bytes most).2.length ≤ 65536 := by rw [E.out]; have := r1.take_len c; omega
      have hs1 := C1.out.size
      have ST : Hid (∀ W1, Chg (fun k => k = g) w1 W1 → Stays (fun k => k = g) W1 (.slice ao alen acap) (r.bytes most).1.bs) := fun W1 k1 => by rw [E.out, S.Rd.take_bs]; exact R1.out.text.on k1 (fun _ _ h => h)
      have C12 := hide ((Chg.ofBelow' (p := fun k => k = g) NX.out).trans h2 (fun _ _ h => h))
      generalize hXS : (r.bytes most).2 = XS at *
      generalize hXR : (r.bytes most).1 = XR at *
      have HXS := hide hXS
      have HXR := hide hXR
      clear hv h1 h2 c0 c1 c2 c3 c4 E R1 NX hXS hXR
      go_wp2_with (at_builtin; (refine wpList_append_known rfl (.tmp 28) (.tmp 31) 24 24 rfl _ _ rfl rfl (run_append_row _ _ _ [] XS 24 U2.out SV.out (by show 0 + XS.length ≤ _; omega)) ?_; rintro v1 w3 ⟨hu1, hg1, ho1⟩))
      rw [List.nil_append] at hu1
      have hc3 : Chg (fun k => k = w1.heap.size) w2 w3 := (Chg.refl _ _).grown hg1 (fun k _ e => by have e2 : some w1.heap.size = some k := e; exact (Option.some.inj e2).symm)
      have C3 := hide (C2.out.trans hc3 (fun k hk e => by omega))
      have R3 := hide (R2.out.chg hc3 (by omega) (ST.out w3 (C12.out.trans hc3 (fun k hk e => by omega))))
      have S3 := hide (hu1.sliceAt (by omega))
      clear hu1 hg1 ho1 hc3
      go_wp2_with fail
      go_ret
      exact ⟨_, rfl, by rw [HXS.out]; exact S3.out, by rw [HXR.out]; exact R3.out, C3.out⟩
  · have b0 : (r1.why != 0) = true := by simp [h0]
    have E : Hid (r.bytes most = (r1, [])) := by
      show r.bytes most = _
      rw [EB.out]
      have e1 : (if most < (c : Int) then r1.refuse (r.pl : Int) 3 else r1) = r1 := by
        split
        · unfold S.Rd.refuse; rw [if_neg h0]
        · rfl
      rw [e1]
      unfold S.Rd.take
      rw [if_neg h0]
    clear hrow hz hnn h0 EB
    go_wp2_with fail
    go_ret
    exact ⟨_, rfl, by rw [E.out]; exact Or.inl ⟨rfl, rfl⟩, by rw [E.out]; exact R1.out, C1.out⟩
end Go.Proofs.YtdhaeepaemneaaaDoor
