/- The document's Flush and Crash. -/
import Derived.Test.YtjnbjgkcliaipaaPut
import Derived.Test.YtjnbjgkcliaipaaDuo
namespace Go.Proofs.Ytjnbjgkcliaipaa
open Go.RowKit
theorem wcells_at (ws : List (Nat × Value)) (k : Nat) (hk : k < ws.length) : (wcells ws)[k * 2]? = some (.int .i64 ((ws.getD k (0, nilv)).1 : Int)) ∧ (wcells ws)[k * 2 + 1]? = some (ws.getD k (0, nilv)).2 := by
  induction ws generalizing k with
  | nil => simp at hk
  | cons x r ih =>
    show ([.int .i64 (x.1 : Int), x.2] ++ wcells r)[k * 2]? = _ ∧ ([.int .i64 (x.1 : Int), x.2] ++ wcells r)[k * 2 + 1]? = _
    cases k with
    | zero => exact ⟨rfl, rfl⟩
    | succ k =>
      have := ih k (by simpa using hk)
      rw [show (k + 1) * 2 = k * 2 + 2 from by omega, show k * 2 + 2 + 1 = (k * 2 + 1) + 2 from by omega]
      rw [List.getElem?_append_right (by simp), List.getElem?_append_right (by simp)]
      simpa using this
theorem RkIs.wat {w : World} {r : Ro} {d : S.Dk} (h : RkIs w r d) {gp c : Nat} (hpv : r.pv = .slice (some ⟨gp, 0, none⟩) r.ws.length c) (k : Nat) (hk : k < r.ws.length) : w.cell? ⟨gp, k * 2, none⟩ = some (.int .i64 ((r.wn k).1 : Int)) ∧ w.cell? ⟨gp, k * 2 + 1, none⟩ = some (r.wn k).2 := by
  have hp := h.pend
  rw [hpv] at hp
  obtain ⟨h1, h2⟩ := wcells_at r.ws k hk
  exact ⟨(hp.cellAt (k * 2) (by omega)).trans h1, (hp.cellAt (k * 2 + 1) (by omega)).trans h2⟩
theorem RkIs.pform {w : World} {r : Ro} {d : S.Dk} (h : RkIs w r d) (hp : 0 < r.ws.length) : ∃ gp c, r.pv = .slice (some ⟨gp, 0, none⟩) r.ws.length c := by
  rcases h.pend.2 with ⟨_, h3⟩ | ⟨g, cap, cur, h1, _⟩
  · omega
  · exact ⟨g, cap, h1⟩
/-- The pending writes are let go. -/
theorem RkIs.clear {w : World} {r : Ro} {d : S.Dk} (h : RkIs w r d) : RkIs (w.setCell ⟨r.g, 1, none⟩ (.slice none 0 0)) { r with pv := .slice none 0 0, ws := [] } { d with pend := [] } ∧ RkTo r w { r with pv := .slice none 0 0, ws := [] } (w.setCell ⟨r.g, 1, none⟩ (.slice none 0 0)) := by
  have R := heap_setCell_same _ _ 1 _ _ (.slice none 0 0) h.row
  have hc : Chg (fun k => k = r.g) w (w.setCell ⟨r.g, 1, none⟩ (.slice none 0 0)) := (Chg.refl (fun k => k = r.g) w).setCell r.g 1 _ (fun _ => rfl)
  have hc' : Chg r.has w (w.setCell ⟨r.g, 1, none⟩ (.slice none 0 0)) := hc.mono (fun k _ e => Or.inl e)
  have ht := h.texts hc'
  refine ⟨⟨R, ownsRow_chg h.safe (fun k hk => hc.block k (h.safe.lt k hk).2 (fun e => h.sep.1 (by rw [← e]; exact hk))), World.ownsRow_nil _ 0 81 2, h.sl, rfl, ht.1, fun k hk => absurd hk (Nat.not_lt_zero _), ⟨h.ok.len, fun k hk => absurd hk (Nat.not_lt_zero _), h.ok.few⟩, h.left, ⟨h.sep.1, fun e => (by cases e), fun k _ e => (by cases e)⟩, fun k hk => ?_⟩, rfl, hc', fun k hk => ?_, fun k hk => ?_⟩
  · rcases hk with ⟨i, hi, e⟩ | ⟨i, hi, e⟩
    · intro e'
      refine h.tsep k (Or.inl ⟨i, hi, e⟩) ?_
      rcases e' with e' | e' | e'
      · exact Or.inl e'
      · exact Or.inr (Or.inl e')
      · cases e'
    · exact absurd hi (Nat.not_lt_zero _)
  · rcases hk with e' | e' | e'
    · exact Or.inl (Or.inl e')
    · exact Or.inl (Or.inr (Or.inl e'))
    · cases e'
  · rcases hk with ⟨i, hi, e⟩ | ⟨i, hi, e⟩
    · exact Or.inl (Or.inl ⟨i, hi, e⟩)
    · exact absurd hi (Nat.not_lt_zero _)
theorem rflush_stop (r : Ro) (d : S.Dk) (w : World) (hd : RkIs w r d) (hg : d.goes = false) :
   Calls Try.prog 25 #[.pointer (some ⟨r.g, 0, none⟩)] w fun e w' => e = .returned (.int .i64 13) ∧ RkIs w' r d ∧ RkTo r w r w' := by
  have HD := hide hd
  have T := hide (S.Dk.tried_no hg)
  clear hd
  go_enter Try.func25, Try.ntmps25
  go_wp2_with fail
  refine (rgoes_any r d w HD.out).mono ?_
  rintro e w1 ⟨rfl, h1, h2⟩
  rw [T.out] at h1
  have H1 := hide h1
  have H2 := hide h2
  clear h1 h2
  go_wp2
  go_ret
  exact ⟨rfl, H1.out, H2.out⟩
set_option maxHeartbeats 1600000 in
set_option maxRecDepth 100000 in
theorem rflush_yes (r : Ro) (d : S.Dk) (w : World) (hd : RkIs w r d) (hg : d.goes = true) (hb : d.pend.length ≤ 1000000) :
   Calls Try.prog 25 #[.pointer (some ⟨r.g, 0, none⟩)] w fun e w' => e = .returned (.int .i64 0) ∧ ∃ r', RkIs w' r' d.went.flush ∧ RkTo r w r' w' := by
  have HD := hide hd
  have T := hide (S.Dk.tried_yes hg)
  clear hd
  go_enter Try.func25, Try.ntmps25
  go_wp2_with fail
  refine (rgoes_any r d w HD.out).mono ?_
  rintro e w1 ⟨rfl, h1, h2⟩
  rw [T.out] at h1
  obtain ⟨DW, hDW⟩ : ∃ DW, DW = d.went := ⟨_, rfl⟩
  obtain ⟨N, hN⟩ : ∃ N, N = DW.pend.length := ⟨_, rfl⟩
  have hNb : N ≤ 1000000 := by rw [hN, hDW]; exact hb
  rw [← hDW] at h1
  obtain ⟨DWK, hDWK⟩ : ∃ DWK : Nat → S.Dk, DWK = fun k => { DW with safe := S.overTo DW.safe DW.pend k } := ⟨_, rfl⟩
  have HDWK : Hid (∀ k, (DWK k).pend = DW.pend) := fun k => by rw [hDWK]
  have HDWL : Hid (∀ k, (DWK k).safe.length = DW.safe.length) := fun k => by rw [hDWK]; exact S.overTo_length _ _ _
  have HDWN : Hid (∀ k, DWK (k + 1) = { DWK k with safe := (DWK k).safe.set (S.Ws.nth DW.pend k).1 (S.Ws.nth DW.pend k).2 }) := fun k => by rw [hDWK]; rfl
  have HDWS : Hid (∀ k, k ≤ N → ∀ i, i < DW.safe.length → ((DWK k).safe.getD i []).length = 128) := fun k hk i hi => by rw [hDWK]; exact S.overTo_len128 h1.ok.len h1.ok.pend k (by rw [← hN]; exact hk) i hi
  have HD0 : Hid (DWK 0 = DW) := by show DWK 0 = DW; rw [hDWK]; rfl
  have HDF : Hid ({ DWK N with pend := [] } = DW.flush) := by show _ = _; rw [hDWK, hN]; rfl
  have HDW := hide hDW
  have HN := hide hN
  have HOK := hide h1.ok
  have H1 := hide h1
  have H2 := hide h2
  clear h1 h2 hDW hN hb hDWK
  go_wp2_with fail
  go_loopw [3] (fun i wr => ∃ k : Nat, k ≤ N ∧ i = .int .i64 (k : Int) ∧ ∃ r', RkIs wr r' (DWK k) ∧ RkTo r w1 r' wr) (fun i _ => N - (intOf i).toNat)
  case atStart => exact ⟨0, Nat.zero_le _, rfl, r, by rw [HD0.out]; exact H1.out, RkTo.refl _ _⟩
  case round =>
    obtain ⟨k, hk, rfl, r', hr, ht⟩ := hrel
    by_cases hlt : k < N
    · have hltp : k < (DWK k).pend.length := by rw [HDWK.out, ← HN.out]; exact hlt
      have hkr : k < r'.ws.length := by rw [hr.pl]; exact hltp
      obtain ⟨gp, cp, hpv⟩ := hr.pform (by omega)
      obtain ⟨p0, p1⟩ := hr.wat hpv k hkr
      obtain ⟨e1, u1⟩ := hr.pt k hkr
      obtain ⟨x, hx⟩ : ∃ x, x = S.Ws.nth DW.pend k := ⟨_, rfl⟩
      have hokk := HOK.out.pend k (by rw [← HN.out]; exact hlt)
      have hxe : S.Ws.nth (DWK k).pend k = x := by rw [hx, HDWK.out]
      rw [hxe] at e1 u1
      rw [← hx] at hokk
      have hxn : x.1 < (DWK k).safe.length := by rw [HDWL.out]; exact hokk.1
      have hutb : ∀ j, (r'.wn k).2.ownBlock = some j → ¬ r'.has j := fun j hj => hr.tsep j (Or.inr ⟨k, hkr, hj⟩)
      obtain ⟨gt, ct, curt, hu1, -, -, -, -, -⟩ := u1.lay (by omega)
      rw [hokk.2] at hu1
      have cpv := (cells3 hr.row).2.1
      rw [hpv, hr.pl, HDWK.out, ← HN.out] at cpv
      rw [e1] at p0
      rw [hu1] at p1 u1 hutb
      have q1 : (0 : Int) ≤ (k : Int) := by omega
      have q2 : (k : Int) < (N : Int) := by omega
      have q3 : IntKind.i64.wrap ((k : Int) + 1) = (k : Int) + 1 := by rw [IntKind.wrap_i64]; omega
      have HX := hide hx
      have HR := hide hr
      have HT := hide ht
      have HU := hide u1
      have HUB := hide hutb
      have HKK := hide hokk
      have HXN := hide hxn
      have HRG : Hid (r'.g = r.g) := ht.g
      rw [ht.g] at cpv
      clear hr ht hpv e1 u1 hu1 hx hxe hutb hokk hxn hkr
      go_wp2_with fail
      have CALL := put_any r' (DWK k) x.1 128 _ x.2 wr HR.out HXN.out HU.out HUB.out HKK.out.2 (by omega)
      rw [HRG.out, S.mix_all _ _ HKK.out.2 (HDWS.out k hk x.1 HKK.out.1)] at CALL
      refine CALL.mono ?_
      clear CALL
      rintro e w3 ⟨rfl, r2, h3, h4⟩
      have HN3 : Hid (RkIs w3 r2 (DWK (k + 1))) := by show RkIs _ _ _; rw [HDWN.out, ← HX.out]; exact h3
      have HT3 := hide (HT.out.trans h4)
      clear h3 h4 p0 p1 cpv HR HU HUB
      go_wp2_with fail
      go_roundw
      case rel => exact ⟨k + 1, by omega, by go_num, r2, HN3.out, HT3.out⟩
      case measure => simp [intOf]; omega
    · obtain rfl : k = N := by omega
      obtain ⟨ao, ca, hpf⟩ := ownsRow_form hr.pend
      have cpv := (cells3 hr.row).2.1
      rw [hpf, hr.pl, HDWK.out, ← HN.out] at cpv
      have f1 := frozen_of_row _ _ 1 _ _ hr.row
      rw [ht.g] at cpv f1
      have q2 : ¬ ((k : Int) < (k : Int)) := by omega
      have FIN := hide hr.clear
      have HT := hide ht
      have HRG := hide ht.g
      clear hr ht hpf
      go_wp2_with fail
      go_ret
      rw [HRG.out] at FIN
      refine ⟨rfl, _, ?_, H2.out.trans (HT.out.trans FIN.out.2)⟩
      rw [← HDW.out, ← HDF.out]
      exact FIN.out.1
set_option maxHeartbeats 3200000 in
set_option maxRecDepth 100000 in
theorem rcrash_any (r : Ro) (d : S.Dk) (v : Value) (c : S.Cut) (w : World) (hd : RkIs w r d) (hb : d.pend.length ≤ 1000000) (hk : ∀ W, Chg r.has w W → BoolsAt W v c.keep) :
   Calls Try.prog 27 #[.pointer (some ⟨r.g, 0, none⟩), v, .int .i64 c.torn, .int .i64 c.bytes] w fun e w' => e = .returned (.tuple #[]) ∧ ∃ r', RkIs w' r' (d.crash c) ∧ RkTo r w r' w' := by
  obtain ⟨aok, capk, rfl, -, -⟩ := hk w (Chg.refl _ _)
  obtain ⟨KL, hKL⟩ : ∃ KL, KL = c.keep.length := ⟨_, rfl⟩
  rw [← hKL] at hk ⊢
  obtain ⟨DW, hDW⟩ : ∃ DW, DW = d := ⟨_, rfl⟩
  obtain ⟨N, hN⟩ : ∃ N, N = DW.pend.length := ⟨_, rfl⟩
  have hNb : N ≤ 1000000 := by rw [hN, hDW]; exact hb
  rw [← hDW] at hd
  obtain ⟨DWK, hDWK⟩ : ∃ DWK : Nat → S.Dk, DWK = fun k => { DW with safe := S.crashTo c DW.safe DW.pend k } := ⟨_, rfl⟩
  have HDWK : Hid (∀ k, (DWK k).pend = DW.pend) := fun k => by rw [hDWK]
  have HDWL : Hid (∀ k, (DWK k).safe.length = DW.safe.length) := fun k => by rw [hDWK]; exact S.crashTo_length _ _ _ _
  have HDWN : Hid (∀ k, DWK (k + 1) = { DWK k with safe := (DWK k).safe.set (S.Ws.nth DW.pend k).1 (S.mix (c.of k) (S.Ws.nth DW.pend k).2 ((DWK k).safe.getD (S.Ws.nth DW.pend k).1 [])) }) := fun k => by rw [hDWK]; rfl
  have HDWS : Hid (∀ k, k ≤ N → ∀ i, i < DW.safe.length → ((DWK k).safe.getD i []).length = 128) := fun k hk i hi => by rw [hDWK]; exact S.crashTo_len128 hd.ok.len hd.ok.pend k (by rw [← hN]; exact hk) i hi
  have HD0 : Hid (DWK 0 = DW) := by show DWK 0 = DW; rw [hDWK]; rfl
  have HDF : Hid ({ DWK N with pend := [], left := none } = DW.crash c) := by show _ = _; rw [hDWK, hN]; rfl
  obtain ⟨TN, hTN⟩ : ∃ T, T = c.torn := ⟨_, rfl⟩
  obtain ⟨BB, hBB⟩ : ∃ B : Nat, B = (min (max c.bytes 0) 128).toNat := ⟨_, rfl⟩
  have hBB128 : BB ≤ 128 := by omega
  rw [← hTN]
  have HTN := hide hTN
  have HBB := hide hBB
  have HDW := hide hDW
  have HN := hide hN
  have HOK := hide hd.ok
  have H1 := hide hd
  have HK := hide hk
  clear hd hDW hN hb hDWK hk hKL hTN
  go_enter Try.func27, Try.ntmps27
  go_upto_if 10 with fail
  go_cut [3] (fun x wc => w = wc ∧ x = .int .i64 (max c.bytes 0))
  case first =>
    by_cases h1 : c.bytes < 0
    · have e : Hid (max c.bytes 0 = 0) := by show max c.bytes 0 = 0; omega
      go_wp2_with fail
      go_meet
      exact ⟨rfl, by rw [e.out]⟩
    · have e : Hid (max c.bytes 0 = c.bytes) := by show max c.bytes 0 = c.bytes; omega
      go_wp2_with fail
      go_meet
      exact ⟨rfl, by rw [e.out]⟩
  case rest =>
  obtain ⟨rfl, rfl⟩ := hcut
  obtain ⟨B1, hB1⟩ : ∃ B1, B1 = max c.bytes 0 := ⟨_, rfl⟩
  rw [← hB1]
  have HB1 := hide hB1
  clear hBB hB1
  go_upto_if 12 with fail
  go_cut [3] (fun x wc => w = wc ∧ x = .int .i64 (BB : Int))
  case first =>
    by_cases h2 : 128 < B1
    · have e : Hid ((BB : Int) = 128) := by show (BB : Int) = 128; have := HB1.out; have := HBB.out; omega
      go_wp2_with fail
      go_meet
      exact ⟨rfl, by rw [e.out]⟩
    · have e : Hid ((BB : Int) = B1) := by show (BB : Int) = B1; have := HB1.out; have := HBB.out; omega
      go_wp2_with fail
      go_meet
      exact ⟨rfl, by rw [e.out]⟩
  case rest =>
  obtain ⟨rfl, rfl⟩ := hcut
  clear HB1
  go_wp2_with fail
  go_loopw [8] (fun i wr => ∃ k : Nat, k ≤ N ∧ i = .int .i64 (k : Int) ∧ ∃ r', RkIs wr r' (DWK k) ∧ RkTo r w r' wr) (fun i _ => N - (intOf i).toNat)
  case atStart => exact ⟨0, Nat.zero_le _, rfl, r, by rw [HD0.out]; exact H1.out, RkTo.refl _ _⟩
  case round =>
    obtain ⟨k, hk, rfl, r', hr, ht⟩ := hrel
    by_cases hlt : k < N
    · have hltp : k < (DWK k).pend.length := by rw [HDWK.out, ← HN.out]; exact hlt
      obtain ⟨ak', ck', hke, -, hkc⟩ := HK.out wr ht.chg
      simp only [Value.slice.injEq] at hke
      obtain ⟨rfl, hKL, rfl⟩ := hke
      have HKL := hide hKL
      clear hKL
      have hkr : k < r'.ws.length := by rw [hr.pl]; exact hltp
      obtain ⟨gp, cp, hpv⟩ := hr.pform (by omega)
      obtain ⟨p0, p1⟩ := hr.wat hpv k hkr
      obtain ⟨e1, u1⟩ := hr.pt k hkr
      obtain ⟨x, hx⟩ : ∃ x, x = S.Ws.nth DW.pend k := ⟨_, rfl⟩
      have hokk := HOK.out.pend k (by rw [← HN.out]; exact hlt)
      have hxe : S.Ws.nth (DWK k).pend k = x := by rw [hx, HDWK.out]
      rw [hxe] at e1 u1
      rw [← hx] at hokk
      have hxn : x.1 < (DWK k).safe.length := by rw [HDWL.out]; exact hokk.1
      have hutb : ∀ j, (r'.wn k).2.ownBlock = some j → ¬ r'.has j := fun j hj => hr.tsep j (Or.inr ⟨k, hkr, hj⟩)
      obtain ⟨gt, ct, curt, hu1, -, -, -, -, -⟩ := u1.lay (by omega)
      rw [hokk.2] at hu1
      have cpv := (cells3 hr.row).2.1
      rw [hpv, hr.pl, HDWK.out, ← HN.out] at cpv
      rw [e1] at p0
      rw [hu1] at p1 u1 hutb
      have q1 : (0 : Int) ≤ (k : Int) := by omega
      have q2 : (k : Int) < (N : Int) := by omega
      have q3 : IntKind.i64.wrap ((k : Int) + 1) = (k : Int) + 1 := by rw [IntKind.wrap_i64]; omega
      have HX := hide hx
      have HR := hide hr
      have HT := hide ht
      have HU := hide u1
      have HUB := hide hutb
      have HKK := hide hokk
      have HXN := hide hxn
      have HRG : Hid (r'.g = r.g) := ht.g
      rw [ht.g] at cpv
      clear hr ht hpv e1 u1 hu1 hx hxe hutb hokk hxn hkr
      by_cases hk1 : k < KL
      · obtain ⟨bb, oo, hao, hbb, hbc⟩ := hkc (by have := HKL.out; omega)
        subst hao
        have hcb := hbc k (by have := HKL.out; omega)
        have q5 : (k : Int) < (KL : Int) := by omega
        clear hbb hbc hkc
        cases hkb : c.keep.getD k false
        · rw [hkb] at hcb
          by_cases htn : (k : Int) = TN
          · have E : Hid (c.of k = BB) := by show c.of k = BB; rw [S.Cut.of_torn hkb (by rw [← HTN.out]; exact htn)]; exact HBB.out.symm
            have htn' : ((k : Int) == TN) = true := by rw [beq_iff_eq]; exact htn
            clear hkb htn
            go_wp2_with fail
            have CALL := put_any r' (DWK k) x.1 BB _ x.2 wr HR.out HXN.out HU.out HUB.out HKK.out.2 (by omega)
            rw [HRG.out] at CALL
            refine CALL.mono ?_
            clear CALL
            rintro e w3 ⟨rfl, r2, h3, h4⟩
            have HN3 : Hid (RkIs w3 r2 (DWK (k + 1))) := by show RkIs _ _ _; rw [HDWN.out, ← HX.out, E.out]; exact h3
            have HT3 := hide (HT.out.trans h4)
            clear h3 h4 p0 p1 cpv HR HU HUB
            go_wp2_with fail
            go_roundw
            case rel => exact ⟨k + 1, by omega, by go_num, r2, HN3.out, HT3.out⟩
            case measure => simp [intOf]; omega
          · have E : Hid (c.of k = 0) := S.Cut.of_lost hkb (by rw [← HTN.out]; exact htn)
            have htn' : ((k : Int) == TN) = false := by rw [beq_eq_false_iff_ne]; exact htn
            clear hkb htn
            have HN3 : Hid (RkIs wr r' (DWK (k + 1))) := by
              show RkIs _ _ _
              rw [HDWN.out, E.out, S.mix_none, ← HX.out]
              have e : (DWK k).safe.set x.1 ((DWK k).safe.getD x.1 []) = (DWK k).safe := by
                rw [List.getD_eq_getElem?_getD, List.getElem?_eq_getElem HXN.out]
                simp
              rw [e]
              exact HR.out
            go_wp2_with fail
            go_roundw
            case rel => exact ⟨k + 1, by omega, by go_num, r', HN3.out, HT.out⟩
            case measure => simp [intOf]; omega
        · rw [hkb] at hcb
          have E : Hid (c.of k = 128) := S.Cut.of_keep hkb
          clear hkb
          go_wp2_with fail
          have CALL := put_any r' (DWK k) x.1 128 _ x.2 wr HR.out HXN.out HU.out HUB.out HKK.out.2 (by omega)
          rw [HRG.out] at CALL
          refine CALL.mono ?_
          clear CALL
          rintro e w3 ⟨rfl, r2, h3, h4⟩
          have HN3 : Hid (RkIs w3 r2 (DWK (k + 1))) := by show RkIs _ _ _; rw [HDWN.out, ← HX.out, E.out]; exact h3
          have HT3 := hide (HT.out.trans h4)
          clear h3 h4 p0 p1 cpv HR HU HUB
          go_wp2_with fail
          go_roundw
          case rel => exact ⟨k + 1, by omega, by go_num, r2, HN3.out, HT3.out⟩
          case measure => simp [intOf]; omega
      · have q5 : ¬ ((k : Int) < (KL : Int)) := by omega
        have hkb : c.keep.getD k false = false := by rw [List.getD_eq_getElem?_getD, List.getElem?_eq_none (by have := HKL.out; omega)]; rfl
        clear hkc
        by_cases htn : (k : Int) = TN
        · have E : Hid (c.of k = BB) := by show c.of k = BB; rw [S.Cut.of_torn hkb (by rw [← HTN.out]; exact htn)]; exact HBB.out.symm
          have htn' : ((k : Int) == TN) = true := by rw [beq_iff_eq]; exact htn
          clear hkb htn
          go_wp2_with fail
          have CALL := put_any r' (DWK k) x.1 BB _ x.2 wr HR.out HXN.out HU.out HUB.out HKK.out.2 (by omega)
          rw [HRG.out] at CALL
          refine CALL.mono ?_
          clear CALL
          rintro e w3 ⟨rfl, r2, h3, h4⟩
          have HN3 : Hid (RkIs w3 r2 (DWK (k + 1))) := by show RkIs _ _ _; rw [HDWN.out, ← HX.out, E.out]; exact h3
          have HT3 := hide (HT.out.trans h4)
          clear h3 h4 p0 p1 cpv HR HU HUB
          go_wp2_with fail
          go_roundw
          case rel => exact ⟨k + 1, by omega, by go_num, r2, HN3.out, HT3.out⟩
          case measure => simp [intOf]; omega
        · have E : Hid (c.of k = 0) := S.Cut.of_lost hkb (by rw [← HTN.out]; exact htn)
          have htn' : ((k : Int) == TN) = false := by rw [beq_eq_false_iff_ne]; exact htn
          clear hkb htn
          have HN3 : Hid (RkIs wr r' (DWK (k + 1))) := by
            show RkIs _ _ _
            rw [HDWN.out, E.out, S.mix_none, ← HX.out]
            have e : (DWK k).safe.set x.1 ((DWK k).safe.getD x.1 []) = (DWK k).safe := by
              rw [List.getD_eq_getElem?_getD, List.getElem?_eq_getElem HXN.out]
              simp
            rw [e]
            exact HR.out
          go_wp2_with fail
          go_roundw
          case rel => exact ⟨k + 1, by omega, by go_num, r', HN3.out, HT.out⟩
          case measure => simp [intOf]; omega
    · obtain rfl : k = N := by omega
      obtain ⟨ao, ca, hpf⟩ := ownsRow_form hr.pend
      have cpv := (cells3 hr.row).2.1
      rw [hpf, hr.pl, HDWK.out, ← HN.out] at cpv
      have cl2 := (cells3 hr.row).2.2
      have f1 := frozen_of_row _ _ 1 _ _ hr.row
      have f2 := frozen_of_row _ _ 2 _ _ hr.row
      rw [ht.g] at cpv f1 f2 cl2
      have q2 : ¬ ((k : Int) < (k : Int)) := by omega
      have F1 := hr.clear
      have F2 := F1.1.count none (fun k hk => (by cases hk)) (-1) rfl
      have FIN := hide (And.intro F2.1 (F1.2.trans F2.2))
      have HT := hide ht
      have HRG := hide ht.g
      clear hr ht hpf F1 F2
      go_wp2_with fail
      go_end0
      have FI := FIN.out
      simp only [HRG.out] at FI
      refine ⟨rfl, _, ?_, HT.out.trans FI.2⟩
      rw [← HDW.out, ← HDF.out]
      exact FI.1
end Go.Proofs.Ytjnbjgkcliaipaa
