/- Package kv: Do. -/
import Derived.Test.YteealihknndclabGreatDoorVad
import Derived.Test.YteealihknndclabGreatDoorEd
import Derived.Test.YteealihknndclabGreatDoorBase
namespace Go.Proofs.YteealihknndclabGreatDoor
open Go.RowKit
theorem Els.at0 {w : World} {v : Value} {d : List KcV} (h : Els bS w v d) (hne : d ≠ []) : ∃ b off cap, v = .slice (some ⟨b, off, none⟩) d.length cap := by
 rcases h with ⟨rfl, rfl⟩ | ⟨a, cap, rfl, rfl⟩ | ⟨b, off, cap, rfl, _⟩
 ·exact absurd rfl hne
 ·exact absurd rfl hne
 ·exact ⟨b, off, cap, rfl⟩
theorem uO {w W : World} {d : List KcV} {d' : List ChV} {cs : List (UInt8 × S.Cg)} (hg : d.all KcV.good = true) (hc : jD w d cs) (ha : dI W d' (cs.map S.tr)) : d'.all ChV.good = true /\ ∀ x ∈ d', x.kn <= 1000 /\ x.vn <= 1000 := by
 have key : ∀ x ∈ d', 1 <= x.kn /\ x.kn <= 40 /\ x.vn <= 400 := fun x hx => by
  obtain ⟨i, hi, rfl⟩ := List.mem_iff_getElem.1 hx
  have hl : i < cs.length := by have := ha.1; rw [List.length_map] at this; omega
  have hd : i < d.length := by have := hc.1; omega
  have h1 := ha.2 i _ _ (List.getElem?_eq_getElem hi) (by rw [List.getElem?_map, List.getElem?_eq_getElem hl]; rfl)
  have h2 := hc.2 i _ _ (List.getElem?_eq_getElem hd) (List.getElem?_eq_getElem hl)
  have h3 : d[i].good = true := List.all_eq_true.1 hg _ (List.getElem_mem hd)
  simp [KcV.good] at h3
  obtain ⟨_, _, _, e1, l1, _⟩ := h1.key.form
  obtain ⟨_, _, _, e2, l2, _⟩ := h1.val.form
  obtain ⟨_, _, _, e3, l3, _⟩ := h2.key.form
  obtain ⟨_, _, _, e4, l4, _⟩ := h2.val.form
  simp only [Value.slice.injEq] at e1 e2 e3 e4
  have m1 := e1.2.1.trans l1
  have m2 := e2.2.1.trans l2
  have m3 := e3.2.1.trans l3
  have m4 := e4.2.1.trans l4
  simp [S.tr] at m1 m2
  omega
 refine ⟨List.all_eq_true.2 (fun x hx => ?_), fun x hx => ?_⟩
 ·have := key x hx
  simp [ChV.good]
  omega
 ·have := key x hx
  omega
theorem vF {w : World} {d : List KcV} {cs : List (UInt8 × S.Cg)} (hg : d.all KcV.good = true) (hc : jD w d cs) : ∀ c ∈ cs, c.2.key.length <= 1000000 := fun c hcm => by
 obtain ⟨i, hi, rfl⟩ := List.mem_iff_getElem.1 hcm
 have hd : i < d.length := by have := hc.1; omega
 have h2 := hc.2 i _ _ (List.getElem?_eq_getElem hd) (List.getElem?_eq_getElem hi)
 have h3 : d[i].good = true := List.all_eq_true.1 hg _ (List.getElem_mem hd)
 simp [KcV.good] at h3
 obtain ⟨_, _, _, e3, l3, _⟩ := h2.key.form
 simp only [Value.slice.injEq] at e3
 have m3 := e3.2.1.trans l3
 omega
set_option maxHeartbeats 16000000 in
set_option maxRecDepth 100000 in
theorem Bv (w0 w : World) (o : Ow) (gk gt gs n : Nat) (bd : Int) (es : List S.Ent) (v : Value) (d : List KcV) (cs : List (UInt8 × S.Cg)) (h : KvO w0 w o gk gt gs n bd es) (hd : Els bS w v d) (hne : d ≠ []) (hl : d.length <= 19) (hg : d.all KcV.good = true) (hc : jD w d cs) (hzz : 0 < (S.gr es (cs.map S.tr)).2 /\ (S.gr es (cs.map S.tr)).2 <= 1000000 /\ bd < S.used es + (S.gr es (cs.map S.tr)).2) (hu : S.used es <= 1000000) :
  Calls Tryz.prog 7 #[.pointer (some ⟨gk, 0, none⟩), v] w fun e w' => e = .returned (.int .i64 26) /\ Below w.heap.size w w' := by
 obtain ⟨b, off, cap, rfl⟩ := hd.at0 hne
 have HB := hide h.1
 have HS := hide h.2.1
 have HNK := hide h.2.2
 have HD := hide hd
 have HG := hide hg
 have HC := hide hc
 have HNE := hide hne
 have HL := hide hl
 have HP : Hid ((d.all KcV.good && decide (d.length <= 80)) = true) := by show _ = true; simp [hg]; omega
 clear h hd hg hc hne hl
 go_enter Tryz.func7, Tryz.ntmps7
 go_wp2_with fail
 refine (iH _ d w HD.out).mono ?_
 rintro e w1 ⟨rfl, b1⟩
 rw [HP.out]
 have B1 := hide b1
 have HD1 : Hid (Els bS w1 (.slice (some ⟨b, off, none⟩) d.length cap) d) := HD.out.below b1
 have HC1 : Hid (jD w1 d cs) := ⟨HC.out.1, fun i x c hx hcx => by have q := HC.out.2 i x c hx hcx; exact ⟨q.sp, q.key.below b1 (lr _), q.val.below b1 (lr _), q.dr⟩⟩
 clear b1
 go_wp2_with fail
 refine (gM _ d cs w1 HD1.out HC1.out (by have := HL.out; omega) (vF HG.out HC.out)).mono ?_
 rintro e w2 ⟨g, d', rfl, hg2, hl2, hci, hca, b2⟩
 have C2 := hide hci
 have A2 := hide hca
 have L2 := hide hl2
 have B2 := hide (B1.out.trans (b2.mono B1.out.size))
 clear hg2 hl2 hci hca b2 HD1 HC1
 go_wp2_with fail
 obtain ⟨pg, hr, ht, hlf⟩ := (HB.out.then B2.out).rds
 have GD := hide (uO HG.out HC.out A2.out)
 have e0 := j4 _ gk gs gt g 0 d.length bd pg es d' (cs.map S.tr) w2 hr hlf ht (HS.out.below B2.out) (C2.out.els L2.out) C2.out.lt (by have := L2.out; have := HL.out; omega) (by have := L2.out; omega) A2.out GD.out.2
 rw [L2.out] at e0
 refine e0.mono ?_
 clear e0 hr ht hlf
 rintro e w3 ⟨rfl, b3⟩
 have B3 := hide (B2.out.trans (b3.mono B2.out.size))
 have C3 := hide (C2.out.below b3)
 have A3 := hide (A2.out.below b3)
 have HS3 := hide (HS.out.below B3.out)
 clear b3 B2 C2 A2 B1
 obtain ⟨z, hz⟩ : ∃ z, z = (S.gr es (cs.map S.tr)).2 := ⟨_, rfl⟩
 rw [<- hz] at hzz ⊢
 have QZ : Hid ((0 : Int) < z) := hzz.1
 have QS : Hid (IntKind.i64.wrap ((S.used es : Int) + z) = (S.used es : Int) + z) := by show _ = _; rw [IntKind.wrap_i64]; omega
 have QF : Hid (bd < (S.used es : Int) + z) := hzz.2.2
 clear hzz hz hu
 go_upto_region 5 with fail
 refine wp_region_noPanic ?_
 refine wp_region_held_drew (S := (fun Z => pu Z gk gt bd)) follows HS3.out (fun hHeld => ?_)
 have B3d : Hid (Below w.heap.size w w3.drew) := B3.out.drew
 have C3d : Hid (lG w3.drew g d.length d') := C3.out
 have A3d : Hid (dI w3.drew d' (cs.map S.tr)) := A3.out.below ((Below.refl _ _).drew)
 clear B3 C3 A3 HS3
 generalize w3.drew = Z0 at B3d C3d A3d hHeld ⊢
 refine tq 0 ?_
 simp only [uA]
 refine tk 1 ?_ rfl (Or.inl ⟨by rfl, ?_⟩) ?_
 rotate_left
 ·intro w hSw
  have q := QZ.out
  clear hSw
  go_simp
  all_goals with_reducible rfl
 simp only [uA]
 refine tq 2 ?_
 simp only [uA]
 refine tq 3 ?_
 simp only [uA]
 refine tq 5 ?_
 simp only [uA]
 refine tq 7 ?_
 simp only [uA]
 refine tq 8 ?_
 simp only [uA]
 refine tq 9 ?_
 simp only [uA]
 refine tk 10 ?_ rfl (Or.inl ⟨by rfl, ?_⟩) ?_
 rotate_left
 ·intro w hSw
  obtain ⟨c0, c1⟩ := aJ hSw
  clear hSw
  go_simp
  all_goals with_reducible rfl
 simp only [uA]
 refine r1 4 fun K hK => ?_
 go_simp
 obtain ⟨pg, hr, ht, hlf⟩ := (HB.out.then B3d.out).rds
 refine (dX _ gk gs gt bd pg es Z0 hr hlf ht hHeld).mono ?_
 rintro e Z1 ⟨rfl, bz⟩
 have B4 := hide (B3d.out.trans (bz.mono B3d.out.size))
 have C4 := hide (C3d.out.below bz)
 have A4 := hide (A3d.out.below bz)
 have hk4 := hHeld.below bz
 clear hr ht hlf bz B3d C3d A3d hHeld
 refine hK.out _ _ hk4 (fun hHeld => ?_)
 clear hK K hk4
 try simp only [uA]
 refine tk 6 ?_ rfl (Or.inl ⟨by rfl, ?_⟩) ?_
 rotate_left
 ·intro w hSw
  have q := QS.out
  clear hSw
  go_simp
  all_goals with_reducible rfl
 simp only [uA]
 refine tk 11 ?_ rfl (Or.inl ⟨by rfl, ?_⟩) ?_
 rotate_left
 ·intro w hSw
  have q := QF.out
  clear hSw
  go_simp
  all_goals with_reducible rfl
 simp only [uA]
 refine tq 12 ?_
 simp only [uA]
 refine wpAnyH_done (by kernel_rfl) ?_ _
 refine NoPanic.normal ?_
 have K4 := hide hHeld
 clear hHeld
 go_wp2_with fail
 go_ret
 exact ⟨rfl, B4.out⟩
set_option maxHeartbeats 16000000 in
set_option maxRecDepth 100000 in
theorem Bu (w0 w : World) (o : Ow) (gk gt gs n : Nat) (bd : Int) (es : List S.Ent) (v : Value) (d : List KcV) (cs : List (UInt8 × S.Cg)) (h : KvO w0 w o gk gt gs n bd es) (hd : Els bS w v d) (hne : d ≠ []) (hl : d.length <= 19) (hg : d.all KcV.good = true) (hc : jD w d cs) (hzz : (S.gr es (cs.map S.tr)).2 <= 0) (hle : es.length <= 9000) (hmk : S.bB 0 (S.mrg es (S.lasts (cs.map S.tr)))) (hn : n + 2 < 18446744073709551616) :
  Calls Tryz.prog 7 #[.pointer (some ⟨gk, 0, none⟩), v] w fun e w' => e = .returned (.int .i64 0) /\ ∃ o', o'.g = o.g /\ KvO w0 w' o' gk gt gs (n + 2) bd (S.mrg es (S.lasts (cs.map S.tr))) /\ Chg o.has w w' /\ ∀ k, o'.has k -> o.has k \/ w.heap.size <= k := by
 have HM := hide (And.intro hle (And.intro hmk hn))
 clear hle hmk hn
 obtain ⟨b, off, cap, rfl⟩ := hd.at0 hne
 have HB := hide h.1
 have HS := hide h.2.1
 have HNK := hide h.2.2
 have HD := hide hd
 have HG := hide hg
 have HC := hide hc
 have HNE := hide hne
 have HL := hide hl
 have HP : Hid ((d.all KcV.good && decide (d.length <= 80)) = true) := by show _ = true; simp [hg]; omega
 clear h hd hg hc hne hl
 go_enter Tryz.func7, Tryz.ntmps7
 go_wp2_with fail
 refine (iH _ d w HD.out).mono ?_
 rintro e w1 ⟨rfl, b1⟩
 rw [HP.out]
 have B1 := hide b1
 have HD1 : Hid (Els bS w1 (.slice (some ⟨b, off, none⟩) d.length cap) d) := HD.out.below b1
 have HC1 : Hid (jD w1 d cs) := ⟨HC.out.1, fun i x c hx hcx => by have q := HC.out.2 i x c hx hcx; exact ⟨q.sp, q.key.below b1 (lr _), q.val.below b1 (lr _), q.dr⟩⟩
 clear b1
 go_wp2_with fail
 refine (gM _ d cs w1 HD1.out HC1.out (by have := HL.out; omega) (vF HG.out HC.out)).mono ?_
 rintro e w2 ⟨g, d', rfl, hg2, hl2, hci, hca, b2⟩
 have C2 := hide hci
 have A2 := hide hca
 have L2 := hide hl2
 have B2 := hide (B1.out.trans (b2.mono B1.out.size))
 clear hg2 hl2 hci hca b2 HD1 HC1
 go_wp2_with fail
 obtain ⟨pg, hr, ht, hlf⟩ := (HB.out.then B2.out).rds
 have GD := hide (uO HG.out HC.out A2.out)
 have e0 := j4 _ gk gs gt g 0 d.length bd pg es d' (cs.map S.tr) w2 hr hlf ht (HS.out.below B2.out) (C2.out.els L2.out) C2.out.lt (by have := L2.out; have := HL.out; omega) (by have := L2.out; omega) A2.out GD.out.2
 rw [L2.out] at e0
 refine e0.mono ?_
 clear e0 hr ht hlf
 rintro e w3 ⟨rfl, b3⟩
 have B3 := hide (B2.out.trans (b3.mono B2.out.size))
 have C3 := hide (C2.out.below b3)
 have A3 := hide (A2.out.below b3)
 have HS3 := hide (HS.out.below B3.out)
 clear b3 B2 C2 A2 B1
 obtain ⟨z, hz⟩ : ∃ z, z = (S.gr es (cs.map S.tr)).2 := ⟨_, rfl⟩
 rw [<- hz] at hzz ⊢
 have QZ : Hid (decide ((0 : Int) < z) = false) := decide_eq_false (by omega)
 clear hzz hz
 go_upto_region 5 with fail
 refine wp_region_noPanic ?_
 refine wp_region_held_drew (S := (fun Z => pu Z gk gt bd)) follows HS3.out (fun hHeld => ?_)
 have B3d : Hid (Below w.heap.size w w3.drew) := B3.out.drew
 have C3d : Hid (lG w3.drew g d.length d') := C3.out
 have A3d : Hid (dI w3.drew d' (cs.map S.tr)) := A3.out.below ((Below.refl _ _).drew)
 clear B3 C3 A3 HS3
 generalize w3.drew = Z0 at B3d C3d A3d hHeld ⊢
 refine tq 0 ?_
 simp only [uA]
 refine tk 1 ?_ rfl (Or.inl ⟨by rfl, ?_⟩) ?_
 rotate_left
 ·intro w hSw
  have q := QZ.out
  clear hSw
  go_simp
  all_goals with_reducible rfl
 simp only [uA]
 refine tq 2 ?_
 simp only [uA]
 refine tk 3 undef rfl (Or.inr ⟨by rfl, rfl⟩) ?_
 simp only [uA]
 refine tk 4 undef rfl (Or.inr ⟨by rfl, rfl⟩) ?_
 simp only [uA]
 refine tk 5 undef rfl (Or.inr ⟨by rfl, rfl⟩) ?_
 simp only [uA]
 refine tk 6 undef rfl (Or.inr ⟨by rfl, rfl⟩) ?_
 simp only [uA]
 refine tk 7 undef rfl (Or.inr ⟨by rfl, rfl⟩) ?_
 simp only [uA]
 refine tk 8 undef rfl (Or.inr ⟨by rfl, rfl⟩) ?_
 simp only [uA]
 refine tk 9 undef rfl (Or.inr ⟨by rfl, rfl⟩) ?_
 simp only [uA]
 refine tk 10 undef rfl (Or.inr ⟨by rfl, rfl⟩) ?_
 simp only [uA]
 refine tk 11 undef rfl (Or.inr ⟨by rfl, rfl⟩) ?_
 simp only [uA]
 refine tq 12 ?_
 simp only [uA]
 refine wpAnyH_done (by kernel_rfl) ?_ _
 refine NoPanic.normal ?_
 have B4 := B3d
 have C4 := C3d
 have A4 := A3d
 have K4 := hide hHeld
 clear hHeld B3d C3d A3d
 obtain ⟨c0, c1⟩ := aJ K4.out
 go_wp2_with fail
 have hdo := do_ok w0 o gt gs n g 0 d.length d' (cs.map S.tr) es Z0 (HB.out.then B4.out) (C4.out.els L2.out) (by intro e; have := L2.out; rw [e] at this; exact HNE.out (List.length_eq_zero_iff.1 this.symm)) (by have := L2.out; have := HL.out; omega) (by have := L2.out; omega) GD.out.1 A4.out HM.out.1 HM.out.2.1 HM.out.2.2
 rw [L2.out] at hdo
 refine hdo.mono ?_
 clear hdo c0 c1
 rintro e w5 ⟨rfl, o', ho', hbt, hch, hown⟩
 have R1 := hide (show KvO w0 w5 o' gk gt gs (n + 2) bd (S.mrg es (S.lasts (cs.map S.tr))) from ⟨hbt, hch.row K4.out HNK.out.1, fun e => by
  rcases hown gk e with e | e
  ·exact HNK.out.1 e
  ·have := aa HS.out; have := B4.out.size; omega, HNK.out.2⟩)
 have R2 := hide ((Chg.ofBelow' (p := o.has) B4.out).trans hch (fun _ _ e => e))
 have R3 : Hid (∀ k, o'.has k -> o.has k \/ w.heap.size <= k) := fun k hk => (hown k hk).imp_right (fun e => ltr B4.out.size e)
 have R0 := hide ho'
 clear hbt hch hown ho'
 go_wp2_with fail
 go_ret
 exact ⟨rfl, o', R0.out, R1.out, R2.out, R3.out⟩
set_option maxHeartbeats 16000000 in
set_option maxRecDepth 100000 in
theorem uf (w0 w : World) (o : Ow) (gk gt gs n : Nat) (bd : Int) (es : List S.Ent) (v : Value) (d : List KcV) (cs : List (UInt8 × S.Cg)) (h : KvO w0 w o gk gt gs n bd es) (hd : Els bS w v d) (hne : d ≠ []) (hl : d.length <= 19) (hg : d.all KcV.good = true) (hc : jD w d cs) (hzz : 0 < (S.gr es (cs.map S.tr)).2 /\ (S.gr es (cs.map S.tr)).2 <= 1000000 /\ S.used es + (S.gr es (cs.map S.tr)).2 <= bd /\ S.used es <= 1000000) (hle : es.length <= 9000) (hmk : S.bB 0 (S.mrg es (S.lasts (cs.map S.tr)))) (hn : n + 2 < 18446744073709551616) :
  Calls Tryz.prog 7 #[.pointer (some ⟨gk, 0, none⟩), v] w fun e w' => e = .returned (.int .i64 0) /\ ∃ o', o'.g = o.g /\ KvO w0 w' o' gk gt gs (n + 2) bd (S.mrg es (S.lasts (cs.map S.tr))) /\ Chg o.has w w' /\ ∀ k, o'.has k -> o.has k \/ w.heap.size <= k := by
 have HM := hide (And.intro hle (And.intro hmk hn))
 clear hle hmk hn
 obtain ⟨b, off, cap, rfl⟩ := hd.at0 hne
 have HB := hide h.1
 have HS := hide h.2.1
 have HNK := hide h.2.2
 have HD := hide hd
 have HG := hide hg
 have HC := hide hc
 have HNE := hide hne
 have HL := hide hl
 have HP : Hid ((d.all KcV.good && decide (d.length <= 80)) = true) := by show _ = true; simp [hg]; omega
 clear h hd hg hc hne hl
 go_enter Tryz.func7, Tryz.ntmps7
 go_wp2_with fail
 refine (iH _ d w HD.out).mono ?_
 rintro e w1 ⟨rfl, b1⟩
 rw [HP.out]
 have B1 := hide b1
 have HD1 : Hid (Els bS w1 (.slice (some ⟨b, off, none⟩) d.length cap) d) := HD.out.below b1
 have HC1 : Hid (jD w1 d cs) := ⟨HC.out.1, fun i x c hx hcx => by have q := HC.out.2 i x c hx hcx; exact ⟨q.sp, q.key.below b1 (lr _), q.val.below b1 (lr _), q.dr⟩⟩
 clear b1
 go_wp2_with fail
 refine (gM _ d cs w1 HD1.out HC1.out (by have := HL.out; omega) (vF HG.out HC.out)).mono ?_
 rintro e w2 ⟨g, d', rfl, hg2, hl2, hci, hca, b2⟩
 have C2 := hide hci
 have A2 := hide hca
 have L2 := hide hl2
 have B2 := hide (B1.out.trans (b2.mono B1.out.size))
 clear hg2 hl2 hci hca b2 HD1 HC1
 go_wp2_with fail
 obtain ⟨pg, hr, ht, hlf⟩ := (HB.out.then B2.out).rds
 have GD := hide (uO HG.out HC.out A2.out)
 have e0 := j4 _ gk gs gt g 0 d.length bd pg es d' (cs.map S.tr) w2 hr hlf ht (HS.out.below B2.out) (C2.out.els L2.out) C2.out.lt (by have := L2.out; have := HL.out; omega) (by have := L2.out; omega) A2.out GD.out.2
 rw [L2.out] at e0
 refine e0.mono ?_
 clear e0 hr ht hlf
 rintro e w3 ⟨rfl, b3⟩
 have B3 := hide (B2.out.trans (b3.mono B2.out.size))
 have C3 := hide (C2.out.below b3)
 have A3 := hide (A2.out.below b3)
 have HS3 := hide (HS.out.below B3.out)
 clear b3 B2 C2 A2 B1
 obtain ⟨z, hz⟩ : ∃ z, z = (S.gr es (cs.map S.tr)).2 := ⟨_, rfl⟩
 rw [<- hz] at hzz ⊢
 have QZ : Hid ((0 : Int) < z) := hzz.1
 have QS : Hid (IntKind.i64.wrap ((S.used es : Int) + z) = (S.used es : Int) + z) := by show _ = _; rw [IntKind.wrap_i64]; have := hzz.2.2.2; omega
 have QF : Hid (decide (bd < (S.used es : Int) + z) = false) := decide_eq_false (by omega)
 clear hzz hz
 go_upto_region 5 with fail
 refine wp_region_noPanic ?_
 refine wp_region_held_drew (S := (fun Z => pu Z gk gt bd)) follows HS3.out (fun hHeld => ?_)
 have B3d : Hid (Below w.heap.size w w3.drew) := B3.out.drew
 have C3d : Hid (lG w3.drew g d.length d') := C3.out
 have A3d : Hid (dI w3.drew d' (cs.map S.tr)) := A3.out.below ((Below.refl _ _).drew)
 clear B3 C3 A3 HS3
 generalize w3.drew = Z0 at B3d C3d A3d hHeld ⊢
 refine tq 0 ?_
 simp only [uA]
 refine tk 1 ?_ rfl (Or.inl ⟨by rfl, ?_⟩) ?_
 rotate_left
 ·intro w hSw
  have q := QZ.out
  clear hSw
  go_simp
  all_goals with_reducible rfl
 simp only [uA]
 refine tq 2 ?_
 simp only [uA]
 refine tq 3 ?_
 simp only [uA]
 refine tq 5 ?_
 simp only [uA]
 refine tq 7 ?_
 simp only [uA]
 refine tq 8 ?_
 simp only [uA]
 refine tq 9 ?_
 simp only [uA]
 refine tk 10 ?_ rfl (Or.inl ⟨by rfl, ?_⟩) ?_
 rotate_left
 ·intro w hSw
  obtain ⟨c0, c1⟩ := aJ hSw
  clear hSw
  go_simp
  all_goals with_reducible rfl
 simp only [uA]
 refine r1 4 fun K hK => ?_
 go_simp
 obtain ⟨pg, hr, ht, hlf⟩ := (HB.out.then B3d.out).rds
 refine (dX _ gk gs gt bd pg es Z0 hr hlf ht hHeld).mono ?_
 rintro e Z1 ⟨rfl, bz⟩
 have B4 := hide (B3d.out.trans (bz.mono B3d.out.size))
 have C4 := hide (C3d.out.below bz)
 have A4 := hide (A3d.out.below bz)
 have hk4 := hHeld.below bz
 clear hr ht hlf bz B3d C3d A3d hHeld
 refine hK.out _ _ hk4 (fun hHeld => ?_)
 clear hK K hk4
 try simp only [uA]
 refine tk 6 ?_ rfl (Or.inl ⟨by rfl, ?_⟩) ?_
 rotate_left
 ·intro w hSw
  have q := QS.out
  clear hSw
  go_simp
  all_goals with_reducible rfl
 simp only [uA]
 refine tk 11 ?_ rfl (Or.inl ⟨by rfl, ?_⟩) ?_
 rotate_left
 ·intro w hSw
  have q := QF.out
  clear hSw
  go_simp
  all_goals with_reducible rfl
 simp only [uA]
 refine tq 12 ?_
 simp only [uA]
 refine wpAnyH_done (by kernel_rfl) ?_ _
 refine NoPanic.normal ?_
 have K4 := hide hHeld
 clear hHeld
 obtain ⟨c0, c1⟩ := aJ K4.out
 go_wp2_with fail
 have hdo := do_ok w0 o gt gs n g 0 d.length d' (cs.map S.tr) es Z1 (HB.out.then B4.out) (C4.out.els L2.out) (by intro e; have := L2.out; rw [e] at this; exact HNE.out (List.length_eq_zero_iff.1 this.symm)) (by have := L2.out; have := HL.out; omega) (by have := L2.out; omega) GD.out.1 A4.out HM.out.1 HM.out.2.1 HM.out.2.2
 rw [L2.out] at hdo
 refine hdo.mono ?_
 clear hdo c0 c1
 rintro e w5 ⟨rfl, o', ho', hbt, hch, hown⟩
 have R1 := hide (show KvO w0 w5 o' gk gt gs (n + 2) bd (S.mrg es (S.lasts (cs.map S.tr))) from ⟨hbt, hch.row K4.out HNK.out.1, fun e => by
  rcases hown gk e with e | e
  ·exact HNK.out.1 e
  ·have := aa HS.out; have := B4.out.size; omega, HNK.out.2⟩)
 have R2 := hide ((Chg.ofBelow' (p := o.has) B4.out).trans hch (fun _ _ e => e))
 have R3 : Hid (∀ k, o'.has k -> o.has k \/ w.heap.size <= k) := fun k hk => (hown k hk).imp_right (fun e => ltr B4.out.size e)
 have R0 := hide ho'
 clear hbt hch hown ho'
 go_wp2_with fail
 go_ret
 exact ⟨rfl, o', R0.out, R1.out, R2.out, R3.out⟩
open Go.Sort (insertionSort insOuter)
namespace S
theorem lN (c : Cg) : lasts [c] = [c] := by
 unfold lasts
 have h : srt [c] = [c] := by
  unfold srt insertionSort
  rw [insOuter]
  simp
 rw [h]
 rfl
theorem mX (a b : List Ent) : used (a ++ b) = used a + used b := by
 induction a with
 | nil => simp [used]
 | cons x a ih => simp only [List.cons_append, used, ih]; omega
theorem zT (es : List Ent) (c : Cg) : mrg es [c] = es.take (rank (es.map (·.key)) c.key) ++ ((if c.dr then [] else [⟨c.key, c.val, 0⟩]) ++ es.drop (rank (es.map (·.key)) c.key + if c.key ∈ es.map (·.key) then 1 else 0)) := by
 simp only [mrg]
theorem part (k : List UInt8) : ∀ (es : List Ent), up (es.map (·.key)) -> ∃ A B, es = A ++ B /\ rank (es.map (·.key)) k = A.length /\ (∀ x ∈ A, cO x.key k < 0) /\ ((k ∈ es.map (·.key) /\ ∃ x C, B = x :: C /\ x.key = k /\ ∀ y ∈ C, cO k y.key < 0) \/ (¬ k ∈ es.map (·.key) /\ ∀ y ∈ B, cO k y.key < 0))
 | [], _ => ⟨[], [], rfl, rfl, fun x h => by simp at h, Or.inr ⟨by simp, fun y h => by simp at h⟩⟩
 | e :: es, h => by
  have hp := List.pairwise_cons.1 h
  have zN : cO k e.key <= 0 -> ∀ y ∈ es, cO k y.key < 0 := fun h0 y hy => by
   have h1 : cO e.key y.key < 0 := hp.1 y.key (List.mem_map_of_mem hy)
   by_cases e0 : cO k e.key = 0
   ·rw [vH e0]; exact h1
   ·exact mJ (by omega) h1
  have rk0 : cO k e.key <= 0 -> rank ((e :: es).map (·.key)) k = 0 := fun h0 => by
   unfold rank
   rw [List.countP_eq_zero]
   intro a ha
   rw [List.map_cons, List.mem_cons] at ha
   have : ¬ cO a k < 0 := by
    rcases ha with rfl | ha
    ·have := lS e.key k; omega
    ·obtain ⟨y, hy, rfl⟩ := List.mem_map.1 ha
     have h2 := zN h0 y hy
     have := lS k y.key
     omega
   simpa using this
  rcases Int.lt_trichotomy (cO e.key k) 0 with h1 | h1 | h1
  ·obtain ⟨A, B, e1, e2, e3, e4⟩ := part k es hp.2
   have hne : ¬ k = e.key := fun c => by rw [<- c, di] at h1; omega
   refine ⟨e :: A, B, by rw [e1]; rfl, ?_, fun x hx => ?_, ?_⟩
   ·have : rank ((e :: es).map (·.key)) k = rank (es.map (·.key)) k + 1 := by
     unfold rank
     rw [List.map_cons, List.countP_cons_of_pos (by simpa using h1)]
    rw [this, e2]; rfl
   ·rcases List.mem_cons.1 hx with rfl | hx
    ·exact h1
    ·exact e3 x hx
   ·rcases e4 with ⟨e5, e6⟩ | ⟨e5, e6⟩
    ·exact Or.inl ⟨by rw [List.map_cons]; exact List.mem_cons_of_mem _ e5, e6⟩
    ·refine Or.inr ⟨fun c => ?_, e6⟩
     rw [List.map_cons, List.mem_cons] at c
     rcases c with c | c
     ·exact hne c
     ·exact e5 c
  ·have ek := vH h1
   refine ⟨[], e :: es, rfl, rk0 (by rw [<- ek, di]; omega), fun x hx => by simp at hx, Or.inl ⟨by rw [List.map_cons, ek]; exact List.mem_cons_self, e, es, rfl, ek, zN (by rw [<- ek, di]; omega)⟩⟩
  ·have h2 : cO k e.key < 0 := by have := lS k e.key; omega
   refine ⟨[], e :: es, rfl, rk0 (by omega), fun x hx => by simp at hx, Or.inr ⟨fun c => ?_, fun y hy => ?_⟩⟩
   ·rw [List.map_cons, List.mem_cons] at c
    rcases c with c | c
    ·rw [c, di] at h2; omega
    ·obtain ⟨y, hy, ey⟩ := List.mem_map.1 c
     have := zN (by omega) y hy
     rw [ey, di] at this; omega
   ·rcases List.mem_cons.1 hy with rfl | hy
    ·exact h2
    ·exact zN (by omega) y hy
theorem tY {es : List Ent} (h : up (es.map (·.key))) (c : Cg) : ∃ A X C, es = A ++ (X ++ C) /\ mrg es [c] = A ++ ((if c.dr then [] else [⟨c.key, c.val, 0⟩]) ++ C) /\ (∀ x ∈ A, cO x.key c.key < 0) /\ (∀ y ∈ C, cO c.key y.key < 0) /\ used X = szOf es c.key /\ (∀ x ∈ X, x.key = c.key) /\ X.length <= 1 := by
 obtain ⟨A, B, e1, e2, e3, e4⟩ := part c.key es h
 have hA : ∀ x ∈ A, ¬ x.key = c.key := fun x hx c2 => by have := e3 x hx; rw [c2, di] at this; omega
 rcases e4 with ⟨e5, x, C, rfl, ex, e7⟩ | ⟨e5, e7⟩
 ·refine ⟨A, [x], C, e1, ?_, e3, e7, ?_, by simpa using ex, by simp⟩
  ·rw [zT, e2, if_pos e5, e1, List.take_left, show A.length + 1 = (A ++ [x]).length by simp, show A ++ x :: C = (A ++ [x]) ++ C by simp, List.drop_left]
  ·unfold szOf
   rw [e1, List.find?_append, List.find?_eq_none.2 (fun y hy => by simpa using hA y hy), Option.none_or, List.find?_cons_of_pos (by simpa using ex)]
   simp [used, ex]
 ·refine ⟨A, [], B, e1, ?_, e3, e7, ?_, fun x hx => by simp at hx, by simp⟩
  ·rw [zT, e2, if_neg e5, e1, List.take_left, Nat.add_zero, List.drop_left]
  ·unfold szOf
   rw [List.find?_eq_none.2 (fun y hy => by
    have : ¬ y.key = c.key := fun e => e5 (by rw [<- e]; exact List.mem_map_of_mem hy)
    simpa using this)]
   rfl
theorem Dc {es : List Ent} (h : up (es.map (·.key))) (c : Cg) : used (mrg es [c]) + szOf es c.key = used es + now c := by
 obtain ⟨A, X, C, e1, e2, _, _, e3, _⟩ := tY h c
 rw [e2, <- e3, e1, mX, mX, mX, mX]
 unfold now
 split <;> simp [used] <;> omega
theorem Ej {es : List Ent} (h : bB 0 es) (c : Cg) (h1 : c.key ≠ []) (h2 : c.key.length <= 40) (h3 : c.val.length <= 400) (h4 : used (mrg es [c]) + 4 * (es.length + 1) <= 1019) : bB 0 (mrg es [c]) /\ (mrg es [c]).length <= es.length + 1 /\ ∀ x ∈ mrg es [c], x ∈ es /\ x.key ≠ c.key \/ c.dr = false /\ x.key = c.key := by
 obtain ⟨A, X, C, e1, e2, hA, hC, _, hX, _⟩ := tY h.up c
 have hlen : (mrg es [c]).length <= es.length + 1 := by
  rw [e2, e1]
  simp only [List.length_append]
  split <;> simp <;> omega
 have hmem : ∀ x ∈ mrg es [c], x ∈ es /\ x.key ≠ c.key \/ c.dr = false /\ x = ⟨c.key, c.val, 0⟩ := fun x hx => by
  rw [e2, List.mem_append, List.mem_append] at hx
  rcases hx with hx | hx | hx
  ·exact Or.inl ⟨by rw [e1]; simp [hx], fun e => by have := hA x hx; rw [e, di] at this; omega⟩
  ·by_cases hd : c.dr = true
   ·rw [if_pos hd] at hx; simp at hx
   ·rw [if_neg hd] at hx
    exact Or.inr ⟨by simpa using hd, by simpa using hx⟩
  ·exact Or.inl ⟨by rw [e1]; simp [hx], fun e => by have := hC x hx; rw [e, di] at this; omega⟩
 have hes : ∀ l : List Ent, fG l = used l + 4 * l.length := fun l => by
  induction l with
  | nil => rfl
  | cons x l ih =>
   have : fG (x :: l) = esz x + fG l := by simp [fG]
   rw [this, ih]
   simp only [used, esz, List.length_cons]
   omega
 refine ⟨⟨fun x hx => ?_, ?_, by omega, ?_, fun _ x hx => ?_, fun e => absurd rfl e⟩, hlen, fun x hx => ?_⟩
 ·rcases hmem x hx with h5 | ⟨_, rfl⟩
  ·exact h.ent x h5.1
  ·exact ⟨h2, h3, by show (0 : Nat) < 65536; omega, by rw [if_pos rfl]⟩
 ·have hu := h.up
  unfold up at hu ⊢
  rw [e1, List.map_append, List.map_append, List.pairwise_append, List.pairwise_append] at hu
  obtain ⟨u1, ⟨_, u3, _⟩, u5⟩ := hu
  rw [e2, List.map_append, List.map_append, List.pairwise_append, List.pairwise_append]
  refine ⟨u1, ⟨?_, u3, ?_⟩, ?_⟩
  ·split <;> simp
  ·intro a ha b hb
   split at ha
   ·simp at ha
   ·simp at ha
    subst ha
    obtain ⟨y, hy, rfl⟩ := List.mem_map.1 hb
    exact hC y hy
  ·intro a ha b hb
   obtain ⟨x, hx, rfl⟩ := List.mem_map.1 ha
   rw [List.mem_append] at hb
   rcases hb with hb | hb
   ·split at hb
    ·simp at hb
    ·simp at hb
     subst hb
     exact hA x hx
   ·exact u5 _ ha b (by rw [List.mem_append]; exact Or.inr hb)
 ·rw [hes]; omega
 ·rcases hmem x hx with h5 | ⟨_, rfl⟩
  ·exact h.leaf rfl x h5.1
  ·exact h1
 ·rcases hmem x hx with h5 | ⟨h5, rfl⟩
  ·exact Or.inl h5
  ·exact Or.inr ⟨h5, rfl⟩
theorem gr_one (es : List Ent) (c : Cg) (h1 : now c <= 1000000) (h2 : szOf es c.key <= 1000000) : (gr es [c]).2 = (now c : Int) - (szOf es c.key : Int) := by
 have hw : S.was es (.map []) c = (szOf es c.key : Int) := by unfold was; rfl
 simp only [gr, List.foldl_cons, List.foldl_nil, grStep]
 rw [hw, IntKind.wrap_i64, IntKind.wrap_i64]
 omega
end S
end Go.Proofs.YteealihknndclabGreatDoor
namespace Go.Proofs.YteealihknndclabGreatDoor
open Go.RowKit
attribute [local go_sem] Oper.semAt_some
theorem KvO.leaf {w0 w : World} {o : Ow} {gk gt gs n : Nat} {b : Int} {es : List S.Ent} (h : KvO w0 w o gk gt gs n b es) : S.bB 0 es := by
 obtain ⟨pg, _, _, h⟩ := h.1.rds
 exact h.ok
theorem KvO.below {w0 w : World} {o : Ow} {gk gt gs n : Nat} {b : Int} {es : List S.Ent} (h : KvO w0 w o gk gt gs n b es) : Below w0.heap.size w0 w := h.1.below
theorem vG {w : World} {x : KcV} {c : UInt8 × S.Cg} (h : lZ w x c) : jD w [x] [c] := ⟨rfl, fun i y d hy hd => by
 match i, hy, hd with
 | 0, hy, hd => cases hy; cases hd; exact h⟩
theorem SliceAt.len_eq {w : World} {a : Option Addr} {n c : Nat} {bs : List UInt8} (h : SliceAt w (.slice a n c) bs) : bs.length = n := by
 rcases h with ⟨h, rfl⟩ | ⟨_, _, h, _, rfl⟩ | ⟨_, _, _, h, _⟩
 ·injection h with _ h _; exact h.symm
 ·injection h with _ h _; exact h.symm
 ·injection h with _ h _; exact h.symm
theorem wu : ∀ (es : List S.Ent) (x : S.Ent), x ∈ es -> x.key.length + x.val.length <= S.used es
 | [], x, h => by simp at h
 | y :: es, x, h => by
  rcases List.mem_cons.1 h with rfl | h
  ·simp only [S.used]; omega
  ·have := wu es x h
   simp only [S.used]; omega
theorem szOf_le (es : List S.Ent) (k : List UInt8) : S.szOf es k <= S.used es := by
 unfold S.szOf
 cases h : es.find? (fun x => decide (x.key = k)) with
 | none => exact Nat.zero_le _
 | some x => exact wu es x (List.mem_of_find?_eq_some h)
structure OneDone (w0 w w' : World) (o : Ow) (gk gt gs n : Nat) (bd : Nat) (es : List S.Ent) (c : UInt8 × S.Cg) (e : Ending) : Prop where
 way : (e = .returned (.int .i64 26) /\ Below w.heap.size w w' /\ c.2.dr = false) \/
  (e = .returned (.int .i64 0) /\ ∃ o', KvO w0 w' o' gk gt gs (n + 2) bd (S.mrg es [S.tr c]) /\ S.used (S.mrg es [S.tr c]) <= bd /\ (S.mrg es [S.tr c]).length <= es.length + 1 /\ ∀ x ∈ S.mrg es [S.tr c], x ∈ es /\ x.key ≠ (S.tr c).key \/ c.2.dr = false /\ x.key = (S.tr c).key)
theorem kvOne (w0 w : World) (o : Ow) (gk gt gs n bd : Nat) (es : List S.Ent) (v : Value) (x : KcV) (c : UInt8 × S.Cg) (h : KvO w0 w o gk gt gs n bd es) (hd : Els bS w v [x]) (hx : lZ w x c) (h1 : 1 <= x.kn) (h2 : x.kn <= 30) (h4 : x.vn <= 400) (hu : S.used es <= bd) (hb : bd <= 400) (hl : es.length <= 40) (hn : n + 2 < 18446744073709551616) :
  Calls Tryz.prog 7 #[.pointer (some ⟨gk, 0, none⟩), v] w fun e w' => OneDone w0 w w' o gk gt gs n bd es c e := by
 have ek : c.2.key.length = x.kn := hx.key.len_eq
 have ev : c.2.val.length = x.vn := hx.val.len_eq
 have hk : (S.tr c).key.length = x.kn + 1 := by show (c.1 :: c.2.key).length = _; rw [List.length_cons, ek]
 have hv : (S.tr c).val.length = x.vn := ev
 have hg : [x].all KcV.good = true := by simp [KcV.good]; omega
 have hsz := szOf_le es (S.tr c).key
 have hnow : S.now (S.tr c) <= 431 := by unfold S.now; split <;> omega
 have hgr := S.gr_one es (S.tr c) (by omega) (by omega)
 have hN := h.leaf
 have hus := S.Dc hN.up (S.tr c)
 have hm : List.map S.tr [c] = [S.tr c] := rfl
 have hnode : S.used (S.mrg es [S.tr c]) <= bd -> _ := fun q => S.Ej hN (S.tr c) (by simp [S.tr]) (by omega) (by omega) (by omega)
 by_cases q1 : (S.gr es [S.tr c]).2 <= 0
 ·obtain ⟨m1, m2, m3⟩ := hnode (by omega)
  refine (Bu w0 w o gk gt gs n bd es v [x] [c] h hd (by simp) (by simp) hg (vG hx) (by rw [hm]; exact q1) (by omega) (by rw [hm, S.lN]; exact m1) hn).mono ?_
  rintro e w' ⟨rfl, o', _, hkv, _, _⟩
  rw [hm, S.lN] at hkv
  exact ⟨.inr ⟨rfl, o', hkv, by omega, m2, m3⟩⟩
 ·have hdr : c.2.dr = false := by
   rcases Bool.eq_false_or_eq_true c.2.dr with hc | hc
   ·have : S.now (S.tr c) = 0 := by unfold S.now; rw [show (S.tr c).dr = true from hc]; rfl
    omega
   ·exact hc
  by_cases q2 : (bd : Int) < S.used es + (S.gr es [S.tr c]).2
  ·refine (Bv w0 w o gk gt gs n bd es v [x] [c] h hd (by simp) (by simp) hg (vG hx) (by rw [hm]; exact ⟨by omega, by omega, q2⟩) (by omega)).mono ?_
   rintro e w' ⟨rfl, hbw⟩
   exact ⟨.inl ⟨rfl, hbw, hdr⟩⟩
  ·obtain ⟨m1, m2, m3⟩ := hnode (by omega)
   refine (uf w0 w o gk gt gs n bd es v [x] [c] h hd (by simp) (by simp) hg (vG hx) (by rw [hm]; exact ⟨by omega, by omega, by omega, by omega⟩) (by omega) (by rw [hm, S.lN]; exact m1) hn).mono ?_
   rintro e w' ⟨rfl, o', _, hkv, _, _⟩
   rw [hm, S.lN] at hkv
   exact ⟨.inr ⟨rfl, o', hkv, by omega, m2, m3⟩⟩
def KcsIn (w : World) (a : Option Addr) (n : Nat) (f : Nat -> KcV × (UInt8 × S.Cg)) : Prop :=
 0 < n -> ∃ b off, a = some ⟨b, off, none⟩ /\ b < w.heap.size /\ ∀ i, i < n -> (∀ (r : Nat) u, (bS (f i).1)[r]? = some u -> w.cell? ⟨b, off + (i * 4 + r), none⟩ = some u) /\ lZ w (f i).1 (f i).2
end Go.Proofs.YteealihknndclabGreatDoor
namespace Go.Proofs.YteealihknndclabGreatDoor
open Go.RowKit
theorem um (s : UInt8) (a : Option Addr) (b c : Nat) (d : Option Addr) (e f : Nat) (g : Bool) : Value.agg (bS ⟨s, a, b, c, d, e, f, g⟩).toArray = .agg #[.int .u8 (s.toNat : Int), .slice a b c, .slice d e f, .bool g] := rfl
theorem Fe : (S.gr [] [⟨[1, 97], [120], false⟩, ⟨[2, 97], [121], false⟩]).2 = 6 := by kernel_rfl
theorem Ex : S.mrg [] (S.lasts [⟨[1, 97], [120], false⟩, ⟨[2, 97], [121], false⟩]) = [⟨[1, 97], [120], 0⟩, ⟨[2, 97], [121], 0⟩] := by kernel_rfl
theorem kvk_ok : S.bB 0 (S.mrg [] (S.lasts [⟨[1, 97], [120], false⟩, ⟨[2, 97], [121], false⟩])) := by
 rw [Ex]
 refine ⟨fun x hx => ?_, ?_, by omega, by decide, fun _ x hx => ?_, fun h => absurd rfl h⟩
 ·simp only [List.mem_cons, List.not_mem_nil, or_false] at hx
  rcases hx with rfl | rfl <;> exact ⟨by decide, by decide, by decide, by decide⟩
 ·unfold S.up; decide
 ·simp only [List.mem_cons, List.not_mem_nil, or_false] at hx
  rcases hx with rfl | rfl <;> simp
theorem vN {w : World} {g : Nat} {d : List KcV} (h : w.heap[g]? = some (.cells (d.flatMap bS).toArray 30 (0, 0))) (hl : d.length <= 1000000) : Els bS w (.slice (some ⟨g, 0, none⟩) d.length d.length) d :=
 Or.inr (Or.inr ⟨g, 0, d.length, rfl, lr _, hl, aa h, fun j u hu => by rw [Nat.zero_add, cell_of_row w g j _ _ _ h]; simpa using hu⟩)
theorem lZ.below {w W : World} {x : KcV} {c : UInt8 × S.Cg} (h : lZ w x c) (hb : Below w.heap.size w W) : lZ W x c := ⟨h.sp, h.key.below hb (lr _), h.val.below hb (lr _), h.dr⟩
set_option maxHeartbeats 16000000 in
set_option maxRecDepth 100000 in
theorem xx (w : World) (hK : KAt w) (h1 : 1 < w.heap.size) :
  Calls Tryz.prog 10 #[] w fun e w' => e = .returned (.bool true) /\ Below w.heap.size w w' := by
 have HK := hide hK
 have HP : Hid (1 < w.heap.size) := h1
 clear hK h1
 go_enter Tryz.func10, Tryz.ntmps10
 go_wp2_with fail
 refine (pU 100 (by omega) (by omega) w HK.out HP.out).mono ?_
 rintro e w1 ⟨o, gk, gt, gs, rfl, hkv⟩
 have K1 := hide hkv
 clear hkv
 go_wp2_with fail
 refine (nL [97] [120] (by decide) (by decide) 1 _ _ rfl rfl w1).mono ?_
 rintro e w2 ⟨⟨sp1, ka1, kn1, kc1, va1, vn1, vc1, dr1⟩, rfl, hx1, k1, v1, b1⟩
 obtain rfl : sp1 = 1 := hx1.sp
 obtain rfl : dr1 = false := hx1.dr
 rw [um]
 have HX1 := hide hx1
 have KV1 := hide (And.intro k1 v1)
 have BB1 := hide b1
 clear hx1 k1 v1 b1
 go_wp2_with fail
 refine (nL [97] [121] (by decide) (by decide) 2 _ _ rfl rfl w2).mono ?_
 rintro e w3 ⟨⟨sp2, ka2, kn2, kc2, va2, vn2, vc2, dr2⟩, rfl, hx2, k2, v2, b2⟩
 obtain rfl : sp2 = 2 := hx2.sp
 obtain rfl : dr2 = false := hx2.dr
 rw [um]
 have HX2 := hide hx2
 have KV2 := hide (And.intro k2 v2)
 have BB2 := hide b2
 clear hx2 k2 v2 b2
 go_wp2_with fail
 generalize hW4 : w3.alloc _ = W4
 have r4 : W4.heap[w3.heap.size]? = some (.cells (([⟨1, ka1, kn1, kc1, va1, vn1, vc1, false⟩, ⟨2, ka2, kn2, kc2, va2, vn2, vc2, false⟩] : List KcV).flatMap bS).toArray 30 (0, 0)) := by rw [<- hW4]; exact heap_alloc_new _ _
 have b4 : Below w3.heap.size w3 W4 := by rw [<- hW4]; exact ba ..
 have k1 := KV1.out
 have k2 := KV2.out
 have hd := uf w W4 o gk gt gs 2 100 [] _ [⟨1, ka1, kn1, kc1, va1, vn1, vc1, false⟩, ⟨2, ka2, kn2, kc2, va2, vn2, vc2, false⟩] [(1, ⟨[97], [120], false⟩), (2, ⟨[97], [121], false⟩)]
  (((K1.out.then BB1.out).then BB2.out).then b4) (vN r4 (by simp)) (by simp) (by simp) (by simp [KcV.good, k1.1, k1.2, k2.1, k2.2]) ⟨rfl, fun i x c hx hc => by
   match i, hx, hc with
   | 0, hx, hc => cases hx; cases hc; exact (HX1.out.below BB2.out).below b4
   | 1, hx, hc => cases hx; cases hc; exact HX2.out.below b4⟩ (by rw [show (List.map S.tr [(1, ⟨[97], [120], false⟩), (2, ⟨[97], [121], false⟩)] : List S.Cg) = [⟨[1, 97], [120], false⟩, ⟨[2, 97], [121], false⟩] from rfl, Fe]; simp [S.used]) (by simp) kvk_ok (by omega)
 rw [show (List.map S.tr [(1, ⟨[97], [120], false⟩), (2, ⟨[97], [121], false⟩)] : List S.Cg) = [⟨[1, 97], [120], false⟩, ⟨[2, 97], [121], false⟩] from rfl, Ex] at hd
 refine hd.mono ?_
 clear hd r4 b4 hW4 k1 k2
 rintro e w5 ⟨rfl, o', ho', hkv, hch, hown⟩
 have K5 := hide hkv
 clear ho' hkv hch hown K1 HX1 HX2 KV1 KV2 BB1 BB2
 have cK : ∀ (W : World) (C : Array Value) (n c g : Nat), g = W.heap.size -> (convert 22 22 (.slice (some ⟨g, 0, none⟩) n c)).run Tryz.prog (W.alloc (.cells C 5)) = .ok (.slice (some ⟨g, 0, none⟩) n c) (W.alloc (.cells C 5 (C.size, C.size + 1))) := fun W C n c g hg => by rw [hg]; exact convK32 W C n c
 go_wp2_with fail
 obtain ⟨b6, s6⟩ := lit_new w5 [97] #[.int .u8 97] 1 rfl rfl (by simp) (1, 2)
 generalize hW6 : w5.alloc _ = W6 at b6 s6 ⊢
 have K6 := hide (K5.out.then b6)
 obtain ⟨pg, hr, ht, hlf⟩ := K6.out.1.rds
 refine (Bt _ gk gt gs 100 pg _ 1 _ [97] W6 hr ht hlf K6.out.2.1 s6 (by simp)).mono ?_
 clear hr ht hlf hW6 b6 s6 cK
 rintro e w7 ⟨v, ok, rfl, sO, b7⟩
 obtain ⟨rfl, hv⟩ := sO.yes ⟨[1, 97], [120], 0⟩ (by simp) rfl
 have hG : Got w7 W6.heap.size v [120] := hv
 obtain ⟨av, cv, hf⟩ := hG.form
 subst hf
 have k1 : (convert 22 9 (.slice av 1 cv)).run Tryz.prog w7 = .ok (.string ⟨#[120]⟩) w7 := dZ (hG.sliceAt (by simp))
 have K7 := hide (K6.out.then b7)
 clear sO hv hG b7 K6 K5
 simp only [List.length_cons, List.length_nil, Nat.zero_add]
 go_wp2_with fail
 obtain ⟨pg2, hr, ht, hlf⟩ := K7.out.1.rds
 refine (dX _ gk gs gt 100 pg2 _ w7 hr hlf ht K7.out.2.1).mono ?_
 clear hr ht hlf k1
 rintro e w8 ⟨rfl, b8⟩
 rw [show S.used [⟨[1, 97], [120], 0⟩, ⟨[2, 97], [121], 0⟩] = 6 from rfl]
 have B8 := hide (K7.out.then b8).1.below
 clear b8 K7
 go_wp2_with fail
 go_ret
 exact ⟨rfl, B8.out⟩
attribute [local go_sem] Oper.semAt_some
structure BnA (w0 w : World) (gk gt gs : Nat) (bd : Nat) (f : Nat -> KcV × (UInt8 × S.Cg)) (k : Nat) (o : Ow) (n : Nat) (es : List S.Ent) : Prop where
 kv : KvO w0 w o gk gt gs n bd es
 n : n <= 2 + 2 * k
 len : es.length <= k
 used : S.used es <= bd
 keys : ∀ x ∈ es, ∃ j, j < k /\ 1 <= (f j).1.kn /\ (f j).1.kn <= 30 /\ x.key = (S.tr (f j).2).key
structure BnB (w0 w : World) (gk gt gs : Nat) (bd : Nat) (f : Nat -> KcV × (UInt8 × S.Cg)) (m k : Nat) (o : Ow) (n : Nat) (es : List S.Ent) : Prop where
 kv : KvO w0 w o gk gt gs n bd es
 n : n <= 30 + 2 * k
 len : es.length <= 12 + k
 used : S.used es <= bd
 keys : ∀ x ∈ es, ∃ j, k <= j /\ j < m /\ 1 <= (f j).1.kn /\ (f j).1.kn <= 30 /\ x.key = (S.tr (f j).2).key
theorem BnA.then {w0 w W : World} {gk gt gs bd k n : Nat} {f : Nat -> KcV × (UInt8 × S.Cg)} {o : Ow} {es : List S.Ent} (h : BnA w0 w gk gt gs bd f k o n es) (hb : Below w.heap.size w W) : BnA w0 W gk gt gs bd f k o n es := ⟨h.kv.then hb, h.n, h.len, h.used, h.keys⟩
theorem BnA.up {w0 w : World} {gk gt gs bd k n : Nat} {f : Nat -> KcV × (UInt8 × S.Cg)} {o : Ow} {es : List S.Ent} (h : BnA w0 w gk gt gs bd f k o n es) : BnA w0 w gk gt gs bd f (k + 1) o n es := ⟨h.kv, by have := h.n; omega, by have := h.len; omega, h.used, fun x hx => by
 obtain ⟨j, h1, h2⟩ := h.keys x hx
 exact ⟨j, by omega, h2⟩⟩
theorem BnB.then {w0 w W : World} {gk gt gs bd m k n : Nat} {f : Nat -> KcV × (UInt8 × S.Cg)} {o : Ow} {es : List S.Ent} (h : BnB w0 w gk gt gs bd f m k o n es) (hb : Below w.heap.size w W) : BnB w0 W gk gt gs bd f m k o n es := ⟨h.kv.then hb, h.n, h.len, h.used, h.keys⟩
theorem BnB.up {w0 w : World} {gk gt gs bd m k n : Nat} {f : Nat -> KcV × (UInt8 × S.Cg)} {o : Ow} {es : List S.Ent} (h : BnB w0 w gk gt gs bd f m k o n es) (hk : ¬ (1 <= (f k).1.kn /\ (f k).1.kn <= 30)) : BnB w0 w gk gt gs bd f m (k + 1) o n es := ⟨h.kv, by have := h.n; omega, by have := h.len; omega, h.used, fun x hx => by
 obtain ⟨j, h1, h2, h3, h4, h5⟩ := h.keys x hx
 by_cases e : j = k
 ·subst e; exact absurd ⟨h3, h4⟩ hk
 ·exact ⟨j, by omega, h2, h3, h4, h5⟩⟩
theorem BnA.toB {w0 w : World} {gk gt gs bd k n m : Nat} {f : Nat -> KcV × (UInt8 × S.Cg)} {o : Ow} {es : List S.Ent} (h : BnA w0 w gk gt gs bd f k o n es) (hk : k <= 12) (hm : k <= m) : BnB w0 w gk gt gs bd f m 0 o n es := ⟨h.kv, by have := h.n; omega, by have := h.len; omega, h.used, fun x hx => by
 obtain ⟨j, h1, h2⟩ := h.keys x hx
 exact ⟨j, by omega, by omega, h2⟩⟩
theorem BnB.done {w0 w : World} {gk gt gs bd m k n : Nat} {f : Nat -> KcV × (UInt8 × S.Cg)} {o : Ow} {es : List S.Ent} (h : BnB w0 w gk gt gs bd f m k o n es) (hk : m <= k) : es = [] := by
 cases es with
 | nil => rfl
 | cons x r =>
  obtain ⟨j, h1, h2, _⟩ := h.keys x (by simp)
  omega
theorem BnA.next {w0 w w' : World} {gk gt gs bd k n : Nat} {f : Nat -> KcV × (UInt8 × S.Cg)} {o : Ow} {es : List S.Ent} (h : BnA w0 w gk gt gs bd f k o n es) (h1 : 1 <= (f k).1.kn) (h2 : (f k).1.kn <= 30) {o' : Ow} (hkv : KvO w0 w' o' gk gt gs (n + 2) bd (S.mrg es [S.tr (f k).2])) (hu : S.used (S.mrg es [S.tr (f k).2]) <= bd) (hl : (S.mrg es [S.tr (f k).2]).length <= es.length + 1) (hx : ∀ x ∈ S.mrg es [S.tr (f k).2], x ∈ es /\ x.key ≠ (S.tr (f k).2).key \/ (f k).2.2.dr = false /\ x.key = (S.tr (f k).2).key) : BnA w0 w' gk gt gs bd f (k + 1) o' (n + 2) (S.mrg es [S.tr (f k).2]) :=
 ⟨hkv, by have := h.n; omega, by have := h.len; omega, hu, fun x hm => by
  rcases hx x hm with ⟨h3, _⟩ | ⟨_, h3⟩
  ·obtain ⟨j, h4, h5⟩ := h.keys x h3
   exact ⟨j, by omega, h5⟩
  ·exact ⟨k, by omega, h1, h2, h3⟩⟩
theorem BnB.next {w0 w w' : World} {gk gt gs bd m k n : Nat} {f : Nat -> KcV × (UInt8 × S.Cg)} {o : Ow} {es : List S.Ent} {c : UInt8 × S.Cg} (h : BnB w0 w gk gt gs bd f m k o n es) (hc : (S.tr c).key = (S.tr (f k).2).key) (hd : c.2.dr = true) {o' : Ow} (hkv : KvO w0 w' o' gk gt gs (n + 2) bd (S.mrg es [S.tr c])) (hu : S.used (S.mrg es [S.tr c]) <= bd) (hl : (S.mrg es [S.tr c]).length <= es.length + 1) (hx : ∀ x ∈ S.mrg es [S.tr c], x ∈ es /\ x.key ≠ (S.tr c).key \/ c.2.dr = false /\ x.key = (S.tr c).key) : BnB w0 w' gk gt gs bd f m (k + 1) o' (n + 2) (S.mrg es [S.tr c]) :=
 ⟨hkv, by have := h.n; omega, by have := h.len; omega, hu, fun x hm => by
  rcases hx x hm with ⟨h3, h4⟩ | ⟨h3, _⟩
  ·obtain ⟨j, h5, h6, h7, h8, h9⟩ := h.keys x h3
   by_cases e : j = k
   ·subst e; rw [h9, hc] at h4; exact absurd rfl h4
   ·exact ⟨j, by omega, h6, h7, h8, h9⟩
  ·rw [hd] at h3; cases h3⟩
set_option maxRecDepth 10000 in
theorem bs48one (W : World) (s : UInt8) (ka : Option Addr) (kn kc : Nat) : (Instr.buildSlice 48 1 #[(0, .agg (bS ⟨s, ka, kn, kc, none, 0, 0, true⟩).toArray)]).run Tryz.prog W = .ok (.slice (some ⟨W.heap.size, 0, none⟩) 1 1) (W.alloc (.cells (([⟨s, ka, kn, kc, none, 0, 0, true⟩] : List KcV).flatMap bS).toArray 30)) := by
 simp only [bS, List.flatMap_cons, List.flatMap_nil, List.append_nil]
 go_simp
set_option maxHeartbeats 16000000 in
set_option maxRecDepth 100000 in
theorem vE (b0 : Int) (a : Option Addr) (N cap : Nat) (f : Nat -> KcV × (UInt8 × S.Cg)) (w : World) (hb1 : -9223372036854775808 <= b0) (hb2 : b0 <= 9223372036854775807) (hf : KcsIn w a N f) (hN : N <= 140737488355328) (hK : KAt w) (h1 : 1 < w.heap.size) :
  Calls Tryz.prog 5 #[.int .i64 b0, .slice a N cap] w fun e w' => e = .returned (.bool true) /\ Below w.heap.size w w' := by
 have HK := hide hK
 have HP : Hid (1 < w.heap.size) := h1
 have HF := hide hf
 clear hK h1 hf
 go_enter Tryz.func5, Tryz.ntmps5
 go_wp2_with fail
 refine (xX b0 400 w hb1 hb2 (by omega) (by omega)).mono ?_
 rintro e w' ⟨rfl, rfl⟩
 have hle := S.Am b0 400 (by omega)
 clear hb1 hb2
 generalize S.within b0 400 = bd at hle ⊢
 have hle : bd <= 400 := by omega
 go_wp2_with fail
 refine (pU (bd : Int) (by omega) (by omega) w HK.out HP.out).mono ?_
 rintro e w1 ⟨o, gk, gt, gs, rfl, hkv⟩
 have BN0 : Hid (BnA w w1 gk gt gs bd f 0 o 2 []) := ⟨hkv, by omega, by simp, by simp [S.used], fun x hx => by simp at hx⟩
 clear hkv
 go_wp2_with fail
 go_loopw [8] (fun i wr => ∃ k : Nat, k <= N /\ k <= 12 /\ i = .int .i64 (k : Int) /\ ∃ o n es, Hid (BnA w wr gk gt gs bd f k o n es)) (fun i _ => N - (intOf i).toNat)
 case atStart => exact ⟨0, by omega, by omega, rfl, o, 2, [], BN0⟩
 case round =>
 clear BN0
 obtain ⟨k, hk, hk12, rfl, o1, n, es, BN⟩ := hrel
 by_cases hlt : k < N /\ k < 12
 ·obtain ⟨hlt, hlt12⟩ := hlt
  obtain ⟨b, off, rfl, hb, hc⟩ := HF.out (by omega)
  obtain ⟨hc, hx⟩ := hc k hlt
  have BW := hide BN.out.kv.below
  obtain ⟨t0, t1, t2, t3⟩ := vI hc
  have u0 := (BW.out.cell (p := ⟨b, off + k * 4, none⟩) hb).trans t0
  have u1 := (BW.out.cell (p := ⟨b, off + k * 4 + 1, none⟩) hb).trans t1
  have u2 := (BW.out.cell (p := ⟨b, off + k * 4 + 2, none⟩) hb).trans t2
  have u3 := (BW.out.cell (p := ⟨b, off + k * 4 + 3, none⟩) hb).trans t3
  have HXX := hide (lZ.below hx BW.out)
  have hkI : (k : Int) < (N : Int) := by omega
  have hkJ : (k : Int) < 12 := by omega
  have hk0 : (0 : Int) <= (k : Int) := by omega
  obtain ⟨x, hxe⟩ : ∃ x, x = (f k).1 := ⟨_, rfl⟩
  rw [<- hxe] at u0 u1 u2 u3
  have XE := hide hxe
  clear t0 t1 t2 t3 hc hx hxe
  obtain ⟨sp, ka, kn, kc, va, vn, vc, dr⟩ := x
  simp only at u0 u1 u2 u3
  go_upto_region 9 with fail
  obtain ⟨W, hW⟩ : ∃ W, W = wr.alloc (.cells #[.int .u8 (sp.toNat : Int), .slice ka kn kc, .slice va vn vc, .bool dr] 30) := ⟨_, rfl⟩
  rw [<- hW]
  have bW : Below wr.heap.size wr W := by rw [hW]; exact ba ..
  have rW : W.heap[wr.heap.size]? = some (.cells #[.int .u8 (sp.toNat : Int), .slice ka kn kc, .slice va vn vc, .bool dr] 30 (0, 0)) := by rw [hW]; exact heap_alloc_new _ _
  obtain ⟨gb, hgb⟩ : ∃ gb, gb = wr.heap.size := ⟨_, rfl⟩
  rw [<- hgb] at rW ⊢
  obtain ⟨x0, x1, x2, x3⟩ := kr rW
  have BN1 := hide (BN.out.then bW)
  have HX1 := hide (HXX.out.below bW)
  have RW := hide rW
  have EQ : Hid ((f k).1.kn = kn /\ (f k).1.vn = vn) := by rw [<- XE.out]; exact ⟨rfl, rfl⟩
  clear hW bW rW hgb u0 u1 u2 u3 BW BN HXX
  by_cases h1 : kn < 1
  ·have q1 : decide ((kn : Int) < 1) = true := decide_eq_true (by omega)
   have q2 : (kn : Int) < 1 := by omega
   have q3 : (kn : Int) = 0 := by omega
   go_wp2_with fail
   go_roundw
   case rel => exact ⟨k + 1, by omega, by omega, by go_num, o1, n, es, BN1.out.up⟩
   case measure => simp [intOf]; omega
  ·have q1 : decide ((kn : Int) < 1) = false := decide_eq_false (by omega)
   have q2 : ¬ (kn : Int) < 1 := by omega
   by_cases h2 : 30 < kn
   ·have q3 : decide ((30 : Int) < (kn : Int)) = true := decide_eq_true (by omega)
    have q4 : (30 : Int) < (kn : Int) := by omega
    go_wp2_with fail
    go_roundw
    case rel => exact ⟨k + 1, by omega, by omega, by go_num, o1, n, es, BN1.out.up⟩
    case measure => simp [intOf]; omega
   ·have q3 : decide ((30 : Int) < (kn : Int)) = false := decide_eq_false (by omega)
    have q4 : ¬ (30 : Int) < (kn : Int) := by omega
    by_cases h3 : 200 < vn
    ·have q5 : decide ((200 : Int) < (vn : Int)) = true := decide_eq_true (by omega)
     have q6 : (200 : Int) < (vn : Int) := by omega
     go_wp2_with fail
     go_roundw
     case rel => exact ⟨k + 1, by omega, by omega, by go_num, o1, n, es, BN1.out.up⟩
     case measure => simp [intOf]; omega
    ·have q5 : decide ((200 : Int) < (vn : Int)) = false := decide_eq_false (by omega)
     have q6 : ¬ (200 : Int) < (vn : Int) := by omega
     go_wp2_with fail
     obtain ⟨pg, hr, ht, hlf⟩ := BN1.out.kv.1.rds
     refine (dX _ gk gs gt bd pg _ W hr hlf ht BN1.out.kv.2.1).mono ?_
     clear hr ht hlf
     rintro e w2 ⟨rfl, b2⟩
     have r2 : w2.heap[gb]? = _ := (b2.block gb (aa RW.out)).trans RW.out
     obtain ⟨z0, z1, z2, z3⟩ := kr r2
     have BN2 := hide (BN1.out.then b2)
     have HX2 := hide (HX1.out.below b2)
     clear x0 x1 x2 x3 BN1 HX1 b2 r2 RW
     go_wp2_with fail
     generalize hC : w2.alloc _ = C
     have ra : C.heap[w2.heap.size]? = some (.cells (([⟨sp, ka, kn, kc, va, vn, vc, dr⟩] : List KcV).flatMap bS).toArray 30 (0, 0)) := by rw [<- hC]; exact heap_alloc_new _ _
     have ba : Below w2.heap.size w2 C := by rw [<- hC]; exact ba ..
     have EL := hide (vN ra (by simp))
     have HX3 := hide (HX2.out.below ba)
     have BN3 := hide (BN2.out.then ba)
     clear ra ba hC z0 z1 z2 z3 HX2 BN2
     have us : (S.used es : Int) <= bd := by have := BN3.out.used; omega
     have hxx : lZ C ⟨sp, ka, kn, kc, va, vn, vc, dr⟩ (f k).2 := by have := HX3.out; rw [<- XE.out] at this; exact this
     refine (kvOne w C o1 gk gt gs n bd es _ _ (f k).2 BN3.out.kv EL.out hxx (by show 1 <= kn; omega) (by show kn <= 30; omega) (by show vn <= 400; omega) BN3.out.used (by omega) (by have := BN3.out.len; omega) (by have := BN3.out.n; omega)).mono ?_
     clear hxx EL HX3
     rintro e w4 ⟨hway⟩
     rcases hway with ⟨rfl, b4, _⟩ | ⟨rfl, o4, hkv, hu4, hl4, hx4⟩
     ·have BN4 := hide (BN3.out.then b4)
      clear b4 BN3
      have s1 : ¬ ((bd : Nat) : Int) < (S.used es : Int) := by omega
      have s2 : ¬ (S.used es : Int) < 0 := by omega
      go_wp2_with fail
      obtain ⟨pg, hr, ht, hlf⟩ := BN4.out.kv.1.rds
      refine (dX _ gk gs gt bd pg _ w4 hr hlf ht BN4.out.kv.2.1).mono ?_
      clear hr ht hlf
      rintro e w5 ⟨rfl, b5⟩
      have BN5 := hide (BN4.out.then b5)
      clear b5 BN4
      go_wp2_with fail
      obtain ⟨pg, hr, ht, hlf⟩ := BN5.out.kv.1.rds
      refine (dX _ gk gs gt bd pg _ w5 hr hlf ht BN5.out.kv.2.1).mono ?_
      clear hr ht hlf
      rintro e w6 ⟨rfl, b6⟩
      have BN6 := hide (BN5.out.then b6)
      clear b6 BN5
      go_wp2_with fail
      obtain ⟨pg, hr, ht, hlf⟩ := BN6.out.kv.1.rds
      refine (dX _ gk gs gt bd pg _ w6 hr hlf ht BN6.out.kv.2.1).mono ?_
      clear hr ht hlf
      rintro e w7 ⟨rfl, b7⟩
      have BN7 := hide (BN6.out.then b7)
      clear b7 BN6
      go_wp2_with fail
      go_roundw
      case rel => exact ⟨k + 1, by omega, by omega, by go_num, o1, n, es, BN7.out.up⟩
      case measure => simp [intOf]; omega
     ·have BN4 := hide (BN3.out.next (by rw [EQ.out.1]; omega) (by rw [EQ.out.1]; omega) hkv hu4 hl4 hx4)
      clear hkv hl4 hx4 BN3
      generalize S.mrg es [S.tr (f k).2] = es4 at hu4 BN4
      have s1 : ¬ ((bd : Nat) : Int) < (S.used es4 : Int) := by omega
      have s2 : ¬ (S.used es4 : Int) < 0 := by omega
      go_wp2_with fail
      obtain ⟨pg, hr, ht, hlf⟩ := BN4.out.kv.1.rds
      refine (dX _ gk gs gt bd pg _ w4 hr hlf ht BN4.out.kv.2.1).mono ?_
      clear hr ht hlf
      rintro e w6 ⟨rfl, b6⟩
      have BN6 := hide (BN4.out.then b6)
      clear b6 BN4
      go_wp2_with fail
      obtain ⟨pg, hr, ht, hlf⟩ := BN6.out.kv.1.rds
      refine (dX _ gk gs gt bd pg _ w6 hr hlf ht BN6.out.kv.2.1).mono ?_
      clear hr ht hlf
      rintro e w7 ⟨rfl, b7⟩
      have BN7 := hide (BN6.out.then b7)
      clear b7 BN6
      go_wp2_with fail
      go_roundw
      case rel => exact ⟨k + 1, by omega, by omega, by go_num, o4, n + 2, es4, BN7.out⟩
      case measure => simp [intOf]; omega
 ·have BB := hide (BN.out.toB hk12 (lr k))
  have HM : Hid (k <= N /\ k <= 12) := ⟨hk, hk12⟩
  clear BN
  have hkk : k <= N := hk
  by_cases hkN : k < N
  focus
   have hk12' : k = 12 := by omega
   have qa : decide ((k : Int) < (N : Int)) = true := decide_eq_true (by omega)
   have qb : (k : Int) < (N : Int) := by omega
   have qc : decide ((k : Int) < 12) = false := decide_eq_false (by omega)
   have qd : ¬ (k : Int) < 12 := by omega
   clear hk12'
  rotate_left
  focus
   have qa : decide ((k : Int) < (N : Int)) = false := decide_eq_false (by omega)
   have qb : ¬ (k : Int) < (N : Int) := by omega
  all_goals
   go_wp2_with fail
   go_loopw [12] (fun i wr2 => ∃ k2 : Nat, k2 <= k /\ i = .int .i64 (k2 : Int) /\ ∃ o n es, Hid (BnB w wr2 gk gt gs bd f k k2 o n es)) (fun i _ => k - (intOf i).toNat)
   case atStart => exact ⟨0, by omega, rfl, o1, n, es, BB⟩
   case round =>
   clear BB
   obtain ⟨k2, hk2, rfl, o2, n2, es2, BN⟩ := hrel
   by_cases hlt2 : k2 < k
   ·obtain ⟨b, off, rfl, hb, hc⟩ := HF.out (by omega)
    obtain ⟨hc, hx⟩ := hc k2 (by omega)
    have BW := hide BN.out.kv.below
    obtain ⟨t0, t1, t2, t3⟩ := vI hc
    have u0 := (BW.out.cell (p := ⟨b, off + k2 * 4, none⟩) hb).trans t0
    have u1 := (BW.out.cell (p := ⟨b, off + k2 * 4 + 1, none⟩) hb).trans t1
    have HXX := hide (lZ.below hx BW.out)
    have hkI : (k2 : Int) < (N : Int) := by omega
    have hkJ : (k2 : Int) < 12 := by omega
    have hk0 : (0 : Int) <= (k2 : Int) := by omega
    obtain ⟨x, hxe⟩ : ∃ x, x = (f k2).1 := ⟨_, rfl⟩
    rw [<- hxe] at u0 u1 t0 t1
    have XE := hide hxe
    clear t2 t3 hc hx hxe
    obtain ⟨sp, ka, kn, kc, va, vn, vc, dr⟩ := x
    simp only at u0 u1 t0 t1
    have T01 := hide (And.intro t0 t1)
    clear t0 t1
    have EQ : Hid ((f k2).1.kn = kn) := by rw [<- XE.out]; exact rfl
    by_cases h1 : kn < 1
    ·have q1 : decide ((kn : Int) < 1) = true := decide_eq_true (by omega)
     have q2 : (kn : Int) < 1 := by omega
     have q3 : (kn : Int) = 0 := by omega
     go_wp2_with fail
     go_roundw
     case rel => exact ⟨k2 + 1, by omega, by go_num, o2, n2, es2, BN.out.up (by rw [EQ.out]; omega)⟩
     case measure => simp [intOf]; omega
    ·have q1 : decide ((kn : Int) < 1) = false := decide_eq_false (by omega)
     have q2 : ¬ (kn : Int) < 1 := by omega
     by_cases h2 : 30 < kn
     ·have q3 : decide ((30 : Int) < (kn : Int)) = true := decide_eq_true (by omega)
      have q4 : (30 : Int) < (kn : Int) := by omega
      go_wp2_with fail
      go_roundw
      case rel => exact ⟨k2 + 1, by omega, by go_num, o2, n2, es2, BN.out.up (by rw [EQ.out]; omega)⟩
      case measure => simp [intOf]; omega
     ·have q3 : decide ((30 : Int) < (kn : Int)) = false := decide_eq_false (by omega)
      have q4 : ¬ (30 : Int) < (kn : Int) := by omega
      go_wp2_with fail
      have US := hide (And.intro u0 u1)
      refine wp_region_noPanic ?_
      refine wp_region_held_drew (S := (fun W => W.cell? ⟨b, off + k2 * 4, none⟩ = some (.int .u8 (sp.toNat : Int)) /\ W.cell? ⟨b, off + k2 * 4 + 1, none⟩ = some (.slice ka kn kc))) follows US.out (fun hHeld => ?_)
      clear hHeld u0 u1
      have CZ0 := hide (show Below wr.heap.size wr wr.drew from (Below.refl _ _).drew)
      have hHeld : wr.drew.cell? ⟨b, off + k2 * 4, none⟩ = some (.int .u8 (sp.toNat : Int)) /\ wr.drew.cell? ⟨b, off + k2 * 4 + 1, none⟩ = some (.slice ka kn kc) := US.out
      clear US
      generalize wr.drew = Z0 at CZ0 hHeld ⊢
      refine tq 0 ?_
      simp only [uA]
      refine tq 1 ?_
      simp only [uA]
      refine tq 2 ?_
      simp only [uA]
      refine tq 3 ?_
      simp only [uA]
      refine tq 4 ?_
      simp only [uA]
      refine tk 5 ?_ rfl (Or.inl ⟨by rfl, ?_⟩) ?_
      rotate_left
      ·intro w hSw
       have c0 := hSw.1
       clear hSw
       go_simp
       all_goals with_reducible rfl
      simp only [uA]
      refine tq 6 ?_
      simp only [uA]
      refine tq 7 ?_
      simp only [uA]
      refine tq 8 ?_
      simp only [uA]
      refine tq 9 ?_
      simp only [uA]
      refine tk 10 ?_ rfl (Or.inl ⟨by rfl, ?_⟩) ?_
      rotate_left
      ·intro w hSw
       have c1 := hSw.2
       clear hSw
       go_simp
       all_goals with_reducible rfl
      simp only [uA]
      refine tq 11 ?_
      simp only [uA]
      refine rdy [12] ?_
      refine aH (o := ⟨_, _, _, _, _, _⟩) rfl rfl 48 1 [(0, Operand.tmp 119)] rfl _ _ (bs48one Z0 sp ka kn kc) AllReadyH.nil ⟨⟨(((Below.refl Z0.heap.size Z0).alloc (lr _) _).cell (p := ⟨b, off + k2 * 4, none⟩) (block_lt_of_cell hHeld.1)).trans hHeld.1, (((Below.refl Z0.heap.size Z0).alloc (lr _) _).cell (p := ⟨b, off + k2 * 4 + 1, none⟩) (block_lt_of_cell hHeld.2)).trans hHeld.2⟩, fun hHeld => ?_⟩
      try simp only [uA]
      generalize hC : Z0.alloc _ = C at hHeld ⊢
      have ra : C.heap[Z0.heap.size]? = some (.cells (([⟨sp, ka, kn, kc, none, 0, 0, true⟩] : List KcV).flatMap bS).toArray 30 (0, 0)) := by rw [<- hC]; exact heap_alloc_new _ _
      have bC : Below Z0.heap.size Z0 C := by rw [<- hC]; exact ba ..
      have bCC := CZ0.out.trans (bC.mono CZ0.out.size)
      have EL := hide (vN ra (by simp))
      have BN3 := hide (BN.out.then bCC)
      have HX3 := hide (HXX.out.below bCC)
      clear ra hC CZ0 bC bCC
      refine r1 13 fun K hK => ?_
      go_simp
      have hxx : lZ C ⟨sp, ka, kn, kc, none, 0, 0, true⟩ ((f k2).2.1, ⟨(f k2).2.2.key, [], true⟩) := by
       have := HX3.out
       rw [<- XE.out] at this
       exact ⟨this.sp, this.key, Or.inl ⟨rfl, rfl⟩, rfl⟩
      refine (kvOne w C o2 gk gt gs n2 bd es2 _ _ _ BN3.out.kv EL.out hxx (by show 1 <= kn; omega) (by show kn <= 30; omega) (by show 0 <= 400; omega) BN3.out.used (by omega) (by have := BN3.out.len; omega) (by have := BN3.out.n; omega)).mono ?_
      clear hxx EL HX3
      rintro e Z2 ⟨hway⟩
      rcases hway with ⟨_, _, hno⟩ | ⟨rfl, o4, hkv, hu4, hl4, hx4⟩
      ·cases hno
      have BN4 := hide (BN3.out.next (c := ((f k2).2.1, ⟨(f k2).2.2.key, [], true⟩)) rfl rfl hkv hu4 hl4 hx4)
      clear hkv hu4 hl4 hx4 BN3 hHeld
      generalize S.mrg es2 _ = es4 at BN4
      have b4 := BN4.out.kv.below
      refine hK.out _ _ ⟨(b4.cell (p := ⟨b, off + k2 * 4, none⟩) hb).trans T01.out.1, (b4.cell (p := ⟨b, off + k2 * 4 + 1, none⟩) hb).trans T01.out.2⟩ (fun hHeld => ?_)
      clear hK K b4
      try simp only [uA]
      refine tq 14 ?_
      simp only [uA]
      refine wpAnyH_done (by kernel_rfl) ?_ _
      refine NoPanic.normal ?_
      clear hHeld
      go_wp2_with fail
      go_roundw
      case rel => exact ⟨k2 + 1, by omega, by go_num, o4, n2 + 2, es4, BN4.out⟩
      case measure => simp [intOf]; omega
   ·obtain rfl : k2 = k := by omega
    obtain rfl := BN.out.done (lr _)
    go_wp2_with fail
    obtain ⟨pg, hr, ht, hlf⟩ := BN.out.kv.1.rds
    refine (dX _ gk gs gt bd pg _ _ hr hlf ht BN.out.kv.2.1).mono ?_
    clear hr ht hlf
    rintro e w2 ⟨rfl, b2⟩
    rw [show S.used [] = 0 from rfl]
    have BN2 := hide (BN.out.then b2)
    clear b2 BN
    go_wp2_with fail
    have BW := hide BN2.out.kv.below
    refine (xx w2 (HK.out.below BW.out HP.out) (by have := BW.out.size; have := HP.out; omega)).mono ?_
    rintro e w3 ⟨rfl, b3⟩
    have B3 := hide (BW.out.trans (b3.mono BW.out.size))
    clear b3 BN2 BW
    go_wp2_with fail
    go_ret
    exact ⟨rfl, B3.out⟩
end Go.Proofs.YteealihknndclabGreatDoor
