/- Package kv: Do. -/
import Derived.Test.YteealihknndclaaGreatDoorVad
import Derived.Test.YteealihknndclaaGreatDoorEd
namespace Go.Proofs.YteealihknndclaaGreatDoor
open Go.RowKit
theorem Els.at0 {w : World} {v : Value} {d : List KcV} (h : Els dh w v d) (hne : d ≠ []) : ∃ b off cap, v = .slice (some ⟨b, off, none⟩) d.length cap := by
 rcases h with ⟨rfl, rfl⟩ | ⟨a, cap, rfl, rfl⟩ | ⟨b, off, cap, rfl, _⟩
 ·exact absurd rfl hne
 ·exact absurd rfl hne
 ·exact ⟨b, off, cap, rfl⟩
theorem uI {w W : World} {d : List KcV} {d' : List ChV} {cs : List (UInt8 × S.Cg)} (hg : d.all KcV.good = true) (hc : ku w d cs) (ha : dG W d' (cs.map S.tr)) : d'.all ChV.good = true /\ ∀ x ∈ d', x.kn <= 1000 /\ x.vn <= 1000 := by
 have key : ∀ x ∈ d', 1 <= x.kn /\ x.kn <= 40 /\ x.vn <= 400 := fun x hx => by
  obtain ⟨i, hi, rfl⟩ := List.mem_iff_getElem.1 hx
  have hl : i < cs.length := by have := ha.1; rw [List.length_map] at this; omega
  have hd : i < d.length := by have := hc.1; omega
  have h1 := ha.2 i _ _ (List.getElem?_eq_getElem hi) (by rw [List.getElem?_map, List.getElem?_eq_getElem hl]; rfl)
  have h2 := hc.2 i _ _ (List.getElem?_eq_getElem hd) (List.getElem?_eq_getElem hl)
  have h3 : d[i].good = true := List.all_eq_true.1 hg _ (List.getElem_mem hd)
  simp [KcV.good] at h3
  obtain ⟨_, _, _, e1, l1, _⟩ := h1.key.form
  obtain ⟨_, _, _, e2, l2, _⟩ := h1.val.form
  obtain ⟨_, _, _, e3, l3, _⟩ := h2.key.form
  obtain ⟨_, _, _, e4, l4, _⟩ := h2.val.form
  simp only [Value.slice.injEq] at e1 e2 e3 e4
  have m1 := e1.2.1.trans l1
  have m2 := e2.2.1.trans l2
  have m3 := e3.2.1.trans l3
  have m4 := e4.2.1.trans l4
  simp [S.tr] at m1 m2
  omega
 refine ⟨List.all_eq_true.2 (fun x hx => ?_), fun x hx => ?_⟩
 ·have := key x hx
  simp [ChV.good]
  omega
 ·have := key x hx
  omega
theorem vw {w : World} {d : List KcV} {cs : List (UInt8 × S.Cg)} (hg : d.all KcV.good = true) (hc : ku w d cs) : ∀ c ∈ cs, c.2.key.length <= 1000000 := fun c hcm => by
 obtain ⟨i, hi, rfl⟩ := List.mem_iff_getElem.1 hcm
 have hd : i < d.length := by have := hc.1; omega
 have h2 := hc.2 i _ _ (List.getElem?_eq_getElem hd) (List.getElem?_eq_getElem hi)
 have h3 : d[i].good = true := List.all_eq_true.1 hg _ (List.getElem_mem hd)
 simp [KcV.good] at h3
 obtain ⟨_, _, _, e3, l3, _⟩ := h2.key.form
 simp only [Value.slice.injEq] at e3
 have m3 := e3.2.1.trans l3
 omega
set_option maxHeartbeats 16000000 in
set_option maxRecDepth 100000 in
theorem tT (w0 w : World) (o : Ow) (gk gt gs n : Nat) (bd : Int) (es : List S.Ent) (v : Value) (d : List KcV) (cs : List (UInt8 × S.Cg)) (h : KvO w0 w o gk gt gs n bd es) (hd : Els dh w v d) (hne : d ≠ []) (hl : d.length <= 19) (hg : d.all KcV.good = true) (hc : ku w d cs) (hzz : 0 < (S.gr es (cs.map S.tr)).2 /\ (S.gr es (cs.map S.tr)).2 <= 1000000 /\ bd < S.used es + (S.gr es (cs.map S.tr)).2) (hu : S.used es <= 1000000) :
  Calls Tryz.prog 28 #[.pointer (some ⟨gk, 0, none⟩), v] w fun e w' => e = .returned (.int .i64 26) /\ Below w.heap.size w w' := by
 obtain ⟨b, off, cap, rfl⟩ := hd.at0 hne
 have HB := hide h.1
 have HS := hide h.2.1
 have HNK := hide h.2.2
 have HD := hide hd
 have HG := hide hg
 have HC := hide hc
 have HNE := hide hne
 have HL := hide hl
 have HP : Hid ((d.all KcV.good && decide (d.length <= 80)) = true) := by show _ = true; simp [hg]; omega
 clear h hd hg hc hne hl
 go_enter Tryz.func28, Tryz.ntmps28
 go_wp2_with fail
 refine (fF _ d w HD.out).mono ?_
 rintro e w1 ⟨rfl, b1⟩
 rw [HP.out]
 have B1 := hide b1
 have HD1 : Hid (Els dh w1 (.slice (some ⟨b, off, none⟩) d.length cap) d) := HD.out.below b1
 have HC1 : Hid (ku w1 d cs) := ⟨HC.out.1, fun i x c hx hcx => by have q := HC.out.2 i x c hx hcx; exact ⟨q.sp, q.key.below b1 (lr _), q.val.below b1 (lr _), q.dr⟩⟩
 clear b1
 go_wp2_with fail
 refine (gH _ d cs w1 HD1.out HC1.out (by have := HL.out; omega) (vw HG.out HC.out)).mono ?_
 rintro e w2 ⟨g, d', rfl, hg2, hl2, hci, hca, b2⟩
 have C2 := hide hci
 have A2 := hide hca
 have L2 := hide hl2
 have B2 := hide (B1.out.trans (b2.mono B1.out.size))
 clear hg2 hl2 hci hca b2 HD1 HC1
 go_wp2_with fail
 obtain ⟨pg, hr, ht, hlf⟩ := (HB.out.then B2.out).rds
 have GD := hide (uI HG.out HC.out A2.out)
 have e0 := jZ _ gk gs gt g 0 d.length bd pg es d' (cs.map S.tr) w2 hr hlf ht (HS.out.below B2.out) (C2.out.els L2.out) C2.out.lt (by have := L2.out; have := HL.out; omega) (by have := L2.out; omega) A2.out GD.out.2
 rw [L2.out] at e0
 refine e0.mono ?_
 clear e0 hr ht hlf
 rintro e w3 ⟨rfl, b3⟩
 have B3 := hide (B2.out.trans (b3.mono B2.out.size))
 have C3 := hide (C2.out.below b3)
 have A3 := hide (A2.out.below b3)
 have HS3 := hide (HS.out.below B3.out)
 clear b3 B2 C2 A2 B1
 obtain ⟨z, hz⟩ : ∃ z, z = (S.gr es (cs.map S.tr)).2 := ⟨_, rfl⟩
 rw [<- hz] at hzz ⊢
 have QZ : Hid ((0 : Int) < z) := hzz.1
 have QS : Hid (IntKind.i64.wrap ((S.used es : Int) + z) = (S.used es : Int) + z) := by show _ = _; rw [IntKind.wrap_i64]; omega
 have QF : Hid (bd < (S.used es : Int) + z) := hzz.2.2
 clear hzz hz hu
 go_upto_region 5 with fail
 refine wp_region_noPanic ?_
 refine wp_region_held_drew (S := (fun Z => oZ Z gk gt bd)) follows HS3.out (fun hHeld => ?_)
 have B3d : Hid (Below w.heap.size w w3.drew) := B3.out.drew
 have C3d : Hid (lG w3.drew g d.length d') := C3.out
 have A3d : Hid (dG w3.drew d' (cs.map S.tr)) := A3.out.below ((Below.refl _ _).drew)
 clear B3 C3 A3 HS3
 generalize w3.drew = Z0 at B3d C3d A3d hHeld ⊢
 refine tq 0 ?_
 simp only [uA]
 refine tk 1 ?_ rfl (Or.inl ⟨by rfl, ?_⟩) ?_
 rotate_left
 ·intro w hSw
  have q := QZ.out
  clear hSw
  go_simp
  all_goals with_reducible rfl
 simp only [uA]
 refine tq 2 ?_
 simp only [uA]
 refine tq 3 ?_
 simp only [uA]
 refine tq 5 ?_
 simp only [uA]
 refine tq 7 ?_
 simp only [uA]
 refine tq 8 ?_
 simp only [uA]
 refine tq 9 ?_
 simp only [uA]
 refine tk 10 ?_ rfl (Or.inl ⟨by rfl, ?_⟩) ?_
 rotate_left
 ·intro w hSw
  obtain ⟨c0, c1⟩ := aJ hSw
  clear hSw
  go_simp
  all_goals with_reducible rfl
 simp only [uA]
 refine r1 4 fun K hK => ?_
 go_simp
 obtain ⟨pg, hr, ht, hlf⟩ := (HB.out.then B3d.out).rds
 refine (jc _ gk gs gt bd pg es Z0 hr hlf ht hHeld).mono ?_
 rintro e Z1 ⟨rfl, bz⟩
 have B4 := hide (B3d.out.trans (bz.mono B3d.out.size))
 have C4 := hide (C3d.out.below bz)
 have A4 := hide (A3d.out.below bz)
 have hk4 := hHeld.below bz
 clear hr ht hlf bz B3d C3d A3d hHeld
 refine hK.out _ _ hk4 (fun hHeld => ?_)
 clear hK K hk4
 try simp only [uA]
 refine tk 6 ?_ rfl (Or.inl ⟨by rfl, ?_⟩) ?_
 rotate_left
 ·intro w hSw
  have q := QS.out
  clear hSw
  go_simp
  all_goals with_reducible rfl
 simp only [uA]
 refine tk 11 ?_ rfl (Or.inl ⟨by rfl, ?_⟩) ?_
 rotate_left
 ·intro w hSw
  have q := QF.out
  clear hSw
  go_simp
  all_goals with_reducible rfl
 simp only [uA]
 refine tq 12 ?_
 simp only [uA]
 refine wpAnyH_done (by kernel_rfl) ?_ _
 refine NoPanic.normal ?_
 have K4 := hide hHeld
 clear hHeld
 go_wp2_with fail
 go_ret
 exact ⟨rfl, B4.out⟩
set_option maxHeartbeats 16000000 in
set_option maxRecDepth 100000 in
theorem Bf (w0 w : World) (o : Ow) (gk gt gs n : Nat) (bd : Int) (es : List S.Ent) (v : Value) (d : List KcV) (cs : List (UInt8 × S.Cg)) (h : KvO w0 w o gk gt gs n bd es) (hd : Els dh w v d) (hne : d ≠ []) (hl : d.length <= 19) (hg : d.all KcV.good = true) (hc : ku w d cs) (hzz : (S.gr es (cs.map S.tr)).2 <= 0) (hle : es.length <= 9000) (hmk : S.bE 0 (S.mrg es (S.lasts (cs.map S.tr)))) (hn : n + 2 < 18446744073709551616) :
  Calls Tryz.prog 28 #[.pointer (some ⟨gk, 0, none⟩), v] w fun e w' => e = .returned (.int .i64 0) /\ ∃ o', o'.g = o.g /\ KvO w0 w' o' gk gt gs (n + 2) bd (S.mrg es (S.lasts (cs.map S.tr))) /\ Chg o.has w w' /\ ∀ k, o'.has k -> o.has k \/ w.heap.size <= k := by
 have HM := hide (And.intro hle (And.intro hmk hn))
 clear hle hmk hn
 obtain ⟨b, off, cap, rfl⟩ := hd.at0 hne
 have HB := hide h.1
 have HS := hide h.2.1
 have HNK := hide h.2.2
 have HD := hide hd
 have HG := hide hg
 have HC := hide hc
 have HNE := hide hne
 have HL := hide hl
 have HP : Hid ((d.all KcV.good && decide (d.length <= 80)) = true) := by show _ = true; simp [hg]; omega
 clear h hd hg hc hne hl
 go_enter Tryz.func28, Tryz.ntmps28
 go_wp2_with fail
 refine (fF _ d w HD.out).mono ?_
 rintro e w1 ⟨rfl, b1⟩
 rw [HP.out]
 have B1 := hide b1
 have HD1 : Hid (Els dh w1 (.slice (some ⟨b, off, none⟩) d.length cap) d) := HD.out.below b1
 have HC1 : Hid (ku w1 d cs) := ⟨HC.out.1, fun i x c hx hcx => by have q := HC.out.2 i x c hx hcx; exact ⟨q.sp, q.key.below b1 (lr _), q.val.below b1 (lr _), q.dr⟩⟩
 clear b1
 go_wp2_with fail
 refine (gH _ d cs w1 HD1.out HC1.out (by have := HL.out; omega) (vw HG.out HC.out)).mono ?_
 rintro e w2 ⟨g, d', rfl, hg2, hl2, hci, hca, b2⟩
 have C2 := hide hci
 have A2 := hide hca
 have L2 := hide hl2
 have B2 := hide (B1.out.trans (b2.mono B1.out.size))
 clear hg2 hl2 hci hca b2 HD1 HC1
 go_wp2_with fail
 obtain ⟨pg, hr, ht, hlf⟩ := (HB.out.then B2.out).rds
 have GD := hide (uI HG.out HC.out A2.out)
 have e0 := jZ _ gk gs gt g 0 d.length bd pg es d' (cs.map S.tr) w2 hr hlf ht (HS.out.below B2.out) (C2.out.els L2.out) C2.out.lt (by have := L2.out; have := HL.out; omega) (by have := L2.out; omega) A2.out GD.out.2
 rw [L2.out] at e0
 refine e0.mono ?_
 clear e0 hr ht hlf
 rintro e w3 ⟨rfl, b3⟩
 have B3 := hide (B2.out.trans (b3.mono B2.out.size))
 have C3 := hide (C2.out.below b3)
 have A3 := hide (A2.out.below b3)
 have HS3 := hide (HS.out.below B3.out)
 clear b3 B2 C2 A2 B1
 obtain ⟨z, hz⟩ : ∃ z, z = (S.gr es (cs.map S.tr)).2 := ⟨_, rfl⟩
 rw [<- hz] at hzz ⊢
 have QZ : Hid (decide ((0 : Int) < z) = false) := decide_eq_false (by omega)
 clear hzz hz
 go_upto_region 5 with fail
 refine wp_region_noPanic ?_
 refine wp_region_held_drew (S := (fun Z => oZ Z gk gt bd)) follows HS3.out (fun hHeld => ?_)
 have B3d : Hid (Below w.heap.size w w3.drew) := B3.out.drew
 have C3d : Hid (lG w3.drew g d.length d') := C3.out
 have A3d : Hid (dG w3.drew d' (cs.map S.tr)) := A3.out.below ((Below.refl _ _).drew)
 clear B3 C3 A3 HS3
 generalize w3.drew = Z0 at B3d C3d A3d hHeld ⊢
 refine tq 0 ?_
 simp only [uA]
 refine tk 1 ?_ rfl (Or.inl ⟨by rfl, ?_⟩) ?_
 rotate_left
 ·intro w hSw
  have q := QZ.out
  clear hSw
  go_simp
  all_goals with_reducible rfl
 simp only [uA]
 refine tq 2 ?_
 simp only [uA]
 refine tk 3 undef rfl (Or.inr ⟨by rfl, rfl⟩) ?_
 simp only [uA]
 refine tk 4 undef rfl (Or.inr ⟨by rfl, rfl⟩) ?_
 simp only [uA]
 refine tk 5 undef rfl (Or.inr ⟨by rfl, rfl⟩) ?_
 simp only [uA]
 refine tk 6 undef rfl (Or.inr ⟨by rfl, rfl⟩) ?_
 simp only [uA]
 refine tk 7 undef rfl (Or.inr ⟨by rfl, rfl⟩) ?_
 simp only [uA]
 refine tk 8 undef rfl (Or.inr ⟨by rfl, rfl⟩) ?_
 simp only [uA]
 refine tk 9 undef rfl (Or.inr ⟨by rfl, rfl⟩) ?_
 simp only [uA]
 refine tk 10 undef rfl (Or.inr ⟨by rfl, rfl⟩) ?_
 simp only [uA]
 refine tk 11 undef rfl (Or.inr ⟨by rfl, rfl⟩) ?_
 simp only [uA]
 refine tq 12 ?_
 simp only [uA]
 refine wpAnyH_done (by kernel_rfl) ?_ _
 refine NoPanic.normal ?_
 have B4 := B3d
 have C4 := C3d
 have A4 := A3d
 have K4 := hide hHeld
 clear hHeld B3d C3d A3d
 obtain ⟨c0, c1⟩ := aJ K4.out
 go_wp2_with fail
 have hdo := do_ok w0 o gt gs n g 0 d.length d' (cs.map S.tr) es Z0 (HB.out.then B4.out) (C4.out.els L2.out) (by intro e; have := L2.out; rw [e] at this; exact HNE.out (List.length_eq_zero_iff.1 this.symm)) (by have := L2.out; have := HL.out; omega) (by have := L2.out; omega) GD.out.1 A4.out HM.out.1 HM.out.2.1 HM.out.2.2
 rw [L2.out] at hdo
 refine hdo.mono ?_
 clear hdo c0 c1
 rintro e w5 ⟨rfl, o', ho', hbt, hch, hown⟩
 have R1 := hide (show KvO w0 w5 o' gk gt gs (n + 2) bd (S.mrg es (S.lasts (cs.map S.tr))) from ⟨hbt, hch.row K4.out HNK.out.1, fun e => by
  rcases hown gk e with e | e
  ·exact HNK.out.1 e
  ·have := aa HS.out; have := B4.out.size; omega, HNK.out.2⟩)
 have R2 := hide ((Chg.ofBelow' (p := o.has) B4.out).trans hch (fun _ _ e => e))
 have R3 : Hid (∀ k, o'.has k -> o.has k \/ w.heap.size <= k) := fun k hk => (hown k hk).imp_right (fun e => ltr B4.out.size e)
 have R0 := hide ho'
 clear hbt hch hown ho'
 go_wp2_with fail
 go_ret
 exact ⟨rfl, o', R0.out, R1.out, R2.out, R3.out⟩
set_option maxHeartbeats 16000000 in
set_option maxRecDepth 100000 in
theorem tQ (w0 w : World) (o : Ow) (gk gt gs n : Nat) (bd : Int) (es : List S.Ent) (v : Value) (d : List KcV) (cs : List (UInt8 × S.Cg)) (h : KvO w0 w o gk gt gs n bd es) (hd : Els dh w v d) (hne : d ≠ []) (hl : d.length <= 19) (hg : d.all KcV.good = true) (hc : ku w d cs) (hzz : 0 < (S.gr es (cs.map S.tr)).2 /\ (S.gr es (cs.map S.tr)).2 <= 1000000 /\ S.used es + (S.gr es (cs.map S.tr)).2 <= bd /\ S.used es <= 1000000) (hle : es.length <= 9000) (hmk : S.bE 0 (S.mrg es (S.lasts (cs.map S.tr)))) (hn : n + 2 < 18446744073709551616) :
  Calls Tryz.prog 28 #[.pointer (some ⟨gk, 0, none⟩), v] w fun e w' => e = .returned (.int .i64 0) /\ ∃ o', o'.g = o.g /\ KvO w0 w' o' gk gt gs (n + 2) bd (S.mrg es (S.lasts (cs.map S.tr))) /\ Chg o.has w w' /\ ∀ k, o'.has k -> o.has k \/ w.heap.size <= k := by
 have HM := hide (And.intro hle (And.intro hmk hn))
 clear hle hmk hn
 obtain ⟨b, off, cap, rfl⟩ := hd.at0 hne
 have HB := hide h.1
 have HS := hide h.2.1
 have HNK := hide h.2.2
 have HD := hide hd
 have HG := hide hg
 have HC := hide hc
 have HNE := hide hne
 have HL := hide hl
 have HP : Hid ((d.all KcV.good && decide (d.length <= 80)) = true) := by show _ = true; simp [hg]; omega
 clear h hd hg hc hne hl
 go_enter Tryz.func28, Tryz.ntmps28
 go_wp2_with fail
 refine (fF _ d w HD.out).mono ?_
 rintro e w1 ⟨rfl, b1⟩
 rw [HP.out]
 have B1 := hide b1
 have HD1 : Hid (Els dh w1 (.slice (some ⟨b, off, none⟩) d.length cap) d) := HD.out.below b1
 have HC1 : Hid (ku w1 d cs) := ⟨HC.out.1, fun i x c hx hcx => by have q := HC.out.2 i x c hx hcx; exact ⟨q.sp, q.key.below b1 (lr _), q.val.below b1 (lr _), q.dr⟩⟩
 clear b1
 go_wp2_with fail
 refine (gH _ d cs w1 HD1.out HC1.out (by have := HL.out; omega) (vw HG.out HC.out)).mono ?_
 rintro e w2 ⟨g, d', rfl, hg2, hl2, hci, hca, b2⟩
 have C2 := hide hci
 have A2 := hide hca
 have L2 := hide hl2
 have B2 := hide (B1.out.trans (b2.mono B1.out.size))
 clear hg2 hl2 hci hca b2 HD1 HC1
 go_wp2_with fail
 obtain ⟨pg, hr, ht, hlf⟩ := (HB.out.then B2.out).rds
 have GD := hide (uI HG.out HC.out A2.out)
 have e0 := jZ _ gk gs gt g 0 d.length bd pg es d' (cs.map S.tr) w2 hr hlf ht (HS.out.below B2.out) (C2.out.els L2.out) C2.out.lt (by have := L2.out; have := HL.out; omega) (by have := L2.out; omega) A2.out GD.out.2
 rw [L2.out] at e0
 refine e0.mono ?_
 clear e0 hr ht hlf
 rintro e w3 ⟨rfl, b3⟩
 have B3 := hide (B2.out.trans (b3.mono B2.out.size))
 have C3 := hide (C2.out.below b3)
 have A3 := hide (A2.out.below b3)
 have HS3 := hide (HS.out.below B3.out)
 clear b3 B2 C2 A2 B1
 obtain ⟨z, hz⟩ : ∃ z, z = (S.gr es (cs.map S.tr)).2 := ⟨_, rfl⟩
 rw [<- hz] at hzz ⊢
 have QZ : Hid ((0 : Int) < z) := hzz.1
 have QS : Hid (IntKind.i64.wrap ((S.used es : Int) + z) = (S.used es : Int) + z) := by show _ = _; rw [IntKind.wrap_i64]; have := hzz.2.2.2; omega
 have QF : Hid (decide (bd < (S.used es : Int) + z) = false) := decide_eq_false (by omega)
 clear hzz hz
 go_upto_region 5 with fail
 refine wp_region_noPanic ?_
 refine wp_region_held_drew (S := (fun Z => oZ Z gk gt bd)) follows HS3.out (fun hHeld => ?_)
 have B3d : Hid (Below w.heap.size w w3.drew) := B3.out.drew
 have C3d : Hid (lG w3.drew g d.length d') := C3.out
 have A3d : Hid (dG w3.drew d' (cs.map S.tr)) := A3.out.below ((Below.refl _ _).drew)
 clear B3 C3 A3 HS3
 generalize w3.drew = Z0 at B3d C3d A3d hHeld ⊢
 refine tq 0 ?_
 simp only [uA]
 refine tk 1 ?_ rfl (Or.inl ⟨by rfl, ?_⟩) ?_
 rotate_left
 ·intro w hSw
  have q := QZ.out
  clear hSw
  go_simp
  all_goals with_reducible rfl
 simp only [uA]
 refine tq 2 ?_
 simp only [uA]
 refine tq 3 ?_
 simp only [uA]
 refine tq 5 ?_
 simp only [uA]
 refine tq 7 ?_
 simp only [uA]
 refine tq 8 ?_
 simp only [uA]
 refine tq 9 ?_
 simp only [uA]
 refine tk 10 ?_ rfl (Or.inl ⟨by rfl, ?_⟩) ?_
 rotate_left
 ·intro w hSw
  obtain ⟨c0, c1⟩ := aJ hSw
  clear hSw
  go_simp
  all_goals with_reducible rfl
 simp only [uA]
 refine r1 4 fun K hK => ?_
 go_simp
 obtain ⟨pg, hr, ht, hlf⟩ := (HB.out.then B3d.out).rds
 refine (jc _ gk gs gt bd pg es Z0 hr hlf ht hHeld).mono ?_
 rintro e Z1 ⟨rfl, bz⟩
 have B4 := hide (B3d.out.trans (bz.mono B3d.out.size))
 have C4 := hide (C3d.out.below bz)
 have A4 := hide (A3d.out.below bz)
 have hk4 := hHeld.below bz
 clear hr ht hlf bz B3d C3d A3d hHeld
 refine hK.out _ _ hk4 (fun hHeld => ?_)
 clear hK K hk4
 try simp only [uA]
 refine tk 6 ?_ rfl (Or.inl ⟨by rfl, ?_⟩) ?_
 rotate_left
 ·intro w hSw
  have q := QS.out
  clear hSw
  go_simp
  all_goals with_reducible rfl
 simp only [uA]
 refine tk 11 ?_ rfl (Or.inl ⟨by rfl, ?_⟩) ?_
 rotate_left
 ·intro w hSw
  have q := QF.out
  clear hSw
  go_simp
  all_goals with_reducible rfl
 simp only [uA]
 refine tq 12 ?_
 simp only [uA]
 refine wpAnyH_done (by kernel_rfl) ?_ _
 refine NoPanic.normal ?_
 have K4 := hide hHeld
 clear hHeld
 obtain ⟨c0, c1⟩ := aJ K4.out
 go_wp2_with fail
 have hdo := do_ok w0 o gt gs n g 0 d.length d' (cs.map S.tr) es Z1 (HB.out.then B4.out) (C4.out.els L2.out) (by intro e; have := L2.out; rw [e] at this; exact HNE.out (List.length_eq_zero_iff.1 this.symm)) (by have := L2.out; have := HL.out; omega) (by have := L2.out; omega) GD.out.1 A4.out HM.out.1 HM.out.2.1 HM.out.2.2
 rw [L2.out] at hdo
 refine hdo.mono ?_
 clear hdo c0 c1
 rintro e w5 ⟨rfl, o', ho', hbt, hch, hown⟩
 have R1 := hide (show KvO w0 w5 o' gk gt gs (n + 2) bd (S.mrg es (S.lasts (cs.map S.tr))) from ⟨hbt, hch.row K4.out HNK.out.1, fun e => by
  rcases hown gk e with e | e
  ·exact HNK.out.1 e
  ·have := aa HS.out; have := B4.out.size; omega, HNK.out.2⟩)
 have R2 := hide ((Chg.ofBelow' (p := o.has) B4.out).trans hch (fun _ _ e => e))
 have R3 : Hid (∀ k, o'.has k -> o.has k \/ w.heap.size <= k) := fun k hk => (hown k hk).imp_right (fun e => ltr B4.out.size e)
 have R0 := hide ho'
 clear hbt hch hown ho'
 go_wp2_with fail
 go_ret
 exact ⟨rfl, o', R0.out, R1.out, R2.out, R3.out⟩
theorem gY (s : UInt8) (a : Option Addr) (b c : Nat) (d : Option Addr) (e f : Nat) (g : Bool) : Value.agg (dh ⟨s, a, b, c, d, e, f, g⟩).toArray = .agg #[.int .u8 (s.toNat : Int), .slice a b c, .slice d e f, .bool g] := rfl
theorem Ev : (S.gr [] [⟨[1, 97], [120], false⟩, ⟨[2, 97], [121], false⟩]).2 = 6 := by kernel_rfl
theorem Eg : S.mrg [] (S.lasts [⟨[1, 97], [120], false⟩, ⟨[2, 97], [121], false⟩]) = [⟨[1, 97], [120], 0⟩, ⟨[2, 97], [121], 0⟩] := by kernel_rfl
theorem kvk_ok : S.bE 0 (S.mrg [] (S.lasts [⟨[1, 97], [120], false⟩, ⟨[2, 97], [121], false⟩])) := by
 rw [Eg]
 refine ⟨fun x hx => ?_, ?_, by omega, by decide, fun _ x hx => ?_, fun h => absurd rfl h⟩
 ·simp only [List.mem_cons, List.not_mem_nil, or_false] at hx
  rcases hx with rfl | rfl <;> exact ⟨by decide, by decide, by decide, by decide⟩
 ·unfold S.up; decide
 ·simp only [List.mem_cons, List.not_mem_nil, or_false] at hx
  rcases hx with rfl | rfl <;> simp
theorem j6 {w : World} {g : Nat} {d : List KcV} (h : w.heap[g]? = some (.cells (d.flatMap dh).toArray 67 (0, 0))) (hl : d.length <= 1000000) : Els dh w (.slice (some ⟨g, 0, none⟩) d.length d.length) d :=
 Or.inr (Or.inr ⟨g, 0, d.length, rfl, lr _, hl, aa h, fun j u hu => by rw [Nat.zero_add, cell_of_row w g j _ _ _ h]; simpa using hu⟩)
theorem zh.below {w W : World} {x : KcV} {c : UInt8 × S.Cg} (h : zh w x c) (hb : Below w.heap.size w W) : zh W x c := ⟨h.sp, h.key.below hb (lr _), h.val.below hb (lr _), h.dr⟩
set_option maxHeartbeats 16000000 in
set_option maxRecDepth 100000 in
theorem wU (w : World) (hK : KAt w) (h1 : 1 < w.heap.size) :
  Calls Tryz.prog 33 #[] w fun e w' => e = .returned (.bool true) /\ Below w.heap.size w w' := by
 have HK := hide hK
 have HP : Hid (1 < w.heap.size) := h1
 clear hK h1
 go_enter Tryz.func33, Tryz.ntmps33
 go_wp2_with fail
 refine (pO 100 (by omega) (by omega) w HK.out HP.out).mono ?_
 rintro e w1 ⟨o, gk, gt, gs, rfl, hkv⟩
 have K1 := hide hkv
 clear hkv
 go_wp2_with fail
 refine (eF [97] [120] (by decide) (by decide) 1 _ _ rfl rfl w1).mono ?_
 rintro e w2 ⟨⟨sp1, ka1, kn1, kc1, va1, vn1, vc1, dr1⟩, rfl, hx1, k1, v1, b1⟩
 obtain rfl : sp1 = 1 := hx1.sp
 obtain rfl : dr1 = false := hx1.dr
 rw [gY]
 have HX1 := hide hx1
 have KV1 := hide (And.intro k1 v1)
 have BB1 := hide b1
 clear hx1 k1 v1 b1
 go_wp2_with fail
 refine (eF [97] [121] (by decide) (by decide) 2 _ _ rfl rfl w2).mono ?_
 rintro e w3 ⟨⟨sp2, ka2, kn2, kc2, va2, vn2, vc2, dr2⟩, rfl, hx2, k2, v2, b2⟩
 obtain rfl : sp2 = 2 := hx2.sp
 obtain rfl : dr2 = false := hx2.dr
 rw [gY]
 have HX2 := hide hx2
 have KV2 := hide (And.intro k2 v2)
 have BB2 := hide b2
 clear hx2 k2 v2 b2
 go_wp2_with fail
 generalize hW4 : w3.alloc _ = W4
 have r4 : W4.heap[w3.heap.size]? = some (.cells (([⟨1, ka1, kn1, kc1, va1, vn1, vc1, false⟩, ⟨2, ka2, kn2, kc2, va2, vn2, vc2, false⟩] : List KcV).flatMap dh).toArray 67 (0, 0)) := by rw [<- hW4]; exact heap_alloc_new _ _
 have b4 : Below w3.heap.size w3 W4 := by rw [<- hW4]; exact ba ..
 have k1 := KV1.out
 have k2 := KV2.out
 have hd := tQ w W4 o gk gt gs 2 100 [] _ [⟨1, ka1, kn1, kc1, va1, vn1, vc1, false⟩, ⟨2, ka2, kn2, kc2, va2, vn2, vc2, false⟩] [(1, ⟨[97], [120], false⟩), (2, ⟨[97], [121], false⟩)]
  (((K1.out.then BB1.out).then BB2.out).then b4) (j6 r4 (by simp)) (by simp) (by simp) (by simp [KcV.good, k1.1, k1.2, k2.1, k2.2]) ⟨rfl, fun i x c hx hc => by
   match i, hx, hc with
   | 0, hx, hc => cases hx; cases hc; exact (HX1.out.below BB2.out).below b4
   | 1, hx, hc => cases hx; cases hc; exact HX2.out.below b4⟩ (by rw [show (List.map S.tr [(1, ⟨[97], [120], false⟩), (2, ⟨[97], [121], false⟩)] : List S.Cg) = [⟨[1, 97], [120], false⟩, ⟨[2, 97], [121], false⟩] from rfl, Ev]; simp [S.used]) (by simp) kvk_ok (by omega)
 rw [show (List.map S.tr [(1, ⟨[97], [120], false⟩), (2, ⟨[97], [121], false⟩)] : List S.Cg) = [⟨[1, 97], [120], false⟩, ⟨[2, 97], [121], false⟩] from rfl, Eg] at hd
 refine hd.mono ?_
 clear hd r4 b4 hW4 k1 k2
 rintro e w5 ⟨rfl, o', ho', hkv, hch, hown⟩
 have K5 := hide hkv
 clear ho' hkv hch hown K1 HX1 HX2 KV1 KV2 BB1 BB2
 have cK : ∀ (W : World) (C : Array Value) (n c g : Nat), g = W.heap.size -> (convert 32 32 (.slice (some ⟨g, 0, none⟩) n c)).run Tryz.prog (W.alloc (.cells C 5)) = .ok (.slice (some ⟨g, 0, none⟩) n c) (W.alloc (.cells C 5 (C.size, C.size + 1))) := fun W C n c g hg => by rw [hg]; exact zS W C n c
 go_wp2_with fail
 obtain ⟨b6, s6⟩ := vg w5 [97] #[.int .u8 97] 1 rfl rfl (by simp) (1, 2)
 generalize hW6 : w5.alloc _ = W6 at b6 s6 ⊢
 have K6 := hide (K5.out.then b6)
 obtain ⟨pg, hr, ht, hlf⟩ := K6.out.1.rds
 refine (tO _ gk gt gs 100 pg _ 1 _ [97] W6 hr ht hlf K6.out.2.1 s6 (by simp)).mono ?_
 clear hr ht hlf hW6 b6 s6 cK
 rintro e w7 ⟨v, ok, rfl, oK, b7⟩
 obtain ⟨rfl, hv⟩ := oK.yes ⟨[1, 97], [120], 0⟩ (by simp) rfl
 have hG : Got w7 W6.heap.size v [120] := hv
 obtain ⟨av, cv, hf⟩ := hG.form
 subst hf
 have k1 : (convert 32 9 (.slice av 1 cv)).run Tryz.prog w7 = .ok (.string ⟨#[120]⟩) w7 := dE (hG.sliceAt (by simp))
 have K7 := hide (K6.out.then b7)
 clear oK hv hG b7 K6 K5
 simp only [List.length_cons, List.length_nil, Nat.zero_add]
 go_wp2_with fail
 obtain ⟨pg2, hr, ht, hlf⟩ := K7.out.1.rds
 refine (jc _ gk gs gt 100 pg2 _ w7 hr hlf ht K7.out.2.1).mono ?_
 clear hr ht hlf k1
 rintro e w8 ⟨rfl, b8⟩
 rw [show S.used [⟨[1, 97], [120], 0⟩, ⟨[2, 97], [121], 0⟩] = 6 from rfl]
 have B8 := hide (K7.out.then b8).1.below
 clear b8 K7
 go_wp2_with fail
 go_ret
 exact ⟨rfl, B8.out⟩
theorem zY (n : Nat) (hn : n <= 100000) (W : World) : (convert 32 9 (.slice (some ⟨W.heap.size, 0, none⟩) n n)).run Tryz.prog (W.alloc (.cells (S.v8 (S.zeros n)) 5)) = .ok (.string ⟨(S.zeros n).toArray⟩) (W.alloc (.cells (S.v8 (S.zeros n)) 5)) :=
 dE (ay (heap_alloc_new _ _) (by simp [S.zeros]) (by simp [S.zeros]; omega))
theorem lW {w : World} {ops : Array Oper} {rest : List Oper} {o : Oper} {a : Act} {Q : Exit -> Act -> World -> Prop} (hgd : o.guard = none) (t : TypeId) (x y : Operand) (ho : o.op = .makeSlice t x y) (vx vy : Value) (hx : a.eval x = vx) (hy : a.eval y = vy) (v : Value) (w' : World)
  (hr : (Instr.makeSlice t vx vy).run Tryz.prog w = .ok v w') (h : wpList Tryz.prog ops Q rest (a.put o.dst v) w') : wpList Tryz.prog ops Q (o :: rest) a w :=
 wpList_plain hgd fun _ hK => by
  unfold Oper.wp execOp
  simp only [ho, Sem.run_bind, hx, hy, hr, Result.andThen_ok]
  exact hK _ _ h
theorem none_ok : S.bE 0 [] := ⟨fun x hx => by simp at hx, List.Pairwise.nil, by omega, by decide, fun _ x hx => by simp at hx, fun h => absurd rfl h⟩
set_option maxHeartbeats 16000000 in
set_option maxRecDepth 100000 in
theorem qX (w : World) (hK : KAt w) (h1 : 1 < w.heap.size) :
  Calls Tryz.prog 7 #[] w fun e w' => e = .returned (.bool true) /\ Below w.heap.size w w' := by
 have HK := hide hK
 have HP : Hid (1 < w.heap.size) := h1
 clear hK h1
 go_enter Tryz.func7, Tryz.ntmps7
 go_wp2_with fail
 refine (pO 2 (by omega) (by omega) w HK.out HP.out).mono ?_
 rintro e w1 ⟨o, gk, gt, gs, rfl, hkv⟩
 have K1 := hide hkv
 clear hkv
 go_wp2_with fail
 refine (eF [97] [120] (by decide) (by decide) 1 _ _ rfl rfl w1).mono ?_
 rintro e c1 ⟨⟨sp1, ka1, kn1, kc1, va1, vn1, vc1, dr1⟩, rfl, hx, k1, v1, b1⟩
 obtain rfl : sp1 = 1 := hx.sp
 obtain rfl : dr1 = false := hx.dr
 rw [gY]
 have HX1 := hide hx
 have KV1 := hide (And.intro k1 v1)
 have CB1 := hide b1
 clear hx k1 v1 b1
 go_wp2_with fail
 generalize hW : c1.alloc _ = C1
 have ra : C1.heap[c1.heap.size]? = some (.cells (([⟨1, ka1, kn1, kc1, va1, vn1, vc1, false⟩] : List KcV).flatMap dh).toArray 67 (0, 0)) := by rw [<- hW]; exact heap_alloc_new _ _
 have ba : Below c1.heap.size c1 C1 := by rw [<- hW]; exact ba ..
 have EL1 := hide (j6 ra (by simp))
 have HY1 := hide (HX1.out.below ba)
 have BA1 := hide (CB1.out.trans (ba.mono CB1.out.size))
 clear ra ba hW HX1 CB1
 have k1 := KV1.out
 refine (tT w C1 o gk gt gs 2 2 [] _ _ [(1, ⟨[97], [120], false⟩)] (K1.out.then BA1.out) EL1.out (by simp) (by simp) (by simp [KcV.good, k1.1, k1.2]) ⟨rfl, fun i x c hx hc => by
  match i, hx, hc with
  | 0, hx, hc => cases hx; cases hc; exact HY1.out⟩ (by rw [show (List.map S.tr [(1, ⟨[97], [120], false⟩)] : List S.Cg) = [⟨[1, 97], [120], false⟩] from rfl, show (S.gr [] [⟨[1, 97], [120], false⟩]).2 = 3 by kernel_rfl]; simp [S.used]) (by simp [S.used])).mono ?_
 clear k1
 rintro e w2 ⟨rfl, b2⟩
 have K2 := hide (K1.out.then (BA1.out.trans (b2.mono BA1.out.size)))
 clear b2 K1 BA1 EL1 HY1 KV1
 go_wp2_with fail
 refine (eF [97] [] (by decide) (by decide) 1 _ _ rfl rfl w2).mono ?_
 rintro e c2 ⟨⟨sp2, ka2, kn2, kc2, va2, vn2, vc2, dr2⟩, rfl, hx, k1, v1, b1⟩
 obtain rfl : sp2 = 1 := hx.sp
 obtain rfl : dr2 = false := hx.dr
 rw [gY]
 have HX2 := hide hx
 have KV2 := hide (And.intro k1 v1)
 have CB2 := hide b1
 clear hx k1 v1 b1
 go_wp2_with fail
 generalize hW : c2.alloc _ = C2
 have ra : C2.heap[c2.heap.size]? = some (.cells (([⟨1, ka2, kn2, kc2, va2, vn2, vc2, false⟩] : List KcV).flatMap dh).toArray 67 (0, 0)) := by rw [<- hW]; exact heap_alloc_new _ _
 have ba : Below c2.heap.size c2 C2 := by rw [<- hW]; exact ba ..
 have EL2 := hide (j6 ra (by simp))
 have HY2 := hide (HX2.out.below ba)
 have BA2 := hide (CB2.out.trans (ba.mono CB2.out.size))
 clear ra ba hW HX2 CB2
 have k1 := KV2.out
 have hd := tQ w C2 o gk gt gs 2 2 [] _ _ [(1, ⟨[97], [], false⟩)] (K2.out.then BA2.out) EL2.out (by simp) (by simp) (by simp [KcV.good, k1.1, k1.2]) ⟨rfl, fun i x c hx hc => by
  match i, hx, hc with
  | 0, hx, hc => cases hx; cases hc; exact HY2.out⟩ (by rw [show (List.map S.tr [(1, ⟨[97], [], false⟩)] : List S.Cg) = [⟨[1, 97], [], false⟩] from rfl, show (S.gr [] [⟨[1, 97], [], false⟩]).2 = 2 by kernel_rfl]; simp [S.used]) (by simp) (by rw [show (List.map S.tr [(1, ⟨[97], [], false⟩)] : List S.Cg) = [⟨[1, 97], [], false⟩] from rfl]; exact one_ok [1, 97] [] (by simp) (by simp) (by simp)) (by omega)
 rw [show (List.map S.tr [(1, ⟨[97], [], false⟩)] : List S.Cg) = [⟨[1, 97], [], false⟩] from rfl, DI] at hd
 refine hd.mono ?_
 clear k1 hd
 rintro e w3 ⟨rfl, o3, ho3, hkv, hch, hown⟩
 have K3 := hide hkv
 have HO3 := hide ho3
 clear hkv ho3 hch hown K2 BA2 EL2 HY2 KV2
 obtain ⟨Z40, hZ⟩ : ∃ Z, Z = (⟨(S.zeros 40).toArray⟩ : ByteArray) := ⟨_, rfl⟩
 have HZ := hide hZ
 have zs := zY 40 (by omega) w3
 have zb : Below w3.heap.size w3 (w3.alloc (.cells (S.v8 (S.zeros 40)) 5)) := ba ..
 have zm : (Instr.makeSlice 32 (.int .i64 40) (.int .i64 40)).run Tryz.prog w3 = .ok (.slice (some ⟨w3.heap.size, 0, none⟩) 40 40) (w3.alloc (.cells (S.v8 (S.zeros 40)) 5)) := bL 40 (by omega) w3
 rw [<- hZ] at zs
 generalize w3.alloc (.cells (S.v8 (S.zeros 40)) 5) = w4 at zs zb zm
 have K4 := hide (K3.out.then zb)
 clear hZ zb K3
 go_wp2_with fail
 clear zs zm
 refine (eF (S.zeros 40) [] (by simp [S.zeros]) (by decide) 1 _ _ HZ.out rfl w4).mono ?_
 rintro e c3 ⟨⟨sp3, ka3, kn3, kc3, va3, vn3, vc3, dr3⟩, rfl, hx, k1, v1, b1⟩
 obtain rfl : sp3 = 1 := hx.sp
 obtain rfl : dr3 = false := hx.dr
 rw [gY]
 have HX3 := hide hx
 have KV3 := hide (And.intro k1 v1)
 have CB3 := hide b1
 clear hx k1 v1 b1
 go_wp2_with fail
 generalize hW : c3.alloc _ = C3
 have ra : C3.heap[c3.heap.size]? = some (.cells (([⟨1, ka3, kn3, kc3, va3, vn3, vc3, false⟩] : List KcV).flatMap dh).toArray 67 (0, 0)) := by rw [<- hW]; exact heap_alloc_new _ _
 have ba : Below c3.heap.size c3 C3 := by rw [<- hW]; exact ba ..
 have EL3 := hide (j6 ra (by simp))
 have HY3 := hide (HX3.out.below ba)
 have BA3 := hide (CB3.out.trans (ba.mono CB3.out.size))
 clear ra ba hW HX3 CB3
 have k1 := KV3.out
 refine (zJ gk _ _ C3 EL3.out (by simp [KcV.good, k1.1, S.zeros])).mono ?_
 clear k1
 rintro e w5 ⟨rfl, b2⟩
 have K5 := hide (K4.out.then (BA3.out.trans (b2.mono BA3.out.size)))
 clear b2 K4 BA3 EL3 HY3 KV3 HZ
 go_wp2_with fail
 refine (eF [] [] (by decide) (by decide) 1 _ _ rfl rfl w5).mono ?_
 rintro e c4 ⟨⟨sp4, ka4, kn4, kc4, va4, vn4, vc4, dr4⟩, rfl, hx, k1, v1, b1⟩
 obtain rfl : sp4 = 1 := hx.sp
 obtain rfl : dr4 = false := hx.dr
 rw [gY]
 have HX4 := hide hx
 have KV4 := hide (And.intro k1 v1)
 have CB4 := hide b1
 clear hx k1 v1 b1
 go_wp2_with fail
 generalize hW : c4.alloc _ = C4
 have ra : C4.heap[c4.heap.size]? = some (.cells (([⟨1, ka4, kn4, kc4, va4, vn4, vc4, false⟩] : List KcV).flatMap dh).toArray 67 (0, 0)) := by rw [<- hW]; exact heap_alloc_new _ _
 have ba : Below c4.heap.size c4 C4 := by rw [<- hW]; exact ba ..
 have EL4 := hide (j6 ra (by simp))
 have HY4 := hide (HX4.out.below ba)
 have BA4 := hide (CB4.out.trans (ba.mono CB4.out.size))
 clear ra ba hW HX4 CB4
 have k1 := KV4.out
 refine (zJ gk _ _ C4 EL4.out (by simp [KcV.good, k1.1])).mono ?_
 clear k1
 rintro e w6 ⟨rfl, b2⟩
 have K6 := hide (K5.out.then (BA4.out.trans (b2.mono BA4.out.size)))
 clear b2 K5 BA4 EL4 HY4 KV4
 have hpt : o.ptr = .pointer (some ⟨o.g, 0, none⟩) := rfl
 have HPT := hide (show o3.ptr = o.ptr by unfold Ow.ptr; rw [HO3.out])
 clear hpt
 go_wp2_with fail
 refine (qW _ (-1) (Or.inl (by omega)) w6).mono ?_
 rintro e w7 ⟨rfl, rfl⟩
 go_wp2_with fail
 refine (qW _ 98305 (Or.inr (by omega)) w7).mono ?_
 rintro e w8 ⟨rfl, rfl⟩
 rw [<- HPT.out]
 go_wp2_with fail
 obtain ⟨d3, p3, t3, pg3, hb3, _, _, _, _, ht3⟩ := K6.out.1
 refine (wT w w8 o3 d3 p3 t3 pg3 _ hb3 0 (by omega) (by omega)).mono ?_
 rintro e w9 ⟨gk2, gt2, gs2, rfl, hk, ht, hs, hgk, hgt, hgs, hb⟩
 have K9 : Hid (KvO w w9 o3 gk2 gt2 gs2 (2 + 2) 0 [⟨[1, 97], [], 0⟩]) := ⟨⟨d3, p3, t3, pg3, hb3.then hb, ht, hs, fun e => by have := hb3.pgs.dk.dk.lt _ e; omega, fun e => by have := hb3.pgs.dk.dk.lt _ e; omega, ht3⟩, hk, fun e => by have := hb3.pgs.dk.dk.lt _ e; omega, ltr hb3.pgs.below.size hgk, ltr hb3.pgs.below.size hgt, ltr hb3.pgs.below.size hgs⟩
 clear hk ht hs hgk hgt hgs hb hb3 ht3 K6
 go_wp2_with fail
 obtain ⟨pg, hr, ht, hlf⟩ := K9.out.1.rds
 refine (jc _ gk2 gs2 gt2 0 pg _ w9 hr hlf ht K9.out.2.1).mono ?_
 clear hr ht hlf
 rintro e w10 ⟨rfl, b8⟩
 rw [show S.used [⟨[1, 97], [], 0⟩] = 2 from rfl]
 have K10 := hide (K9.out.then b8)
 clear b8 K9
 go_wp2_with fail
 refine (eF [98] [] (by decide) (by decide) 2 _ _ rfl rfl w10).mono ?_
 rintro e c5 ⟨⟨sp5, ka5, kn5, kc5, va5, vn5, vc5, dr5⟩, rfl, hx, k1, v1, b1⟩
 obtain rfl : sp5 = 2 := hx.sp
 obtain rfl : dr5 = false := hx.dr
 rw [gY]
 have HX5 := hide hx
 have KV5 := hide (And.intro k1 v1)
 have CB5 := hide b1
 clear hx k1 v1 b1
 go_wp2_with fail
 generalize hW : c5.alloc _ = C5
 have ra : C5.heap[c5.heap.size]? = some (.cells (([⟨2, ka5, kn5, kc5, va5, vn5, vc5, false⟩] : List KcV).flatMap dh).toArray 67 (0, 0)) := by rw [<- hW]; exact heap_alloc_new _ _
 have ba : Below c5.heap.size c5 C5 := by rw [<- hW]; exact ba ..
 have EL5 := hide (j6 ra (by simp))
 have HY5 := hide (HX5.out.below ba)
 have BA5 := hide (CB5.out.trans (ba.mono CB5.out.size))
 clear ra ba hW HX5 CB5
 have k1 := KV5.out
 refine (tT w C5 o3 gk2 gt2 gs2 (2 + 2) 0 [⟨[1, 97], [], 0⟩] _ _ [(2, ⟨[98], [], false⟩)] (K10.out.then BA5.out) EL5.out (by simp) (by simp) (by simp [KcV.good, k1.1, k1.2]) ⟨rfl, fun i x c hx hc => by
  match i, hx, hc with
  | 0, hx, hc => cases hx; cases hc; exact HY5.out⟩ (by rw [show (List.map S.tr [(2, ⟨[98], [], false⟩)] : List S.Cg) = [⟨[2, 98], [], false⟩] from rfl, show (S.gr [⟨[1, 97], [], 0⟩] [⟨[2, 98], [], false⟩]).2 = 2 by kernel_rfl]; simp [S.used]) (by simp [S.used])).mono ?_
 clear k1
 rintro e w11 ⟨rfl, b2⟩
 have K11 := hide (K10.out.then (BA5.out.trans (b2.mono BA5.out.size)))
 clear b2 K10 BA5 EL5 HY5 KV5
 have cK : ∀ (W : World) (C : Array Value) (n c g : Nat), g = W.heap.size -> (convert 32 32 (.slice (some ⟨g, 0, none⟩) n c)).run Tryz.prog (W.alloc (.cells C 5)) = .ok (.slice (some ⟨g, 0, none⟩) n c) (W.alloc (.cells C 5 (C.size, C.size + 1))) := fun W C n c g hg => by rw [hg]; exact zS W C n c
 go_wp2_with fail
 obtain ⟨b6, s6⟩ := vg w11 [97] #[.int .u8 97] 1 rfl rfl (by simp) (1, 2)
 have z1 : (w11.alloc (.cells #[.int .u8 97] 5 (1, 2))).heap.size = w11.heap.size + 1 := by simp
 generalize hA : w11.alloc (.cells #[.int .u8 97] 5 (1, 2)) = W12 at b6 s6 z1 ⊢
 have hB0 : W12.heap.size = w11.heap.size + 1 := z1
 generalize hB : W12.alloc _ = W13
 have ra : W13.heap[w11.heap.size + 1]? = some (.cells (([⟨1, some ⟨w11.heap.size, 0, none⟩, 1, 1, none, 0, 0, true⟩] : List KcV).flatMap dh).toArray 67 (0, 0)) := by rw [<- hB, <- hB0]; exact heap_alloc_new _ _
 have ba : Below W12.heap.size W12 W13 := by rw [<- hB]; exact ba ..
 have hd := Bf w W13 o3 gk2 gt2 gs2 (2 + 2) 0 [⟨[1, 97], [], 0⟩] _ [⟨1, some ⟨w11.heap.size, 0, none⟩, 1, 1, none, 0, 0, true⟩] [(1, ⟨[97], [], true⟩)] ((K11.out.then b6).then ba) (j6 ra (by simp)) (by simp) (by simp) (by simp [KcV.good]) ⟨rfl, fun i x c hx hc => by
  match i, hx, hc with
  | 0, hx, hc => cases hx; cases hc; exact ⟨rfl, s6.below ba (lr _), Or.inl ⟨rfl, rfl⟩, rfl⟩⟩ (by rw [show (List.map S.tr [(1, ⟨[97], [], true⟩)] : List S.Cg) = [⟨[1, 97], [], true⟩] from rfl, show (S.gr [⟨[1, 97], [], 0⟩] [⟨[1, 97], [], true⟩]).2 = -2 by kernel_rfl]; omega) (by simp) (by rw [show S.mrg [⟨[1, 97], [], 0⟩] (S.lasts (List.map S.tr [(1, ⟨[97], [], true⟩)])) = [] by kernel_rfl]; exact none_ok) (by omega)
 rw [show S.mrg [⟨[1, 97], [], 0⟩] (S.lasts (List.map S.tr [(1, ⟨[97], [], true⟩)])) = [] by kernel_rfl] at hd
 refine hd.mono ?_
 clear hd ra ba hA hB hB0 z1 b6 s6
 rintro e w14 ⟨rfl, o4, ho4, hkv, hch, hown⟩
 have K14 := hide hkv
 clear hkv ho4 hch hown K11
 go_wp2_with fail
 obtain ⟨b6, s6⟩ := vg w14 [97] #[.int .u8 97] 1 rfl rfl (by simp) (1, 2)
 generalize hA : w14.alloc _ = W15 at b6 s6 ⊢
 have K15 := hide (K14.out.then b6)
 obtain ⟨pg, hr, ht, hlf⟩ := K15.out.1.rds
 refine (tO _ gk2 gt2 gs2 0 pg _ 1 _ [97] W15 hr ht hlf K15.out.2.1 s6 (by simp)).mono ?_
 clear hr ht hlf hA b6 s6 cK K14
 rintro e w16 ⟨v, ok, rfl, oK, b7⟩
 obtain ⟨rfl, rfl⟩ := oK.no (by simp)
 have K16 := hide (K15.out.then b7)
 clear oK b7 K15
 go_wp2_with fail
 obtain ⟨pg, hr, ht, hlf⟩ := K16.out.1.rds
 refine (jc _ gk2 gs2 gt2 0 pg _ w16 hr hlf ht K16.out.2.1).mono ?_
 clear hr ht hlf
 rintro e w17 ⟨rfl, b8⟩
 rw [show S.used [] = 0 from rfl]
 have K17 := hide (K16.out.then b8)
 clear b8 K16
 go_wp2_with fail
 refine (wU w17 K17.out.1.k (Nat.lt_of_lt_of_le HP.out K17.out.1.below.size)).mono ?_
 rintro e w18 ⟨rfl, b9⟩
 have BF := hide (K17.out.1.below.trans (b9.mono K17.out.1.below.size))
 clear b9 K17
 go_wp2_with fail
 go_ret
 exact ⟨rfl, BF.out⟩
end Go.Proofs.YteealihknndclaaGreatDoor
