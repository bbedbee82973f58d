/- change: the next head, with the text that it tells of. -/
/- Room: how many bytes the next record may have. -/
/- Commit and Clear. -/
import Derived.Test.YteealihknndclabGreatDoorGt
namespace Go.Proofs.YteealihknndclabGreatDoor
open Go.RowKit

namespace S
theorem Dk.plan_true {d d' : Dk} {l : List Act} (h : d.plan l = (d', true)) : d'.Alike (d.acts l) := by
 obtain ⟨n, hn, h1, h2, _⟩ := Dk.plan_first l d
 rw [h] at h1 h2
 have := h2 rfl
 rw [this, List.take_length] at h1
 exact h1
theorem Bi {d d' : Dk} {ws : Ws} (h : d.plan (eG ws) = (d', true)) (hp : d.pend.length <= 2) : d'.pend.length <= 2 := by
 have a := Dk.plan_true h
 rw [a.pend]
 unfold eG
 split
 ·exact hp
 ·rw [Dk.acts_app]
  exact Nat.zero_le _
end S
structure Ended (d : S.Dk) (l : List S.Act) (o : Ow) (g f c : Nat) (h h' : S.Hd) (tv tv' : Value) (w : World) (e : Ending) (w' : World) (b : Bool) (d' : S.Dk) (o' : Ow) : Prop where
 ret : e = .returned (.int .i64 (S.why b))
 plan : d.plan l = (d', b)
 dk : Dsk w' o' d'
 moved : gG o g w o' w'
 yes : b = true -> aS w' g o.ptr f c h' tv' true
 no : b = false -> aS w' g o.ptr f c h tv false
def kL (d : S.Dk) (l : List S.Act) (o : Ow) (g f c : Nat) (h h' : S.Hd) (tv tv' : Value) (w : World) (e : Ending) (w' : World) : Prop := ∃ b d' o', Ended d l o g f c h h' tv tv' w e w' b d' o'
set_option maxHeartbeats 8000000 in
set_option maxRecDepth 10000 in
theorem sQ (o : Ow) (d : S.Dk) (f c p t g : Nat) (rs rs' : List (List UInt8)) (ao : Option Addr) (n cp : Nat) (X : List UInt8) (w : World) (hd : Dsk w o d) (hpe : d.pend = []) (hg : S.Good d.safe f c p t rs) (ht : t + 1 < 18446744073709551616) (hrm : (S.enc rs').length <= S.room c)
  (hl : aS w g o.ptr f c (S.cZ t rs) (.slice ao n cp) true) (hu : dz w (.slice ao n cp) X) (hX : X.take (S.enc rs').length = S.enc rs') (hXl : (S.enc rs').length <= n) (hn6 : n <= 10000000) (hgo : ¬ o.has g) (hg0 : 1 < g) (hto : ∀ k, (Value.slice ao n cp).ownBlock = some k -> ¬ o.has k /\ k ≠ g) :
  Calls Tryz.prog 101 #[.pointer (some ⟨g, 0, none⟩), hdv (S.cZ (t + 1) rs')] w (kL d (S.eB f c p (d.safe.getD (f + (1 - p)) []) (S.iO f c (S.enc rs') (S.enc rs).length) (S.cZ (t + 1) rs')) o g f c (S.cZ t rs) (S.cZ (t + 1) rs') (.slice ao n cp) (.slice ao (S.enc rs').length cp) w) := by
 have hns := hd.dk.n
 have hfc := hg.few
 have h4 := hg.four
 have h8 := hg.most
 have hp1 := hg.place
 have HF : Hid (f + c <= d.safe.length) := hfc
 have HG := hide hg
 have HPE := hide hpe
 have hrl := S.room_le h8
 have wL : Hid (S.cZ (t + 1) rs').Ok := ⟨ht, by show (S.enc rs').length < _; omega, S.fB _⟩
 have HOK := hide hg.hd
 obtain ⟨h, hh⟩ : ∃ h, h = S.cZ t rs := ⟨_, rfl⟩
 obtain ⟨h', hh'⟩ : ∃ h', h' = S.cZ (t + 1) rs' := ⟨_, rfl⟩
 have HH : Hid (h = S.cZ t rs) := hh
 have HH' : Hid (h' = S.cZ (t + 1) rs') := hh'
 rw [<- hh] at HOK hl ⊢
 rw [<- hh'] at wL ⊢
 obtain ⟨U, hU⟩ : ∃ U, U = (S.enc rs').length := ⟨_, rfl⟩
 obtain ⟨U0, hU0⟩ : ∃ U0, U0 = (S.enc rs).length := ⟨_, rfl⟩
 have HUU : Hid (U = (S.enc rs').length /\ h'.used = U) := ⟨hU, by rw [hh', hU]; rfl⟩
 have HU0 : Hid (U0 = (S.enc rs).length /\ h.used = U0) := ⟨hU0, by rw [hh, hU0]; rfl⟩
 rw [<- hU] at hXl hX hrm ⊢
 rw [<- hU0]
 obtain ⟨AA, hAA⟩ : ∃ AA, AA = S.eB f c p (d.safe.getD (f + (1 - p)) []) (S.iO f c (S.enc rs') U0) h' := ⟨_, rfl⟩
 rw [<- hAA]
 have HAA := hide hAA
 clear hAA
 have hrm' : U <= (c - 2) * 120 := hrm
 have HX : Hid (X.take U = S.enc rs') := hX
 have HU := hide hu
 have HGO := hide hgo
 have HTO := hide hto
 have HLT : Hid (∀ k, o.has k -> k < w.heap.size) := hd.dk.lt
 have hgw : g < w.heap.size := aa hl
 have hXn : X.length = n := by obtain ⟨_, _, hs⟩ := hu.shape; simp only [Value.slice.injEq] at hs; omega
 have hcap := (hu.sliceAt (by omega)).le_cap
 obtain ⟨C, hC⟩ : ∃ C, C = (S.hc h').toArray := ⟨_, rfl⟩
 obtain ⟨wa, hwa⟩ : ∃ wa, wa = w.alloc (.cells C 186) := ⟨_, rfl⟩
 have ba : Below w.heap.size w wa := by rw [hwa]; exact ba ..
 have hna : bQ wa w.heap.size h' := by show wa.heap[w.heap.size]? = _; rw [hwa, <- hC]; exact heap_alloc_new _ _
 have hla := hl.below ba hgw
 have c38 := hla.opened HOK.out.sl
 have f38 := frozen_of_row _ _ 38 _ _ hla
 have hlb := hla.setOpen HOK.out.sl false
 obtain ⟨w0, hw0⟩ : ∃ w0, w0 = wa.setCell ⟨g, 38, none⟩ (.bool false) := ⟨_, rfl⟩
 rw [<- hw0] at hlb
 have c0 : Chg (fun k => k = g) wa w0 := by rw [hw0]; exact Chg.one g 38 _ rfl
 have hn0 : bQ w0 w.heap.size h' := c0.row hna (by omega)
 have D0 := hide ((hd.below ba).one c0 hgo hg0)
 have HL0 := hide hlb
 have HN0 := hide hn0
 have T0 : Hid (gG o g w o w0) := (gG.refl o g w).trans ((gG.then (gG.refl o g wa) c0).after ba)
 obtain ⟨gn, hgn⟩ : ∃ gn, gn = w.heap.size := ⟨_, rfl⟩
 rw [<- hgn] at HN0
 have HGN : Hid (gn = w.heap.size) := hgn
 have HNO : Hid (¬ o.has gn /\ gn ≠ g) := ⟨fun e => by have := HLT.out _ e; omega, by omega⟩
 have eC : hdv h' = .agg C := by rw [hC]; rfl
 rw [eC]
 clear eC hd hpe hg hl hu hX hgo hto ba hna hla hlb c0 hn0 hh hh' hU hU0 hC hfc hrm
 go_enter Tryz.func101, Tryz.ntmps101
 go_upto_region 1 with fail
 rw [<- hwa, <- hgn]
 clear hwa hgn
 go_wp2_with fail
 rw [<- hw0]
 clear hw0 c38 f38
 refine wp_region_noPanic ?_
 refine wp_region_held_drew (S := (fun W => aS W g o.ptr f c h (.slice ao n cp) false /\ bQ W gn h')) follows ⟨HL0.out, HN0.out⟩ (fun hHeld => ?_)
 have D1 := hide (D0.out.below (W := w0.drew) (Below.refl _ _).drew)
 have T1 : Hid (gG o g w o w0.drew) := T0.out.below (Below.refl _ _).drew
 clear D0 HL0 HN0 T0
 generalize w0.drew = Z1 at D1 T1 hHeld ⊢
 refine tq 0 ?_
 simp only [uA]
 refine tq 1 ?_
 simp only [uA]
 refine tq 2 ?_
 simp only [uA]
 refine wpAnyH_take (i := 3) (oi := ⟨_, _, _, _, _, _⟩) (v := .agg #[o.ptr, .int .i64 (f : Int), .int .i64 (c : Int)]) rfl (by kernel_rfl) (by kernel_rfl) (by kernel_rfl) (fun _ _ _ h => h) (yieldsIf_load_mid (by kernel_rfl) 182 (.tmp 16) rfl g 0 rfl [o.ptr, .int .i64 (f : Int), .int .i64 (c : Int)] _ (fun W hW => aS.area hW.1) Tryz.underlying182 rfl (by kernel_rfl)) (by assumption) ?_
 simp only [uA]
 refine tq 4 ?_
 simp only [uA]
 refine tq 5 ?_
 simp only [uA]
 refine tq 6 ?_
 simp only [uA]
 refine wpAnyH_take (i := 7) (oi := ⟨_, _, _, _, _, _⟩) (v := hdv h) rfl (by kernel_rfl) (by kernel_rfl) (by kernel_rfl) (fun _ _ _ h => h) (yieldsIf_load_mid (by kernel_rfl) 186 (.tmp 20) rfl g 3 rfl (S.hc h) _ (fun W hW => aS.head hW.1) Tryz.underlying186 rfl (by rw [jv, S.aD HOK.out.sl])) (by assumption) ?_
 simp only [uA]
 refine r1 8 fun K hK => ?_
 go_simp
 rw [HH.out]
 refine (Bj o d f c p t rs Z1 D1.out HPE.out HG.out).mono ?_
 rintro e Z2 ⟨rfl, o2, h2, h3⟩
 rw [<- HH.out]
 obtain ⟨A1, hA1⟩ : ∃ A, A = S.dR f c (1 - p) (d.safe.getD (f + (1 - p)) []) := ⟨_, rfl⟩
 rw [<- hA1] at h2 ⊢
 have HA1 := hide hA1
 obtain ⟨⟨d2, b2⟩, hpl⟩ : ∃ x, x = d.plan A1 := ⟨_, rfl⟩
 rw [<- hpl] at h2 ⊢
 have P2 : Hid (d.plan A1 = (d2, b2)) := hpl.symm
 have L2 : aS Z2 g o.ptr f c h (.slice ao n cp) false := hHeld.1.chg h3.chg HGO.out
 have N2 : bQ Z2 gn h' := h3.chg.row hHeld.2 HNO.out.1
 have D2 := hide (D1.out.to h2 h3)
 have T2 := hide (T1.out.trans (gG.ofDk h3))
 have NN2 : Hid (¬ o2.has g /\ ¬ o2.has gn /\ ∀ k, (Value.slice ao n cp).ownBlock = some k -> ¬ o2.has k) := by
  have hz := aa hHeld.1
  have hz2 := aa hHeld.2
  refine ⟨fun e => ?_, fun e => ?_, fun k hk e => ?_⟩
  ·rcases h3.own _ e with e | e
   ·exact HGO.out e
   ·omega
  ·rcases h3.own _ e with e | e
   ·exact HNO.out.1 e
   ·omega
  ·rcases h3.own _ e with e | e
   ·exact (HTO.out k hk).1 e
   ·have h1 := HU.out.lt hk
    have h2 := T1.out.chg.size
    omega
 clear h2 h3 hpl hHeld hA1
 refine hK.out _ _ ⟨L2, N2⟩ (fun hHeld => ?_)
 clear hK K
 have HL2 := hide L2
 have HN2 := hide N2
 clear L2 N2 D1 T1
 obtain ⟨y, hy⟩ : ∃ y, y = S.why b2 := ⟨_, rfl⟩
 have eY : S.why (d2, b2).2 = y := hy.symm
 rw [eY]
 have HY := hide hy
 clear hy eY
 refine tq 9 ?_
 simp only [uA]
 refine tq 10 ?_
 simp only [uA]
 refine tq 11 ?_
 simp only [uA]
 refine tq 12 ?_
 simp only [uA]
 refine tq 13 ?_
 simp only [uA]
 refine wpAnyH_done (by kernel_rfl) ?_ _
 refine NoPanic.normal ?_
 clear hHeld
 cases b2 with
 | false =>
  have E : y = 13 := HY.out
  subst E
  go_wp2_with fail
  go_ret
  refine ⟨false, d2, o2, rfl, ?_, D2.out, T2.out, (fun e => nomatch e), fun _ => HL2.out⟩
  rw [HAA.out, S.eB, <- HA1.out, S.Dk.plan_app, P2.out]
  rfl
 | true =>
  have E : y = 0 := HY.out
  subst E
  have HLE2 : Hid (d2.safe.length = d.safe.length) := by
   have := S.Dk.plan_len A1 d
   rw [P2.out] at this
   exact this
  have HPE2 : Hid (d2.pend.length <= 2) := by
   have := S.Dk.plan_pend A1 d
   rw [P2.out, HPE.out] at this
   have h2 : A1.length <= 2 := by rw [HA1.out, S.dR]; split <;> simp
   simp at this
   show d2.pend.length <= 2
   omega
  have HPT : Hid (o2.ptr = o.ptr) := by show o2.ptr = o.ptr; unfold Ow.ptr; rw [T2.out.ptr]
  go_upto_region 5 with fail
  refine wp_region_noPanic ?_
  refine wp_region_held_drew (S := (fun W => aS W g o.ptr f c h (.slice ao n cp) false /\ bQ W gn h')) follows ⟨HL2.out, HN2.out⟩ (fun hHeld => ?_)
  have D3 := hide (D2.out.below (W := Z2.drew) (Below.refl _ _).drew)
  have T3 : Hid (gG o g w o2 Z2.drew) := T2.out.below (Below.refl _ _).drew
  clear D2 HL2 HN2 T2
  generalize Z2.drew = Z3 at D3 T3 hHeld ⊢
  have q0 : (0 : Int) <= (U : Int) := by omega
  have q1 : (U : Int) <= (n : Int) := by omega
  have q2 : (U : Int) <= (cp : Int) := by omega
  refine tq 0 ?_
  simp only [uA]
  refine tq 1 ?_
  simp only [uA]
  refine tq 2 ?_
  simp only [uA]
  refine tk 3 ?_ rfl (Or.inl ⟨by rfl, ?_⟩) ?_
  rotate_left
  ·intro w hSw
   have c37 := aS.text hSw.1 HOK.out.sl
   clear hSw
   go_simp
   all_goals with_reducible rfl
  simp only [uA]
  refine tq 4 ?_
  simp only [uA]
  refine tk 5 ?_ rfl (Or.inl ⟨by rfl, ?_⟩) ?_
  rotate_left
  ·intro w hSw
   have c1 := bQ.used hSw.2
   rw [HUU.out.2] at c1
   clear hSw
   go_simp
   all_goals with_reducible rfl
  simp only [uA]
  refine tq 6 ?_
  simp only [uA]
  refine tq 7 ?_
  simp only [uA]
  refine wpAnyH_done (by kernel_rfl) ?_ _
  refine NoPanic.normal ?_
  have HL3 := hide hHeld.1
  have HN3 := hide hHeld.2
  clear hHeld q0 q1 q2
  have SX : Hid (SliceAt Z3 (.slice ao U cp) (S.enc rs')) := by
   have h1 : dz Z3 (.slice ao n cp) X := HU.out.chg T3.out.chg (fun k hk e => by rcases e with e | e; exact (HTO.out k hk).1 e; exact (HTO.out k hk).2 e)
   have h2 := h1.take U (by omega)
   rw [HX.out] at h2
   exact h2.sliceAt (by have := HUU.out.1; omega)
  have FAR : Hid (∀ a, ao = some a -> ¬ o2.has a.block) := fun a ha e => by
   rcases HU.out.2 with ⟨h1, _⟩ | ⟨gg, cc, cur, h1, _⟩
   ·simp only [Value.slice.injEq] at h1
    rw [h1.1] at ha
    cases ha
   ·simp only [Value.slice.injEq] at h1
    have : a.block = gg := by rw [h1.1] at ha; injection ha with ha; rw [<- ha]
    exact NN2.out.2.2 gg (by rw [h1.1]; rfl) (by rw [<- this]; exact e)
  go_upto_region 6 with fail
  refine wp_region_noPanic ?_
  refine wp_region_held_drew (S := (fun W => aS W g o.ptr f c h (.slice ao n cp) false /\ bQ W gn h')) follows ⟨HL3.out, HN3.out⟩ (fun hHeld => ?_)
  have D4 := hide (D3.out.below (W := Z3.drew) (Below.refl _ _).drew)
  have T4 : Hid (gG o g w o2 Z3.drew) := T3.out.below (Below.refl _ _).drew
  have SX4 : Hid (SliceAt Z3.drew (.slice ao U cp) (S.enc rs')) := SX.out.below ((Below.refl Z3.heap.size Z3).drew) (lr _)
  clear D3 HL3 HN3 T3 SX
  generalize Z3.drew = Z4 at D4 T4 SX4 hHeld ⊢
  refine tq 0 ?_
  simp only [uA]
  refine tq 1 ?_
  simp only [uA]
  refine tq 2 ?_
  simp only [uA]
  refine wpAnyH_take (i := 3) (oi := ⟨_, _, _, _, _, _⟩) (v := .agg #[o.ptr, .int .i64 (f : Int), .int .i64 (c : Int)]) rfl (by kernel_rfl) (by kernel_rfl) (by kernel_rfl) (fun _ _ _ h => h) (yieldsIf_load_mid (by kernel_rfl) 182 (.tmp 37) rfl g 0 rfl [o.ptr, .int .i64 (f : Int), .int .i64 (c : Int)] _ (fun W hW => aS.area hW.1) Tryz.underlying182 rfl (by kernel_rfl)) (by assumption) ?_
  simp only [uA]
  refine tq 4 ?_
  simp only [uA]
  refine tq 5 ?_
  simp only [uA]
  refine tq 6 ?_
  simp only [uA]
  refine tq 7 ?_
  simp only [uA]
  refine tq 8 ?_
  simp only [uA]
  refine tk 9 ?_ rfl (Or.inl ⟨by rfl, ?_⟩) ?_
  rotate_left
  ·intro w hSw
   have c4 := aS.used hSw.1
   rw [HU0.out.2] at c4
   clear hSw
   go_simp
   all_goals with_reducible rfl
  simp only [uA]
  refine r1 10 fun K hK => ?_
  go_simp
  rw [<- HPT.out]
  refine (yU o2 d2 f c ao U cp U0 (S.enc rs') Z4 D4.out.dk (by rw [HLE2.out]; exact HF.out) SX4.out FAR.out HUU.out.1 hrm' (by have := HPE2.out; omega)).mono ?_
  rw [HPT.out]
  intro e Z5 hdo
  obtain ⟨b5, d5, o5, rfl, h1, h2, h3⟩ := hdo.start
  have L5 : aS Z5 g o.ptr f c h (.slice ao n cp) false := hHeld.1.chg h3.chg NN2.out.1
  have N5 : bQ Z5 gn h' := h3.chg.row hHeld.2 NN2.out.2.1
  have D5 := hide (D4.out.to h2 h3)
  have T5 := hide (T4.out.trans (gG.ofDk h3))
  have P5 := hide h1
  have NN5 : Hid (¬ o5.has g /\ ¬ o5.has gn) := by
   have hz := aa hHeld.1
   have hz2 := aa hHeld.2
   refine ⟨fun e => ?_, fun e => ?_⟩
   ·rcases h3.own _ e with e | e
    ·exact NN2.out.1 e
    ·omega
   ·rcases h3.own _ e with e | e
    ·exact NN2.out.2.1 e
    ·omega
  clear hdo h1 h2 h3 hHeld
  refine hK.out _ _ ⟨L5, N5⟩ (fun hHeld => ?_)
  clear hK K
  try simp only [uA]
  have HL5 := hide L5
  have HN5 := hide N5
  clear L5 N5 D4 T4 SX4
  obtain ⟨y, hy⟩ : ∃ y, y = S.why b5 := ⟨_, rfl⟩
  rw [<- hy]
  have HY5 := hide hy
  clear hy
  refine tq 11 ?_
  simp only [uA]
  refine wpAnyH_done (by kernel_rfl) ?_ _
  refine NoPanic.normal ?_
  clear hHeld
  cases b5 with
  | false =>
   have E : y = 13 := HY5.out
   subst E
   go_wp2_with fail
   go_ret
   refine ⟨false, d5, o5, rfl, ?_, D5.out, T5.out, (fun e => nomatch e), fun _ => HL5.out⟩
   rw [HAA.out, S.eB, <- HA1.out, S.Dk.plan_app, P2.out, if_pos rfl]
   show d2.plan _ = _
   rw [S.Dk.plan_app, P5.out]
   rfl
  | true =>
   have E : y = 0 := HY5.out
   subst E
   have HLE5 : Hid (d5.safe.length = d.safe.length) := by
    have := S.Dk.plan_len (S.eG (S.iO f c (S.enc rs') U0)) d2
    rw [P5.out] at this
    exact this.trans HLE2.out
   have HPE5 : Hid (d5.pend.length <= 100) := by
    have := S.Bi P5.out HPE2.out
    show d5.pend.length <= 100
    omega
   have HPT5 : Hid (o5.ptr = o.ptr) := by show o5.ptr = o.ptr; unfold Ow.ptr; rw [T5.out.ptr]
   go_upto_region 9 with fail
   refine wp_region_noPanic ?_
   refine wp_region_held_drew (S := (fun W => aS W g o.ptr f c h (.slice ao n cp) false /\ bQ W gn h')) follows ⟨HL5.out, HN5.out⟩ (fun hHeld => ?_)
   have D6 := hide (D5.out.below (W := Z5.drew) (Below.refl _ _).drew)
   have T6 : Hid (gG o g w o5 Z5.drew) := T5.out.below (Below.refl _ _).drew
   clear D5 HL5 HN5 T5
   generalize Z5.drew = Z6 at D6 T6 hHeld ⊢
   refine tq 0 ?_
   simp only [uA]
   refine tq 1 ?_
   simp only [uA]
   refine tq 2 ?_
   simp only [uA]
   refine wpAnyH_take (i := 3) (oi := ⟨_, _, _, _, _, _⟩) (v := .agg #[o.ptr, .int .i64 (f : Int), .int .i64 (c : Int)]) rfl (by kernel_rfl) (by kernel_rfl) (by kernel_rfl) (fun _ _ _ h => h) (yieldsIf_load_mid (by kernel_rfl) 182 (.tmp 51) rfl g 0 rfl [o.ptr, .int .i64 (f : Int), .int .i64 (c : Int)] _ (fun W hW => aS.area hW.1) Tryz.underlying182 rfl (by kernel_rfl)) (by assumption) ?_
   simp only [uA]
   refine tq 4 ?_
   simp only [uA]
   refine wpAnyH_take (i := 5) (oi := ⟨_, _, _, _, _, _⟩) (v := hdv h') rfl (by kernel_rfl) (by kernel_rfl) (by kernel_rfl) (fun _ _ _ h => h) (yieldsIf_load_mid (by kernel_rfl) 186 (.tmp 3) rfl gn 0 rfl (S.hc h') _ (fun W hW => aH hW.2) Tryz.underlying186 rfl (by rw [jv, S.aD wL.out.sl])) (by assumption) ?_
   simp only [uA]
   refine r1 6 fun K hK => ?_
   go_simp
   rw [<- HPT5.out]
   refine (DU o5 d5 f c (1 - p) h' Z6 D6.out (by rw [HLE5.out]; exact HF.out) h4 (by omega) wL.out HPE5.out).mono ?_
   rw [HPT5.out]
   intro e Z7 hdo
   obtain ⟨b7, d7, o7, rfl, h1, h2, h3⟩ := hdo.start
   have L7 : aS Z7 g o.ptr f c h (.slice ao n cp) false := hHeld.1.chg h3.chg NN5.out.1
   have N7 : bQ Z7 gn h' := h3.chg.row hHeld.2 NN5.out.2
   have D7 := hide (D6.out.to h2 h3)
   have T7 := hide (T6.out.trans (gG.ofDk h3))
   have P7 : Hid (d5.plan (S.jM f c p h') = (d7, b7)) := by
    have e1 : 1 - (1 - p) = p := by omega
    rw [e1] at h1
    exact h1
   have NN7 : Hid (¬ o7.has g) := fun e => by
    have hz := aa hHeld.1
    rcases h3.own _ e with e | e
    ·exact NN5.out.1 e
    ·omega
   clear hdo h1 h2 h3 hHeld
   refine hK.out _ _ ⟨L7, N7⟩ (fun hHeld => ?_)
   clear hK K
   try simp only [uA]
   have HL7 := hide L7
   have HN7 := hide N7
   clear L7 N7 D6 T6
   obtain ⟨y, hy⟩ : ∃ y, y = S.why b7 := ⟨_, rfl⟩
   rw [<- hy]
   have HY7 := hide hy
   clear hy
   refine tq 7 ?_
   simp only [uA]
   refine wpAnyH_done (by kernel_rfl) ?_ _
   refine NoPanic.normal ?_
   clear hHeld
   have PL : Hid (d.plan AA = (d7, b7)) := by
    show d.plan AA = _
    rw [HAA.out, S.eB, <- HA1.out, S.Dk.plan_app, P2.out, if_pos rfl]
    show d2.plan _ = _
    rw [S.Dk.plan_app, P5.out, if_pos rfl]
    exact P7.out
   cases b7 with
   | false =>
    have E : y = 13 := HY7.out
    subst E
    go_wp2_with fail
    go_ret
    exact ⟨false, d7, o7, rfl, PL.out, D7.out, T7.out, (fun e => nomatch e), fun _ => HL7.out⟩
   | true =>
    have E : y = 0 := HY7.out
    subst E
    have ld := HN7.out.load wL.out.sl
    obtain ⟨w8, hst, l8, c8⟩ := HL7.out.storeHead (h' := h') HOK.out.sl wL.out.sl
    have c37 := l8.text wL.out.sl
    have f37 := frozen_of_row _ _ 37 _ _ l8
    have l9 := l8.setText wL.out.sl (.slice ao U cp)
    have c38 := l9.opened wL.out.sl
    have f38 := frozen_of_row _ _ 38 _ _ l9
    have LF := hide (l9.setOpen wL.out.sl true)
    have cF : Chg (fun k => k = g) Z7 ((w8.setCell ⟨g, 37, none⟩ (.slice ao U cp)).setCell ⟨g, 38, none⟩ (.bool true)) := (c8.setCell g 37 _ (fun _ => rfl)).setCell g 38 _ (fun _ => rfl)
    have DF := hide (D7.out.one cF NN7.out hg0)
    have TF := hide (T7.out.then cF)
    obtain ⟨HV, hHV⟩ : ∃ V, V = hdv h' := ⟨_, rfl⟩
    rw [<- hHV] at ld hst
    clear l8 c8 l9 cF hHV
    go_wp2_with (first | (with_reducible refine au ⟨some 62, .load 186 (.tmp 3), 186, "wal.go:99", #[], none⟩ ?_; refine ay rfl 186 (.tmp 3) rfl (.pointer (some ⟨gn, 0, none⟩)) rfl HV ld ?_) | (with_reducible refine au ⟨none, .store 186 (.tmp 65) (.tmp 62), 0, "wal.go:99", #[{ on := 6, ground := Ground.data }, { on := 3, ground := Ground.data }, { on := 0, ground := Ground.phase }, { on := 1, ground := Ground.textOnly Departure.lateStores }, { on := 2, ground := Ground.textOnly Departure.lateStores }, { on := 3, ground := Ground.phase }, { on := 4, ground := Ground.textOnly Departure.lateStores }], none⟩ ?_; refine ai rfl 186 (.tmp 65) (.tmp 62) rfl (.pointer (some ⟨g, 3, none⟩)) HV rfl rfl w8 hst ?_))
    go_ret
    exact ⟨true, d7, o7, rfl, PL.out, DF.out, TF.out, fun _ => LF.out, fun e => nomatch e⟩
end Go.Proofs.YteealihknndclabGreatDoor
namespace Go.Proofs.YteealihknndclabGreatDoor
open Go.RowKit

set_option maxHeartbeats 1600000 in
set_option maxRecDepth 10000 in
theorem En (p : Ow) (f c g : Nat) (h : S.Hd) (tv : Value) (op : Bool) (w : World) (hl : aS w g p.ptr f c h tv op) (ho : h.Ok) (hc : c <= 8192) (h4 : 4 <= c) :
  Calls Tryz.prog 99 #[.pointer (some ⟨g, 0, none⟩)] w fun e w' => e = .returned (.int .i64 ((S.room c - h.used - 3 : Nat) : Int)) /\ Below w.heap.size w w' := by
 have hu := ho.used
 obtain ⟨U, hU⟩ : ∃ U, U = h.used := ⟨_, rfl⟩
 rw [<- hU] at hu ⊢
 have HU := hide hU
 have HL := hide hl
 obtain ⟨R, hR⟩ : ∃ R, R = S.room c := ⟨_, rfl⟩
 have hrl := S.room_le hc
 rw [<- hR] at hrl ⊢
 have HR := hide hR
 obtain ⟨o, rfl⟩ : ∃ o : Ow, o = p := ⟨_, rfl⟩
 clear hU hR hl
 have w1 : IntKind.i64.wrap ((R : Int) - (U : Int)) = (R : Int) - (U : Int) := by rw [IntKind.wrap_i64]; omega
 have w2 : IntKind.i64.wrap ((R : Int) - (U : Int) - 3) = (R : Int) - (U : Int) - 3 := by rw [IntKind.wrap_i64]; omega
 by_cases hlt : (R : Int) - (U : Int) - 3 < 0
 focus
  have EN : Hid (((R - U - 3 : Nat) : Int) = 0) := by show ((R - U - 3 : Nat) : Int) = 0; omega
  go_enter Tryz.func99, Tryz.ntmps99
  go_wp2_with fail
  refine wp_region_noPanic ?_
  refine wp_region_held_drew (S := (fun W => aS W g o.ptr f c h tv op)) follows HL.out (fun hHeld => ?_)
  have B0 : Hid (Below w.heap.size w w.drew) := (Below.refl _ _).drew
 rotate_left
 focus
  have EN : Hid (((R - U - 3 : Nat) : Int) = (R : Int) - (U : Int) - 3) := by show ((R - U - 3 : Nat) : Int) = _; omega
  go_enter Tryz.func99, Tryz.ntmps99
  go_wp2_with fail
  refine wp_region_noPanic ?_
  refine wp_region_held_drew (S := (fun W => aS W g o.ptr f c h tv op)) follows HL.out (fun hHeld => ?_)
  have B0 : Hid (Below w.heap.size w w.drew) := (Below.refl _ _).drew
 all_goals
  clear HL
  generalize w.drew = Z1 at B0 hHeld ⊢
  refine tq 0 ?_
  simp only [uA]
  refine tq 1 ?_
  simp only [uA]
  refine tq 2 ?_
  simp only [uA]
  refine wpAnyH_take (i := 3) (oi := ⟨_, _, _, _, _, _⟩) (v := .agg #[o.ptr, .int .i64 (f : Int), .int .i64 (c : Int)]) rfl (by kernel_rfl) (by kernel_rfl) (by kernel_rfl) (fun _ _ _ h => h) (yieldsIf_load_mid (by kernel_rfl) 182 (.tmp 5) rfl g 0 rfl [o.ptr, .int .i64 (f : Int), .int .i64 (c : Int)] _ (fun W hW => aS.area hW) Tryz.underlying182 rfl (by kernel_rfl)) (by assumption) ?_
  simp only [uA]
  refine tq 5 ?_
  simp only [uA]
  refine tq 6 ?_
  simp only [uA]
  refine tq 7 ?_
  simp only [uA]
  refine tq 8 ?_
  simp only [uA]
  refine tk 9 ?_ rfl (Or.inl ⟨by rfl, ?_⟩) ?_
  rotate_left
  ·intro w hSw
   have c4 := aS.used hSw
   rw [<- HU.out] at c4
   clear hSw
   go_simp
   all_goals with_reducible rfl
  simp only [uA]
  refine r1 4 fun K hK => ?_
  go_simp
  refine (xk o.ptr f c Z1 (by omega) (by omega)).mono ?_
  rintro e Z2 ⟨rfl, b2⟩
  have a2 := aS.below hHeld b2 (aa hHeld)
  clear hHeld
  refine hK.out _ _ a2 (fun hHeld => ?_)
  clear hK K
  try simp only [uA]
  have B2 : Hid (Below w.heap.size w Z2) := B0.out.trans (b2.mono B0.out.size)
  clear a2 b2 B0
  rw [<- HR.out]
  refine tq 10 ?_
  simp only [uA]
  refine tq 11 ?_
  simp only [uA]
  refine tq 12 ?_
  simp only [uA]
  refine tq 13 ?_
  simp only [uA]
  refine wpAnyH_done (by kernel_rfl) ?_ _
  refine NoPanic.normal ?_
  clear hHeld
  go_wp2_with fail
  go_ret
  exact ⟨by rw [EN.out]; rfl, B2.out⟩
end Go.Proofs.YteealihknndclabGreatDoor
namespace Go.Proofs.YteealihknndclabGreatDoor
open Go.RowKit

structure LogTo (o : Ow) (g : Nat) (tv : Value) (w : World) (o' : Ow) (tv' : Value) (w' : World) : Prop where
 ptr : o'.g = o.g
 chg : Chg (fun k => o.has k \/ k = g \/ tv.ownBlock = some k) w w'
 own : ∀ k, o'.has k -> o.has k \/ w.heap.size <= k
 text : ∀ k, tv'.ownBlock = some k -> tv.ownBlock = some k \/ w.heap.size <= k
structure Gr (w : World) (g : Nat) (p : Value) (f c t : Nat) (rs : List (List UInt8)) (tv : Value) (op : Bool) : Prop where
 row : aS w g p f c (S.cZ t rs) tv op
 text : ∃ X, dz w tv X /\ S.enc rs <+: X /\ X.length <= 10000000
 sep : tv.ownBlock ≠ some g
structure Did (d : S.Dk) (l : List S.Act) (o : Ow) (g f c t : Nat) (rs rs' : List (List UInt8)) (tv : Value) (w : World) (e : Ending) (w' : World) (b : Bool) (d' : S.Dk) (o' : Ow) (tv' : Value) : Prop where
 ret : e = .returned (.int .i64 (S.why b))
 plan : d.plan l = (d', b)
 dk : Dsk w' o' d'
 moved : LogTo o g tv w o' tv' w'
 yes : b = true -> tC w' g o.ptr f c (t + 1) rs' tv'
 no : b = false -> Gr w' g o.ptr f c t rs tv' false
def Gx (d : S.Dk) (l : List S.Act) (o : Ow) (g f c t : Nat) (rs rs' : List (List UInt8)) (tv : Value) (w : World) (e : Ending) (w' : World) : Prop := ∃ b d' o' tv', Did d l o g f c t rs rs' tv w e w' b d' o' tv'
structure uZ (w : World) (o : Ow) (d : S.Dk) (g f c p t : Nat) (rs : List (List UInt8)) (tv : Value) : Prop where
 dk : Dsk w o d
 pend : d.pend = []
 good : S.Good d.safe f c p t rs
 lg : tC w g o.ptr f c t rs tv
 no : ¬ o.has g
 pos : 1 < g
 far : ∀ k, tv.ownBlock = some k -> ¬ o.has k
 tpos : tv.ownBlock ≠ some 1
def S.commitActs (d : S.Dk) (f c p t : Nat) (rs rs' : List (List UInt8)) : List S.Act := S.eB f c p (d.safe.getD (f + (1 - p)) []) (S.iO f c (S.enc rs') (S.enc rs).length) (S.cZ (t + 1) rs')
theorem oO {w : World} {ao : Option Addr} {n c : Nat} {X : List UInt8} (h : dz w (.slice ao n c) X) : X.length = n := by
 obtain ⟨_, _, hs⟩ := h.shape
 simp only [Value.slice.injEq] at hs
 omega
theorem Did.of {d : S.Dk} {o : Ow} {g f c p t : Nat} {rs rs' : List (List UInt8)} {tv : Value} {ao : Option Addr} {n cp : Nat} {X : List UInt8} {w w1 w' : World} {e : Ending}
  (hch : kL d (S.commitActs d f c p t rs rs') o g f c (S.cZ t rs) (S.cZ (t + 1) rs') (.slice ao n cp) (.slice ao (S.enc rs').length cp) w1 e w')
  (hu : dz w1 (.slice ao n cp) X) (hpre : S.enc rs <+: X) (hX : X.take (S.enc rs').length = S.enc rs') (hXn : (S.enc rs').length <= n) (hn : n <= 10000000) (hsep : (Value.slice ao n cp).ownBlock ≠ some g) (hfar : ∀ k, (Value.slice ao n cp).ownBlock = some k -> ¬ o.has k)
  (hc : Chg (fun k => k = g \/ tv.ownBlock = some k) w w1) (htx : ∀ k, (Value.slice ao n cp).ownBlock = some k -> tv.ownBlock = some k \/ w.heap.size <= k) :
  Gx d (S.commitActs d f c p t rs rs') o g f c t rs rs' tv w e w' := by
 obtain ⟨b, d', o', h⟩ := hch
 have hk : ∀ k, (Value.slice ao n cp).ownBlock = some k -> ¬ (o.has k \/ k = g) := fun k hk e => by
  rcases e with e | e
  ·exact hfar k hk e
  ·exact hsep (e ▸ hk)
 have hu' : dz w' (.slice ao n cp) X := hu.chg h.moved.chg hk
 have hch : Chg (fun k => o.has k \/ k = g \/ tv.ownBlock = some k) w w' := (hc.mono fun k _ e => Or.inr e).trans h.moved.chg (fun j _ e => by rcases e with e | e; exact Or.inl e; exact Or.inr (Or.inl e))
 have hown : ∀ k, o'.has k -> o.has k \/ w.heap.size <= k := fun k hk => by
  rcases h.moved.own k hk with e | e
  ·exact Or.inl e
  ·exact Or.inr (ltr hc.size e)
 cases b with
 | true =>
  refine ⟨true, d', o', .slice ao (S.enc rs').length cp, h.ret, h.plan, h.dk, ⟨h.moved.ptr, hch, hown, fun k hk => htx k ((j6 ao n _ cp).trans hk)⟩, fun _ => ⟨h.yes rfl, ?_, fun e => hsep ((j6 ao n _ cp).trans e)⟩, fun e => nomatch e⟩
  have := hu'.take (S.enc rs').length hXn
  rw [hX] at this
  exact this
 | false =>
  exact ⟨false, d', o', .slice ao n cp, h.ret, h.plan, h.dk, ⟨h.moved.ptr, hch, hown, htx⟩, (fun e => nomatch e), fun _ => ⟨h.no rfl, ⟨X, hu', hpre, by rw [oO hu]; exact hn⟩, hsep⟩⟩
theorem info71 : (Tryz.prog.info? 184).map (fun i => (i.size, i.bytes)) = some (32, 32) := by kernel_rfl
theorem zero71 : (Tryz.prog.info? 184).bind (·.zero) = some (.agg (S.v8 (S.zeros 32))) := by kernel_rfl
set_option maxRecDepth 100000 in
theorem Gl (w : World) : (Instr.build 184 #[]).run Tryz.prog w = .ok (.agg (S.v8 (S.zeros 32))) w :=
 run_build w 184 _ _ (by
  obtain ⟨i, hi, hz, _, _⟩ := bZ info71 zero71
  unfold Program.built
  rw [hi, Tryz.underlying184]
  simp only [hz]
  rfl)
set_option maxHeartbeats 4000000 in
set_option maxRecDepth 10000 in
theorem Di (o : Ow) (d : S.Dk) (g f c p t : Nat) (rs : List (List UInt8)) (tv : Value) (w : World) (hL : uZ w o d g f c p t rs tv) (ht : t + 1 < 18446744073709551616) :
  Calls Tryz.prog 107 #[.pointer (some ⟨g, 0, none⟩)] w (Gx d (S.commitActs d f c p t rs []) o g f c t rs [] tv w) := by
 have hok := hL.good.hd
 have c38 := hL.lg.row.opened hok.sl
 have ld := hL.lg.row.loadHead hok.sl
 have hbd := Gl w
 obtain ⟨ao, cp, htv⟩ := hL.lg.text.shape
 subst htv
 have HL := hide hL
 have HOK := hide hok
 obtain ⟨Z, hZ⟩ : ∃ Z, Z = S.v8 (S.zeros 32) := ⟨_, rfl⟩
 rw [<- hZ] at hbd
 have HZ := hide hZ
 obtain ⟨HV, hHV⟩ : ∃ V, V = hdv (S.cZ t rs) := ⟨_, rfl⟩
 rw [<- hHV] at ld
 have HHV := hide hHV
 clear hL hok hZ hHV
 go_enter Tryz.func107, Tryz.ntmps107
 go_wp2_with (first | (with_reducible refine au ⟨some 12, .load 186 (.tmp 11), 186, "wal.go:82", #[{ on := 3, ground := Ground.data }], none⟩ ?_; refine ay rfl 186 (.tmp 11) rfl (.pointer (some ⟨g, 3, none⟩)) rfl HV ld ?_) | (with_reducible refine au ⟨some 13, .build 184 #[], 184, "wal.go:82", #[], none⟩ ?_; refine aG rfl 184 [] rfl [] rfl (.agg Z) hbd ?_))
 rw [HHV.out, HZ.out]
 refine (xL (S.cZ t rs) 0 (S.zeros 32) w ht (S.zeros_length _)).mono ?_
 rintro e w1 ⟨rfl, b1⟩
 rw [<- HHV.out, <- HZ.out]
 clear ld hbd c38
 have l1 := HL.out.lg.below b1
 have CH : Hid (Calls Tryz.prog 101 #[.pointer (some ⟨g, 0, none⟩), hdv (S.cZ (t + 1) [])] w1 (kL d (S.commitActs d f c p t rs []) o g f c (S.cZ t rs) (S.cZ (t + 1) []) (.slice ao (S.enc rs).length cp) (.slice ao (S.enc []).length cp) w1)) :=
  sQ o d f c p t g rs [] ao (S.enc rs).length cp (S.enc rs) w1 (HL.out.dk.below b1) HL.out.pend HL.out.good ht (Nat.zero_le _) l1.row l1.text rfl (Nat.zero_le _) (by have := HL.out.good.room; have := S.room_le HL.out.good.most; omega) HL.out.no HL.out.pos (fun k hk => ⟨HL.out.far k hk, fun e => HL.out.lg.sep (e ▸ hk)⟩)
 have eh : hdv { turn := (S.cZ t rs).turn + 1, used := 0, sl := S.zeros 32 } = hdv (S.cZ (t + 1) []) := rfl
 rw [eh]
 obtain ⟨HV2, lw⟩ : ∃ V, V = hdv (S.cZ (t + 1) []) := ⟨_, rfl⟩
 rw [<- lw] at CH ⊢
 have L1 := hide l1
 have B1 := hide b1
 clear b1 l1 eh lw
 go_wp2_with fail
 refine CH.out.mono ?_
 intro e w2 hch
 have HD : Hid (Gx d (S.commitActs d f c p t rs []) o g f c t rs [] (.slice ao (S.enc rs).length cp) w e w2) :=
  Did.of hch L1.out.text (List.prefix_refl _) rfl (Nat.zero_le _) (by have := HL.out.good.room; have := S.room_le HL.out.good.most; omega) HL.out.lg.sep HL.out.far (Chg.ofBelow' B1.out) (fun k hk => Or.inl hk)
 obtain ⟨b, d', o', h⟩ := hch
 obtain rfl := h.ret
 clear h
 generalize S.why b = y at HD ⊢
 go_wp2_with fail
 go_ret
 exact HD.out
end Go.Proofs.YteealihknndclabGreatDoor
