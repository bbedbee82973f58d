/- Records: copies of the records, in order. -/
/- Format of sectors of which those of the text are noughts; what is no log. -/
/- Format, and Open where there is no log. -/
import Derived.Test.YteealihknndclabGreatDoorCmt
namespace Go.Proofs.YteealihknndclabGreatDoor
open Go.RowKit

theorem Lists.set {w : World} {g off n c : Nat} {vs : List Value} (h : Lists w (.slice (some ⟨g, off, none⟩) n c) vs) (k : Nat) (x : Value) (hk : k < vs.length) : Lists (w.setCell ⟨g, off + k, none⟩ x) (.slice (some ⟨g, off, none⟩) n c) (vs.set k x) := by
 rcases h with ⟨h, _⟩ | ⟨g', off', c', cur, h, h1, h2, h3, h4⟩
 ·simp at h
 ·simp only [Value.slice.injEq, Option.some.injEq, Addr.mk.injEq, and_true] at h
  obtain ⟨⟨rfl, rfl⟩, rfl, rfl⟩ := h
  refine Or.inr ⟨g, off, c, cur.setIfInBounds (off + k) x, by rw [List.length_set], ?_, by simpa using h2, by rw [List.length_set]; exact h3, fun j y hy => ?_⟩
  ·rw [heap_setCell_same w g (off + k) _ _ _ h1]
  ·rw [List.getElem?_set] at hy
   by_cases e : k = j
   ·subst e
    rw [if_pos rfl, if_pos hk] at hy
    rw [Array.getElem?_setIfInBounds, if_pos rfl, if_pos (by omega)]
    exact hy
   ·rw [if_neg e] at hy
    rw [Array.getElem?_setIfInBounds, if_neg (by omega)]
    exact h4 j y hy
structure Copies (w : World) (base : Nat) (us vs : List Value) (k : Nat) (rs : List (List UInt8)) : Prop where
 len : us.length = rs.length
 new : ∀ j, j < k -> ∃ gj cj, us.getD j default = .slice (some ⟨gj, 0, none⟩) (rs.getD j []).length cj /\ Room w gj cj (rs.getD j []) /\ base <= gj
 old : ∀ j, k <= j -> us.getD j default = vs.getD j default
structure Recs (w0 w : World) (lv : Value) (us : List Value) (rs : List (List UInt8)) : Prop where
 lists : Lists w lv us
 copies : Copies w w0.heap.size us us rs.length rs
 own : ∀ k, lv.ownBlock = some k -> w0.heap.size <= k
theorem FQ {rs : List (List UInt8)} {j : Nat} (h : j < rs.length) : rs.getD j [] ∈ rs := by
 rw [List.getD_eq_getElem?_getD, List.getElem?_eq_getElem h]; exact List.getElem_mem _
set_option maxHeartbeats 4000000 in
set_option maxRecDepth 10000 in
theorem xm (p : Value) (f c t g : Nat) (rs : List (List UInt8)) (tv : Value) (op : Bool) (w : World) (hl : Gr w g p f c t rs tv op) (hok : (S.cZ t rs).Ok) (hm : (S.enc rs).length < 1000000) (hne : ∀ r ∈ rs, r ≠ []) :
  Calls Tryz.prog 118 #[.pointer (some ⟨g, 0, none⟩)] w fun e w' => ∃ lv us, e = .returned lv /\ Recs w w' lv us rs /\ Below w.heap.size w w' := by
 obtain ⟨X, hu, hpre, hXm⟩ := hl.text
 obtain ⟨ao, cp, htv⟩ := hu.shape
 subst htv
 obtain ⟨h, hh⟩ : ∃ h, h = S.cZ t rs := ⟨_, rfl⟩
 have hrow := hl.row
 rw [<- hh] at hrow hok
 obtain ⟨U, hU⟩ : ∃ U, U = (S.enc rs).length := ⟨_, rfl⟩
 have HUU : Hid (h.used = U /\ U = (S.enc rs).length) := ⟨by rw [hh, hU]; rfl, hU⟩
 have hUX : U <= X.length := by rw [hU]; exact hpre.length_le
 have hU6 : U < 1000000 := by omega
 have hcap := (hu.sliceAt (by omega)).le_cap
 have hut := hu.take U hUX
 have hx : X.take U = S.enc rs := by rw [hU]; exact (List.prefix_iff_eq_take.1 hpre).symm
 rw [hx] at hut
 have HST := hide (hut.sliceAt (by omega))
 have HROW := hide hrow
 have HOK := hide hok
 have HNE := hide hne
 have HM : Hid ((S.enc rs).length < 1000000) := hm
 have q1 : (0 : Int) <= (U : Int) := by omega
 have q2 : (U : Int) <= ((X.length : Nat) : Int) := by omega
 have q3 : (U : Int) <= (cp : Int) := by omega
 obtain ⟨N0, hN0⟩ : ∃ N0, N0 = X.length := ⟨_, rfl⟩
 rw [<- hN0] at q2 HROW
 clear hl hu hpre hXm hh hrow hU hut hx hok hne hN0 hm hUX hcap
 go_enter Tryz.func118, Tryz.ntmps118
 go_upto_region 1 with fail
 refine wp_region_noPanic ?_
 refine wp_region_held_drew (S := (fun W => aS W g p f c h (.slice ao N0 cp) op)) follows HROW.out (fun hHeld => ?_)
 have B0 : Hid (Below w.heap.size w w.drew) := (Below.refl _ _).drew
 have ST := hide (HST.out.below B0.out (lr _))
 clear HROW
 generalize w.drew = Z1 at B0 ST hHeld ⊢
 refine tq 0 ?_
 simp only [uA]
 refine tq 1 ?_
 simp only [uA]
 refine tq 2 ?_
 simp only [uA]
 refine tk 3 ?_ rfl (Or.inl ⟨by rfl, ?_⟩) ?_
 rotate_left
 ·intro w hSw
  have c37 := aS.text hSw HOK.out.sl
  clear hSw
  go_simp
  all_goals with_reducible rfl
 simp only [uA]
 refine tq 4 ?_
 simp only [uA]
 refine tq 5 ?_
 simp only [uA]
 refine tq 6 ?_
 simp only [uA]
 refine tq 7 ?_
 simp only [uA]
 refine tk 8 ?_ rfl (Or.inl ⟨by rfl, ?_⟩) ?_
 rotate_left
 ·intro w hSw
  have c4 := aS.used hSw
  rw [HUU.out.1] at c4
  clear hSw
  go_simp
  all_goals with_reducible rfl
 simp only [uA]
 refine tq 9 ?_
 simp only [uA]
 refine r1 10 fun K hK => ?_
 go_simp
 refine (uy _ rs Z1 ST.out HM.out).mono ?_
 rintro e Z2 ⟨lv, vs, rfl, hL, hRd, hOw, b2⟩
 have a2 := aS.below hHeld b2 (aa hHeld)
 clear hHeld
 refine hK.out _ _ a2 (fun hHeld => ?_)
 clear hK K
 try simp only [uA]
 have B2 : Hid (Below w.heap.size w Z2) := B0.out.trans (b2.mono B0.out.size)
 have RD : Hid (Reads Z2 vs rs) := hRd.below b2
 have OW : Hid (∀ k, lv.ownBlock = some k -> w.heap.size <= k) := fun k hk => ltr B0.out.size (hOw k hk)
 have RDw : Hid (Reads Z1 vs rs) := hRd
 have LS := hide hL
 have HB12 := hide b2
 have OW1 := hide hOw
 obtain ⟨al, cl, hlv⟩ := hL.shape
 subst hlv
 have hvl := hRd.1
 obtain ⟨N, hN⟩ : ∃ N, N = vs.length := ⟨_, rfl⟩
 rw [<- hN] at LS OW OW1 hvl ⊢
 have HN : Hid (N = rs.length /\ N = vs.length) := ⟨hvl, hN⟩
 have hN6 : N < 1000000 := by have := zq rs; have := HM.out; omega
 clear a2 b2 hL hRd hOw hvl hN ST
 refine tq 11 ?_
 simp only [uA]
 refine tq 12 ?_
 simp only [uA]
 refine tq 13 ?_
 simp only [uA]
 refine tq 14 ?_
 simp only [uA]
 refine tq 15 ?_
 simp only [uA]
 refine wpAnyH_done (by kernel_rfl) ?_ _
 refine NoPanic.normal ?_
 clear hHeld q1 q2 q3
 go_wp2_with fail
 go_loopw [23] (fun i wr => ∃ (k : Nat) (us : List Value), k <= N /\ i = .int .i64 (k : Int) /\ Lists wr (.slice al N cl) us /\ Copies wr w.heap.size us vs k rs /\ (∀ gj, gj < Z1.heap.size -> wr.heap[gj]? = Z1.heap[gj]?) /\ Below w.heap.size w wr /\ Z1.heap.size <= wr.heap.size) (fun i _ => N - (intOf i).toNat)
 case atStart => exact ⟨0, vs, Nat.zero_le _, rfl, LS.out, ⟨by rw [<- HN.out.2]; exact HN.out.1, fun j hj => absurd hj (Nat.not_lt_zero _), fun _ _ => rfl⟩, fun gj hj => HB12.out.block gj hj, B2.out, HB12.out.size⟩
 case round =>
  obtain ⟨k, us, hk, rfl, hL, hC, hZ, hB, hsz⟩ := hrel
  have LW := hide hL
  have CW := hide hC
  have ZW := hide hZ
  have BW := hide hB
  have hus : us.length = N := by rw [hC.len, <- HN.out.1]
  by_cases hlt : k < N
  ·obtain ⟨gl, off, cc, hlv, hcap, hcell⟩ := hL.at k (by omega)
   simp only [Value.slice.injEq] at hlv
   obtain ⟨rfl, hz0, rfl⟩ := hlv
   clear hz0
   rw [hC.old k (lr _)] at hcell
   have hkr : k < rs.length := by rw [<- HN.out.1]; exact hlt
   have hsv1 := RDw.out.2 k hkr
   have hsv : SliceAt wr (vs.getD k default) (rs.getD k []) := hsv1.chg ZW.out hsz
   have hrne := HNE.out _ (FQ hkr)
   obtain ⟨ax, nx, cx, hx, hnx, hz2⟩ := hsv.form
   rw [hx] at hsv hcell
   obtain ⟨bk, bo, rfl, hy1, hy2, hy3⟩ := hsv.src (List.length_pos_iff.2 hrne)
   clear hy1 hy2 hy3
   have HSV := hide hsv
   have HNX := hide hnx
   have hglw : Hid (w.heap.size <= gl) := OW.out gl rfl
   have hglt : gl < wr.heap.size := hL.lt rfl
   have HGLT := hide hglt
   have q1 : (0 : Int) <= (k : Int) := by omega
   have q2 : (k : Int) < (N : Int) := by omega
   have q3 : IntKind.i64.wrap ((k : Int) + 1) = (k : Int) + 1 := by rw [IntKind.wrap_i64]; omega
   have HUS := hide hus
   have HGZ : Hid (Z1.heap.size <= gl) := OW1.out gl rfl
   clear hL hC hZ hB hus hsv1 hsv hx hnx hz2 hrne hcap hglt
   go_wp2_with fail
   refine (uT bk bo nx cx _ wr HSV.out).mono ?_
   rintro e w3 ⟨g3, c3, rfl, hg3, hr3, b3⟩
   rw [HNX.out]
   have L3 : Lists w3 (.slice (some ⟨gl, off, none⟩) N cl) us := LW.out.kept fun j hj => b3.block j (LW.out.lt hj)
   obtain ⟨gl', off', cc', hlv, hcap, c3c⟩ := L3.at k (by have := HUS.out; omega)
   simp only [Value.slice.injEq, Option.some.injEq, Addr.mk.injEq, and_true] at hlv
   obtain ⟨⟨rfl, rfl⟩, hz0, rfl⟩ := hlv
   obtain ⟨cur, hrow3, hfr⟩ : ∃ cur, w3.heap[gl]? = some (.cells cur 22 (0, 0)) /\ True := by
    rcases L3 with ⟨h1, _⟩ | ⟨g', off', c', cur, h1, h2, _⟩
    ·simp at h1
    ·simp only [Value.slice.injEq, Option.some.injEq, Addr.mk.injEq, and_true] at h1
     obtain ⟨⟨rfl, rfl⟩, _⟩ := h1
     exact ⟨cur, h2, trivial⟩
   have f3 := frozen_of_row _ _ (off + k) _ _ hrow3
   obtain ⟨RL, hRL⟩ : ∃ RL, RL = (rs.getD k []).length := ⟨_, rfl⟩
   rw [<- hRL]
   obtain ⟨NV, hNV⟩ : ∃ NV, NV = Value.slice (some ⟨g3, 0, none⟩) RL c3 := ⟨_, rfl⟩
   have L4 := hide (L3.set k NV (by have := HUS.out; omega))
   have hne3 : g3 ≠ gl := by have := HGLT.out; omega
   have C4 : Hid (Copies (w3.setCell ⟨gl, off + k, none⟩ NV) w.heap.size (us.set k NV) vs (k + 1) rs) := by
    have chr : ∀ gj, gj ≠ gl -> (w3.setCell ⟨gl, off + k, none⟩ NV).heap[gj]? = w3.heap[gj]? := fun gj hj => heap_setCell_other w3 ⟨gl, off + k, none⟩ gj NV hj
    refine ⟨by rw [List.length_set]; exact CW.out.len, fun j hj => ?_, fun j hj => ?_⟩
    ·by_cases e : j = k
     ·subst e
      refine ⟨g3, c3, ?_, ?_, ltr BW.out.size hg3⟩
      ·rw [List.getD_eq_getElem?_getD, List.getElem?_set, if_pos rfl, if_pos (by have := HUS.out; omega), hNV, hRL]
       rfl
      ·obtain ⟨cu, r1, r2⟩ := hr3
       exact ⟨cu, (chr g3 hne3).trans r1, r2⟩
     ·obtain ⟨gj, cj, e1, e2, e3⟩ := CW.out.new j (by omega)
      refine ⟨gj, cj, ?_, ?_, e3⟩
      ·rw [List.getD_eq_getElem?_getD, List.getElem?_set, if_neg (fun x => e x.symm), <- List.getD_eq_getElem?_getD]
       exact e1
      ·obtain ⟨cu, r1, r2⟩ := e2
       by_cases hgg : gj = gl
       ·exfalso
        subst hgg
        have r3 := (b3.block gj HGLT.out).trans r1
        rw [r3] at hrow3
        injection hrow3 with hrow3
        injection hrow3 with _ hty
        exact absurd hty (by decide)
       ·exact ⟨cu, (chr gj hgg).trans ((b3.block gj (aa r1)).trans r1), r2⟩
    ·rw [List.getD_eq_getElem?_getD, List.getElem?_set, if_neg (by omega), <- List.getD_eq_getElem?_getD]
     exact CW.out.old j (by omega)
   have Z4 : Hid (∀ gj, gj < Z1.heap.size -> (w3.setCell ⟨gl, off + k, none⟩ NV).heap[gj]? = Z1.heap[gj]?) := fun gj hj => by
    have := HGZ.out
    rw [heap_setCell_other w3 ⟨gl, off + k, none⟩ gj NV (by show gj ≠ gl; omega), b3.block gj (by omega)]
    exact ZW.out gj hj
   have B4 : Hid (Below w.heap.size w (w3.setCell ⟨gl, off + k, none⟩ NV)) := (BW.out.trans (b3.mono BW.out.size)).setCell (p := ⟨gl, off + k, none⟩) hglw.out NV
   have S4 : Hid (Z1.heap.size <= (w3.setCell ⟨gl, off + k, none⟩ NV).heap.size) := ltr (ltr hsz b3.size) ((Below.refl 0 w3).setCell (p := ⟨gl, off + k, none⟩) (Nat.zero_le _) NV).size
   subst hNV
   clear hg3 hr3 b3 L3 hcap hz0 hrow3 hfr hne3 hcell hRL
   go_wp2_with fail
   go_roundw
   case rel => exact ⟨k + 1, _, by omega, by go_num, L4.out, C4.out, Z4.out, B4.out, S4.out⟩
   case measure => simp [intOf]; omega
  ·have q2 : ¬ ((k : Int) < (N : Int)) := by omega
   have hkN : k = N := by omega
   have HKN := hide hkN
   clear hL hC hZ hB hkN hus
   go_wp2_with fail
   go_ret
   refine ⟨_, rfl, ⟨us, LW.out, ?_, OW.out⟩, BW.out⟩
   have hc := CW.out
   rw [HKN.out, HN.out.1] at hc
   exact ⟨hc.len, hc.new, fun _ _ => rfl⟩
end Go.Proofs.YteealihknndclabGreatDoor
namespace Go.Proofs.YteealihknndclabGreatDoor
open Go.RowKit

namespace S
def iB (f c : Nat) : List Act := [.write (f + 0) (zeros 128), .flush] ++ ([.write (f + 1) (blank f c 1), .flush] ++ [.write (f + 0) (aC f c 0 Hd.none), .flush])
end S
theorem wM {ops : Array Oper} {T : World -> Prop} {op : Oper} {a : Act} (hw : Region.wanted op (yielded ops a.tmps) = true) (ho : op.op = .build 186 #[]) : YieldsIf Tryz.prog ops T op (hdv S.Hd.none) a := Or.inl ⟨hw, fun w _ => by
 unfold execOp
 simp only [ho, Sem.run_bind, List.map_toArray, List.map_nil, iI w, Result.andThen_ok, Sem.run_pure]⟩
set_option maxHeartbeats 8000000 in
set_option maxRecDepth 10000 in
theorem Cz (o : Ow) (d : S.Dk) (f c : Nat) (w : World) (hd : Dsk w o d) (hf : f + c <= d.safe.length) (h4 : 4 <= c) (hpe : d.pend.length <= 10) (hz : ∀ k, 2 <= k -> k < c -> d.seen.getD (f + k) [] = S.zeros 128) :
  Calls Tryz.prog 114 #[arv o.ptr f c] w (Does d (S.iB f c) o w) := by
 have hns := hd.dk.n
 have HF : Hid (f + c <= d.safe.length) := hf
 have HZR := hide hz
 have HPE : Hid (d.pend.length <= 10) := hpe
 have hcc : c <= 8192 := by omega
 have hff : f <= 8192 := by omega
 have HLT : Hid (∀ k, o.has k -> k < w.heap.size) := hd.dk.lt
 obtain ⟨w0, hw0, HA, HB, HZ⟩ := lL w o.ptr f c
 have HD0 := hide (hd.below HB.out)
 obtain ⟨ga, hga⟩ : ∃ ga, ga = w.heap.size := ⟨_, rfl⟩
 rw [<- hga] at HA
 have HGA : Hid (ga = w.heap.size) := hga
 have HNG : Hid (¬ o.has ga) := fun e => by have := HLT.out _ e; omega
 have hmk : ∀ w : World, (Instr.makeSlice 22 (.int .i64 128) (.int .i64 128)).run Tryz.prog w = .ok (.slice (some ⟨w.heap.size, 0, none⟩) 128 128) (w.alloc (.cells (S.v8 (S.zeros 128)) 5)) := fun w => di 128 (by omega) w
 obtain ⟨w1, hw1⟩ : ∃ w1, w1 = w0.alloc (.cells (S.v8 (S.zeros 128)) 5) := ⟨_, rfl⟩
 have b1 : Below w0.heap.size w0 w1 := by rw [hw1]; exact ba ..
 have R1 : Hid (w1.heap[w0.heap.size]? = some (.cells (S.v8 (S.zeros 128)) 5 (0, 0))) := by rw [hw1]; exact heap_alloc_new _ _
 have HB1 : Hid (Below w.heap.size w w1) := HB.out.trans (b1.mono HB.out.size)
 have HD1 := hide (HD0.out.below b1)
 have HA1 := hide (HA.out.below b1 (aa HA.out))
 obtain ⟨gz, hgz⟩ : ∃ gz, gz = w0.heap.size := ⟨_, rfl⟩
 rw [<- hgz] at R1
 have HNZ : Hid (¬ o.has gz) := fun e => by have := HLT.out _ e; have := HZ.out; omega
 have hz128 : (S.zeros 128).length = 128 := S.zeros_length 128
 obtain ⟨ZS, hZS⟩ : ∃ ZS, ZS = S.zeros 128 := ⟨_, rfl⟩
 rw [<- hZS] at R1 hz128
 have HZS := hide hZS
 obtain ⟨a0, a1, a2⟩ := HA1.out.cells
 unfold arv
 clear hd hf hz hpe b1 HD0
 go_enter Tryz.func114, Tryz.ntmps114
 go_upto_region 1 with fail
 rw [<- hw0, <- hga]
 clear hw0 hga
 go_upto_region 2 with fail
 rw [<- hw1, <- hgz]
 clear hw1 hgz hmk hZS
 go_wp2_with fail
 refine (mg o d f c 0 (some ⟨gz, 0, none⟩) 128 ZS w1 HD1.out.dk (by have := HF.out; omega) hz128 (by have := HPE.out; omega) (fun W hW => az (hW.row R1.out (fun e => HNZ.out (Or.inl e))) hz128.symm (by omega))).mono ?_
 intro e w2 hdo
 obtain ⟨b, d2, o2, rfl, h1, h2, h3⟩ := hdo.start
 have P2 := hide h1
 have D2 := hide (HD1.out.to h2 h3)
 have T2 := hide (h3.after HB1.out)
 have A2 := hide (HA1.out.dk h3 HNG.out)
 have R2 : Hid (w2.heap[gz]? = some (.cells (S.v8 ZS) 5 (0, 0))) := h3.chg.row R1.out HNZ.out
 have N2 : Hid (¬ o2.has ga /\ ¬ o2.has gz) := by
  have l1 := aa HA1.out
  have l2 := aa R1.out
  refine ⟨fun e => ?_, fun e => ?_⟩
  ·rcases h3.own _ e with e | e
   ·exact HNG.out e
   ·omega
  ·rcases h3.own _ e with e | e
   ·exact HNZ.out e
   ·omega
 clear hdo h1 h2 h3 a0 a1 a2
 obtain ⟨a0, a1, a2⟩ := A2.out.cells
 cases b with
 | false =>
  have E : S.why false = 13 := rfl
  rw [E]
  go_wp2_with fail
  go_ret
  rw [S.iB, <- HZS.out]
  exact Does.stop P2.out D2.out.dk T2.out
 | true =>
  have E : S.why true = 0 := rfl
  rw [E]
  have HPT : Hid (o2.ptr = o.ptr) := by show o2.ptr = o.ptr; unfold Ow.ptr; rw [T2.out.g]
  have al := S.Dk.plan_true P2.out
  have HP2 : Hid (d2.pend = []) := by show d2.pend = []; rw [al.pend]; rfl
  have HS2 : Hid (d2.safe = d.seen.set (f + 0) ZS) := by
   show d2.safe = _
   rw [al.safe]
   show S.over d.safe (d.pend ++ [(f + 0, ZS)]) = _
   rw [S.lX]
   rfl
  have HL2 : Hid (d2.safe.length = d.safe.length) := by show d2.safe.length = _; rw [HS2.out, List.length_set, S.Dk.seen_length]
  have HZ2 : Hid (∀ k, 2 <= k -> k < c -> d2.seen.getD (f + k) [] = ZS) := fun k hk1 hk2 => by
   rw [S.Dk.seen_flushed _ HP2.out, HS2.out, S.dA _ _ _ _ _ (by rw [S.Dk.seen_length]; have := HF.out; omega), if_neg (by omega), HZS.out]
   exact HZR.out k hk1 hk2
  clear al
  go_wp2_with fail
  go_loopw [5] (fun i wr => ∃ k : Nat, i = .int .i64 (k : Int) /\ 2 <= k /\ k <= c /\ Below w2.heap.size w2 wr) (fun i _ => c - (intOf i).toNat)
  case atStart => exact ⟨2, rfl, by omega, by omega, Below.refl _ _⟩
  case round =>
   obtain ⟨k, rfl, hk2, hkc, hb⟩ := hrel
   have BW := hide hb
   have DW := hide (D2.out.below hb)
   have AW := hide (A2.out.below hb (aa A2.out))
   have RW : Hid (wr.heap[gz]? = some (.cells (S.v8 ZS) 5 (0, 0))) := (hb.block gz (aa R2.out)).trans R2.out
   clear a0 a1 a2
   obtain ⟨a0, a1, a2⟩ := AW.out.cells
   by_cases hlt : k < c
   ·have q1 : (k : Int) < (c : Int) := by omega
    have q4 : IntKind.i64.wrap ((k : Int) + 1) = (k : Int) + 1 := by rw [IntKind.wrap_i64]; omega
    clear hb
    go_wp2_with fail
    rw [<- HPT.out]
    refine (qK o2 d2 f c k wr DW.out.dk (by rw [HL2.out]; have := HF.out; omega)).mono ?_
    rw [HPT.out]
    rintro e w3 ⟨gb, rfl, g3, r3, b3⟩
    rw [HZ2.out k hk2 hlt] at r3
    have S1 := hide (az r3 hz128.symm (by omega))
    have S2 := hide (az ((b3.block gz (aa RW.out)).trans RW.out) hz128.symm (by omega))
    have B3 : Hid (Below w2.heap.size w2 w3) := BW.out.trans (b3.mono BW.out.size)
    clear g3 r3 b3
    go_wp2_with fail
    refine (ig _ _ _ _ w3 S1.out S2.out).mono ?_
    rintro e w9 ⟨rfl, rfl⟩
    rw [decide_eq_true rfl]
    go_wp2_with fail
    go_roundw
    case rel => exact ⟨k + 1, by go_num, by omega, by omega, B3.out⟩
    case measure => simp [intOf]; omega
   ·have q1 : ¬ (k : Int) < (c : Int) := by omega
    clear hb
    go_upto_region 12 with fail
    refine wp_region_noPanic ?_
    refine wp_region_held_drew (S := (fun W => eX W ga o.ptr f c)) follows AW.out (fun hHeld => ?_)
    have D4 := hide (DW.out.below (W := wr.drew) (Below.refl _ _).drew)
    have B4 : Hid (Below w2.heap.size w2 wr.drew) := BW.out.drew
    have HLT2 : Hid (∀ k, o2.has k -> k < wr.drew.heap.size) := D4.out.dk.lt
    clear DW BW AW RW a0 a1 a2
    generalize wr.drew = Z4 at D4 B4 HLT2 hHeld ⊢
    refine wpAnyH_take (i := 0) (oi := ⟨_, _, _, _, _, _⟩) (v := .agg #[o.ptr, .int .i64 (f : Int), .int .i64 (c : Int)]) rfl (by kernel_rfl) (by kernel_rfl) (by kernel_rfl) (fun _ _ _ h => h) (yieldsIf_load_mid (by kernel_rfl) 182 (.tmp 1) rfl ga 0 rfl [o.ptr, .int .i64 (f : Int), .int .i64 (c : Int)] _ (fun W hW => aH hW) Tryz.underlying182 rfl (by kernel_rfl)) (by assumption) ?_
    simp only [uA]
    refine wpAnyH_take (i := 1) (oi := ⟨_, _, _, _, _, _⟩) (v := .agg #[o.ptr, .int .i64 (f : Int), .int .i64 (c : Int)]) rfl (by kernel_rfl) (by kernel_rfl) (by kernel_rfl) (fun _ _ _ h => h) (yieldsIf_load_mid (by kernel_rfl) 182 (.tmp 1) rfl ga 0 rfl [o.ptr, .int .i64 (f : Int), .int .i64 (c : Int)] _ (fun W hW => aH hW) Tryz.underlying182 rfl (by kernel_rfl)) (by assumption) ?_
    simp only [uA]
    refine r1 2 fun K hK => ?_
    go_simp
    refine (pO o.ptr f c 1 Z4 (by omega) (by omega) (by omega)).mono ?_
    rintro e Z5 ⟨gb, rfl, g5, r5, b5⟩
    have A5 : eX Z5 ga o.ptr f c := eX.below hHeld b5 (aa hHeld)
    have D5 := hide (D4.out.below b5)
    have B5 : Hid (Below w2.heap.size w2 Z5) := B4.out.trans (b5.mono B4.out.size)
    have R5 := hide r5
    have NG5 : Hid (¬ gb = o2.g) := fun e => by have := HLT2.out o2.g (Or.inl rfl); omega
    clear g5 r5 b5 hHeld
    refine hK.out _ _ A5 (fun hHeld => ?_)
    clear hK K
    try simp only [uA]
    have HA5 := hide A5
    clear A5 D4 B4
    refine r1 3 fun K hK => ?_
    go_simp
    rw [<- HPT.out]
    refine (mg o2 d2 f c 1 (some ⟨gb, 0, none⟩) 128 (S.blank f c 1) Z5 D5.out.dk (by rw [HL2.out]; have := HF.out; omega) (S.aI _ _ _) (by rw [HP2.out]; simp) (fun W hW => az (hW.row R5.out NG5.out) (S.aI f c 1).symm (by rw [S.aI]; omega))).mono ?_
    rw [HPT.out]
    intro e Z6 hdo
    obtain ⟨b, d6, o6, rfl, h1, h2, h3⟩ := hdo.start
    have A6 : eX Z6 ga o.ptr f c := HA5.out.dk h3 N2.out.1
    have D6 := hide (D5.out.to h2 h3)
    have T6 := hide (T2.out.trans (h3.after B5.out))
    have P6 := hide h1
    have N6 : Hid (¬ o6.has ga) := fun e => by
     have l1 := aa HA5.out
     rcases h3.own _ e with e | e
     ·exact N2.out.1 e
     ·omega
    clear hdo h1 h2 h3 hHeld
    refine hK.out _ _ A6 (fun hHeld => ?_)
    clear hK K
    try simp only [uA]
    have HA6 := hide A6
    clear A6 HA5 D5 B5 R5 NG5
    obtain ⟨y, hy⟩ : ∃ y, y = S.why b := ⟨_, rfl⟩
    rw [<- hy]
    have HY := hide hy
    clear hy
    refine tq 4 ?_
    simp only [uA]
    refine wpAnyH_done (by kernel_rfl) ?_ _
    refine NoPanic.normal ?_
    clear hHeld
    have PP : Hid (d.plan ([.write (f + 0) ZS, .flush] ++ [.write (f + 1) (S.blank f c 1), .flush]) = (d6, b)) := by
     show d.plan _ = _
     rw [S.Dk.plan_app, P2.out, if_pos rfl]
     exact P6.out
    cases b with
    | false =>
     have E : y = 13 := HY.out
     subst E
     go_wp2_with fail
     go_ret
     rw [S.iB, <- HZS.out, <- List.append_assoc]
     exact Does.stop PP.out D6.out.dk T6.out
    | true =>
     have E : y = 0 := HY.out
     subst E
     have HPT6 : Hid (o6.ptr = o.ptr) := by show o6.ptr = o.ptr; unfold Ow.ptr; rw [T6.out.g]
     have al := S.Dk.plan_true P6.out
     have HP6 : Hid (d6.pend = []) := by show d6.pend = []; rw [al.pend]; rfl
     have HL6 : Hid (d6.safe.length = d.safe.length) := by
      have := S.Dk.plan_len [.write (f + 1) (S.blank f c 1), .flush] d2
      rw [P6.out] at this
      exact this.trans HL2.out
     clear al
     go_upto_region 15 with fail
     refine wp_region_noPanic ?_
     refine wp_region_held_drew (S := (fun W => eX W ga o.ptr f c)) follows HA6.out (fun hHeld => ?_)
     have D7 := hide (D6.out.below (W := Z6.drew) (Below.refl _ _).drew)
     have B7 : Hid (Below Z6.heap.size Z6 Z6.drew) := (Below.refl _ _).drew
     have HLT6 : Hid (∀ k, o6.has k -> k < Z6.drew.heap.size) := D7.out.dk.lt
     clear HA6
     generalize Z6.drew = Z7 at D7 B7 HLT6 hHeld ⊢
     refine wpAnyH_take (i := 0) (oi := ⟨_, _, _, _, _, _⟩) (v := .agg #[o.ptr, .int .i64 (f : Int), .int .i64 (c : Int)]) rfl (by kernel_rfl) (by kernel_rfl) (by kernel_rfl) (fun _ _ _ h => h) (yieldsIf_load_mid (by kernel_rfl) 182 (.tmp 1) rfl ga 0 rfl [o.ptr, .int .i64 (f : Int), .int .i64 (c : Int)] _ (fun W hW => aH hW) Tryz.underlying182 rfl (by kernel_rfl)) (by assumption) ?_
     simp only [uA]
     refine wpAnyH_take (i := 1) (oi := ⟨_, _, _, _, _, _⟩) (v := .agg #[o.ptr, .int .i64 (f : Int), .int .i64 (c : Int)]) rfl (by kernel_rfl) (by kernel_rfl) (by kernel_rfl) (fun _ _ _ h => h) (yieldsIf_load_mid (by kernel_rfl) 182 (.tmp 1) rfl ga 0 rfl [o.ptr, .int .i64 (f : Int), .int .i64 (c : Int)] _ (fun W hW => aH hW) Tryz.underlying182 rfl (by kernel_rfl)) (by assumption) ?_
     simp only [uA]
     refine wpAnyH_take (i := 2) (oi := ⟨_, _, _, _, _, _⟩) (v := hdv S.Hd.none) rfl (by kernel_rfl) (by kernel_rfl) (by kernel_rfl) (fun _ _ _ h => h) (wM (by kernel_rfl) rfl) (by assumption) ?_
     simp only [uA]
     refine r1 3 fun K hK => ?_
     go_simp
     refine (jm o.ptr f c 0 S.Hd.none Z7 (by omega) (by omega) (by omega) S.Hd.none_ok D7.out.k).mono ?_
     rintro e Z8 ⟨gs, rfl, g8, r8, b8⟩
     have A8 : eX Z8 ga o.ptr f c := eX.below hHeld b8 (aa hHeld)
     have D8 := hide (D7.out.below b8)
     have B8 : Hid (Below Z6.heap.size Z6 Z8) := B7.out.trans (b8.mono B7.out.size)
     have R8 := hide r8
     have NG8 : Hid (¬ gs = o6.g) := fun e => by have := HLT6.out o6.g (Or.inl rfl); omega
     clear g8 r8 b8 hHeld
     refine hK.out _ _ A8 (fun hHeld => ?_)
     clear hK K
     try simp only [uA]
     have HA8 := hide A8
     clear A8 D7 B7
     refine r1 4 fun K hK => ?_
     go_simp
     rw [<- HPT6.out]
     refine (mg o6 d6 f c 0 (some ⟨gs, 0, none⟩) 128 (S.aC f c 0 S.Hd.none) Z8 D8.out.dk (by rw [HL6.out]; have := HF.out; omega) (S.aT S.Hd.none_ok) (by rw [HP6.out]; simp) (fun W hW => az (hW.row R8.out NG8.out) (S.aT S.Hd.none_ok).symm (by rw [S.aT S.Hd.none_ok]; omega))).mono ?_
     rw [HPT6.out]
     intro e Z9 hdo
     obtain ⟨b, d9, o9, rfl, h1, h2, h3⟩ := hdo.start
     have A9 : eX Z9 ga o.ptr f c := HA8.out.dk h3 N6.out
     have H9 : Hid (Does d (([.write (f + 0) ZS, .flush] ++ [.write (f + 1) (S.blank f c 1), .flush]) ++ [.write (f + 0) (S.aC f c 0 S.Hd.none), .flush]) o w (.returned (.int .i64 (S.why b))) Z9) := Does.on PP.out T6.out (hdo.after B8.out)
     clear hdo h1 h2 h3 hHeld
     refine hK.out _ _ A9 (fun hHeld => ?_)
     clear hK K
     try simp only [uA]
     clear A9
     generalize S.why b = y at H9 ⊢
     refine tq 5 ?_
     simp only [uA]
     refine wpAnyH_done (by kernel_rfl) ?_ _
     refine NoPanic.normal ?_
     clear hHeld
     go_wp2_with fail
     go_ret
     rw [S.iB, <- HZS.out, <- List.append_assoc]
     exact H9.out
end Go.Proofs.YteealihknndclabGreatDoor
namespace Go.Proofs.YteealihknndclabGreatDoor
open Go.RowKit

namespace S
def formed (ss : List (List UInt8)) (f c : Nat) : List (List UInt8) := ((ss.set (f + 0) (zeros 128)).set (f + 1) (blank f c 1)).set (f + 0) (aC f c 0 Hd.none)
theorem FR (d : Dk) (f c : Nat) : d.acts (iB f c) = { d with safe := formed d.seen f c, pend := [] } := by
 have e : d.acts (iB f c) = ({ d with safe := d.seen.set (f + 0) (zeros 128), pend := [] } : Dk).acts ([.write (f + 1) (blank f c 1), .flush] ++ [.write (f + 0) (aC f c 0 Hd.none), .flush]) := by
  rw [iB, Dk.acts_app]
  congr 1
  show ({ d with safe := over d.safe (d.pend ++ [(f + 0, zeros 128)]), pend := [] } : Dk) = _
  rw [lX]
  rfl
 rw [e]
 show ({ d with safe := d.seen.set (f + 0) (zeros 128), pend := [] } : Dk).acts (.write (f + 1) (blank f c 1) :: .flush :: [.write (f + 0) (aC f c 0 Hd.none), .flush]) = _
 rw [lM rfl, lM rfl, Dk.acts_nil]
 rfl
theorem pI {ss : List (List UInt8)} {f c : Nat} (hf : f + c <= ss.length) (h4 : 4 <= c) : (formed ss f c).length = ss.length /\ (formed ss f c).getD (f + 0) [] = aC f c 0 Hd.none /\ (formed ss f c).getD (f + 1) [] = blank f c 1 /\ ∀ j, j ≠ f -> j ≠ f + 1 -> (formed ss f c).getD j [] = ss.getD j [] := by
 unfold formed
 refine ⟨by simp, ?_, ?_, fun j h0 h1 => ?_⟩
 ·rw [dA _ _ _ _ _ (by simp; omega), if_pos rfl]
 ·rw [dA _ _ _ _ _ (by simp; omega), if_neg (by omega), dA _ _ _ _ _ (by simp; omega), if_pos rfl]
 ·rw [dA _ _ _ _ _ (by simp; omega), if_neg (by omega), dA _ _ _ _ _ (by simp; omega), if_neg (by omega), dA _ _ _ _ _ (by omega), if_neg (by omega)]
theorem yf {ss : List (List UInt8)} {f c : Nat} (hf : f + c <= ss.length) (h4 : 4 <= c) (h8 : c <= 8192) (hz : ∀ k, 2 <= k -> k < c -> ss.getD (f + k) [] = zeros 128) : Good (formed ss f c) f c 0 0 [] := by
 obtain ⟨h1, h2, h3, h5⟩ := pI hf h4
 refine ⟨by rw [h1]; exact hf, h4, h8, Nat.zero_le _, by decide, Nat.zero_le _, h2, ?_, fun k hk1 hk2 => ?_, fun j hj => absurd hj (Nat.not_lt_zero _)⟩
 ·rw [h3]; exact lJ _ _ _ _
 ·rw [h5 _ (by omega) (by omega), hz k hk1 hk2]
  exact ⟨zeros_length _, Or.inr ⟨0, Nat.zero_le _, by simp⟩⟩
theorem Good.stay {ss ss' : List (List UInt8)} {f c p t : Nat} {rs : List (List UInt8)} (g : Good ss f c p t rs) (hl : ss'.length = ss.length) (h : ∀ j, f <= j -> j < f + c -> ss'.getD j [] = ss.getD j []) : Good ss' f c p t rs := by
 have hp := g.place
 have h4 := g.four
 have hr : S.room c = (c - 2) * 120 := rfl
 have hrm := g.room
 exact ⟨by rw [hl]; exact g.few, g.four, g.most, g.place, g.turn, g.room, by rw [h _ (by omega) (by omega)]; exact g.head, by rw [h _ (by omega) (by omega)]; exact g.loose, fun k h1 h2 => by rw [h _ (by omega) (by omega)]; exact g.own k h1 h2, fun j hj => by rw [h _ (by omega) (by omega)]; exact g.text j hj⟩
end S
set_option maxHeartbeats 1600000 in
set_option maxRecDepth 10000 in
theorem zC (o : Ow) (d : S.Dk) (f c : Nat) (w : World) (hd : Dsk w o d) (hf : f + c <= d.safe.length) (h4 : 4 <= c) (hpe : d.pend.length <= 10) (hz : ∀ k, 2 <= k -> k < c -> d.seen.getD (f + k) [] = S.zeros 128) :
  Calls Tryz.prog 69 #[o.ptr, .int .i64 (f : Int), .int .i64 (c : Int)] w (Does d (S.iB f c) o w) := by
 have HD := hide hd
 have HF : Hid (f + c <= d.safe.length) := hf
 have HZ := hide hz
 have HPE := hide hpe
 clear hd hf hz hpe
 have gU : o.ptr = .pointer (some ⟨o.g, 0, none⟩) := rfl
 rw [gU]
 go_enter Tryz.func69, Tryz.ntmps69
 go_wp2_with fail
 rw [<- gU]
 refine (sZ o d f c w HD.out.dk h4 HF.out).mono ?_
 rintro e w1 ⟨rfl, b1⟩
 obtain ⟨w2, hw2⟩ : ∃ w2, w2 = w1.alloc (.cells #[o.ptr, .int .i64 (f : Int), .int .i64 (c : Int)] 182) := ⟨_, rfl⟩
 have b2 : Below w1.heap.size w1 w2 := by rw [hw2]; exact ba ..
 have HD2 := hide ((HD.out.below b1).below b2)
 have HB2 : Hid (Below w.heap.size w w2) := b1.trans (b2.mono b1.size)
 unfold arv
 clear b1 b2
 go_wp2_with fail
 rw [<- gU, <- hw2]
 clear hw2 gU
 refine (Cz o d f c w2 HD2.out HF.out h4 HPE.out HZ.out).mono ?_
 intro e w3 hdo
 have H4 := hide (hdo.after HB2.out)
 obtain ⟨b, d3, o3, rfl, h1, h2, h3⟩ := hdo.start
 clear hdo h1 h2 h3
 generalize S.why b = y at H4 ⊢
 go_wp2_with fail
 go_ret
 exact H4.out
structure Lo (w0 w : World) (o : Ow) (d : S.Dk) (g f c p t : Nat) (rs : List (List UInt8)) (tv : Value) : Prop where
 log : uZ w o d g f c p t rs tv
 ob : ∀ k, o.has k -> w0.heap.size <= k
 gb : w0.heap.size <= g
 tb : ∀ k, tv.ownBlock = some k -> w0.heap.size <= k
 below : Below w0.heap.size w0 w
 pos : 1 < w0.heap.size
theorem uZ.below {w W : World} {o : Ow} {d : S.Dk} {g f c p t : Nat} {rs : List (List UInt8)} {tv : Value} (h : uZ w o d g f c p t rs tv) (hb : Below w.heap.size w W) : uZ W o d g f c p t rs tv :=
 ⟨h.dk.below hb, h.pend, h.good, h.lg.below hb, h.no, h.pos, h.far, h.tpos⟩
theorem Lo.then {w0 w W : World} {o : Ow} {d : S.Dk} {g f c p t : Nat} {rs : List (List UInt8)} {tv : Value} (h : Lo w0 w o d g f c p t rs tv) (hb : Below w.heap.size w W) : Lo w0 W o d g f c p t rs tv :=
 ⟨h.log.below hb, h.ob, h.gb, h.tb, h.below.trans (hb.mono h.below.size), h.pos⟩
theorem aZ.bytes {w : World} {o : Ow} {d : S.Dk} {k : Nat} {cur : Array Value} (h : aZ w o d) (hr : w.heap[k]? = some (.cells cur 5 (0, 0))) : ¬ o.has k := by
 rintro (rfl | rfl | rfl | e)
 ·rw [h.row] at hr
  injection hr with hr
  injection hr with _ hty
  exact absurd hty (by decide)
 ·obtain ⟨c, h1, _⟩ := h.safe.row
  rw [h1] at hr
  injection hr with hr
  injection hr with _ hty
  exact absurd hty (by decide)
 ·obtain ⟨c, h1, _⟩ := h.seen.row
  rw [h1] at hr
  injection hr with hr
  injection hr with _ hty
  exact absurd hty (by decide)
 ·rcases h.pend.2 with ⟨h1, _⟩ | ⟨g, cap, cc, h1, _, h2, _⟩
  ·rw [h1] at e
   cases e
  ·rw [h1] at e
   simp only [Value.ownBlock, Option.some.injEq] at e
   subst e
   rw [h2] at hr
   injection hr with hr
   injection hr with _ hty
   exact absurd hty (by decide)
theorem dz.block {w : World} {u : Value} {bs : List UInt8} {k : Nat} (h : dz w u bs) (hk : u.ownBlock = some k) : ∃ cur, w.heap[k]? = some (.cells cur 5 (0, 0)) := by
 rcases h.2 with ⟨h1, _⟩ | ⟨g, cap, cc, h1, _, h2, _⟩
 ·rw [h1] at hk
  cases hk
 ·rw [h1] at hk
  simp only [Value.ownBlock, Option.some.injEq] at hk
  subst hk
  exact ⟨cc, h2⟩
theorem Lo.did {w0 w w' : World} {o : Ow} {d : S.Dk} {g f c p t : Nat} {rs rs' : List (List UInt8)} {tv : Value} {e : Ending} {d' : S.Dk} {o' : Ow} {tv' : Value} (h : Lo w0 w o d g f c p t rs tv) (x : Did d (S.commitActs d f c p t rs rs') o g f c t rs rs' tv w e w' true d' o' tv') (hp : d'.pend = []) (hg : S.Good d'.safe f c (1 - p) (t + 1) rs') : Lo w0 w' o' d' g f c (1 - p) (t + 1) rs' tv' := by
 have hpt : o'.ptr = o.ptr := by unfold Ow.ptr; rw [x.moved.ptr]
 have hob : ∀ k, o'.has k -> w0.heap.size <= k := fun k hk => by
  rcases x.moved.own k hk with e | e
  ·exact h.ob k e
  ·exact ltr h.below.size e
 have htb : ∀ k, tv'.ownBlock = some k -> w0.heap.size <= k := fun k hk => by
  rcases x.moved.text k hk with e | e
  ·exact h.tb k e
  ·exact ltr h.below.size e
 have hgw := aa h.log.lg.row
 refine ⟨⟨x.dk, hp, hg, by rw [hpt]; exact x.yes rfl, fun e => ?_, h.log.pos, fun k hk e => ?_, fun e => ?_⟩, hob, h.gb, htb, h.below.trans (x.moved.chg.below _ h.below.size (fun k hk e => ?_)), h.pos⟩
 ·rcases x.moved.own g e with e | e
  ·exact h.log.no e
  ·omega
 ·obtain ⟨cur, hr⟩ := (x.yes rfl).text.block hk
  exact x.dk.dk.bytes hr e
 ·have := htb 1 e
  have := h.pos
  omega
 ·rcases e with e | e | e
  ·have := h.ob k e; omega
  ·have := h.gb; omega
  ·have := h.tb k e; omega
end Go.Proofs.YteealihknndclabGreatDoor
namespace Go.Proofs.YteealihknndclabGreatDoor
open Go.RowKit

namespace S
def after (ss : List (List UInt8)) (f c p t : Nat) (rs rs' : List (List UInt8)) : List (List UInt8) := changed f c p ss (iO f c (enc rs') (enc rs).length) (cZ (t + 1) rs')
structure Calm (d : Dk) (f c p t : Nat) (rs rs' : List (List UInt8)) : Prop where
 fated : lS d (commitActs d f c p t rs rs') (May d.safe f c p t rs rs')
 good : Good (after d.safe f c p t rs rs') f c (1 - p) (t + 1) rs'
 acts : d.acts (commitActs d f c p t rs rs') = { d with safe := after d.safe f c p t rs rs', pend := [] }
theorem qA {d : Dk} {f c p t : Nat} {rs : List (List UInt8)} {b : List UInt8} (hd : d.pend = []) (g : Good d.safe f c p t rs) (ht : t + 1 < 18446744073709551616) (hr : (enc (rs ++ [b])).length <= S.room c) : Calm d f c p t rs (rs ++ [b]) := by
 have hl := fM rs b
 have hw : ∀ ss, ss.length = d.safe.length -> Good ss f c p t rs -> ow f c p t rs (rs ++ [b]) (iO f c (enc (rs ++ [b])) (enc rs).length) ss := fun ss _ gs => by
  unfold iO
  rw [if_neg (by omega)]
  exact textFor gs (lG rs b) hr _ _ rfl (by omega)
 have h := oq hd g ht hr hw
 exact ⟨h.1, h.2, qB hd⟩
theorem sP {d : Dk} {f c p t : Nat} {rs : List (List UInt8)} (hd : d.pend = []) (g : Good d.safe f c p t rs) (ht : t + 1 < 18446744073709551616) : Calm d f c p t rs [] := by
 have hw : ∀ ss, ss.length = d.safe.length -> Good ss f c p t rs -> ow f c p t rs [] (iO f c (enc []) (enc rs).length) ss := fun ss _ gs => by
  unfold iO
  rw [if_pos (show (enc []).length <= _ from Nat.zero_le _)]
  exact vD gs
 have h := oq hd g ht (Nat.zero_le _) hw
 exact ⟨h.1, h.2, qB hd⟩
theorem Calm.may {d : Dk} {f c p t : Nat} {rs rs' : List (List UInt8)} (h : Calm d f c p t rs rs') : May d.safe f c p t rs rs' (after d.safe f c p t rs rs') := by
 have := h.fated _ (lr _) ⟨[], 0, 0⟩
 rw [List.take_length, h.acts, Dk.crash_flushed _ rfl] at this
 exact this
end S
theorem tC.has {w : World} {g : Nat} {p : Value} {f c t : Nat} {rs : List (List UInt8)} {tv : Value} (h : tC w g p f c t rs tv) (hm : (S.enc rs).length <= 10000000) : Gr w g p f c t rs tv true := ⟨h.row, ⟨_, h.text, List.prefix_refl _, hm⟩, h.sep⟩
theorem mP (w0 w : World) (o : Ow) (d : S.Dk) (g f c p t : Nat) (rs : List (List UInt8)) (tv : Value) (hL : Lo w0 w o d g f c p t rs tv) (hne : ∀ r ∈ rs, r ≠ []) :
  Calls Tryz.prog 118 #[.pointer (some ⟨g, 0, none⟩)] w fun e w' => ∃ lv us, e = .returned lv /\ Recs w w' lv us rs /\ Below w.heap.size w w' := by
 have h1 := hL.log.good.room
 have h2 := S.room_le hL.log.good.most
 exact xm o.ptr f c t g rs tv true w (hL.log.lg.has (by omega)) hL.log.good.hd (by omega) hne
theorem vO (w0 w : World) (o : Ow) (d : S.Dk) (f c p t : Nat) (rs : List (List UInt8)) (hd : Dsk w o d) (hp : d.pend = []) (hg : S.Good d.safe f c p t rs) (ho : ∀ k, o.has k -> w0.heap.size <= k) (hb : Below w0.heap.size w0 w) (h0 : 1 < w0.heap.size) :
  Calls Tryz.prog 116 #[o.ptr, .int .i64 (f : Int), .int .i64 (c : Int)] w fun e w' => ∃ g tv, e = .returned (.tuple #[.pointer (some ⟨g, 0, none⟩), .int .i64 0]) /\ Lo w0 w' o d g f c p t rs tv /\ w.heap.size <= g /\ (∀ k, tv.ownBlock = some k -> w.heap.size <= k) /\ Below w.heap.size w w' := by
 refine (EE o d f c p t rs w hd (by rw [S.Dk.seen_flushed _ hp]; exact hg)).mono ?_
 rintro e w' ⟨g, tv, rfl, hl, hgb, htb, hbb⟩
 have hs := hb.size
 refine ⟨g, tv, rfl, ⟨⟨hd.below hbb, hp, hg, hl, fun e => ?_, by omega, fun k hk e => ?_, fun e => ?_⟩, ho, by omega, fun k hk => by have := htb k hk; omega, hb.trans (hbb.mono hs), h0⟩, hgb, htb, hbb⟩
 ·have := hd.dk.lt g e; omega
 ·have := hd.dk.lt k e; have := htb k hk; omega
 ·have := htb 1 e; omega
end Go.Proofs.YteealihknndclabGreatDoor
namespace Go.Proofs.YteealihknndclabGreatDoor
open Go.RowKit

namespace S
end S
end Go.Proofs.YteealihknndclabGreatDoor
namespace Go.Proofs.YteealihknndclabGreatDoor
open Go.RowKit
namespace S
end S
theorem Lo.chg {q : Nat -> Prop} {w0 w W : World} {o : Ow} {d : S.Dk} {g f c p t : Nat} {rs : List (List UInt8)} {tv : Value} (h : Lo w0 w o d g f c p t rs tv) (hc : Chg q w W) (hq : ∀ k, (o.has k \/ k = g \/ tv.ownBlock = some k \/ k < w0.heap.size) -> ¬ q k) : Lo w0 W o d g f c p t rs tv :=
 ⟨⟨⟨h.log.dk.dk.chg hc (fun k hk => hq k (Or.inl hk)), h.log.dk.k.chg hc (hq 1 (Or.inr (Or.inr (Or.inr h.pos)))), h.log.dk.no⟩, h.log.pend, h.log.good, h.log.lg.chg hc (hq g (Or.inr (Or.inl rfl))) (fun k hk => hq k (Or.inr (Or.inr (Or.inl hk)))), h.log.no, h.log.pos, h.log.far, h.log.tpos⟩, h.ob, h.gb, h.tb, h.below.trans (hc.below _ h.below.size (fun k hk => hq k (Or.inr (Or.inr (Or.inr hk))))), h.pos⟩
end Go.Proofs.YteealihknndclabGreatDoor
