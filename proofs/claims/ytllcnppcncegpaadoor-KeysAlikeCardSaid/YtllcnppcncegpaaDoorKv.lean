/- KeysAlike: the walk. -/
import Derived.Test.YtllcnppcncegpaaDoorKu
namespace Go.Proofs.YtllcnppcncegpaaDoor
open Go.RowKit

/-- Three rings side by side. -/
def Tri (B : Nat) (w : World) (ga gb gc : Nat) (ks zs : List UInt8) (Ta Tb U : List (List (List UInt8))) : Prop :=
  ∃ oa ob oc : Rn, (RgIs w oa ks Ta ∧ RgIs w ob ks Tb ∧ RgIs w oc zs U) ∧ (oa.gr = ga ∧ ob.gr = gb ∧ oc.gr = gc) ∧ ((∀ k, oa.foot k → ¬ ob.foot k) ∧ (∀ k, oa.foot k → ¬ oc.foot k) ∧ (∀ k, ob.foot k → ¬ oc.foot k)) ∧ (∀ k, oa.foot k ∨ ob.foot k ∨ oc.foot k → B ≤ k)
theorem Tri.below {B ga gb gc : Nat} {w w' : World} {ks zs : List UInt8} {Ta Tb U : List (List (List UInt8))} (h : Tri B w ga gb gc ks zs Ta Tb U) (hb : Below w.heap.size w w') : Tri B w' ga gb gc ks zs Ta Tb U := by
  obtain ⟨oa, ob, oc, ⟨h1, h2, h3⟩, h4⟩ := h
  exact ⟨oa, ob, oc, ⟨h1.below hb, h2.below hb, h3.below hb⟩, h4⟩
theorem Tri.ra {B ga gb gc : Nat} {w : World} {ks zs : List UInt8} {Ta Tb U : List (List (List UInt8))} (h : Tri B w ga gb gc ks zs Ta Tb U) : Ring 0 w ga ks Ta ∧ Ring 0 w gb ks Tb ∧ Ring 0 w gc zs U := by
  obtain ⟨oa, ob, oc, ⟨h1, h2, h3⟩, ⟨g1, g2, g3⟩, _⟩ := h
  exact ⟨Ring.of h1 g1, Ring.of h2 g2, Ring.of h3 g3⟩
theorem tri_a {B ga gb gc : Nat} {ks zs : List UInt8} {Ta Tb U : List (List (List UInt8))} (t : Int) (draw : Nat) (w : World) (h : Tri B w ga gb gc ks zs Ta Tb U) (hd : draw < 4294967296) (hB : B ≤ w.heap.size) (hK : KAt w) :
   Calls Tryd.prog 9 #[.pointer (some ⟨ga, 0, none⟩), .int .i64 t, .int .u32 (draw : Int)] w fun e w' => e = .returned (.tuple #[.int .i64 (S.turnN Ta t), .int .i64 (S.turnE Ta t)]) ∧ Tri B w' ga gb gc ks zs (S.turnT ks Ta t draw) Tb U ∧ Below B w w' ∧ Keeps w w' := by
  obtain ⟨oa, ob, oc, ⟨h1, h2, h3⟩, ⟨g1, g2, g3⟩, ⟨d1, d2, d3⟩, hf⟩ := h
  refine (turn_o oa ks Ta t draw ga w g1 h1 hd hK).mono ?_
  rintro e w' ⟨o', rfl, k1, k2⟩
  obtain ⟨q1, q2⟩ := k2.below (fun k hk => hf k (Or.inl hk)) hB
  obtain ⟨b1, b2⟩ := h2.other h1 k2 (fun k hk hk2 => d1 k hk2 hk)
  obtain ⟨c1, c2⟩ := h3.other h1 k2 (fun k hk hk2 => d2 k hk2 hk)
  exact ⟨rfl, ⟨o', ob, oc, ⟨k1, b1, c1⟩, ⟨k2.gr.trans g1, g2, g3⟩, ⟨fun k hk hk2 => b2 k hk2 hk, fun k hk hk2 => c2 k hk2 hk, d3⟩, fun k hk => by rcases hk with hk | hk; exact q2 k hk; exact hf k (Or.inr hk)⟩, q1, h1.keeps k2⟩
theorem tri_b {B ga gb gc : Nat} {ks zs : List UInt8} {Ta Tb U : List (List (List UInt8))} (t : Int) (draw : Nat) (w : World) (h : Tri B w ga gb gc ks zs Ta Tb U) (hd : draw < 4294967296) (hB : B ≤ w.heap.size) (hK : KAt w) :
   Calls Tryd.prog 9 #[.pointer (some ⟨gb, 0, none⟩), .int .i64 t, .int .u32 (draw : Int)] w fun e w' => e = .returned (.tuple #[.int .i64 (S.turnN Tb t), .int .i64 (S.turnE Tb t)]) ∧ Tri B w' ga gb gc ks zs Ta (S.turnT ks Tb t draw) U ∧ Below B w w' ∧ Keeps w w' := by
  obtain ⟨oa, ob, oc, ⟨h1, h2, h3⟩, ⟨g1, g2, g3⟩, ⟨d1, d2, d3⟩, hf⟩ := h
  refine (turn_o ob ks Tb t draw gb w g2 h2 hd hK).mono ?_
  rintro e w' ⟨o', rfl, k1, k2⟩
  obtain ⟨q1, q2⟩ := k2.below (fun k hk => hf k (Or.inr (Or.inl hk))) hB
  obtain ⟨b1, b2⟩ := h1.other h2 k2 d1
  obtain ⟨c1, c2⟩ := h3.other h2 k2 (fun k hk hk2 => d3 k hk2 hk)
  exact ⟨rfl, ⟨oa, o', oc, ⟨b1, k1, c1⟩, ⟨g1, k2.gr.trans g2, g3⟩, ⟨b2, d2, fun k hk hk2 => c2 k hk2 hk⟩, fun k hk => by
    rcases hk with hk | hk | hk
    · exact hf k (Or.inl hk)
    · exact q2 k hk
    · exact hf k (Or.inr (Or.inr hk))⟩, q1, h2.keeps k2⟩
theorem tri_c {B ga gb gc : Nat} {ks zs : List UInt8} {Ta Tb U : List (List (List UInt8))} (t : Int) (draw : Nat) (w : World) (h : Tri B w ga gb gc ks zs Ta Tb U) (hd : draw < 4294967296) (hB : B ≤ w.heap.size) (hK : KAt w) :
   Calls Tryd.prog 9 #[.pointer (some ⟨gc, 0, none⟩), .int .i64 t, .int .u32 (draw : Int)] w fun e w' => e = .returned (.tuple #[.int .i64 (S.turnN U t), .int .i64 (S.turnE U t)]) ∧ Tri B w' ga gb gc ks zs Ta Tb (S.turnT zs U t draw) ∧ Below B w w' ∧ Keeps w w' := by
  obtain ⟨oa, ob, oc, ⟨h1, h2, h3⟩, ⟨g1, g2, g3⟩, ⟨d1, d2, d3⟩, hf⟩ := h
  refine (turn_o oc zs U t draw gc w g3 h3 hd hK).mono ?_
  rintro e w' ⟨o', rfl, k1, k2⟩
  obtain ⟨q1, q2⟩ := k2.below (fun k hk => hf k (Or.inr (Or.inr hk))) hB
  obtain ⟨b1, b2⟩ := h1.other h3 k2 d2
  obtain ⟨c1, c2⟩ := h2.other h3 k2 d3
  exact ⟨rfl, ⟨oa, ob, o', ⟨b1, c1, k1⟩, ⟨g1, g2, k2.gr.trans g3⟩, ⟨d1, b2, c2⟩, fun k hk => by
    rcases hk with hk | hk | hk
    · exact hf k (Or.inl hk)
    · exact hf k (Or.inr (Or.inl hk))
    · exact q2 k hk⟩, q1, h3.keeps k2⟩
theorem row_u32 {w : World} {ao : Option Addr} {n c : Nat} {l : List Nat} (h : RowAt 1 encN w (.slice ao n c) l) (j : Nat) (hj : j < l.length) : ∃ g off, ao = some ⟨g, off, none⟩ ∧ g < w.heap.size ∧ n = l.length ∧ w.cell? ⟨g, off + j, none⟩ = some (.int .u32 ((l.getD j 0 : Nat) : Int)) := by
  obtain ⟨ao', cap, h1, h2, h3⟩ := h
  simp only [Value.slice.injEq] at h1
  obtain ⟨rfl, rfl, rfl⟩ := h1
  obtain ⟨g, off, rfl, hg, hc⟩ := h3 (by omega)
  refine ⟨g, off, rfl, hg, rfl, ?_⟩
  have := hc j (l.getD j 0) (by rw [List.getD_eq_getElem?_getD, List.getElem?_eq_getElem hj]; rfl) 0 _ rfl
  rw [Nat.mul_one, Nat.add_zero] at this
  exact this
set_option maxHeartbeats 80000000 in
set_option maxRecDepth 10000 in
theorem keysAlike_walk (sv dv : Value) (ks : List UInt8) (ds : List Nat) (h : S.Hd) (w : World) (hs : SliceAt w sv ks) (hsl : ks.length ≤ 140737488351232) (hd : RowAt 1 encN w dv ds) (hd2 : ∀ x ∈ ds, x < 4294967296) (hok : h.Ok) (hK : KAt w) :
   Calls Tryd.prog 7 #[sv, dv, .agg (encH h).toArray] w fun e w' => e = .returned (.bool true) ∧ Below w.heap.size w w' := by
  obtain ⟨so, sn, sc, rfl, hsn, hsm⟩ := hs.form
  obtain ⟨vo, vc, hdv, hdc, hd3⟩ := hd
  subst hdv
  have HD : Hid (RowAt 1 encN w (.slice vo ds.length vc) ds) := ⟨vo, vc, rfl, hdc, hd3⟩
  have HS := hide hs
  have HSL := hide hsl
  have HD2 := hide hd2
  have HK := hide hK
  have h0 := hK.pos
  have HOK := hide hok
  have HR := hide hok.r
  obtain ⟨dn, hdn⟩ : ∃ n, n = ds.length := ⟨_, rfl⟩
  rw [← hdn] at HD ⊢
  have HDN := hide hdn
  clear hs hK hok hsn hsm hd2 hd3 hdn hdc hsl
  go_enter Tryd.func7, Tryd.ntmps7
  go_upto_region 1 with fail
  generalize hW0 : w.alloc _ = W0
  have B0 : Below w.heap.size w W0 := by rw [← hW0]; exact (Below.refl _ _).alloc (Nat.le_refl _) _
  have s0 : W0.heap.size = w.heap.size + 1 := by rw [← hW0]; simp
  have r0 : W0.heap[w.heap.size]? = some (.cells (encH h).toArray 32 (0, 0)) := by rw [← hW0]; exact heap_alloc_new _ _
  have BB : Hid (Below w.heap.size w W0) := B0
  have Q0 : Hid (W0.heap[w.heap.size]? = some (.cells (encH h).toArray 32 (0, 0))) := r0
  clear hW0 B0 s0 r0
  have SZ := hide (block_lt_of_row Q0.out)
  go_wp2_with fail
  refine (newRing_any (.slice so sn sc) ks W0 (HS.out.below BB.out (Nat.le_refl _)) (by have := HSL.out; omega)).mono ?_
  rintro r W1 ⟨oa, rfl, ra1, fa1, -, hb1⟩
  obtain ⟨ga, hga⟩ : ∃ g, g = oa.gr := ⟨_, rfl⟩
  rw [← hga]
  have B1 := hide (BB.out.trans (hb1.mono BB.out.size))
  have RA1 := hide ra1
  have FA := hide (show ∀ k, oa.foot k ∨ oa.sv.ownBlock = some k → w.heap.size + 1 ≤ k from fun k hk => Nat.le_trans SZ.out (fa1 k hk))
  have GA := hide hga.symm
  have P1 : Hid (W1.heap[w.heap.size]? = some (.cells (encH h).toArray 32 (0, 0))) := (hb1.block _ SZ.out).trans Q0.out
  clear ra1 fa1 hb1 hga Q0 BB
  have DU := hide (run_dup W1 W1.heap.size (.slice so sn sc) ks 41 (HS.out.below B1.out (Nat.le_refl _)) (by have := HSL.out; omega) (Nat.le_refl _))
  go_wp2_with (at_builtin; (refine wpList_append_known rfl (.tmp 22) (.tmp 23) 41 41 rfl _ _ rfl rfl DU.out ?_; rintro v2 W2 ⟨ho2, hb2⟩; obtain ⟨g2, c2, rfl⟩ := ho2.form))
  obtain ⟨n2, hn2⟩ : ∃ n, n = ks.length := ⟨_, rfl⟩
  rw [← hn2] at ho2 ⊢
  have S2 := hide (ho2.sliceAt (by have := HSL.out; omega))
  have B2 := hide (B1.out.trans (hb2.mono B1.out.size))
  have RA2 := hide (RA1.out.below hb2)
  have P2 : Hid (W2.heap[w.heap.size]? = some (.cells (encH h).toArray 32 (0, 0))) := (hb2.block _ (block_lt_of_row P1.out)).trans P1.out
  clear ho2 hb2 DU RA1 P1 hn2 B1
  refine (newRing_any (.slice (some ⟨g2, 0, none⟩) n2 c2) ks W2 S2.out (by have := HSL.out; omega)).mono ?_
  rintro r W3 ⟨ob, rfl, ra1, fa1, -, hb1⟩
  obtain ⟨gb, hgb⟩ : ∃ g, g = ob.gr := ⟨_, rfl⟩
  rw [← hgb]
  have B3 := hide (B2.out.trans (hb1.mono B2.out.size))
  have RB3 := hide ra1
  have RA3 := hide (RA2.out.below hb1)
  have DAB := hide (show ∀ k, oa.foot k → ¬ ob.foot k from fun k hk hk2 => by have := RA2.out.foot_lt hk; have := fa1 k (Or.inl hk2); omega)
  have FB := hide (show ∀ k, ob.foot k ∨ ob.sv.ownBlock = some k → w.heap.size + 1 ≤ k from fun k hk => Nat.le_trans (block_lt_of_row P2.out) (fa1 k hk))
  have GB := hide hgb.symm
  have P3 : Hid (W3.heap[w.heap.size]? = some (.cells (encH h).toArray 32 (0, 0))) := (hb1.block _ (block_lt_of_row P2.out)).trans P2.out
  clear ra1 fa1 hb1 hgb S2 B2 RA2 P2
  have kc := convK W3 #[.int .u8 122] 1 1
  obtain ⟨A, hA⟩ : ∃ A, A = W3.alloc (.cells #[.int .u8 122] 5 ((#[.int .u8 122] : Array Value).size, (#[.int .u8 122] : Array Value).size + 1)) := ⟨_, rfl⟩
  obtain ⟨bA, sA⟩ := lit_new W3 [122] #[.int .u8 122] 1 rfl rfl (by simp) ((#[.int .u8 122] : Array Value).size, (#[.int .u8 122] : Array Value).size + 1)
  rw [← hA] at kc bA sA
  have BA := hide (B3.out.trans (bA.mono B3.out.size))
  have AP := hide (run_append_lit A W3.heap.size 0 1 (.slice so sn sc) [122] ks 41 sA rfl (by omega) (HS.out.below BA.out (Nat.le_refl _)) (by have := HSL.out; simp; omega))
  have RAA := hide (RA3.out.below bA)
  have RBA := hide (RB3.out.below bA)
  have PA : Hid (A.heap[w.heap.size]? = some (.cells (encH h).toArray 32 (0, 0))) := (bA.block _ (block_lt_of_row P3.out)).trans P3.out
  clear hA bA sA RA3 RB3 P3 B3
  go_wp2_with (at_builtin; (refine wpList_append_known rfl (.tmp 27) (.tmp 28) 41 41 rfl _ _ rfl rfl AP.out ?_; rintro v4 W4 ⟨hs4, hb4⟩; obtain ⟨o4, n4, c4, rfl, hn4, hm4⟩ := hs4.form; clear hn4 hm4))
  obtain ⟨zs, hzs⟩ : ∃ zs, zs = [122] ++ ks := ⟨_, rfl⟩
  rw [← hzs] at hs4
  have ZL := hide (show zs.length ≤ 140737488355000 by rw [hzs]; have := HSL.out; simp; omega)
  have HZS := hide hzs
  have S4 := hide hs4
  have B4 := hide (BA.out.trans (hb4.mono BA.out.size))
  have RA4 := hide (RAA.out.below hb4)
  have RB4 := hide (RBA.out.below hb4)
  have P4 : Hid (W4.heap[w.heap.size]? = some (.cells (encH h).toArray 32 (0, 0))) := (hb4.block _ (block_lt_of_row PA.out)).trans PA.out
  clear hs4 hb4 hzs AP RAA RBA PA BA kc
  refine (newRing_any (.slice o4 n4 c4) zs W4 S4.out ZL.out).mono ?_
  rintro r W5 ⟨oc, rfl, ra1, fa1, -, hb1⟩
  obtain ⟨gc, hgc⟩ : ∃ g, g = oc.gr := ⟨_, rfl⟩
  rw [← hgc]
  have B5 := hide (B4.out.trans (hb1.mono B4.out.size))
  have TR5 : Hid (Tri (w.heap.size + 1) W5 ga gb gc ks zs S.T0 S.T0 S.T0) := ⟨oa, ob, oc, ⟨RA4.out.below hb1, RB4.out.below hb1, ra1⟩, ⟨GA.out, GB.out, hgc.symm⟩, ⟨DAB.out, fun k hk hk2 => by have := RA4.out.foot_lt hk; have := fa1 k (Or.inl hk2); omega, fun k hk hk2 => by have := RB4.out.foot_lt hk; have := fa1 k (Or.inl hk2); omega⟩, fun k hk => by
    rcases hk with hk | hk | hk
    · exact FA.out k (Or.inl hk)
    · exact FB.out k (Or.inl hk)
    · exact Nat.le_trans (block_lt_of_row P4.out) (fa1 k (Or.inl hk))⟩
  have SV5 : Hid (∀ k, (oa.sv.ownBlock = some k ∨ ob.sv.ownBlock = some k ∨ oc.sv.ownBlock = some k) → w.heap.size + 1 ≤ k) := fun k hk => by
    rcases hk with hk | hk | hk
    · exact FA.out k (Or.inr hk)
    · exact FB.out k (Or.inr hk)
    · exact Nat.le_trans (block_lt_of_row P4.out) (fa1 k (Or.inr hk))
  have X5 : Hid (∀ W, Chg (fun k => k = w.heap.size) W5 W → Tri (w.heap.size + 1) W ga gb gc ks zs S.T0 S.T0 S.T0) := fun W hc => by
    have hno : ∀ k, w.heap.size + 1 ≤ k → ¬ k = w.heap.size := fun k hk e => by omega
    exact ⟨oa, ob, oc, ⟨(RA4.out.below hb1).chg hc (fun k hk => hno k (FA.out k (Or.inl hk))) (fun k hk => hno k (FA.out k (Or.inr hk))), (RB4.out.below hb1).chg hc (fun k hk => hno k (FB.out k (Or.inl hk))) (fun k hk => hno k (FB.out k (Or.inr hk))), ra1.chg hc (fun k hk => hno k (Nat.le_trans (block_lt_of_row P4.out) (fa1 k (Or.inl hk)))) (fun k hk => hno k (Nat.le_trans (block_lt_of_row P4.out) (fa1 k (Or.inr hk))))⟩, ⟨GA.out, GB.out, hgc.symm⟩, ⟨DAB.out, fun k hk hk2 => by have := RA4.out.foot_lt hk; have := fa1 k (Or.inl hk2); omega, fun k hk hk2 => by have := RB4.out.foot_lt hk; have := fa1 k (Or.inl hk2); omega⟩, fun k hk => by
      rcases hk with hk | hk | hk
      · exact FA.out k (Or.inl hk)
      · exact FB.out k (Or.inl hk)
      · exact Nat.le_trans (block_lt_of_row P4.out) (fa1 k (Or.inl hk))⟩
  have P5 : Hid (W5.heap[w.heap.size]? = some (.cells (encH h).toArray 32 (0, 0))) := (hb1.block _ (block_lt_of_row P4.out)).trans P4.out
  clear ra1 fa1 hb1 hgc S4 B4 RA4 RB4 P4 FA FB DAB GA GB TR5 SV5
  obtain ⟨c0, c1, c2', c3⟩ := h_cells P5.out
  have f1 := frozen_of_row _ _ 0 _ _ P5.out
  have ht1 := HOK.out.t1
  have ht2 := HOK.out.t2
  go_upto_region 6 with fail
  go_wp2_with fail
  refine (within_any h.tree 15 W5 ht1 ht2 (by omega) (by omega)).mono ?_
  rintro r _ ⟨rfl, rfl⟩
  have htl := S.within_le h.tree 15 (by omega)
  obtain ⟨t, ht⟩ : ∃ t, t = S.within h.tree 15 := ⟨_, rfl⟩
  rw [← ht] at htl ⊢
  clear ht ht1 ht2
  go_upto_region 7 with fail
  generalize hX : W5.setCell _ _ = W6
  obtain ⟨H, hH⟩ : ∃ H : S.Hd, H = ⟨(t : Int), h.epoch, h.size, h.clock, h.root⟩ := ⟨_, rfl⟩
  have P6 : Hid (W6.heap[w.heap.size]? = some (.cells (encH H).toArray 32 (0, 0))) := by rw [← hX, hH]; exact tree_h (t : Int) P5.out
  have cX : Chg (fun k => k = w.heap.size) W5 W6 := by rw [← hX]; exact (Chg.refl _ _).setCell _ _ _ (fun _ => rfl)
  have TR6 := hide (X5.out W6 cX)
  have B6 := hide (B5.out.trans (cX.below w.heap.size B5.out.size (fun k hk e => by omega)))
  have HOK2 := hide (show H.Ok by rw [hH]; exact ⟨(show -9223372036854775808 ≤ (t : Int) by omega), (show (t : Int) ≤ 9223372036854775807 by omega), HOK.out.e1, HOK.out.e2, HOK.out.s2, HOK.out.c2, HOK.out.r⟩)
  have HT := hide (show H.tree = (t : Int) by rw [hH])
  have HIT := hide (show S.isT (t : Int) = true by simp only [S.isT, decide_eq_true_eq]; omega)
  clear hX cX X5 P5 B5 c0 c1 c2' c3 f1 hH
  go_wp2_with fail
  refine (new_any W6).mono ?_
  rintro r W7 ⟨gT, rfl, hgT, hrT, hbT⟩
  have B7 := hide (B6.out.trans (hbT.mono B6.out.size))
  have RT := hide hrT
  have P7 : Hid (W7.heap[w.heap.size]? = some (.cells (encH H).toArray 32 (0, 0))) := (hbT.block _ (block_lt_of_row P6.out)).trans P6.out
  have TR7 := hide (TR6.out.below hbT)
  have E0 : Hid (∀ x : Nat, S.eps S.T0 (x : Int) = 0) := fun x => by
    rw [S.eps, S.T0, List.getD_eq_getElem?_getD, List.getElem?_replicate]
    split <;> rfl
  clear hgT hrT hbT B6 P6 TR6
  obtain ⟨M, hM⟩ : ∃ M, M = min dn 8 := ⟨_, rfl⟩
  go_wp2_with fail
  go_loopg [11] M (fun gk s11 wr => ∃ (i : Nat) (T U : List (List (List UInt8))), i + gk = M ∧ s11 = .int .i64 (i : Int) ∧ Hid (Tri (w.heap.size + 1) wr ga gb gc ks zs T T U) ∧ Hid (S.eps T (t : Int) = i) ∧ Hid (S.eps U (t : Int) = i) ∧ Hid (wr.heap[w.heap.size]? = some (.cells (encH H).toArray 32 (0, 0))) ∧ Hid (wr.heap[gT]? = some (.cells (S.v32 (S.K ++ S.H0)) 77 (0, 0))) ∧ Hid (Below w.heap.size w wr))
  case atStart => exact ⟨0, S.T0, S.T0, by omega, rfl, TR7, E0.out t, E0.out t, P7, RT, B7⟩
  case round =>
    clear TR7 P7 RT B7 E0
    obtain ⟨i, T, U, hi, rfl, TR, M1, M2, PH, RT, BW⟩ := hrel
    cases gk with
    | zero =>
      obtain rfl : i = M := by omega
      clear hi
      by_cases hlt : i < dn
      · have q1 : (i : Int) < (dn : Int) := by omega
        have q2 : ¬ (i : Int) < 8 := by omega
        clear hM
        go_wp2_with fail
        refine (known_any wr (HK.out.below BW.out h0)).mono ?_
        rintro r v4 ⟨rfl, hb⟩
        have BF := hide (BW.out.trans (hb.mono BW.out.size))
        clear hb
        go_wp2_with fail
        go_ret
        exact ⟨rfl, BF.out⟩
      · have q1 : ¬ (i : Int) < (dn : Int) := by omega
        clear hM
        go_wp2_with fail
        refine (known_any wr (HK.out.below BW.out h0)).mono ?_
        rintro r v4 ⟨rfl, hb⟩
        have BF := hide (BW.out.trans (hb.mono BW.out.size))
        clear hb
        go_wp2_with fail
        go_ret
        exact ⟨rfl, BF.out⟩
    | succ gO =>
      have q1 : (i : Int) < (dn : Int) := by omega
      have q2 : (i : Int) < 8 := by omega
      have q0 : (0 : Int) ≤ (i : Int) := by omega
      have qi : IntKind.i64.wrap ((i : Int) + 1) = (i : Int) + 1 := by rw [IntKind.wrap_i64]; omega
      obtain ⟨gd, od, hvo, hgd, -, hcd⟩ := row_u32 HD.out i (by have := HDN.out; omega)
      obtain ⟨d, hdd⟩ : ∃ d, d = ds.getD i 0 := ⟨_, rfl⟩
      rw [← hdd] at hcd
      have HDD := hide (show d < 4294967296 by rw [hdd]; exact HD2.out _ (by rw [List.getD_eq_getElem?_getD, List.getElem?_eq_getElem (by have := HDN.out; omega)]; exact List.getElem_mem _))
      subst hvo
      have CD := hide ((BW.out.cell (p := ⟨gd, od + i, none⟩) hgd).trans hcd)
      have LGD := hide (Nat.lt_of_lt_of_le hgd BW.out.size)
      have NGD := hide (show ¬ w.heap.size + 1 ≤ gd by omega)
      have TE := hide (turnE_few HIT.out (show S.eps T (t : Int) ≠ 32 by rw [M1.out]; omega))
      have UE := hide (turnE_few HIT.out (show S.eps U (t : Int) ≠ 32 by rw [M2.out]; omega))
      have TN := hide (show S.turnN T (t : Int) = (i : Int) by rw [S.turnN, if_pos TE.out, M1.out])
      have hTl : T.length = 16 := TR.out.ra.1.tn
      have hUl : U.length = 16 := TR.out.ra.2.2.tn
      have TE1 := hide ((S.turnT_eps (ks := ks) (d := d) TE.out hTl).trans (by rw [M1.out]))
      have UE1 := hide ((S.turnT_eps (ks := zs) (d := d) UE.out hUl).trans (by rw [M2.out]))
      have RL := hide (fun x => S.rholds_last (ks := zs) (T := U) (t := (t : Int)) (d := d) x UE.out hUl)
      rw [M2.out] at RL
      obtain ⟨T1, hT1⟩ : ∃ T1, T1 = S.turnT ks T (t : Int) d := ⟨_, rfl⟩
      obtain ⟨U1, hU1⟩ : ∃ U1, U1 = S.turnT zs U (t : Int) d := ⟨_, rfl⟩
      rw [← hT1] at TE1
      rw [← hU1] at UE1 RL
      have HT1 := hide hT1
      have HU1 := hide hU1
      have sE : S.signE T1 H = 0 := by rw [S.signE, HT.out, if_pos HIT.out, if_neg (by rw [TE1.out]; omega)]
      have SE := hide sE
      have sk := S.sign_ok sE
      have hGl := S.signG_len T1 H HOK2.out.r
      obtain ⟨G, hG⟩ : ∃ G, G = S.signG T1 H := ⟨_, rfl⟩
      rw [← hG] at sk hGl
      have hGh : G.h = S.ep H (i : Int) := by rw [sk.2, HT.out, TE1.out, show ((i + 1 : Nat) : Int) - 1 = (i : Int) by omega]
      have GO := hide (show G.h.Ok by rw [hGh]; exact HOK2.out.ep (i : Int) (by omega) (by omega))
      have GHD := hide sk.1.holds
      have GL := hide hGl
      have HG := hide hG
      have GC := hide (RL.out G (by rw [hGh]; exact HT.out) (by rw [hGh]; rfl))
      have TQ := TE1
      clear hTl hUl hT1 hU1 sE sk hGl hG hGh hdd hcd hgd RL TE1
      go_upto_region 11 with fail
      clear q2
      refine wp_region_noPanic ?_
      refine wp_region_held_drew (S := (fun W => Chg (fun k => w.heap.size + 1 ≤ k) wr W)) follows ((Chg.refl _ _).drew) (fun hHeld => ?_)
      clear hHeld
      have hHeld : Chg (fun k => w.heap.size + 1 ≤ k) wr wr.drew := (Chg.refl _ _).drew
      have CZ0 := hide hHeld
      have RT' : Hid (wr.drew.heap[gT]? = some (.cells (S.v32 (S.K ++ S.H0)) 77 (0, 0))) := RT.out
      have TR' : Hid (Tri (w.heap.size + 1) wr.drew ga gb gc ks zs T T U) := TR.out.below ((Below.refl _ _).drew)
      generalize wr.drew = Z0 at CZ0 hHeld RT' TR' ⊢
      refine wpAnyH_take (i := 0) (oi := { dst := some 57, op := Op.move (Operand.tmp 7), type := 22, pos := "law.go:201", after := #[], guard := none }) (v := ?_) rfl (by kernel_rfl) (by kernel_rfl) (by kernel_rfl) (fun _ _ _ h => h) (Or.inl ⟨by rfl, ?_⟩) (by assumption) ?_
      rotate_left
      · intro w hSw
        clear hSw
        go_simp
        all_goals with_reducible rfl
      simp only [Act.put, List.setIfInBounds_toArray, List.set_cons_zero, List.set_cons_succ]
      refine wpAnyH_take (i := 1) (oi := { dst := some 58, op := Op.fieldAddr 32 (Operand.tmp 5) 0, type := 0, pos := "law.go:201", after := #[], guard := none }) (v := ?_) rfl (by kernel_rfl) (by kernel_rfl) (by kernel_rfl) (fun _ _ _ h => h) (Or.inl ⟨by rfl, ?_⟩) (by assumption) ?_
      rotate_left
      · intro w hSw
        clear hSw
        go_simp
        all_goals with_reducible rfl
      simp only [Act.put, List.setIfInBounds_toArray, List.set_cons_zero, List.set_cons_succ]
      refine wpAnyH_take (i := 2) (oi := { dst := some 59, op := Op.load 3 (Operand.tmp 58), type := 3, pos := "law.go:201", after := #[{ on := 1, ground := Ground.data }], guard := none }) (v := ?_) rfl (by kernel_rfl) (by kernel_rfl) (by kernel_rfl) (fun _ _ _ h => h) (Or.inl ⟨by rfl, ?_⟩) (by assumption) ?_
      rotate_left
      · intro w hSw
        obtain ⟨c0, c1, c2, c3⟩ := h_cells (hSw.row PH.out (by omega))
        rw [HT.out] at c0
        clear hSw
        go_simp
        all_goals with_reducible rfl
      simp only [Act.put, List.setIfInBounds_toArray, List.set_cons_zero, List.set_cons_succ]
      refine wpAnyH_take (i := 3) (oi := { dst := some 60, op := Op.move (Operand.tmp 1), type := 56, pos := "law.go:201", after := #[], guard := none }) (v := ?_) rfl (by kernel_rfl) (by kernel_rfl) (by kernel_rfl) (fun _ _ _ h => h) (Or.inl ⟨by rfl, ?_⟩) (by assumption) ?_
      rotate_left
      · intro w hSw
        clear hSw
        go_simp
        all_goals with_reducible rfl
      simp only [Act.put, List.setIfInBounds_toArray, List.set_cons_zero, List.set_cons_succ]
      refine wpAnyH_take (i := 4) (oi := { dst := some 61, op := Op.move (Operand.tmp 11), type := 3, pos := "law.go:201", after := #[], guard := none }) (v := ?_) rfl (by kernel_rfl) (by kernel_rfl) (by kernel_rfl) (fun _ _ _ h => h) (Or.inl ⟨by rfl, ?_⟩) (by assumption) ?_
      rotate_left
      · intro w hSw
        clear hSw
        go_simp
        all_goals with_reducible rfl
      simp only [Act.put, List.setIfInBounds_toArray, List.set_cons_zero, List.set_cons_succ]
      refine wpAnyH_take (i := 5) (oi := { dst := some 62, op := Op.indexAddr 56 (Operand.tmp 60) (Operand.tmp 61), type := 0, pos := "law.go:201", after := #[{ on := 3, ground := Ground.data }, { on := 4, ground := Ground.data }], guard := none }) (v := ?_) rfl (by kernel_rfl) (by kernel_rfl) (by kernel_rfl) (fun _ _ _ h => h) (Or.inl ⟨by rfl, ?_⟩) (by assumption) ?_
      rotate_left
      · intro w hSw
        clear hSw
        go_simp
        all_goals with_reducible rfl
      simp only [Act.put, List.setIfInBounds_toArray, List.set_cons_zero, List.set_cons_succ]
      refine wpAnyH_take (i := 6) (oi := { dst := some 63, op := Op.load 27 (Operand.tmp 62), type := 27, pos := "law.go:201", after := #[{ on := 5, ground := Ground.data }], guard := none }) (v := ?_) rfl (by kernel_rfl) (by kernel_rfl) (by kernel_rfl) (fun _ _ _ h => h) (Or.inl ⟨by rfl, ?_⟩) (by assumption) ?_
      rotate_left
      · intro w hSw
        have q := (World.cell?_of_block (a := ⟨gd, od + i, none⟩) (hSw.block gd LGD.out NGD.out)).trans CD.out
        clear hSw
        go_simp
        all_goals with_reducible rfl
      simp only [Act.put, List.setIfInBounds_toArray, List.set_cons_zero, List.set_cons_succ]
      refine wpAnyH_ready (rs := [7]) (by kernel_rfl) (by simp) ?_
      refine AllReadyH.cons (o := { dst := some 64, op := Op.call { callee := Callee.value (Operand.func 9), args := #[Operand.tmp 57, Operand.tmp 59, Operand.tmp 63], argTypes := #[22, 3, 27] }, type := 25, pos := "law.go:201", after := #[{ on := 0, ground := Ground.data }, { on := 2, ground := Ground.data }, { on := 6, ground := Ground.data }], guard := none }) rfl (fun K hK => ?_) AllReadyH.nil
      go_simp
      refine (tri_a (t : Int) d Z0 TR'.out HDD.out (by have := CZ0.out.size; have := block_lt_of_row PH.out; omega) (HK.out.below (BW.out.trans (CZ0.out.below w.heap.size BW.out.size (fun k hk e => by omega))) h0)).mono ?_
      rintro e Z1 ⟨rfl, htr, hbB, hkp⟩
      rw [TN.out, TE.out]
      rw [← HT1.out] at htr
      replace TR' := hide htr
      replace RT' : Hid (Z1.heap[gT]? = some (.cells (S.v32 (S.K ++ S.H0)) 77 (0, 0))) := hkp _ _ _ _ (by decide) (by decide) RT'.out
      have CZ1 : Hid (Chg (fun k => w.heap.size + 1 ≤ k) wr Z1) := CZ0.out.trans (Chg.ofBelow hbB (fun k _ h => h)) (fun k _ e => e)
      clear htr hbB hkp CZ0 hHeld
      refine hK.out _ _ CZ1.out (fun hHeld => ?_)
      clear hK K
      try simp only [Act.put, List.setIfInBounds_toArray, List.set_cons_zero, List.set_cons_succ]
      refine wpAnyH_take (i := 8) (oi := { dst := some 56, op := Op.move (Operand.tmp 64), type := 25, pos := "law.go:201", after := #[{ on := 7, ground := Ground.data }], guard := none }) (v := ?_) rfl (by kernel_rfl) (by kernel_rfl) (by kernel_rfl) (fun _ _ _ h => h) (Or.inl ⟨by rfl, ?_⟩) (by assumption) ?_
      rotate_left
      · intro w hSw
        clear hSw
        go_simp
        all_goals with_reducible rfl
      simp only [Act.put, List.setIfInBounds_toArray, List.set_cons_zero, List.set_cons_succ]
      refine wpAnyH_take (i := 9) (oi := { dst := some 65, op := Op.extract (Operand.tmp 56) 0, type := 3, pos := "law.go:201", after := #[{ on := 8, ground := Ground.data }], guard := none }) (v := ?_) rfl (by kernel_rfl) (by kernel_rfl) (by kernel_rfl) (fun _ _ _ h => h) (Or.inl ⟨by rfl, ?_⟩) (by assumption) ?_
      rotate_left
      · intro w hSw
        clear hSw
        go_simp
        all_goals with_reducible rfl
      simp only [Act.put, List.setIfInBounds_toArray, List.set_cons_zero, List.set_cons_succ]
      refine wpAnyH_take (i := 10) (oi := { dst := some 66, op := Op.extract (Operand.tmp 56) 1, type := 24, pos := "law.go:201", after := #[{ on := 8, ground := Ground.data }, { on := 11, ground := Ground.gcOnly Departure.lateStores }], guard := none }) (v := ?_) rfl (by kernel_rfl) (by kernel_rfl) (by kernel_rfl) (fun _ _ _ h => h) (Or.inl ⟨by rfl, ?_⟩) (by assumption) ?_
      rotate_left
      · intro w hSw
        clear hSw
        go_simp
        all_goals with_reducible rfl
      simp only [Act.put, List.setIfInBounds_toArray, List.set_cons_zero, List.set_cons_succ]
      refine wpAnyH_take (i := 11) (oi := { dst := some 12, op := Op.assign (Operand.tmp 65), type := 3, pos := "law.go:201", after := #[{ on := 9, ground := Ground.data }, { on := 7, ground := Ground.chain }, { on := 0, ground := Ground.phase }, { on := 1, ground := Ground.phase }, { on := 2, ground := Ground.phase }, { on := 3, ground := Ground.phase }, { on := 4, ground := Ground.phase }, { on := 5, ground := Ground.phase }, { on := 6, ground := Ground.phase }, { on := 7, ground := Ground.phase }, { on := 8, ground := Ground.phase }, { on := 9, ground := Ground.phase }, { on := 10, ground := Ground.textOnly Departure.lateStores }], guard := none }) (v := ?_) rfl (by kernel_rfl) (by kernel_rfl) (by kernel_rfl) (fun _ _ _ h => h) (Or.inl ⟨by rfl, ?_⟩) (by assumption) ?_
      rotate_left
      · intro w hSw
        clear hSw
        go_simp
        all_goals with_reducible rfl
      simp only [Act.put, List.setIfInBounds_toArray, List.set_cons_zero, List.set_cons_succ]
      refine wpAnyH_take (i := 12) (oi := { dst := some 13, op := Op.assign (Operand.tmp 66), type := 24, pos := "law.go:201", after := #[{ on := 10, ground := Ground.data }, { on := 11, ground := Ground.chain }, { on := 0, ground := Ground.phase }, { on := 1, ground := Ground.phase }, { on := 2, ground := Ground.phase }, { on := 3, ground := Ground.phase }, { on := 4, ground := Ground.phase }, { on := 5, ground := Ground.phase }, { on := 6, ground := Ground.phase }, { on := 7, ground := Ground.phase }, { on := 8, ground := Ground.phase }, { on := 9, ground := Ground.phase }, { on := 10, ground := Ground.phase }, { on := 11, ground := Ground.phase }], guard := none }) (v := ?_) rfl (by kernel_rfl) (by kernel_rfl) (by kernel_rfl) (fun _ _ _ h => h) (Or.inl ⟨by rfl, ?_⟩) (by assumption) ?_
      rotate_left
      · intro w hSw
        clear hSw
        go_simp
        all_goals with_reducible rfl
      simp only [Act.put, List.setIfInBounds_toArray, List.set_cons_zero, List.set_cons_succ]
      refine wpAnyH_done (by kernel_rfl) ?_ _
      refine NoPanic.normal ?_
      clear hHeld
      have BWn := hide (BW.out.trans (CZ1.out.below w.heap.size BW.out.size (fun k hk e => by omega)))
      have PHn := hide (CZ1.out.row PH.out (by omega))
      have CDn := hide ((World.cell?_of_block (a := ⟨gd, od + i, none⟩) (CZ1.out.block gd LGD.out NGD.out)).trans CD.out)
      have LGn := hide (Nat.lt_of_lt_of_le LGD.out CZ1.out.size)
      clear CZ1 BW PH CD LGD TR RT
      generalize Z1 = v1 at BWn PHn CDn LGn TR' RT' ⊢
      have BW := BWn
      clear BWn
      have PH := PHn
      clear PHn
      have CD := CDn
      clear CDn
      have LGD := LGn
      clear LGn
      have TR := TR'
      clear TR'
      have RT := RT'
      clear RT'
      go_upto_region 12 with fail
      refine wp_region_noPanic ?_
      refine wp_region_held_drew (S := (fun W => Chg (fun k => w.heap.size + 1 ≤ k) v1 W)) follows ((Chg.refl _ _).drew) (fun hHeld => ?_)
      clear hHeld
      have hHeld : Chg (fun k => w.heap.size + 1 ≤ k) v1 v1.drew := (Chg.refl _ _).drew
      have CZ0 := hide hHeld
      have RT' : Hid (v1.drew.heap[gT]? = some (.cells (S.v32 (S.K ++ S.H0)) 77 (0, 0))) := RT.out
      have TR' : Hid (Tri (w.heap.size + 1) v1.drew ga gb gc ks zs T1 T U) := TR.out.below ((Below.refl _ _).drew)
      generalize v1.drew = Z0 at CZ0 hHeld RT' TR' ⊢
      refine wpAnyH_take (i := 0) (oi := { dst := some 68, op := Op.move (Operand.tmp 8), type := 22, pos := "law.go:202", after := #[], guard := none }) (v := ?_) rfl (by kernel_rfl) (by kernel_rfl) (by kernel_rfl) (fun _ _ _ h => h) (Or.inl ⟨by rfl, ?_⟩) (by assumption) ?_
      rotate_left
      · intro w hSw
        clear hSw
        go_simp
        all_goals with_reducible rfl
      simp only [Act.put, List.setIfInBounds_toArray, List.set_cons_zero, List.set_cons_succ]
      refine wpAnyH_take (i := 1) (oi := { dst := some 69, op := Op.fieldAddr 32 (Operand.tmp 5) 0, type := 0, pos := "law.go:202", after := #[], guard := none }) (v := ?_) rfl (by kernel_rfl) (by kernel_rfl) (by kernel_rfl) (fun _ _ _ h => h) (Or.inl ⟨by rfl, ?_⟩) (by assumption) ?_
      rotate_left
      · intro w hSw
        clear hSw
        go_simp
        all_goals with_reducible rfl
      simp only [Act.put, List.setIfInBounds_toArray, List.set_cons_zero, List.set_cons_succ]
      refine wpAnyH_take (i := 2) (oi := { dst := some 70, op := Op.load 3 (Operand.tmp 69), type := 3, pos := "law.go:202", after := #[{ on := 1, ground := Ground.data }], guard := none }) (v := ?_) rfl (by kernel_rfl) (by kernel_rfl) (by kernel_rfl) (fun _ _ _ h => h) (Or.inl ⟨by rfl, ?_⟩) (by assumption) ?_
      rotate_left
      · intro w hSw
        obtain ⟨c0, c1, c2, c3⟩ := h_cells (hSw.row PH.out (by omega))
        rw [HT.out] at c0
        clear hSw
        go_simp
        all_goals with_reducible rfl
      simp only [Act.put, List.setIfInBounds_toArray, List.set_cons_zero, List.set_cons_succ]
      refine wpAnyH_take (i := 3) (oi := { dst := some 71, op := Op.move (Operand.tmp 1), type := 56, pos := "law.go:202", after := #[], guard := none }) (v := ?_) rfl (by kernel_rfl) (by kernel_rfl) (by kernel_rfl) (fun _ _ _ h => h) (Or.inl ⟨by rfl, ?_⟩) (by assumption) ?_
      rotate_left
      · intro w hSw
        clear hSw
        go_simp
        all_goals with_reducible rfl
      simp only [Act.put, List.setIfInBounds_toArray, List.set_cons_zero, List.set_cons_succ]
      refine wpAnyH_take (i := 4) (oi := { dst := some 72, op := Op.move (Operand.tmp 11), type := 3, pos := "law.go:202", after := #[], guard := none }) (v := ?_) rfl (by kernel_rfl) (by kernel_rfl) (by kernel_rfl) (fun _ _ _ h => h) (Or.inl ⟨by rfl, ?_⟩) (by assumption) ?_
      rotate_left
      · intro w hSw
        clear hSw
        go_simp
        all_goals with_reducible rfl
      simp only [Act.put, List.setIfInBounds_toArray, List.set_cons_zero, List.set_cons_succ]
      refine wpAnyH_take (i := 5) (oi := { dst := some 73, op := Op.indexAddr 56 (Operand.tmp 71) (Operand.tmp 72), type := 0, pos := "law.go:202", after := #[{ on := 3, ground := Ground.data }, { on := 4, ground := Ground.data }], guard := none }) (v := ?_) rfl (by kernel_rfl) (by kernel_rfl) (by kernel_rfl) (fun _ _ _ h => h) (Or.inl ⟨by rfl, ?_⟩) (by assumption) ?_
      rotate_left
      · intro w hSw
        clear hSw
        go_simp
        all_goals with_reducible rfl
      simp only [Act.put, List.setIfInBounds_toArray, List.set_cons_zero, List.set_cons_succ]
      refine wpAnyH_take (i := 6) (oi := { dst := some 74, op := Op.load 27 (Operand.tmp 73), type := 27, pos := "law.go:202", after := #[{ on := 5, ground := Ground.data }], guard := none }) (v := ?_) rfl (by kernel_rfl) (by kernel_rfl) (by kernel_rfl) (fun _ _ _ h => h) (Or.inl ⟨by rfl, ?_⟩) (by assumption) ?_
      rotate_left
      · intro w hSw
        have q := (World.cell?_of_block (a := ⟨gd, od + i, none⟩) (hSw.block gd LGD.out NGD.out)).trans CD.out
        clear hSw
        go_simp
        all_goals with_reducible rfl
      simp only [Act.put, List.setIfInBounds_toArray, List.set_cons_zero, List.set_cons_succ]
      refine wpAnyH_ready (rs := [7]) (by kernel_rfl) (by simp) ?_
      refine AllReadyH.cons (o := { dst := some 75, op := Op.call { callee := Callee.value (Operand.func 9), args := #[Operand.tmp 68, Operand.tmp 70, Operand.tmp 74], argTypes := #[22, 3, 27] }, type := 25, pos := "law.go:202", after := #[{ on := 0, ground := Ground.data }, { on := 2, ground := Ground.data }, { on := 6, ground := Ground.data }], guard := none }) rfl (fun K hK => ?_) AllReadyH.nil
      go_simp
      refine (tri_b (t : Int) d Z0 TR'.out HDD.out (by have := CZ0.out.size; have := block_lt_of_row PH.out; omega) (HK.out.below (BW.out.trans (CZ0.out.below w.heap.size BW.out.size (fun k hk e => by omega))) h0)).mono ?_
      rintro e Z1 ⟨rfl, htr, hbB, hkp⟩
      rw [TN.out, TE.out]
      rw [← HT1.out] at htr
      replace TR' := hide htr
      replace RT' : Hid (Z1.heap[gT]? = some (.cells (S.v32 (S.K ++ S.H0)) 77 (0, 0))) := hkp _ _ _ _ (by decide) (by decide) RT'.out
      have CZ1 : Hid (Chg (fun k => w.heap.size + 1 ≤ k) v1 Z1) := CZ0.out.trans (Chg.ofBelow hbB (fun k _ h => h)) (fun k _ e => e)
      clear htr hbB hkp CZ0 hHeld
      refine hK.out _ _ CZ1.out (fun hHeld => ?_)
      clear hK K
      try simp only [Act.put, List.setIfInBounds_toArray, List.set_cons_zero, List.set_cons_succ]
      refine wpAnyH_take (i := 8) (oi := { dst := some 67, op := Op.move (Operand.tmp 75), type := 25, pos := "law.go:202", after := #[{ on := 7, ground := Ground.data }], guard := none }) (v := ?_) rfl (by kernel_rfl) (by kernel_rfl) (by kernel_rfl) (fun _ _ _ h => h) (Or.inl ⟨by rfl, ?_⟩) (by assumption) ?_
      rotate_left
      · intro w hSw
        clear hSw
        go_simp
        all_goals with_reducible rfl
      simp only [Act.put, List.setIfInBounds_toArray, List.set_cons_zero, List.set_cons_succ]
      refine wpAnyH_take (i := 9) (oi := { dst := some 76, op := Op.extract (Operand.tmp 67) 0, type := 3, pos := "law.go:202", after := #[{ on := 8, ground := Ground.data }], guard := none }) (v := ?_) rfl (by kernel_rfl) (by kernel_rfl) (by kernel_rfl) (fun _ _ _ h => h) (Or.inl ⟨by rfl, ?_⟩) (by assumption) ?_
      rotate_left
      · intro w hSw
        clear hSw
        go_simp
        all_goals with_reducible rfl
      simp only [Act.put, List.setIfInBounds_toArray, List.set_cons_zero, List.set_cons_succ]
      refine wpAnyH_take (i := 10) (oi := { dst := some 77, op := Op.extract (Operand.tmp 67) 1, type := 24, pos := "law.go:202", after := #[{ on := 8, ground := Ground.data }, { on := 11, ground := Ground.gcOnly Departure.lateStores }], guard := none }) (v := ?_) rfl (by kernel_rfl) (by kernel_rfl) (by kernel_rfl) (fun _ _ _ h => h) (Or.inl ⟨by rfl, ?_⟩) (by assumption) ?_
      rotate_left
      · intro w hSw
        clear hSw
        go_simp
        all_goals with_reducible rfl
      simp only [Act.put, List.setIfInBounds_toArray, List.set_cons_zero, List.set_cons_succ]
      refine wpAnyH_take (i := 11) (oi := { dst := some 14, op := Op.assign (Operand.tmp 76), type := 3, pos := "law.go:202", after := #[{ on := 9, ground := Ground.data }, { on := 7, ground := Ground.chain }, { on := 0, ground := Ground.phase }, { on := 1, ground := Ground.phase }, { on := 2, ground := Ground.phase }, { on := 3, ground := Ground.phase }, { on := 4, ground := Ground.phase }, { on := 5, ground := Ground.phase }, { on := 6, ground := Ground.phase }, { on := 7, ground := Ground.phase }, { on := 8, ground := Ground.phase }, { on := 9, ground := Ground.phase }, { on := 10, ground := Ground.textOnly Departure.lateStores }], guard := none }) (v := ?_) rfl (by kernel_rfl) (by kernel_rfl) (by kernel_rfl) (fun _ _ _ h => h) (Or.inl ⟨by rfl, ?_⟩) (by assumption) ?_
      rotate_left
      · intro w hSw
        clear hSw
        go_simp
        all_goals with_reducible rfl
      simp only [Act.put, List.setIfInBounds_toArray, List.set_cons_zero, List.set_cons_succ]
      refine wpAnyH_take (i := 12) (oi := { dst := some 15, op := Op.assign (Operand.tmp 77), type := 24, pos := "law.go:202", after := #[{ on := 10, ground := Ground.data }, { on := 11, ground := Ground.chain }, { on := 0, ground := Ground.phase }, { on := 1, ground := Ground.phase }, { on := 2, ground := Ground.phase }, { on := 3, ground := Ground.phase }, { on := 4, ground := Ground.phase }, { on := 5, ground := Ground.phase }, { on := 6, ground := Ground.phase }, { on := 7, ground := Ground.phase }, { on := 8, ground := Ground.phase }, { on := 9, ground := Ground.phase }, { on := 10, ground := Ground.phase }, { on := 11, ground := Ground.phase }], guard := none }) (v := ?_) rfl (by kernel_rfl) (by kernel_rfl) (by kernel_rfl) (fun _ _ _ h => h) (Or.inl ⟨by rfl, ?_⟩) (by assumption) ?_
      rotate_left
      · intro w hSw
        clear hSw
        go_simp
        all_goals with_reducible rfl
      simp only [Act.put, List.setIfInBounds_toArray, List.set_cons_zero, List.set_cons_succ]
      refine wpAnyH_done (by kernel_rfl) ?_ _
      refine NoPanic.normal ?_
      clear hHeld
      have BWn := hide (BW.out.trans (CZ1.out.below w.heap.size BW.out.size (fun k hk e => by omega)))
      have PHn := hide (CZ1.out.row PH.out (by omega))
      have CDn := hide ((World.cell?_of_block (a := ⟨gd, od + i, none⟩) (CZ1.out.block gd LGD.out NGD.out)).trans CD.out)
      have LGn := hide (Nat.lt_of_lt_of_le LGD.out CZ1.out.size)
      clear CZ1 BW PH CD LGD TR RT
      generalize Z1 = v2 at BWn PHn CDn LGn TR' RT' ⊢
      have BW := BWn
      clear BWn
      have PH := PHn
      clear PHn
      have CD := CDn
      clear CDn
      have LGD := LGn
      clear LGn
      have TR := TR'
      clear TR'
      have RT := RT'
      clear RT'
      go_upto_region 13 with fail
      refine wp_region_noPanic ?_
      refine wp_region_held_drew (S := (fun W => Chg (fun k => w.heap.size + 1 ≤ k) v2 W)) follows ((Chg.refl _ _).drew) (fun hHeld => ?_)
      clear hHeld
      have hHeld : Chg (fun k => w.heap.size + 1 ≤ k) v2 v2.drew := (Chg.refl _ _).drew
      have CZ0 := hide hHeld
      have RT' : Hid (v2.drew.heap[gT]? = some (.cells (S.v32 (S.K ++ S.H0)) 77 (0, 0))) := RT.out
      have TR' : Hid (Tri (w.heap.size + 1) v2.drew ga gb gc ks zs T1 T1 U) := TR.out.below ((Below.refl _ _).drew)
      generalize v2.drew = Z0 at CZ0 hHeld RT' TR' ⊢
      refine wpAnyH_take (i := 0) (oi := { dst := some 78, op := Op.move (Operand.tmp 9), type := 22, pos := "law.go:203", after := #[], guard := none }) (v := ?_) rfl (by kernel_rfl) (by kernel_rfl) (by kernel_rfl) (fun _ _ _ h => h) (Or.inl ⟨by rfl, ?_⟩) (by assumption) ?_
      rotate_left
      · intro w hSw
        clear hSw
        go_simp
        all_goals with_reducible rfl
      simp only [Act.put, List.setIfInBounds_toArray, List.set_cons_zero, List.set_cons_succ]
      refine wpAnyH_take (i := 1) (oi := { dst := some 79, op := Op.fieldAddr 32 (Operand.tmp 5) 0, type := 0, pos := "law.go:203", after := #[], guard := none }) (v := ?_) rfl (by kernel_rfl) (by kernel_rfl) (by kernel_rfl) (fun _ _ _ h => h) (Or.inl ⟨by rfl, ?_⟩) (by assumption) ?_
      rotate_left
      · intro w hSw
        clear hSw
        go_simp
        all_goals with_reducible rfl
      simp only [Act.put, List.setIfInBounds_toArray, List.set_cons_zero, List.set_cons_succ]
      refine wpAnyH_take (i := 2) (oi := { dst := some 80, op := Op.load 3 (Operand.tmp 79), type := 3, pos := "law.go:203", after := #[{ on := 1, ground := Ground.data }], guard := none }) (v := ?_) rfl (by kernel_rfl) (by kernel_rfl) (by kernel_rfl) (fun _ _ _ h => h) (Or.inl ⟨by rfl, ?_⟩) (by assumption) ?_
      rotate_left
      · intro w hSw
        obtain ⟨c0, c1, c2, c3⟩ := h_cells (hSw.row PH.out (by omega))
        rw [HT.out] at c0
        clear hSw
        go_simp
        all_goals with_reducible rfl
      simp only [Act.put, List.setIfInBounds_toArray, List.set_cons_zero, List.set_cons_succ]
      refine wpAnyH_take (i := 3) (oi := { dst := some 81, op := Op.move (Operand.tmp 1), type := 56, pos := "law.go:203", after := #[], guard := none }) (v := ?_) rfl (by kernel_rfl) (by kernel_rfl) (by kernel_rfl) (fun _ _ _ h => h) (Or.inl ⟨by rfl, ?_⟩) (by assumption) ?_
      rotate_left
      · intro w hSw
        clear hSw
        go_simp
        all_goals with_reducible rfl
      simp only [Act.put, List.setIfInBounds_toArray, List.set_cons_zero, List.set_cons_succ]
      refine wpAnyH_take (i := 4) (oi := { dst := some 82, op := Op.move (Operand.tmp 11), type := 3, pos := "law.go:203", after := #[], guard := none }) (v := ?_) rfl (by kernel_rfl) (by kernel_rfl) (by kernel_rfl) (fun _ _ _ h => h) (Or.inl ⟨by rfl, ?_⟩) (by assumption) ?_
      rotate_left
      · intro w hSw
        clear hSw
        go_simp
        all_goals with_reducible rfl
      simp only [Act.put, List.setIfInBounds_toArray, List.set_cons_zero, List.set_cons_succ]
      refine wpAnyH_take (i := 5) (oi := { dst := some 83, op := Op.indexAddr 56 (Operand.tmp 81) (Operand.tmp 82), type := 0, pos := "law.go:203", after := #[{ on := 3, ground := Ground.data }, { on := 4, ground := Ground.data }], guard := none }) (v := ?_) rfl (by kernel_rfl) (by kernel_rfl) (by kernel_rfl) (fun _ _ _ h => h) (Or.inl ⟨by rfl, ?_⟩) (by assumption) ?_
      rotate_left
      · intro w hSw
        clear hSw
        go_simp
        all_goals with_reducible rfl
      simp only [Act.put, List.setIfInBounds_toArray, List.set_cons_zero, List.set_cons_succ]
      refine wpAnyH_take (i := 6) (oi := { dst := some 84, op := Op.load 27 (Operand.tmp 83), type := 27, pos := "law.go:203", after := #[{ on := 5, ground := Ground.data }], guard := none }) (v := ?_) rfl (by kernel_rfl) (by kernel_rfl) (by kernel_rfl) (fun _ _ _ h => h) (Or.inl ⟨by rfl, ?_⟩) (by assumption) ?_
      rotate_left
      · intro w hSw
        have q := (World.cell?_of_block (a := ⟨gd, od + i, none⟩) (hSw.block gd LGD.out NGD.out)).trans CD.out
        clear hSw
        go_simp
        all_goals with_reducible rfl
      simp only [Act.put, List.setIfInBounds_toArray, List.set_cons_zero, List.set_cons_succ]
      refine wpAnyH_ready (rs := [7]) (by kernel_rfl) (by simp) ?_
      refine AllReadyH.cons (o := { dst := some 85, op := Op.call { callee := Callee.value (Operand.func 9), args := #[Operand.tmp 78, Operand.tmp 80, Operand.tmp 84], argTypes := #[22, 3, 27] }, type := 25, pos := "law.go:203", after := #[{ on := 0, ground := Ground.data }, { on := 2, ground := Ground.data }, { on := 6, ground := Ground.data }], guard := none }) rfl (fun K hK => ?_) AllReadyH.nil
      go_simp
      refine (tri_c (t : Int) d Z0 TR'.out HDD.out (by have := CZ0.out.size; have := block_lt_of_row PH.out; omega) (HK.out.below (BW.out.trans (CZ0.out.below w.heap.size BW.out.size (fun k hk e => by omega))) h0)).mono ?_
      rintro e Z1 ⟨rfl, htr, hbB, hkp⟩
      rw [← HU1.out] at htr
      obtain ⟨un, hun⟩ : ∃ x, x = S.turnN U (t : Int) := ⟨_, rfl⟩
      obtain ⟨ue, hue⟩ : ∃ x, x = S.turnE U (t : Int) := ⟨_, rfl⟩
      rw [← hun, ← hue]
      clear hun hue
      replace TR' := hide htr
      replace RT' : Hid (Z1.heap[gT]? = some (.cells (S.v32 (S.K ++ S.H0)) 77 (0, 0))) := hkp _ _ _ _ (by decide) (by decide) RT'.out
      have CZ1 : Hid (Chg (fun k => w.heap.size + 1 ≤ k) v2 Z1) := CZ0.out.trans (Chg.ofBelow hbB (fun k _ h => h)) (fun k _ e => e)
      clear htr hbB hkp CZ0 hHeld
      refine hK.out _ _ CZ1.out (fun hHeld => ?_)
      clear hK K
      try simp only [Act.put, List.setIfInBounds_toArray, List.set_cons_zero, List.set_cons_succ]
      refine wpAnyH_done (by kernel_rfl) ?_ _
      refine NoPanic.normal ?_
      clear hHeld
      have BWn := hide (BW.out.trans (CZ1.out.below w.heap.size BW.out.size (fun k hk e => by omega)))
      have PHn := hide (CZ1.out.row PH.out (by omega))
      have CDn := hide ((World.cell?_of_block (a := ⟨gd, od + i, none⟩) (CZ1.out.block gd LGD.out NGD.out)).trans CD.out)
      have LGn := hide (Nat.lt_of_lt_of_le LGD.out CZ1.out.size)
      clear CZ1 BW PH CD LGD TR RT
      generalize Z1 = v3 at BWn PHn CDn LGn TR' RT' ⊢
      have BW := BWn
      clear BWn
      have PH := PHn
      clear PHn
      have CD := CDn
      clear CDn
      have LGD := LGn
      clear LGn
      have TR := TR'
      clear TR'
      have RT := RT'
      clear RT'
      go_upto_region 14 with fail
      go_upto_region 16 with fail
      have ld := load_h PH.out HOK2.out.r
      go_wp2_with (with_reducible refine at_op { dst := some 104, op := Op.load 32 (Operand.tmp 5), type := 32, pos := "law.go:207", after := #[], guard := none } ?_; refine wpList_load_as rfl 32 (.tmp 5) rfl (.pointer (some ⟨w.heap.size, 0, none⟩)) rfl (.agg (encH H).toArray) ld ?_)
      refine (sign_r H v3 TR.out.ra.1 HOK2.out (HK.out.below BW.out h0)).mono ?_
      rintro r v4 ⟨rfl, hb⟩
      rw [SE.out, ← HG.out]
      obtain ⟨A4, v5, ha4, hs4, hr4, hb4, -⟩ := lay_g v4 G GL.out.1 GL.out.2
      obtain ⟨g16, hgs⟩ : ∃ g, g = v4.heap.size := ⟨_, rfl⟩
      rw [← hgs] at ha4 hs4 hr4
      have hbb := hb.trans (hb4.mono hb.size)
      have Qg16 := hide hr4
      replace TR := hide (TR.out.below hbb)
      replace PH := hide ((hbb.block _ (block_lt_of_row PH.out)).trans PH.out)
      replace RT := hide ((hbb.block _ (block_lt_of_row RT.out)).trans RT.out)
      replace CD := hide ((hbb.cell (p := ⟨gd, od + i, none⟩) LGD.out).trans CD.out)
      replace LGD := hide (Nat.lt_of_lt_of_le LGD.out hbb.size)
      replace BW := hide (BW.out.trans (hbb.mono BW.out.size))
      clear hb hb4 hbb hr4 hgs ld
      go_upto_region 17 with (first | (with_reducible refine at_op { dst := some 16, op := Op.alloc 34, type := 0, pos := "law.go:207", after := #[], guard := none } ?_; refine wpList_alloc_known rfl 34 rfl _ _ ha4 ?_) | (with_reducible refine at_op { dst := none, op := Op.store 34 (Operand.tmp 16) (Operand.tmp 106), type := 0, pos := "law.go:207", after := #[{ on := 6, ground := Ground.data }, { on := 4, ground := Ground.data }, { on := 2, ground := Ground.chain }, { on := 0, ground := Ground.phase }, { on := 1, ground := Ground.phase }, { on := 2, ground := Ground.phase }, { on := 3, ground := Ground.phase }, { on := 4, ground := Ground.phase }, { on := 5, ground := Ground.textOnly Departure.lateStores }, { on := 6, ground := Ground.phase }], guard := none } ?_; refine wpList_store_as rfl 34 (.tmp 16) (.tmp 106) rfl (.pointer (some ⟨g16, 0, none⟩)) (.agg (encG G).toArray) rfl rfl v5 hs4 ?_))
      clear ha4 hs4 A4
      have ld := load_h PH.out HOK2.out.r
      go_wp2_with (with_reducible refine at_op { dst := some 110, op := Op.load 32 (Operand.tmp 5), type := 32, pos := "law.go:208", after := #[], guard := none } ?_; refine wpList_load_as rfl 32 (.tmp 5) rfl (.pointer (some ⟨w.heap.size, 0, none⟩)) rfl (.agg (encH H).toArray) ld ?_)
      refine (sign_r H v5 TR.out.ra.2.1 HOK2.out (HK.out.below BW.out h0)).mono ?_
      rintro r v6 ⟨rfl, hb⟩
      rw [SE.out, ← HG.out]
      obtain ⟨A4, v7, ha4, hs4, hr4, hb4, -⟩ := lay_g v6 G GL.out.1 GL.out.2
      obtain ⟨g18, hgs⟩ : ∃ g, g = v6.heap.size := ⟨_, rfl⟩
      rw [← hgs] at ha4 hs4 hr4
      have hbb := hb.trans (hb4.mono hb.size)
      have Qg18 := hide hr4
      replace TR := hide (TR.out.below hbb)
      replace PH := hide ((hbb.block _ (block_lt_of_row PH.out)).trans PH.out)
      replace RT := hide ((hbb.block _ (block_lt_of_row RT.out)).trans RT.out)
      replace CD := hide ((hbb.cell (p := ⟨gd, od + i, none⟩) LGD.out).trans CD.out)
      replace LGD := hide (Nat.lt_of_lt_of_le LGD.out hbb.size)
      replace BW := hide (BW.out.trans (hbb.mono BW.out.size))
      replace Qg16 := hide ((hbb.block _ (block_lt_of_row Qg16.out)).trans Qg16.out)
      clear hb hb4 hbb hr4 hgs ld
      go_upto_region 18 with (first | (with_reducible refine at_op { dst := some 18, op := Op.alloc 34, type := 0, pos := "law.go:208", after := #[], guard := none } ?_; refine wpList_alloc_known rfl 34 rfl _ _ ha4 ?_) | (with_reducible refine at_op { dst := none, op := Op.store 34 (Operand.tmp 18) (Operand.tmp 112), type := 0, pos := "law.go:208", after := #[{ on := 6, ground := Ground.data }, { on := 4, ground := Ground.data }, { on := 2, ground := Ground.chain }, { on := 0, ground := Ground.phase }, { on := 1, ground := Ground.phase }, { on := 2, ground := Ground.phase }, { on := 3, ground := Ground.phase }, { on := 4, ground := Ground.phase }, { on := 5, ground := Ground.textOnly Departure.lateStores }, { on := 6, ground := Ground.phase }], guard := none } ?_; refine wpList_store_as rfl 34 (.tmp 18) (.tmp 112) rfl (.pointer (some ⟨g18, 0, none⟩)) (.agg (encG G).toArray) rfl rfl v7 hs4 ?_))
      clear ha4 hs4 A4
      refine wp_region_noPanic ?_
      refine wp_region_held_drew (S := (fun W => Chg (fun _ => False) v7 W)) follows ((Chg.refl _ _).drew) (fun hHeld => ?_)
      clear hHeld
      have hHeld : Chg (fun _ => False) v7 v7.drew := (Chg.refl _ _).drew
      have CZ0 := hide hHeld
      generalize v7.drew = Z0 at CZ0 hHeld ⊢
      refine wpAnyH_take (i := 0) (oi := { dst := some 114, op := Op.move (Operand.tmp 17), type := 24, pos := "law.go:209", after := #[], guard := none }) (v := ?_) rfl (by kernel_rfl) (by kernel_rfl) (by kernel_rfl) (fun _ _ _ h => h) (Or.inl ⟨by rfl, ?_⟩) (by assumption) ?_
      rotate_left
      · intro w hSw
        clear hSw
        go_simp
        all_goals with_reducible rfl
      simp only [Act.put, List.setIfInBounds_toArray, List.set_cons_zero, List.set_cons_succ]
      refine wpAnyH_take (i := 1) (oi := { dst := some 115, op := Op.binOp BinOp.neq 24 (Operand.tmp 114) (Operand.const (Value.int IntKind.i64 0)) 24, type := 4, pos := "law.go:209", after := #[{ on := 0, ground := Ground.data }], guard := none }) (v := ?_) rfl (by kernel_rfl) (by kernel_rfl) (by kernel_rfl) (fun _ _ _ h => h) (Or.inl ⟨by rfl, ?_⟩) (by assumption) ?_
      rotate_left
      · intro w hSw
        clear hSw
        go_simp
        all_goals with_reducible rfl
      simp only [Act.put, List.setIfInBounds_toArray, List.set_cons_zero, List.set_cons_succ]
      refine wpAnyH_take (i := 2) (oi := { dst := some 116, op := Op.move (Operand.tmp 115), type := 4, pos := "law.go:209", after := #[{ on := 1, ground := Ground.data }], guard := none }) (v := ?_) rfl (by kernel_rfl) (by kernel_rfl) (by kernel_rfl) (fun _ _ _ h => h) (Or.inl ⟨by rfl, ?_⟩) (by assumption) ?_
      rotate_left
      · intro w hSw
        clear hSw
        go_simp
        all_goals with_reducible rfl
      simp only [Act.put, List.setIfInBounds_toArray, List.set_cons_zero, List.set_cons_succ]
      refine wpAnyH_take (i := 3) (oi := { dst := some 117, op := Op.move (Operand.tmp 19), type := 24, pos := "law.go:209", after := #[{ on := 2, ground := Ground.guard }], guard := some (2, false) }) (v := ?_) rfl (by kernel_rfl) (by kernel_rfl) (by kernel_rfl) (fun _ _ _ h => h) (Or.inl ⟨by rfl, ?_⟩) (by assumption) ?_
      rotate_left
      · intro w hSw
        clear hSw
        go_simp
        all_goals with_reducible rfl
      simp only [Act.put, List.setIfInBounds_toArray, List.set_cons_zero, List.set_cons_succ]
      refine wpAnyH_take (i := 4) (oi := { dst := some 118, op := Op.binOp BinOp.neq 24 (Operand.tmp 117) (Operand.const (Value.int IntKind.i64 0)) 24, type := 4, pos := "law.go:209", after := #[{ on := 3, ground := Ground.data }, { on := 2, ground := Ground.guard }], guard := some (2, false) }) (v := ?_) rfl (by kernel_rfl) (by kernel_rfl) (by kernel_rfl) (fun _ _ _ h => h) (Or.inl ⟨by rfl, ?_⟩) (by assumption) ?_
      rotate_left
      · intro w hSw
        clear hSw
        go_simp
        all_goals with_reducible rfl
      simp only [Act.put, List.setIfInBounds_toArray, List.set_cons_zero, List.set_cons_succ]
      refine wpAnyH_take (i := 5) (oi := { dst := some 119, op := Op.pick (Operand.tmp 116) (Operand.const (Value.bool true)) (Operand.tmp 118), type := 4, pos := "law.go:209", after := #[{ on := 2, ground := Ground.data }, { on := 4, ground := Ground.data }], guard := none }) (v := ?_) rfl (by kernel_rfl) (by kernel_rfl) (by kernel_rfl) (fun _ _ _ h => h) (Or.inl ⟨by rfl, ?_⟩) (by assumption) ?_
      rotate_left
      · intro w hSw
        clear hSw
        go_simp
        all_goals with_reducible rfl
      simp only [Act.put, List.setIfInBounds_toArray, List.set_cons_zero, List.set_cons_succ]
      refine wpAnyH_take (i := 6) (oi := { dst := some 120, op := Op.move (Operand.tmp 119), type := 4, pos := "law.go:209", after := #[{ on := 5, ground := Ground.data }, { on := 2, ground := Ground.chain }], guard := none }) (v := ?_) rfl (by kernel_rfl) (by kernel_rfl) (by kernel_rfl) (fun _ _ _ h => h) (Or.inl ⟨by rfl, ?_⟩) (by assumption) ?_
      rotate_left
      · intro w hSw
        clear hSw
        go_simp
        all_goals with_reducible rfl
      simp only [Act.put, List.setIfInBounds_toArray, List.set_cons_zero, List.set_cons_succ]
      refine wpAnyH_take (i := 7) (oi := { dst := some 121, op := Op.load 34 (Operand.tmp 16), type := 34, pos := "law.go:209", after := #[{ on := 6, ground := Ground.guard }], guard := some (6, false) }) (v := .agg (encG G).toArray) rfl (by kernel_rfl) (by kernel_rfl) (by kernel_rfl) (fun _ _ _ h => h) (yieldsIf_load_mid (by rfl) _ _ rfl g16 0 rfl (encG G) _ (fun _ hSw => rangeAt_row (hSw.row Qg16.out (fun e => e))) Tryd.underlying34 rfl (by rw [size_g _ GL.out.1 GL.out.2, List.size_toArray])) (by assumption) ?_
      simp only [Act.put, List.setIfInBounds_toArray, List.set_cons_zero, List.set_cons_succ]
      refine wpAnyH_take (i := 8) (oi := { dst := some 122, op := Op.load 34 (Operand.tmp 18), type := 34, pos := "law.go:209", after := #[{ on := 6, ground := Ground.guard }], guard := some (6, false) }) (v := .agg (encG G).toArray) rfl (by kernel_rfl) (by kernel_rfl) (by kernel_rfl) (fun _ _ _ h => h) (yieldsIf_load_mid (by rfl) _ _ rfl g18 0 rfl (encG G) _ (fun _ hSw => rangeAt_row (hSw.row Qg18.out (fun e => e))) Tryd.underlying34 rfl (by rw [size_g _ GL.out.1 GL.out.2, List.size_toArray])) (by assumption) ?_
      simp only [Act.put, List.setIfInBounds_toArray, List.set_cons_zero, List.set_cons_succ]
      refine wpAnyH_take (i := 9) (oi := { dst := some 123, op := Op.binOp BinOp.neq 34 (Operand.tmp 121) (Operand.tmp 122) 34, type := 4, pos := "law.go:209", after := #[{ on := 7, ground := Ground.data }, { on := 8, ground := Ground.data }, { on := 6, ground := Ground.guard }], guard := some (6, false) }) (v := ?_) rfl (by kernel_rfl) (by kernel_rfl) (by kernel_rfl) (fun _ _ _ h => h) (Or.inl ⟨by rfl, ?_⟩) (by assumption) ?_
      rotate_left
      · intro w hSw
        have e := equal_gs G GL.out.1 GL.out.2
        clear hSw
        go_simp
        all_goals with_reducible rfl
      simp only [Act.put, List.setIfInBounds_toArray, List.set_cons_zero, List.set_cons_succ]
      refine wpAnyH_take (i := 10) (oi := { dst := some 124, op := Op.pick (Operand.tmp 120) (Operand.const (Value.bool true)) (Operand.tmp 123), type := 4, pos := "law.go:209", after := #[{ on := 6, ground := Ground.data }, { on := 9, ground := Ground.data }], guard := none }) (v := ?_) rfl (by kernel_rfl) (by kernel_rfl) (by kernel_rfl) (fun _ _ _ h => h) (Or.inl ⟨by rfl, ?_⟩) (by assumption) ?_
      rotate_left
      · intro w hSw
        clear hSw
        go_simp
        all_goals with_reducible rfl
      simp only [Act.put, List.setIfInBounds_toArray, List.set_cons_zero, List.set_cons_succ]
      refine wpAnyH_take (i := 11) (oi := { dst := some 125, op := Op.move (Operand.tmp 124), type := 4, pos := "law.go:209", after := #[{ on := 10, ground := Ground.data }, { on := 6, ground := Ground.chain }], guard := none }) (v := ?_) rfl (by kernel_rfl) (by kernel_rfl) (by kernel_rfl) (fun _ _ _ h => h) (Or.inl ⟨by rfl, ?_⟩) (by assumption) ?_
      rotate_left
      · intro w hSw
        clear hSw
        go_simp
        all_goals with_reducible rfl
      simp only [Act.put, List.setIfInBounds_toArray, List.set_cons_zero, List.set_cons_succ]
      refine wpAnyH_take (i := 12) (oi := { dst := some 126, op := Op.move (Operand.tmp 7), type := 22, pos := "law.go:209", after := #[{ on := 11, ground := Ground.guard }], guard := some (11, false) }) (v := ?_) rfl (by kernel_rfl) (by kernel_rfl) (by kernel_rfl) (fun _ _ _ h => h) (Or.inl ⟨by rfl, ?_⟩) (by assumption) ?_
      rotate_left
      · intro w hSw
        clear hSw
        go_simp
        all_goals with_reducible rfl
      simp only [Act.put, List.setIfInBounds_toArray, List.set_cons_zero, List.set_cons_succ]
      refine wpAnyH_take (i := 13) (oi := { dst := some 127, op := Op.load 34 (Operand.tmp 18), type := 34, pos := "law.go:209", after := #[{ on := 11, ground := Ground.guard }], guard := some (11, false) }) (v := .agg (encG G).toArray) rfl (by kernel_rfl) (by kernel_rfl) (by kernel_rfl) (fun _ _ _ h => h) (yieldsIf_load_mid (by rfl) _ _ rfl g18 0 rfl (encG G) _ (fun _ hSw => rangeAt_row (hSw.row Qg18.out (fun e => e))) Tryd.underlying34 rfl (by rw [size_g _ GL.out.1 GL.out.2, List.size_toArray])) (by assumption) ?_
      simp only [Act.put, List.setIfInBounds_toArray, List.set_cons_zero, List.set_cons_succ]
      refine wpAnyH_ready (rs := [14]) (by kernel_rfl) (by simp) ?_
      refine AllReadyH.cons (o := { dst := some 128, op := Op.call { callee := Callee.value (Operand.func 12), args := #[Operand.tmp 126, Operand.tmp 127], argTypes := #[22, 34] }, type := 4, pos := "law.go:209", after := #[{ on := 12, ground := Ground.data }, { on := 13, ground := Ground.data }, { on := 11, ground := Ground.chain }, { on := 11, ground := Ground.guard }], guard := some (11, false) }) rfl (fun K hK => ?_) AllReadyH.nil
      go_simp
      refine (holds_r G Z0 (TR.out.below (CZ0.out.below _ (Nat.le_refl _) (fun _ _ e => e))).ra.1 GO.out GL.out.2 (HK.out.below (BW.out.trans (CZ0.out.below w.heap.size BW.out.size (fun k hk e => by omega))) h0)).mono ?_
      rintro e Z1 ⟨rfl, hb2⟩
      rw [GHD.out]
      have CZ1 : Hid (Chg (fun _ => False) v7 Z1) := CZ0.out.then hb2
      clear hb2 CZ0
      clear hHeld
      refine hK.out _ _ CZ1.out (fun hHeld => ?_)
      clear hK K
      try simp only [Act.put, List.setIfInBounds_toArray, List.set_cons_zero, List.set_cons_succ]
      refine wpAnyH_take (i := 15) (oi := { dst := some 129, op := Op.unOp UnOp.not 4 (Operand.tmp 128), type := 4, pos := "law.go:209", after := #[{ on := 14, ground := Ground.data }, { on := 11, ground := Ground.guard }], guard := some (11, false) }) (v := ?_) rfl (by kernel_rfl) (by kernel_rfl) (by kernel_rfl) (fun _ _ _ h => h) (Or.inl ⟨by rfl, ?_⟩) (by assumption) ?_
      rotate_left
      · intro w hSw
        clear hSw
        go_simp
        all_goals with_reducible rfl
      simp only [Act.put, List.setIfInBounds_toArray, List.set_cons_zero, List.set_cons_succ]
      refine wpAnyH_take (i := 16) (oi := { dst := some 130, op := Op.pick (Operand.tmp 125) (Operand.const (Value.bool true)) (Operand.tmp 129), type := 4, pos := "law.go:209", after := #[{ on := 11, ground := Ground.data }, { on := 15, ground := Ground.data }], guard := none }) (v := ?_) rfl (by kernel_rfl) (by kernel_rfl) (by kernel_rfl) (fun _ _ _ h => h) (Or.inl ⟨by rfl, ?_⟩) (by assumption) ?_
      rotate_left
      · intro w hSw
        clear hSw
        go_simp
        all_goals with_reducible rfl
      simp only [Act.put, List.setIfInBounds_toArray, List.set_cons_zero, List.set_cons_succ]
      refine wpAnyH_take (i := 17) (oi := { dst := some 131, op := Op.move (Operand.tmp 130), type := 4, pos := "law.go:209", after := #[{ on := 16, ground := Ground.data }, { on := 14, ground := Ground.chain }], guard := none }) (v := ?_) rfl (by kernel_rfl) (by kernel_rfl) (by kernel_rfl) (fun _ _ _ h => h) (Or.inl ⟨by rfl, ?_⟩) (by assumption) ?_
      rotate_left
      · intro w hSw
        clear hSw
        go_simp
        all_goals with_reducible rfl
      simp only [Act.put, List.setIfInBounds_toArray, List.set_cons_zero, List.set_cons_succ]
      refine wpAnyH_take (i := 18) (oi := { dst := some 132, op := Op.move (Operand.tmp 8), type := 22, pos := "law.go:209", after := #[{ on := 17, ground := Ground.guard }], guard := some (17, false) }) (v := ?_) rfl (by kernel_rfl) (by kernel_rfl) (by kernel_rfl) (fun _ _ _ h => h) (Or.inl ⟨by rfl, ?_⟩) (by assumption) ?_
      rotate_left
      · intro w hSw
        clear hSw
        go_simp
        all_goals with_reducible rfl
      simp only [Act.put, List.setIfInBounds_toArray, List.set_cons_zero, List.set_cons_succ]
      refine wpAnyH_take (i := 19) (oi := { dst := some 133, op := Op.load 34 (Operand.tmp 16), type := 34, pos := "law.go:209", after := #[{ on := 17, ground := Ground.guard }], guard := some (17, false) }) (v := .agg (encG G).toArray) rfl (by kernel_rfl) (by kernel_rfl) (by kernel_rfl) (fun _ _ _ h => h) (yieldsIf_load_mid (by rfl) _ _ rfl g16 0 rfl (encG G) _ (fun _ hSw => rangeAt_row (hSw.row Qg16.out (fun e => e))) Tryd.underlying34 rfl (by rw [size_g _ GL.out.1 GL.out.2, List.size_toArray])) (by assumption) ?_
      simp only [Act.put, List.setIfInBounds_toArray, List.set_cons_zero, List.set_cons_succ]
      refine wpAnyH_ready (rs := [20]) (by kernel_rfl) (by simp) ?_
      refine AllReadyH.cons (o := { dst := some 134, op := Op.call { callee := Callee.value (Operand.func 12), args := #[Operand.tmp 132, Operand.tmp 133], argTypes := #[22, 34] }, type := 4, pos := "law.go:209", after := #[{ on := 18, ground := Ground.data }, { on := 19, ground := Ground.data }, { on := 17, ground := Ground.chain }, { on := 17, ground := Ground.guard }], guard := some (17, false) }) rfl (fun K hK => ?_) AllReadyH.nil
      go_simp
      refine (holds_r G Z1 (TR.out.below (CZ1.out.below _ (Nat.le_refl _) (fun _ _ e => e))).ra.2.1 GO.out GL.out.2 (HK.out.below (BW.out.trans (CZ1.out.below w.heap.size BW.out.size (fun k hk e => by omega))) h0)).mono ?_
      rintro e Z2 ⟨rfl, hb2⟩
      rw [GHD.out]
      have CZ2 : Hid (Chg (fun _ => False) v7 Z2) := CZ1.out.then hb2
      clear hb2 CZ1
      clear hHeld
      refine hK.out _ _ CZ2.out (fun hHeld => ?_)
      clear hK K
      try simp only [Act.put, List.setIfInBounds_toArray, List.set_cons_zero, List.set_cons_succ]
      refine wpAnyH_take (i := 21) (oi := { dst := some 135, op := Op.unOp UnOp.not 4 (Operand.tmp 134), type := 4, pos := "law.go:209", after := #[{ on := 20, ground := Ground.data }, { on := 17, ground := Ground.guard }], guard := some (17, false) }) (v := ?_) rfl (by kernel_rfl) (by kernel_rfl) (by kernel_rfl) (fun _ _ _ h => h) (Or.inl ⟨by rfl, ?_⟩) (by assumption) ?_
      rotate_left
      · intro w hSw
        clear hSw
        go_simp
        all_goals with_reducible rfl
      simp only [Act.put, List.setIfInBounds_toArray, List.set_cons_zero, List.set_cons_succ]
      refine wpAnyH_take (i := 22) (oi := { dst := some 136, op := Op.pick (Operand.tmp 131) (Operand.const (Value.bool true)) (Operand.tmp 135), type := 4, pos := "law.go:209", after := #[{ on := 17, ground := Ground.data }, { on := 21, ground := Ground.data }], guard := none }) (v := ?_) rfl (by kernel_rfl) (by kernel_rfl) (by kernel_rfl) (fun _ _ _ h => h) (Or.inl ⟨by rfl, ?_⟩) (by assumption) ?_
      rotate_left
      · intro w hSw
        clear hSw
        go_simp
        all_goals with_reducible rfl
      simp only [Act.put, List.setIfInBounds_toArray, List.set_cons_zero, List.set_cons_succ]
      refine wpAnyH_take (i := 23) (oi := { dst := some 137, op := Op.move (Operand.tmp 136), type := 4, pos := "law.go:209", after := #[{ on := 22, ground := Ground.data }, { on := 20, ground := Ground.chain }], guard := none }) (v := ?_) rfl (by kernel_rfl) (by kernel_rfl) (by kernel_rfl) (fun _ _ _ h => h) (Or.inl ⟨by rfl, ?_⟩) (by assumption) ?_
      rotate_left
      · intro w hSw
        clear hSw
        go_simp
        all_goals with_reducible rfl
      simp only [Act.put, List.setIfInBounds_toArray, List.set_cons_zero, List.set_cons_succ]
      refine wpAnyH_take (i := 24) (oi := { dst := some 138, op := Op.move (Operand.tmp 9), type := 22, pos := "law.go:209", after := #[{ on := 23, ground := Ground.guard }], guard := some (23, false) }) (v := ?_) rfl (by kernel_rfl) (by kernel_rfl) (by kernel_rfl) (fun _ _ _ h => h) (Or.inl ⟨by rfl, ?_⟩) (by assumption) ?_
      rotate_left
      · intro w hSw
        clear hSw
        go_simp
        all_goals with_reducible rfl
      simp only [Act.put, List.setIfInBounds_toArray, List.set_cons_zero, List.set_cons_succ]
      refine wpAnyH_take (i := 25) (oi := { dst := some 139, op := Op.load 34 (Operand.tmp 16), type := 34, pos := "law.go:209", after := #[{ on := 23, ground := Ground.guard }], guard := some (23, false) }) (v := .agg (encG G).toArray) rfl (by kernel_rfl) (by kernel_rfl) (by kernel_rfl) (fun _ _ _ h => h) (yieldsIf_load_mid (by rfl) _ _ rfl g16 0 rfl (encG G) _ (fun _ hSw => rangeAt_row (hSw.row Qg16.out (fun e => e))) Tryd.underlying34 rfl (by rw [size_g _ GL.out.1 GL.out.2, List.size_toArray])) (by assumption) ?_
      simp only [Act.put, List.setIfInBounds_toArray, List.set_cons_zero, List.set_cons_succ]
      refine wpAnyH_take (i := 27) (oi := { dst := some 141, op := Op.move (Operand.tmp 10), type := 42, pos := "law.go:209", after := #[{ on := 23, ground := Ground.guard }], guard := some (23, false) }) (v := ?_) rfl (by kernel_rfl) (by kernel_rfl) (by kernel_rfl) (fun _ _ _ h => h) (Or.inl ⟨by rfl, ?_⟩) (by assumption) ?_
      rotate_left
      · intro w hSw
        clear hSw
        go_simp
        all_goals with_reducible rfl
      simp only [Act.put, List.setIfInBounds_toArray, List.set_cons_zero, List.set_cons_succ]
      refine wpAnyH_take (i := 28) (oi := { dst := some 142, op := Op.move (Operand.tmp 10), type := 42, pos := "law.go:209", after := #[{ on := 23, ground := Ground.guard }], guard := some (23, false) }) (v := ?_) rfl (by kernel_rfl) (by kernel_rfl) (by kernel_rfl) (fun _ _ _ h => h) (Or.inl ⟨by rfl, ?_⟩) (by assumption) ?_
      rotate_left
      · intro w hSw
        clear hSw
        go_simp
        all_goals with_reducible rfl
      simp only [Act.put, List.setIfInBounds_toArray, List.set_cons_zero, List.set_cons_succ]
      refine wpAnyH_take (i := 31) (oi := { dst := some 145, op := Op.move (Operand.tmp 0), type := 41, pos := "law.go:209", after := #[{ on := 23, ground := Ground.guard }], guard := some (23, false) }) (v := ?_) rfl (by kernel_rfl) (by kernel_rfl) (by kernel_rfl) (fun _ _ _ h => h) (Or.inl ⟨by rfl, ?_⟩) (by assumption) ?_
      rotate_left
      · intro w hSw
        clear hSw
        go_simp
        all_goals with_reducible rfl
      simp only [Act.put, List.setIfInBounds_toArray, List.set_cons_zero, List.set_cons_succ]
      refine wpAnyH_take (i := 33) (oi := { dst := some 147, op := Op.fieldAddr 32 (Operand.tmp 5) 0, type := 0, pos := "law.go:209", after := #[{ on := 23, ground := Ground.guard }], guard := some (23, false) }) (v := ?_) rfl (by kernel_rfl) (by kernel_rfl) (by kernel_rfl) (fun _ _ _ h => h) (Or.inl ⟨by rfl, ?_⟩) (by assumption) ?_
      rotate_left
      · intro w hSw
        clear hSw
        go_simp
        all_goals with_reducible rfl
      simp only [Act.put, List.setIfInBounds_toArray, List.set_cons_zero, List.set_cons_succ]
      refine wpAnyH_take (i := 34) (oi := { dst := some 148, op := Op.load 3 (Operand.tmp 147), type := 3, pos := "law.go:209", after := #[{ on := 33, ground := Ground.data }, { on := 23, ground := Ground.guard }], guard := some (23, false) }) (v := ?_) rfl (by kernel_rfl) (by kernel_rfl) (by kernel_rfl) (fun _ _ _ h => h) (Or.inl ⟨by rfl, ?_⟩) (by assumption) ?_
      rotate_left
      · intro w hSw
        obtain ⟨c0, c1, c2, c3⟩ := h_cells (hSw.row PH.out (fun e => e))
        rw [HT.out] at c0
        clear hSw
        go_simp
        all_goals with_reducible rfl
      simp only [Act.put, List.setIfInBounds_toArray, List.set_cons_zero, List.set_cons_succ]
      refine wpAnyH_take (i := 35) (oi := { dst := some 149, op := Op.move (Operand.tmp 11), type := 3, pos := "law.go:209", after := #[{ on := 23, ground := Ground.guard }], guard := some (23, false) }) (v := ?_) rfl (by kernel_rfl) (by kernel_rfl) (by kernel_rfl) (fun _ _ _ h => h) (Or.inl ⟨by rfl, ?_⟩) (by assumption) ?_
      rotate_left
      · intro w hSw
        clear hSw
        go_simp
        all_goals with_reducible rfl
      simp only [Act.put, List.setIfInBounds_toArray, List.set_cons_zero, List.set_cons_succ]
      refine wpAnyH_take (i := 36) (oi := { dst := some 150, op := Op.move (Operand.tmp 1), type := 56, pos := "law.go:209", after := #[{ on := 23, ground := Ground.guard }], guard := some (23, false) }) (v := ?_) rfl (by kernel_rfl) (by kernel_rfl) (by kernel_rfl) (fun _ _ _ h => h) (Or.inl ⟨by rfl, ?_⟩) (by assumption) ?_
      rotate_left
      · intro w hSw
        clear hSw
        go_simp
        all_goals with_reducible rfl
      simp only [Act.put, List.setIfInBounds_toArray, List.set_cons_zero, List.set_cons_succ]
      refine wpAnyH_take (i := 37) (oi := { dst := some 151, op := Op.move (Operand.tmp 11), type := 3, pos := "law.go:209", after := #[{ on := 23, ground := Ground.guard }], guard := some (23, false) }) (v := ?_) rfl (by kernel_rfl) (by kernel_rfl) (by kernel_rfl) (fun _ _ _ h => h) (Or.inl ⟨by rfl, ?_⟩) (by assumption) ?_
      rotate_left
      · intro w hSw
        clear hSw
        go_simp
        all_goals with_reducible rfl
      simp only [Act.put, List.setIfInBounds_toArray, List.set_cons_zero, List.set_cons_succ]
      refine wpAnyH_take (i := 38) (oi := { dst := some 152, op := Op.indexAddr 56 (Operand.tmp 150) (Operand.tmp 151), type := 0, pos := "law.go:209", after := #[{ on := 36, ground := Ground.data }, { on := 37, ground := Ground.data }, { on := 23, ground := Ground.guard }], guard := some (23, false) }) (v := ?_) rfl (by kernel_rfl) (by kernel_rfl) (by kernel_rfl) (fun _ _ _ h => h) (Or.inl ⟨by rfl, ?_⟩) (by assumption) ?_
      rotate_left
      · intro w hSw
        clear hSw
        go_simp
        all_goals with_reducible rfl
      simp only [Act.put, List.setIfInBounds_toArray, List.set_cons_zero, List.set_cons_succ]
      refine wpAnyH_take (i := 39) (oi := { dst := some 153, op := Op.load 27 (Operand.tmp 152), type := 27, pos := "law.go:209", after := #[{ on := 38, ground := Ground.data }, { on := 23, ground := Ground.guard }], guard := some (23, false) }) (v := ?_) rfl (by kernel_rfl) (by kernel_rfl) (by kernel_rfl) (fun _ _ _ h => h) (Or.inl ⟨by rfl, ?_⟩) (by assumption) ?_
      rotate_left
      · intro w hSw
        have q := (World.cell?_of_block (a := ⟨gd, od + i, none⟩) (hSw.block gd LGD.out (fun e => e))).trans CD.out
        clear hSw
        go_simp
        all_goals with_reducible rfl
      simp only [Act.put, List.setIfInBounds_toArray, List.set_cons_zero, List.set_cons_succ]
      refine wpAnyH_take (i := 41) (oi := { dst := some 155, op := Op.load 34 (Operand.tmp 16), type := 34, pos := "law.go:209", after := #[{ on := 23, ground := Ground.guard }], guard := some (23, false) }) (v := .agg (encG G).toArray) rfl (by kernel_rfl) (by kernel_rfl) (by kernel_rfl) (fun _ _ _ h => h) (yieldsIf_load_mid (by rfl) _ _ rfl g16 0 rfl (encG G) _ (fun _ hSw => rangeAt_row (hSw.row Qg16.out (fun e => e))) Tryd.underlying34 rfl (by rw [size_g _ GL.out.1 GL.out.2, List.size_toArray])) (by assumption) ?_
      simp only [Act.put, List.setIfInBounds_toArray, List.set_cons_zero, List.set_cons_succ]
      refine wpAnyH_ready (rs := [26, 29]) (by kernel_rfl) (by simp) ?_
      refine AllReadyH.cons (o := { dst := some 140, op := Op.call { callee := Callee.value (Operand.func 12), args := #[Operand.tmp 138, Operand.tmp 139], argTypes := #[22, 34] }, type := 4, pos := "law.go:209", after := #[{ on := 24, ground := Ground.data }, { on := 25, ground := Ground.data }, { on := 23, ground := Ground.chain }, { on := 23, ground := Ground.guard }], guard := some (23, false) }) rfl (fun K hK => ?_) ?_
      · skip
        go_simp
        refine (holds_r G Z2 (TR.out.below (CZ2.out.below _ (Nat.le_refl _) (fun _ _ e => e))).ra.2.2 GO.out GL.out.2 (HK.out.below (BW.out.trans (CZ2.out.below w.heap.size BW.out.size (fun k hk e => by omega))) h0)).mono ?_
        rintro e Z3 ⟨rfl, hb2⟩
        rw [GC.out]
        obtain ⟨b, hb⟩ : ∃ b, b = (S.mac (S.key zs (t : Int) (i : Int) d) (S.hb G.h) == G.tag) := ⟨_, rfl⟩
        rw [← hb]
        have EB := hide hb
        clear hb
        have CZ3 : Hid (Chg (fun _ => False) v7 Z3) := CZ2.out.then hb2
        clear hb2 CZ2
        clear hHeld
        refine hK.out _ _ CZ3.out (fun hHeld => ?_)
        clear hK K
        try simp only [Act.put, List.setIfInBounds_toArray, List.set_cons_zero, List.set_cons_succ]
        refine wpAnyH_ready (rs := [29]) (by kernel_rfl) (by simp) ?_
        refine step_bs_when (o := { dst := some 143, op := Op.buildSlice 41 1 #[(0, Operand.const (Value.int IntKind.u8 122))], type := 41, pos := "law.go:209", after := #[{ on := 23, ground := Ground.guard }], guard := some (23, false) }) rfl (by rfl) 41 1 [(0, .const (.int .u8 122))] rfl [(0, .int .u8 122)] rfl _ _ (bs_z Z3) AllReadyH.nil ⟨CZ3.out.alloc _, fun hHeld => ?_⟩
        clear hHeld
        simp only [Act.put, List.setIfInBounds_toArray, List.set_cons_zero, List.set_cons_succ]
        obtain ⟨gz, hgz⟩ : ∃ gg, gg = Z3.heap.size := ⟨_, rfl⟩
        rw [← hgz]
        generalize hZ : Z3.alloc _ = Z4
        have hb2 : Below Z3.heap.size Z3 Z4 := by rw [← hZ]; exact (Below.refl _ _).alloc (Nat.le_refl _) _
        have Rgz : Hid (Z4.heap[gz]? = some (.cells #[.int .u8 122] 5 (0, 0))) := by rw [← hZ, hgz]; exact heap_alloc_new _ _
        have Ggz := hide (show v7.heap.size ≤ gz by rw [hgz]; exact CZ3.out.size)
        clear hZ hgz
        have CZ4 : Hid (Chg (fun _ => False) v7 Z4) := CZ3.out.then hb2
        clear hb2 CZ3
        have hHeld := CZ4.out
        refine wpAnyH_ready (rs := [30]) (by kernel_rfl) (by simp) ?_
        obtain ⟨Z5, hst, r6, C6⟩ := conv_mark (n := 1) (c := 1) Rgz.out
        refine step_cv_when (o := { dst := some 144, op := Op.convert 41 41 (Operand.tmp 143), type := 41, pos := "law.go:209", after := #[{ on := 29, ground := Ground.data }, { on := 23, ground := Ground.guard }], guard := some (23, false) }) rfl (by rfl) 41 41 (.tmp 143) rfl (.slice (some ⟨gz, 0, none⟩) 1 1) rfl (.slice (some ⟨gz, 0, none⟩) 1 1) Z5 hst AllReadyH.nil ⟨CZ4.out.trans C6 (fun k hk e => by have := Ggz.out; omega), fun hHeld => ?_⟩
        have CZ5 : Hid (Chg (fun _ => False) v7 Z5) := CZ4.out.trans C6 (fun k hk e => by have := Ggz.out; omega)
        have SZ1 : Hid (SliceAt Z5 (.slice (some ⟨gz, 0, none⟩) 1 1) [122]) := mark_one r6
        clear hst r6 C6 CZ4 Rgz hHeld
        have hHeld := CZ5.out
        simp only [Act.put, List.setIfInBounds_toArray, List.set_cons_zero, List.set_cons_succ]
        refine wpAnyH_ready (rs := [32]) (by kernel_rfl) (by simp) ?_
        obtain ⟨vn, Z6, hst, hs6, hb2⟩ := run_append_lit Z5 gz 0 1 (.slice so sn sc) [122] ks 41 SZ1.out rfl (by omega) (HS.out.below (BW.out.trans (CZ5.out.below w.heap.size BW.out.size (fun k hk e => by omega))) (Nat.le_refl _)) (by have := HSL.out; simp; omega)
        refine step_ap_when (o := { dst := some 146, op := Op.call { callee := Callee.builtin Builtin.append, args := #[Operand.tmp 144, Operand.tmp 145], argTypes := #[41, 41] }, type := 41, pos := "law.go:209", after := #[{ on := 30, ground := Ground.data }, { on := 31, ground := Ground.data }, { on := 26, ground := Ground.chain }, { on := 23, ground := Ground.guard }], guard := some (23, false) }) rfl (by rfl) (.tmp 144) (.tmp 145) 41 41 rfl (.slice (some ⟨gz, 0, none⟩) 1 1) (.slice so sn sc) rfl rfl vn Z6 hst AllReadyH.nil ⟨CZ5.out.then hb2, fun hHeld => ?_⟩
        obtain ⟨o6, n6, c6, rfl, hn6, hm6⟩ := hs6.form
        rw [← HZS.out] at hs6
        have S6 := hide hs6
        clear hst hs6 hn6 hm6 SZ1 hHeld
        have CZ6 : Hid (Chg (fun _ => False) v7 Z6) := CZ5.out.then hb2
        clear hb2 CZ5
        have hHeld := CZ6.out
        simp only [Act.put, List.setIfInBounds_toArray, List.set_cons_zero, List.set_cons_succ]
        refine wpAnyH_ready (rs := [40]) (by kernel_rfl) (by simp) ?_
        refine AllReadyH.cons (o := { dst := some 154, op := Op.call { callee := Callee.value (Operand.func 18), args := #[Operand.tmp 142, Operand.tmp 146, Operand.tmp 148, Operand.tmp 149, Operand.tmp 153], argTypes := #[42, 41, 3, 3, 27] }, type := 30, pos := "law.go:209", after := #[{ on := 28, ground := Ground.data }, { on := 32, ground := Ground.data }, { on := 34, ground := Ground.data }, { on := 35, ground := Ground.data }, { on := 39, ground := Ground.data }, { on := 32, ground := Ground.chain }, { on := 23, ground := Ground.guard }], guard := some (23, false) }) rfl (fun K hK => ?_) AllReadyH.nil
        go_simp
        refine (rkey_any gT (.slice o6 n6 c6) zs (t : Int) (i : Int) d Z6 (CZ6.out.row RT.out (fun e => e)) HDD.out S6.out ZL.out).mono ?_
        rintro e Z7 ⟨rfl, hb2⟩
        obtain ⟨D, hD⟩ : ∃ DD, DD = S.key zs (t : Int) (i : Int) d := ⟨_, rfl⟩
        rw [← hD]
        have LD := hide (show D.length = 32 by rw [hD]; exact S.key_length _ _ _ _)
        have ED := hide hD
        clear hD
        replace S6 : Hid (SliceAt Z7 (.slice o6 n6 c6) zs) := S6.out.below hb2 (Nat.le_refl _)
        have CZ7 : Hid (Chg (fun _ => False) v7 Z7) := CZ6.out.then hb2
        clear hb2 CZ6
        clear hHeld
        refine hK.out _ _ CZ7.out (fun hHeld => ?_)
        clear hK K
        try simp only [Act.put, List.setIfInBounds_toArray, List.set_cons_zero, List.set_cons_succ]
        refine wpAnyH_ready (rs := [42]) (by kernel_rfl) (by simp) ?_
        refine AllReadyH.cons (o := { dst := some 156, op := Op.call { callee := Callee.value (Operand.func 23), args := #[Operand.tmp 141, Operand.tmp 154, Operand.tmp 155], argTypes := #[42, 30, 34] }, type := 4, pos := "law.go:209", after := #[{ on := 27, ground := Ground.data }, { on := 40, ground := Ground.data }, { on := 41, ground := Ground.data }, { on := 40, ground := Ground.chain }, { on := 23, ground := Ground.guard }], guard := some (23, false) }) rfl (fun K hK => ?_) AllReadyH.nil
        go_simp
        refine (rholds_any gT D G Z7 (CZ7.out.row RT.out (fun e => e)) LD.out GO.out GL.out.2).mono ?_
        rintro e Z8 ⟨rfl, hb2⟩
        rw [ED.out, ← EB.out]
        replace S6 : Hid (SliceAt Z8 (.slice o6 n6 c6) zs) := S6.out.below hb2 (Nat.le_refl _)
        have CZ8 : Hid (Chg (fun _ => False) v7 Z8) := CZ7.out.then hb2
        clear hb2 CZ7
        clear hHeld
        refine hK.out _ _ CZ8.out (fun hHeld => ?_)
        clear hK K
        try simp only [Act.put, List.setIfInBounds_toArray, List.set_cons_zero, List.set_cons_succ]
        refine wpAnyH_take (i := 43) (oi := { dst := some 157, op := Op.binOp BinOp.neq 4 (Operand.tmp 140) (Operand.tmp 156) 4, type := 4, pos := "law.go:209", after := #[{ on := 26, ground := Ground.data }, { on := 42, ground := Ground.data }, { on := 23, ground := Ground.guard }], guard := some (23, false) }) (v := ?_) rfl (by kernel_rfl) (by kernel_rfl) (by kernel_rfl) (fun _ _ _ h => h) (Or.inl ⟨by rfl, ?_⟩) (by assumption) ?_
        rotate_left
        · intro w hSw
          clear hSw
          go_simp
          all_goals with_reducible rfl
        simp only [Act.put, List.setIfInBounds_toArray, List.set_cons_zero, List.set_cons_succ]
        refine wpAnyH_take (i := 44) (oi := { dst := some 158, op := Op.pick (Operand.tmp 137) (Operand.const (Value.bool true)) (Operand.tmp 157), type := 4, pos := "law.go:209", after := #[{ on := 23, ground := Ground.data }, { on := 43, ground := Ground.data }], guard := none }) (v := ?_) rfl (by kernel_rfl) (by kernel_rfl) (by kernel_rfl) (fun _ _ _ h => h) (Or.inl ⟨by rfl, ?_⟩) (by assumption) ?_
        rotate_left
        · intro w hSw
          clear hSw
          go_simp
          all_goals with_reducible rfl
        simp only [Act.put, List.setIfInBounds_toArray, List.set_cons_zero, List.set_cons_succ]
        refine wpAnyH_done (by kernel_rfl) ?_ _
        refine NoPanic.normal ?_
        clear hHeld
        have BF := hide (BW.out.trans (CZ8.out.below w.heap.size BW.out.size (fun k hk e => by omega)))
        have TF := hide (TR.out.below (CZ8.out.below _ (Nat.le_refl _) (fun _ _ e => e)))
        have PF := hide (CZ8.out.row PH.out (fun e => e))
        have RF := hide (CZ8.out.row RT.out (fun e => e))
        generalize Z8 = Y at BF TF PF RF ⊢
        go_wp2_with fail
        go_roundg gO
        case measure => omega
        case rel => exact ⟨i + 1, T1, U1, by omega, by first | rfl | simp, TF, TQ, UE1, PF, RF, BF⟩
      refine step_bs_when (o := { dst := some 143, op := Op.buildSlice 41 1 #[(0, Operand.const (Value.int IntKind.u8 122))], type := 41, pos := "law.go:209", after := #[{ on := 23, ground := Ground.guard }], guard := some (23, false) }) rfl (by rfl) 41 1 [(0, .const (.int .u8 122))] rfl [(0, .int .u8 122)] rfl _ _ (bs_z Z2) AllReadyH.nil ⟨CZ2.out.alloc _, fun hHeld => ?_⟩
      clear hHeld
      simp only [Act.put, List.setIfInBounds_toArray, List.set_cons_zero, List.set_cons_succ]
      obtain ⟨gz, hgz⟩ : ∃ gg, gg = Z2.heap.size := ⟨_, rfl⟩
      rw [← hgz]
      generalize hZ : Z2.alloc _ = Z3
      have hb2 : Below Z2.heap.size Z2 Z3 := by rw [← hZ]; exact (Below.refl _ _).alloc (Nat.le_refl _) _
      have Rgz : Hid (Z3.heap[gz]? = some (.cells #[.int .u8 122] 5 (0, 0))) := by rw [← hZ, hgz]; exact heap_alloc_new _ _
      have Ggz := hide (show v7.heap.size ≤ gz by rw [hgz]; exact CZ2.out.size)
      clear hZ hgz
      have CZ3 : Hid (Chg (fun _ => False) v7 Z3) := CZ2.out.then hb2
      clear hb2 CZ2
      have hHeld := CZ3.out
      refine wpAnyH_ready (rs := [26, 30]) (by kernel_rfl) (by simp) ?_
      refine AllReadyH.cons (o := { dst := some 140, op := Op.call { callee := Callee.value (Operand.func 12), args := #[Operand.tmp 138, Operand.tmp 139], argTypes := #[22, 34] }, type := 4, pos := "law.go:209", after := #[{ on := 24, ground := Ground.data }, { on := 25, ground := Ground.data }, { on := 23, ground := Ground.chain }, { on := 23, ground := Ground.guard }], guard := some (23, false) }) rfl (fun K hK => ?_) ?_
      · skip
        go_simp
        refine (holds_r G Z3 (TR.out.below (CZ3.out.below _ (Nat.le_refl _) (fun _ _ e => e))).ra.2.2 GO.out GL.out.2 (HK.out.below (BW.out.trans (CZ3.out.below w.heap.size BW.out.size (fun k hk e => by omega))) h0)).mono ?_
        rintro e Z4 ⟨rfl, hb2⟩
        rw [GC.out]
        obtain ⟨b, hb⟩ : ∃ b, b = (S.mac (S.key zs (t : Int) (i : Int) d) (S.hb G.h) == G.tag) := ⟨_, rfl⟩
        rw [← hb]
        have EB := hide hb
        clear hb
        replace Rgz : Hid (Z4.heap[gz]? = some (.cells #[.int .u8 122] 5 (0, 0))) := (hb2.block _ (block_lt_of_row Rgz.out)).trans Rgz.out
        have CZ4 : Hid (Chg (fun _ => False) v7 Z4) := CZ3.out.then hb2
        clear hb2 CZ3
        clear hHeld
        refine hK.out _ _ CZ4.out (fun hHeld => ?_)
        clear hK K
        try simp only [Act.put, List.setIfInBounds_toArray, List.set_cons_zero, List.set_cons_succ]
        refine wpAnyH_ready (rs := [30]) (by kernel_rfl) (by simp) ?_
        obtain ⟨Z5, hst, r6, C6⟩ := conv_mark (n := 1) (c := 1) Rgz.out
        refine step_cv_when (o := { dst := some 144, op := Op.convert 41 41 (Operand.tmp 143), type := 41, pos := "law.go:209", after := #[{ on := 29, ground := Ground.data }, { on := 23, ground := Ground.guard }], guard := some (23, false) }) rfl (by rfl) 41 41 (.tmp 143) rfl (.slice (some ⟨gz, 0, none⟩) 1 1) rfl (.slice (some ⟨gz, 0, none⟩) 1 1) Z5 hst AllReadyH.nil ⟨CZ4.out.trans C6 (fun k hk e => by have := Ggz.out; omega), fun hHeld => ?_⟩
        have CZ5 : Hid (Chg (fun _ => False) v7 Z5) := CZ4.out.trans C6 (fun k hk e => by have := Ggz.out; omega)
        have SZ1 : Hid (SliceAt Z5 (.slice (some ⟨gz, 0, none⟩) 1 1) [122]) := mark_one r6
        clear hst r6 C6 CZ4 Rgz hHeld
        have hHeld := CZ5.out
        simp only [Act.put, List.setIfInBounds_toArray, List.set_cons_zero, List.set_cons_succ]
        refine wpAnyH_ready (rs := [32]) (by kernel_rfl) (by simp) ?_
        obtain ⟨vn, Z6, hst, hs6, hb2⟩ := run_append_lit Z5 gz 0 1 (.slice so sn sc) [122] ks 41 SZ1.out rfl (by omega) (HS.out.below (BW.out.trans (CZ5.out.below w.heap.size BW.out.size (fun k hk e => by omega))) (Nat.le_refl _)) (by have := HSL.out; simp; omega)
        refine step_ap_when (o := { dst := some 146, op := Op.call { callee := Callee.builtin Builtin.append, args := #[Operand.tmp 144, Operand.tmp 145], argTypes := #[41, 41] }, type := 41, pos := "law.go:209", after := #[{ on := 30, ground := Ground.data }, { on := 31, ground := Ground.data }, { on := 26, ground := Ground.chain }, { on := 23, ground := Ground.guard }], guard := some (23, false) }) rfl (by rfl) (.tmp 144) (.tmp 145) 41 41 rfl (.slice (some ⟨gz, 0, none⟩) 1 1) (.slice so sn sc) rfl rfl vn Z6 hst AllReadyH.nil ⟨CZ5.out.then hb2, fun hHeld => ?_⟩
        obtain ⟨o6, n6, c6, rfl, hn6, hm6⟩ := hs6.form
        rw [← HZS.out] at hs6
        have S6 := hide hs6
        clear hst hs6 hn6 hm6 SZ1 hHeld
        have CZ6 : Hid (Chg (fun _ => False) v7 Z6) := CZ5.out.then hb2
        clear hb2 CZ5
        have hHeld := CZ6.out
        simp only [Act.put, List.setIfInBounds_toArray, List.set_cons_zero, List.set_cons_succ]
        refine wpAnyH_ready (rs := [40]) (by kernel_rfl) (by simp) ?_
        refine AllReadyH.cons (o := { dst := some 154, op := Op.call { callee := Callee.value (Operand.func 18), args := #[Operand.tmp 142, Operand.tmp 146, Operand.tmp 148, Operand.tmp 149, Operand.tmp 153], argTypes := #[42, 41, 3, 3, 27] }, type := 30, pos := "law.go:209", after := #[{ on := 28, ground := Ground.data }, { on := 32, ground := Ground.data }, { on := 34, ground := Ground.data }, { on := 35, ground := Ground.data }, { on := 39, ground := Ground.data }, { on := 32, ground := Ground.chain }, { on := 23, ground := Ground.guard }], guard := some (23, false) }) rfl (fun K hK => ?_) AllReadyH.nil
        go_simp
        refine (rkey_any gT (.slice o6 n6 c6) zs (t : Int) (i : Int) d Z6 (CZ6.out.row RT.out (fun e => e)) HDD.out S6.out ZL.out).mono ?_
        rintro e Z7 ⟨rfl, hb2⟩
        obtain ⟨D, hD⟩ : ∃ DD, DD = S.key zs (t : Int) (i : Int) d := ⟨_, rfl⟩
        rw [← hD]
        have LD := hide (show D.length = 32 by rw [hD]; exact S.key_length _ _ _ _)
        have ED := hide hD
        clear hD
        replace S6 : Hid (SliceAt Z7 (.slice o6 n6 c6) zs) := S6.out.below hb2 (Nat.le_refl _)
        have CZ7 : Hid (Chg (fun _ => False) v7 Z7) := CZ6.out.then hb2
        clear hb2 CZ6
        clear hHeld
        refine hK.out _ _ CZ7.out (fun hHeld => ?_)
        clear hK K
        try simp only [Act.put, List.setIfInBounds_toArray, List.set_cons_zero, List.set_cons_succ]
        refine wpAnyH_ready (rs := [42]) (by kernel_rfl) (by simp) ?_
        refine AllReadyH.cons (o := { dst := some 156, op := Op.call { callee := Callee.value (Operand.func 23), args := #[Operand.tmp 141, Operand.tmp 154, Operand.tmp 155], argTypes := #[42, 30, 34] }, type := 4, pos := "law.go:209", after := #[{ on := 27, ground := Ground.data }, { on := 40, ground := Ground.data }, { on := 41, ground := Ground.data }, { on := 40, ground := Ground.chain }, { on := 23, ground := Ground.guard }], guard := some (23, false) }) rfl (fun K hK => ?_) AllReadyH.nil
        go_simp
        refine (rholds_any gT D G Z7 (CZ7.out.row RT.out (fun e => e)) LD.out GO.out GL.out.2).mono ?_
        rintro e Z8 ⟨rfl, hb2⟩
        rw [ED.out, ← EB.out]
        replace S6 : Hid (SliceAt Z8 (.slice o6 n6 c6) zs) := S6.out.below hb2 (Nat.le_refl _)
        have CZ8 : Hid (Chg (fun _ => False) v7 Z8) := CZ7.out.then hb2
        clear hb2 CZ7
        clear hHeld
        refine hK.out _ _ CZ8.out (fun hHeld => ?_)
        clear hK K
        try simp only [Act.put, List.setIfInBounds_toArray, List.set_cons_zero, List.set_cons_succ]
        refine wpAnyH_take (i := 43) (oi := { dst := some 157, op := Op.binOp BinOp.neq 4 (Operand.tmp 140) (Operand.tmp 156) 4, type := 4, pos := "law.go:209", after := #[{ on := 26, ground := Ground.data }, { on := 42, ground := Ground.data }, { on := 23, ground := Ground.guard }], guard := some (23, false) }) (v := ?_) rfl (by kernel_rfl) (by kernel_rfl) (by kernel_rfl) (fun _ _ _ h => h) (Or.inl ⟨by rfl, ?_⟩) (by assumption) ?_
        rotate_left
        · intro w hSw
          clear hSw
          go_simp
          all_goals with_reducible rfl
        simp only [Act.put, List.setIfInBounds_toArray, List.set_cons_zero, List.set_cons_succ]
        refine wpAnyH_take (i := 44) (oi := { dst := some 158, op := Op.pick (Operand.tmp 137) (Operand.const (Value.bool true)) (Operand.tmp 157), type := 4, pos := "law.go:209", after := #[{ on := 23, ground := Ground.data }, { on := 43, ground := Ground.data }], guard := none }) (v := ?_) rfl (by kernel_rfl) (by kernel_rfl) (by kernel_rfl) (fun _ _ _ h => h) (Or.inl ⟨by rfl, ?_⟩) (by assumption) ?_
        rotate_left
        · intro w hSw
          clear hSw
          go_simp
          all_goals with_reducible rfl
        simp only [Act.put, List.setIfInBounds_toArray, List.set_cons_zero, List.set_cons_succ]
        refine wpAnyH_done (by kernel_rfl) ?_ _
        refine NoPanic.normal ?_
        clear hHeld
        have BF := hide (BW.out.trans (CZ8.out.below w.heap.size BW.out.size (fun k hk e => by omega)))
        have TF := hide (TR.out.below (CZ8.out.below _ (Nat.le_refl _) (fun _ _ e => e)))
        have PF := hide (CZ8.out.row PH.out (fun e => e))
        have RF := hide (CZ8.out.row RT.out (fun e => e))
        generalize Z8 = Y at BF TF PF RF ⊢
        go_wp2_with fail
        go_roundg gO
        case measure => omega
        case rel => exact ⟨i + 1, T1, U1, by omega, by first | rfl | simp, TF, TQ, UE1, PF, RF, BF⟩
      obtain ⟨Z4, hst, r6, C6⟩ := conv_mark (n := 1) (c := 1) Rgz.out
      refine step_cv_when (o := { dst := some 144, op := Op.convert 41 41 (Operand.tmp 143), type := 41, pos := "law.go:209", after := #[{ on := 29, ground := Ground.data }, { on := 23, ground := Ground.guard }], guard := some (23, false) }) rfl (by rfl) 41 41 (.tmp 143) rfl (.slice (some ⟨gz, 0, none⟩) 1 1) rfl (.slice (some ⟨gz, 0, none⟩) 1 1) Z4 hst AllReadyH.nil ⟨CZ3.out.trans C6 (fun k hk e => by have := Ggz.out; omega), fun hHeld => ?_⟩
      have CZ4 : Hid (Chg (fun _ => False) v7 Z4) := CZ3.out.trans C6 (fun k hk e => by have := Ggz.out; omega)
      have SZ1 : Hid (SliceAt Z4 (.slice (some ⟨gz, 0, none⟩) 1 1) [122]) := mark_one r6
      clear hst r6 C6 CZ3 Rgz hHeld
      have hHeld := CZ4.out
      simp only [Act.put, List.setIfInBounds_toArray, List.set_cons_zero, List.set_cons_succ]
      refine wpAnyH_ready (rs := [26]) (by kernel_rfl) (by simp) ?_
      refine AllReadyH.cons (o := { dst := some 140, op := Op.call { callee := Callee.value (Operand.func 12), args := #[Operand.tmp 138, Operand.tmp 139], argTypes := #[22, 34] }, type := 4, pos := "law.go:209", after := #[{ on := 24, ground := Ground.data }, { on := 25, ground := Ground.data }, { on := 23, ground := Ground.chain }, { on := 23, ground := Ground.guard }], guard := some (23, false) }) rfl (fun K hK => ?_) AllReadyH.nil
      go_simp
      refine (holds_r G Z4 (TR.out.below (CZ4.out.below _ (Nat.le_refl _) (fun _ _ e => e))).ra.2.2 GO.out GL.out.2 (HK.out.below (BW.out.trans (CZ4.out.below w.heap.size BW.out.size (fun k hk e => by omega))) h0)).mono ?_
      rintro e Z5 ⟨rfl, hb2⟩
      rw [GC.out]
      obtain ⟨b, hb⟩ : ∃ b, b = (S.mac (S.key zs (t : Int) (i : Int) d) (S.hb G.h) == G.tag) := ⟨_, rfl⟩
      rw [← hb]
      have EB := hide hb
      clear hb
      replace SZ1 : Hid (SliceAt Z5 (.slice (some ⟨gz, 0, none⟩) 1 1) [122]) := SZ1.out.below hb2 (Nat.le_refl _)
      have CZ5 : Hid (Chg (fun _ => False) v7 Z5) := CZ4.out.then hb2
      clear hb2 CZ4
      clear hHeld
      refine hK.out _ _ CZ5.out (fun hHeld => ?_)
      clear hK K
      try simp only [Act.put, List.setIfInBounds_toArray, List.set_cons_zero, List.set_cons_succ]
      refine wpAnyH_ready (rs := [32]) (by kernel_rfl) (by simp) ?_
      obtain ⟨vn, Z6, hst, hs6, hb2⟩ := run_append_lit Z5 gz 0 1 (.slice so sn sc) [122] ks 41 SZ1.out rfl (by omega) (HS.out.below (BW.out.trans (CZ5.out.below w.heap.size BW.out.size (fun k hk e => by omega))) (Nat.le_refl _)) (by have := HSL.out; simp; omega)
      refine step_ap_when (o := { dst := some 146, op := Op.call { callee := Callee.builtin Builtin.append, args := #[Operand.tmp 144, Operand.tmp 145], argTypes := #[41, 41] }, type := 41, pos := "law.go:209", after := #[{ on := 30, ground := Ground.data }, { on := 31, ground := Ground.data }, { on := 26, ground := Ground.chain }, { on := 23, ground := Ground.guard }], guard := some (23, false) }) rfl (by rfl) (.tmp 144) (.tmp 145) 41 41 rfl (.slice (some ⟨gz, 0, none⟩) 1 1) (.slice so sn sc) rfl rfl vn Z6 hst AllReadyH.nil ⟨CZ5.out.then hb2, fun hHeld => ?_⟩
      obtain ⟨o6, n6, c6, rfl, hn6, hm6⟩ := hs6.form
      rw [← HZS.out] at hs6
      have S6 := hide hs6
      clear hst hs6 hn6 hm6 SZ1 hHeld
      have CZ6 : Hid (Chg (fun _ => False) v7 Z6) := CZ5.out.then hb2
      clear hb2 CZ5
      have hHeld := CZ6.out
      simp only [Act.put, List.setIfInBounds_toArray, List.set_cons_zero, List.set_cons_succ]
      refine wpAnyH_ready (rs := [40]) (by kernel_rfl) (by simp) ?_
      refine AllReadyH.cons (o := { dst := some 154, op := Op.call { callee := Callee.value (Operand.func 18), args := #[Operand.tmp 142, Operand.tmp 146, Operand.tmp 148, Operand.tmp 149, Operand.tmp 153], argTypes := #[42, 41, 3, 3, 27] }, type := 30, pos := "law.go:209", after := #[{ on := 28, ground := Ground.data }, { on := 32, ground := Ground.data }, { on := 34, ground := Ground.data }, { on := 35, ground := Ground.data }, { on := 39, ground := Ground.data }, { on := 32, ground := Ground.chain }, { on := 23, ground := Ground.guard }], guard := some (23, false) }) rfl (fun K hK => ?_) AllReadyH.nil
      go_simp
      refine (rkey_any gT (.slice o6 n6 c6) zs (t : Int) (i : Int) d Z6 (CZ6.out.row RT.out (fun e => e)) HDD.out S6.out ZL.out).mono ?_
      rintro e Z7 ⟨rfl, hb2⟩
      obtain ⟨D, hD⟩ : ∃ DD, DD = S.key zs (t : Int) (i : Int) d := ⟨_, rfl⟩
      rw [← hD]
      have LD := hide (show D.length = 32 by rw [hD]; exact S.key_length _ _ _ _)
      have ED := hide hD
      clear hD
      replace S6 : Hid (SliceAt Z7 (.slice o6 n6 c6) zs) := S6.out.below hb2 (Nat.le_refl _)
      have CZ7 : Hid (Chg (fun _ => False) v7 Z7) := CZ6.out.then hb2
      clear hb2 CZ6
      clear hHeld
      refine hK.out _ _ CZ7.out (fun hHeld => ?_)
      clear hK K
      try simp only [Act.put, List.setIfInBounds_toArray, List.set_cons_zero, List.set_cons_succ]
      refine wpAnyH_ready (rs := [42]) (by kernel_rfl) (by simp) ?_
      refine AllReadyH.cons (o := { dst := some 156, op := Op.call { callee := Callee.value (Operand.func 23), args := #[Operand.tmp 141, Operand.tmp 154, Operand.tmp 155], argTypes := #[42, 30, 34] }, type := 4, pos := "law.go:209", after := #[{ on := 27, ground := Ground.data }, { on := 40, ground := Ground.data }, { on := 41, ground := Ground.data }, { on := 40, ground := Ground.chain }, { on := 23, ground := Ground.guard }], guard := some (23, false) }) rfl (fun K hK => ?_) AllReadyH.nil
      go_simp
      refine (rholds_any gT D G Z7 (CZ7.out.row RT.out (fun e => e)) LD.out GO.out GL.out.2).mono ?_
      rintro e Z8 ⟨rfl, hb2⟩
      rw [ED.out, ← EB.out]
      replace S6 : Hid (SliceAt Z8 (.slice o6 n6 c6) zs) := S6.out.below hb2 (Nat.le_refl _)
      have CZ8 : Hid (Chg (fun _ => False) v7 Z8) := CZ7.out.then hb2
      clear hb2 CZ7
      clear hHeld
      refine hK.out _ _ CZ8.out (fun hHeld => ?_)
      clear hK K
      try simp only [Act.put, List.setIfInBounds_toArray, List.set_cons_zero, List.set_cons_succ]
      refine wpAnyH_take (i := 43) (oi := { dst := some 157, op := Op.binOp BinOp.neq 4 (Operand.tmp 140) (Operand.tmp 156) 4, type := 4, pos := "law.go:209", after := #[{ on := 26, ground := Ground.data }, { on := 42, ground := Ground.data }, { on := 23, ground := Ground.guard }], guard := some (23, false) }) (v := ?_) rfl (by kernel_rfl) (by kernel_rfl) (by kernel_rfl) (fun _ _ _ h => h) (Or.inl ⟨by rfl, ?_⟩) (by assumption) ?_
      rotate_left
      · intro w hSw
        clear hSw
        go_simp
        all_goals with_reducible rfl
      simp only [Act.put, List.setIfInBounds_toArray, List.set_cons_zero, List.set_cons_succ]
      refine wpAnyH_take (i := 44) (oi := { dst := some 158, op := Op.pick (Operand.tmp 137) (Operand.const (Value.bool true)) (Operand.tmp 157), type := 4, pos := "law.go:209", after := #[{ on := 23, ground := Ground.data }, { on := 43, ground := Ground.data }], guard := none }) (v := ?_) rfl (by kernel_rfl) (by kernel_rfl) (by kernel_rfl) (fun _ _ _ h => h) (Or.inl ⟨by rfl, ?_⟩) (by assumption) ?_
      rotate_left
      · intro w hSw
        clear hSw
        go_simp
        all_goals with_reducible rfl
      simp only [Act.put, List.setIfInBounds_toArray, List.set_cons_zero, List.set_cons_succ]
      refine wpAnyH_done (by kernel_rfl) ?_ _
      refine NoPanic.normal ?_
      clear hHeld
      have BF := hide (BW.out.trans (CZ8.out.below w.heap.size BW.out.size (fun k hk e => by omega)))
      have TF := hide (TR.out.below (CZ8.out.below _ (Nat.le_refl _) (fun _ _ e => e)))
      have PF := hide (CZ8.out.row PH.out (fun e => e))
      have RF := hide (CZ8.out.row RT.out (fun e => e))
      generalize Z8 = Y at BF TF PF RF ⊢
      go_wp2_with fail
      go_roundg gO
      case measure => omega
      case rel => exact ⟨i + 1, T1, U1, by omega, by first | rfl | simp, TF, TQ, UE1, PF, RF, BF⟩
end Go.Proofs.YtllcnppcncegpaaDoor
