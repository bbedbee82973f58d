/- Commit of a record that there is room for. -/
import Derived.Test.YteealihknndclabGreatDoorGu
namespace Go.Proofs.YteealihknndclabGreatDoor
open Go.RowKit

theorem aS.loadSeal {w : World} {g : Nat} {p : Value} {f c : Nat} {h : S.Hd} {tv : Value} {op : Bool} (a : aS w g p f c h tv op) (hl : h.sl.length = 32) : (Instr.loadAt 184 (.pointer (some ⟨g, 5, none⟩))).run Tryz.prog w = .ok (.agg (S.v8 h.sl)) w := by
 have hr : w.rangeAt g 5 (S.v8l h.sl) := fun j v hv => by
  have := a.head (j + 2) v (by simpa [S.hc] using hv)
  rw [show 5 + j = 3 + (j + 2) from by omega]
  exact this
 have := run_loadAt_mid (P := Tryz.prog) w g 5 184 _ _ hr Tryz.underlying184 rfl (by rw [oV, S.ae, hl])
 rwa [<- S.jL] at this
theorem mo {w w' : World} {v : Value} (h : w.grownBy w' v.ownBlock) : Chg (fun k => v.ownBlock = some k) w w' := (Chg.refl _ _).grown h (fun _ _ e => e)
set_option maxHeartbeats 8000000 in
set_option maxRecDepth 10000 in
theorem zN (o : Ow) (d : S.Dk) (g f c p t : Nat) (rs : List (List UInt8)) (tv : Value) (bo : Option Addr) (n bc : Nat) (b : List UInt8) (w : World) (hL : uZ w o d g f c p t rs tv) (ht : t + 1 < 18446744073709551616)
  (hv : ∀ W, Chg (fun k => k = g \/ tv.ownBlock = some k) w W -> SliceAt W (.slice bo n bc) b) (hb : b ≠ []) (hfit : b.length <= S.room c - (S.enc rs).length - 3) :
  Calls Tryz.prog 60 #[.pointer (some ⟨g, 0, none⟩), .slice bo n bc] w (Gx d (S.commitActs d f c p t rs (rs ++ [b])) o g f c t rs (rs ++ [b]) tv w) := by
 have hok := hL.good.hd
 have h4 := hL.good.four
 have h8 := hL.good.most
 have hrl := S.room_le h8
 have hnb : n = b.length := by
  obtain ⟨_, _, _, hs, h2, _⟩ := (hv w (Chg.refl _ _)).form
  simp only [Value.slice.injEq] at hs
  omega
 have hpos : 0 < n := by rw [hnb]; exact List.length_pos_iff.2 hb
 have hel := S.fM rs b
 have hrm : (S.enc (rs ++ [b])).length <= S.room c := by omega
 have HL := hide hL
 have HOK := hide hok
 have HV := hide hv
 have HNB := hide hnb
 have HRM := hide hrm
 have HEL := hide hel
 obtain ⟨tao, tcp, htv⟩ := hL.lg.text.shape
 subst htv
 obtain ⟨N, hN⟩ : ∃ N, N = (S.enc rs).length := ⟨_, rfl⟩
 rw [<- hN] at HL HV ⊢
 have HN := hide hN
 have hN6 : N <= 982800 := by rw [hN]; omega
 have hn6 : n <= 982800 := by omega
 obtain ⟨R, hR⟩ : ∃ R, R = S.room c - (S.cZ t rs).used - 3 := ⟨_, rfl⟩
 have HR := hide hR
 have hnR : n <= R := by rw [hR, hnb]; exact hfit
 have q1 : ¬ (n : Int) = 0 := by omega
 have q1' : ((n : Int) == 0) = false := beq_false_of_ne q1
 have q2 : ¬ ((R : Int) < (n : Int)) := by omega
 have q2' : decide ((R : Int) < (n : Int)) = false := decide_eq_false q2
 obtain ⟨h, hh⟩ : ∃ h, h = S.cZ t rs := ⟨_, rfl⟩
 have HH := hide hh
 have hl0 : aS w g o.ptr f c h (.slice tao N tcp) true := by rw [hh]; exact HL.out.lg.row
 have HL0 := hide hl0
 have aY : Hid h.Ok := by rw [hh]; exact hok
 have K0 : Hid (¬ (Value.slice tao N tcp).ownBlock = some 1) := HL.out.tpos
 have HSLT : Hid (∀ k, (Value.slice tao N tcp).ownBlock = some k -> k < w.heap.size) := fun k hk => HL.out.lg.text.lt hk
 clear hL hok hv hb hfit hnb hrm hel hN hR hh hl0
 go_enter Tryz.func60, Tryz.ntmps60
 go_wp2_with fail
 refine (En o f c g h _ true w HL0.out aY.out h8 h4).mono ?_
 rintro e w1 ⟨rfl, b1⟩
 rw [HH.out, <- HR.out]
 have L1 := HL0.out.below b1 (aa HL0.out)
 have HL1 := hide L1
 have B1 := hide b1
 have c38 := L1.opened aY.out.sl
 clear L1 b1
 go_upto_region 7 with fail
 clear c38
 refine wp_region_noPanic ?_
 refine wp_region_held_drew (S := (fun _ => True)) follows trivial (fun hHeld => ?_)
 have B2 : Hid (Below w.heap.size w w1.drew) := B1.out.drew
 have l1 : aS w1.drew g o.ptr f c h (.slice tao N tcp) true := HL1.out
 clear HL1 B1
 generalize w1.drew = Z1 at B2 l1 hHeld ⊢
 refine tq 0 ?_
 simp only [uA]
 refine tq 1 ?_
 simp only [uA]
 refine tq 2 ?_
 simp only [uA]
 refine tq 3 ?_
 simp only [uA]
 refine tq 5 ?_
 simp only [uA]
 refine tq 8 ?_
 simp only [uA]
 refine rdy [4, 6] ?_
 refine AllReadyH.cons (o := ⟨_, _, _, _, _, _⟩) rfl (fun K hK => ?_) ?_
 focus
  have hA := hHeld
  have c37 := aS.text l1 aY.out.sl
  go_simp
  clear c37
  refine hK.out _ _ trivial (fun hHeld => ?_)
  clear hK K
  try simp only [uA]
  refine r1 6 fun K hK => ?_
  go_simp
  refine (nT bo n bc Z1 (by omega)).mono ?_
  rintro e Z2 ⟨gl, rfl, g2, r2, b2⟩
  have l2 : aS Z2 g o.ptr f c h (.slice tao N tcp) true := aS.below l1 b2 (aa l1)
  refine hK.out _ _ trivial (fun hHeld => ?_)
  clear hK K
  try simp only [uA]
  have U2 : Hid (dz Z2 (.slice tao N tcp) (S.enc rs)) := HL.out.lg.text.kept fun k hk => (b2.block k (by have := HSLT.out k hk; have := B2.out.size; omega)).trans (B2.out.block k (HSLT.out k hk))
  have R2 := hide r2
  have B3 : Hid (Below w.heap.size w Z2) := B2.out.trans (b2.mono B2.out.size)
  have HLen : Hid ((S.lenOf n).length = 3) := S.bO n
  clear r2 g2 b2 B2 l1
  refine rdy [7] ?_
  refine bK (o := ⟨_, _, _, _, _, _⟩) rfl rfl (.tmp 25) (.tmp 27) 22 22 rfl _ _ rfl rfl (bf Z2 _ _ (S.enc rs) (S.lenOf n) 22 U2.out (az R2.out HLen.out.symm (by rw [HLen.out]; omega)) (by rw [<- HN.out, HLen.out]; omega)) AllReadyH.nil ?_
  rintro v3 Z3 ⟨hu3, hg3, ho3⟩
  have c3 := mo hg3
  have l3 : aS Z3 g o.ptr f c h (.slice tao N tcp) true := aS.chg l2 c3 HL.out.lg.sep
  refine ⟨trivial, fun hHeld => ?_⟩
  try simp only [uA]
  have C3 : Hid (Chg (fun k => (Value.slice tao N tcp).ownBlock = some k) w Z3) := (Chg.ofBelow' B3.out).trans c3 (fun _ _ e => e)
  have U3 := hide hu3
  have O3 : Hid (∀ k, v3.ownBlock = some k -> (Value.slice tao N tcp).ownBlock = some k \/ w.heap.size <= k) := fun k hk => by
   rcases ho3 k hk with e | e
   ·exact Or.inl e
   ·exact Or.inr (ltr B3.out.size e)
  have SB3 := hide (HV.out Z3 (C3.out.mono fun k _ e => Or.inr e))
  obtain ⟨a3, c3', hv3⟩ := hu3.shape
  subst hv3
  obtain ⟨N3, hN3⟩ : ∃ N3, N3 = (S.enc rs ++ S.lenOf n).length := ⟨_, rfl⟩
  rw [<- hN3] at U3 O3 ⊢
  have FM : N3 = N + 3 := by rw [hN3, List.length_append, HLen.out, <- HN.out]
  have HN3 := hide FM
  clear hu3 hg3 ho3 c3 l2 U2 R2 B3 hN3 FM
  refine rdy [9] ?_
  refine bK (o := ⟨_, _, _, _, _, _⟩) rfl rfl (.tmp 28) (.tmp 29) 22 22 rfl _ _ rfl rfl (bf Z3 _ _ (S.enc rs ++ S.lenOf n) b 22 U3.out SB3.out (by rw [oO U3.out, HN3.out, <- HNB.out]; omega)) AllReadyH.nil ?_
  rintro v4 Z4 ⟨hu4, hg4, ho4⟩
  have c4 := mo hg4
  have l4 : aS Z4 g o.ptr f c h (.slice tao N tcp) true := aS.chg l3 c4 (fun e => by
   rcases O3.out g e with e | e
   ·exact HL.out.lg.sep e
   ·have := aa HL0.out; omega)
  refine ⟨trivial, fun hHeld => ?_⟩
  try simp only [uA]
  have C4 : Hid (Chg (fun k => (Value.slice tao N tcp).ownBlock = some k) w Z4) := C3.out.trans c4 (fun k hk e => by
   rcases O3.out k e with e | e
   ·exact e
   ·omega)
  have hEN : (S.enc rs ++ S.lenOf n ++ b) = S.enc (rs ++ [b]) := by rw [S.lG, <- HNB.out, List.append_assoc]
  rw [hEN] at hu4
  have U4 := hide hu4
  have O4 : Hid (∀ k, v4.ownBlock = some k -> (Value.slice tao N tcp).ownBlock = some k \/ w.heap.size <= k) := fun k hk => by
   rcases ho4 k hk with e | e
   ·exact O3.out k e
   ·exact Or.inr (ltr C3.out.size e)
  obtain ⟨a4, c4', hv4⟩ := hu4.shape
  subst hv4
  obtain ⟨N4, hN4⟩ : ∃ N4, N4 = (S.enc (rs ++ [b])).length := ⟨_, rfl⟩
  rw [<- hN4] at U4 O4 ⊢
  have HN4 := hide hN4
  have f37 := frozen_of_row _ _ 37 _ _ l4
  have c37 := aS.text l4 aY.out.sl
  have l5 := aS.setText l4 aY.out.sl (.slice a4 N4 c4')
  have c5 : Chg (fun k => k = g \/ (Value.slice tao N tcp).ownBlock = some k) w (Z4.setCell ⟨g, 37, none⟩ (.slice a4 N4 c4')) := (C4.out.mono fun k _ e => Or.inr e).setCell g 37 _ (fun _ => Or.inl rfl)
  have u5 : dz (Z4.setCell ⟨g, 37, none⟩ (.slice a4 N4 c4')) (.slice a4 N4 c4') (S.enc (rs ++ [b])) := U4.out.chg (p := fun k => k = g) (Chg.one g 37 _ rfl) (fun k hk e => by
   subst e
   rcases O4.out _ hk with e | e
   ·exact HL.out.lg.sep e
   ·have := aa HL0.out; omega)
  have C5 := hide c5
  have U5 := hide u5
  have L5 := hide l5
  clear hu4 hg4 ho4 c4 l4 l3 U3 O3 SB3 C3 hEN hN4 l5 c5 u5 U4 C4
  refine tq 10 ?_
  simp only [uA]
  refine tq 11 ?_
  simp only [uA]
  refine r1 12 fun K hK => ?_
  go_simp
  clear c37 f37
  refine hK.out _ _ trivial (fun hHeld => ?_)
  clear hK K
  try simp only [uA]
  refine wpAnyH_done (by kernel_rfl) ?_ _
  refine NoPanic.normal ?_
  clear hHeld
  generalize Z4.setCell ⟨g, 37, none⟩ (.slice a4 N4 c4') = Z5 at C5 U5 L5 ⊢
  go_upto_region 8 with fail
  refine wp_region_noPanic ?_
  refine wp_region_held_drew (S := (fun _ => True)) follows trivial (fun hHeld => ?_)
  have C6 : Hid (Chg (fun k => k = g \/ (Value.slice tao N tcp).ownBlock = some k) w Z5.drew) := C5.out.drew
  have U6 : Hid (dz Z5.drew (.slice a4 N4 c4') (S.enc (rs ++ [b]))) := U5.out.kept fun _ _ => rfl
  have L6 : Hid (aS Z5.drew g o.ptr f c h (.slice a4 N4 c4') true) := L5.out
  clear C5 U5 L5
  generalize Z5.drew = Z6 at C6 U6 L6 hHeld ⊢
  have SB6 := hide (HV.out Z6 C6.out)
  have D6 : Hid (Dsk Z6 o d) := ⟨HL.out.dk.dk.chg C6.out (fun k hk e => by rcases e with e | e; exact HL.out.no (e ▸ hk); exact HL.out.far k e hk), HL.out.dk.k.chg C6.out (fun e => by rcases e with e | e; have := HL.out.pos; omega; exact K0.out e), HL.out.dk.no⟩
  refine tq 0 ?_
  simp only [uA]
  refine tq 1 ?_
  simp only [uA]
  refine tq 2 ?_
  simp only [uA]
  refine tq 3 ?_
  simp only [uA]
  refine tq 5 ?_
  simp only [uA]
  refine tq 6 ?_
  simp only [uA]
  refine tq 7 ?_
  simp only [uA]
  refine tq 10 ?_
  simp only [uA]
  refine tq 11 ?_
  simp only [uA]
  refine tq 12 ?_
  simp only [uA]
  refine tq 13 ?_
  simp only [uA]
  refine tq 15 ?_
  simp only [uA]
  have FAR : Hid (∀ k, (Value.slice a4 N4 c4').ownBlock = some k -> ¬ o.has k /\ k ≠ g) := fun k hk => by
   rcases O4.out k hk with e | e
   ·exact ⟨HL.out.far k e, fun e2 => HL.out.lg.sep (e2 ▸ e)⟩
   ·exact ⟨fun e2 => by have := HL.out.dk.dk.lt k e2; omega, by have := aa HL0.out; omega⟩
  refine rdy [4, 8, 14] ?_
  refine aB (o := ⟨_, _, _, _, _, _⟩) rfl rfl 186 (.tmp 36) rfl (hdv h) (L6.out.loadHead aY.out.sl) ?_ ⟨trivial, fun hHeld => ?_⟩
  rotate_left
  focus
   try simp only [uA]
   refine rdy [8, 14] ?_
   refine AllReadyH.cons (o := ⟨_, _, _, _, _, _⟩) rfl (fun K hK => ?_) ?_
   focus
    have c37 := L6.out.text aY.out.sl
    go_simp
    clear c37
    refine hK.out _ _ trivial (fun hHeld => ?_)
    clear hK K
    try simp only [uA]
    refine tq 9 ?_
    simp only [uA]
    refine rdy [14] ?_
    refine aB (o := ⟨_, _, _, _, _, _⟩) rfl rfl 184 (.tmp 46) rfl (.agg (S.v8 h.sl)) (L6.out.loadSeal aY.out.sl) AllReadyH.nil ⟨trivial, fun hHeld => ?_⟩
    try simp only [uA]
    refine r1 16 fun K hK => ?_
    go_simp
    refine (aM h.sl _ b Z6 aY.out.sl SB6.out (by rw [<- HNB.out]; omega) D6.out.k).mono ?_
    rintro e Z7 ⟨rfl, b7⟩
    refine hK.out _ _ trivial (fun hHeld => ?_)
    clear hK K
    try simp only [uA]
    have B7 := hide b7
    have L7 := hide (L6.out.below b7 (aa L6.out))
    clear b7
   rotate_left
   focus
    refine aB (o := ⟨_, _, _, _, _, _⟩) rfl rfl 184 (.tmp 46) rfl (.agg (S.v8 h.sl)) (L6.out.loadSeal aY.out.sl) AllReadyH.nil ⟨trivial, fun hHeld => ?_⟩
    try simp only [uA]
    refine rdy [8, 16] ?_
    refine AllReadyH.cons (o := ⟨_, _, _, _, _, _⟩) rfl (fun K hK => ?_) ?_
    focus
     have c37 := L6.out.text aY.out.sl
     go_simp
     clear c37
     refine hK.out _ _ trivial (fun hHeld => ?_)
     clear hK K
     try simp only [uA]
     refine tq 9 ?_
     simp only [uA]
     refine r1 16 fun K hK => ?_
     go_simp
     refine (aM h.sl _ b Z6 aY.out.sl SB6.out (by rw [<- HNB.out]; omega) D6.out.k).mono ?_
     rintro e Z7 ⟨rfl, b7⟩
     refine hK.out _ _ trivial (fun hHeld => ?_)
     clear hK K
     try simp only [uA]
     have B7 := hide b7
     have L7 := hide (L6.out.below b7 (aa L6.out))
     clear b7
    rotate_left
    focus
     refine c1 fun K hK => ?_
     go_simp
     refine (aM h.sl _ b Z6 aY.out.sl SB6.out (by rw [<- HNB.out]; omega) D6.out.k).mono ?_
     rintro e Z7 ⟨rfl, b7⟩
     refine hK.out _ _ trivial (fun hHeld => ?_)
     clear hK K
     try simp only [uA]
     have B7 := hide b7
     have L7 := hide (L6.out.below b7 (aa L6.out))
     clear b7
     refine r1 8 fun K hK => ?_
     have c37 := L7.out.text aY.out.sl
     go_simp
     clear c37
     refine hK.out _ _ trivial (fun hHeld => ?_)
     clear hK K
     try simp only [uA]
     refine tq 9 ?_
     simp only [uA]
  rotate_left 3
  focus
   refine AllReadyH.cons (o := ⟨_, _, _, _, _, _⟩) rfl (fun K hK => ?_) ?_
   focus
    have c37 := L6.out.text aY.out.sl
    go_simp
    clear c37
    refine hK.out _ _ trivial (fun hHeld => ?_)
    clear hK K
    try simp only [uA]
    refine tq 9 ?_
    simp only [uA]
    refine rdy [4, 14] ?_
    refine aB (o := ⟨_, _, _, _, _, _⟩) rfl rfl 186 (.tmp 36) rfl (hdv h) (L6.out.loadHead aY.out.sl) ?_ ⟨trivial, fun hHeld => ?_⟩
    rotate_left
    focus
     try simp only [uA]
     refine rdy [14] ?_
     refine aB (o := ⟨_, _, _, _, _, _⟩) rfl rfl 184 (.tmp 46) rfl (.agg (S.v8 h.sl)) (L6.out.loadSeal aY.out.sl) AllReadyH.nil ⟨trivial, fun hHeld => ?_⟩
     try simp only [uA]
     refine r1 16 fun K hK => ?_
     go_simp
     refine (aM h.sl _ b Z6 aY.out.sl SB6.out (by rw [<- HNB.out]; omega) D6.out.k).mono ?_
     rintro e Z7 ⟨rfl, b7⟩
     refine hK.out _ _ trivial (fun hHeld => ?_)
     clear hK K
     try simp only [uA]
     have B7 := hide b7
     have L7 := hide (L6.out.below b7 (aa L6.out))
     clear b7
    rotate_left
    focus
     refine aB (o := ⟨_, _, _, _, _, _⟩) rfl rfl 184 (.tmp 46) rfl (.agg (S.v8 h.sl)) (L6.out.loadSeal aY.out.sl) AllReadyH.nil ⟨trivial, fun hHeld => ?_⟩
     try simp only [uA]
     refine rdy [4, 16] ?_
     refine aB (o := ⟨_, _, _, _, _, _⟩) rfl rfl 186 (.tmp 36) rfl (hdv h) (L6.out.loadHead aY.out.sl) ?_ ⟨trivial, fun hHeld => ?_⟩
     rotate_left
     focus
      try simp only [uA]
      refine r1 16 fun K hK => ?_
      go_simp
      refine (aM h.sl _ b Z6 aY.out.sl SB6.out (by rw [<- HNB.out]; omega) D6.out.k).mono ?_
      rintro e Z7 ⟨rfl, b7⟩
      refine hK.out _ _ trivial (fun hHeld => ?_)
      clear hK K
      try simp only [uA]
      have B7 := hide b7
      have L7 := hide (L6.out.below b7 (aa L6.out))
      clear b7
     rotate_left
     focus
      refine c1 fun K hK => ?_
      go_simp
      refine (aM h.sl _ b Z6 aY.out.sl SB6.out (by rw [<- HNB.out]; omega) D6.out.k).mono ?_
      rintro e Z7 ⟨rfl, b7⟩
      refine hK.out _ _ trivial (fun hHeld => ?_)
      clear hK K
      try simp only [uA]
      have B7 := hide b7
      have L7 := hide (L6.out.below b7 (aa L6.out))
      clear b7
      refine rdy [4] ?_
      refine aB (o := ⟨_, _, _, _, _, _⟩) rfl rfl 186 (.tmp 36) rfl (hdv h) (L7.out.loadHead aY.out.sl) AllReadyH.nil ⟨trivial, fun hHeld => ?_⟩
      try simp only [uA]
   rotate_left 3
   focus
    refine aB (o := ⟨_, _, _, _, _, _⟩) rfl rfl 184 (.tmp 46) rfl (.agg (S.v8 h.sl)) (L6.out.loadSeal aY.out.sl) AllReadyH.nil ⟨trivial, fun hHeld => ?_⟩
    try simp only [uA]
    refine rdy [4, 8, 16] ?_
    refine aB (o := ⟨_, _, _, _, _, _⟩) rfl rfl 186 (.tmp 36) rfl (hdv h) (L6.out.loadHead aY.out.sl) ?_ ⟨trivial, fun hHeld => ?_⟩
    rotate_left
    focus
     try simp only [uA]
     refine rdy [8, 16] ?_
     refine AllReadyH.cons (o := ⟨_, _, _, _, _, _⟩) rfl (fun K hK => ?_) ?_
     focus
      have c37 := L6.out.text aY.out.sl
      go_simp
      clear c37
      refine hK.out _ _ trivial (fun hHeld => ?_)
      clear hK K
      try simp only [uA]
      refine tq 9 ?_
      simp only [uA]
      refine r1 16 fun K hK => ?_
      go_simp
      refine (aM h.sl _ b Z6 aY.out.sl SB6.out (by rw [<- HNB.out]; omega) D6.out.k).mono ?_
      rintro e Z7 ⟨rfl, b7⟩
      refine hK.out _ _ trivial (fun hHeld => ?_)
      clear hK K
      try simp only [uA]
      have B7 := hide b7
      have L7 := hide (L6.out.below b7 (aa L6.out))
      clear b7
     rotate_left
     focus
      refine c1 fun K hK => ?_
      go_simp
      refine (aM h.sl _ b Z6 aY.out.sl SB6.out (by rw [<- HNB.out]; omega) D6.out.k).mono ?_
      rintro e Z7 ⟨rfl, b7⟩
      refine hK.out _ _ trivial (fun hHeld => ?_)
      clear hK K
      try simp only [uA]
      have B7 := hide b7
      have L7 := hide (L6.out.below b7 (aa L6.out))
      clear b7
      refine r1 8 fun K hK => ?_
      have c37 := L7.out.text aY.out.sl
      go_simp
      clear c37
      refine hK.out _ _ trivial (fun hHeld => ?_)
      clear hK K
      try simp only [uA]
      refine tq 9 ?_
      simp only [uA]
    rotate_left 2
    focus
     refine AllReadyH.cons (o := ⟨_, _, _, _, _, _⟩) rfl (fun K hK => ?_) ?_
     focus
      have c37 := L6.out.text aY.out.sl
      go_simp
      clear c37
      refine hK.out _ _ trivial (fun hHeld => ?_)
      clear hK K
      try simp only [uA]
      refine tq 9 ?_
      simp only [uA]
      refine rdy [4, 16] ?_
      refine aB (o := ⟨_, _, _, _, _, _⟩) rfl rfl 186 (.tmp 36) rfl (hdv h) (L6.out.loadHead aY.out.sl) ?_ ⟨trivial, fun hHeld => ?_⟩
      rotate_left
      focus
       try simp only [uA]
       refine r1 16 fun K hK => ?_
       go_simp
       refine (aM h.sl _ b Z6 aY.out.sl SB6.out (by rw [<- HNB.out]; omega) D6.out.k).mono ?_
       rintro e Z7 ⟨rfl, b7⟩
       refine hK.out _ _ trivial (fun hHeld => ?_)
       clear hK K
       try simp only [uA]
       have B7 := hide b7
       have L7 := hide (L6.out.below b7 (aa L6.out))
       clear b7
      rotate_left
      focus
       refine c1 fun K hK => ?_
       go_simp
       refine (aM h.sl _ b Z6 aY.out.sl SB6.out (by rw [<- HNB.out]; omega) D6.out.k).mono ?_
       rintro e Z7 ⟨rfl, b7⟩
       refine hK.out _ _ trivial (fun hHeld => ?_)
       clear hK K
       try simp only [uA]
       have B7 := hide b7
       have L7 := hide (L6.out.below b7 (aa L6.out))
       clear b7
       refine rdy [4] ?_
       refine aB (o := ⟨_, _, _, _, _, _⟩) rfl rfl 186 (.tmp 36) rfl (hdv h) (L7.out.loadHead aY.out.sl) AllReadyH.nil ⟨trivial, fun hHeld => ?_⟩
       try simp only [uA]
     rotate_left 2
     focus
      refine c1 fun K hK => ?_
      go_simp
      refine (aM h.sl _ b Z6 aY.out.sl SB6.out (by rw [<- HNB.out]; omega) D6.out.k).mono ?_
      rintro e Z7 ⟨rfl, b7⟩
      refine hK.out _ _ trivial (fun hHeld => ?_)
      clear hK K
      try simp only [uA]
      have B7 := hide b7
      have L7 := hide (L6.out.below b7 (aa L6.out))
      clear b7
      refine rdy [4, 8] ?_
      refine aB (o := ⟨_, _, _, _, _, _⟩) rfl rfl 186 (.tmp 36) rfl (hdv h) (L7.out.loadHead aY.out.sl) ?_ ⟨trivial, fun hHeld => ?_⟩
      rotate_left
      focus
       try simp only [uA]
       refine r1 8 fun K hK => ?_
       have c37 := L7.out.text aY.out.sl
       go_simp
       clear c37
       refine hK.out _ _ trivial (fun hHeld => ?_)
       clear hK K
       try simp only [uA]
       refine tq 9 ?_
       simp only [uA]
      rotate_left
      focus
       refine c1 fun K hK => ?_
       have c37 := L7.out.text aY.out.sl
       go_simp
       clear c37
       refine hK.out _ _ trivial (fun hHeld => ?_)
       clear hK K
       try simp only [uA]
       refine tq 9 ?_
       simp only [uA]
       refine rdy [4] ?_
       refine aB (o := ⟨_, _, _, _, _, _⟩) rfl rfl 186 (.tmp 36) rfl (hdv h) (L7.out.loadHead aY.out.sl) AllReadyH.nil ⟨trivial, fun hHeld => ?_⟩
       try simp only [uA]
 rotate_left 12
 focus
  refine c1 fun K hK => ?_
  go_simp
  refine (nT bo n bc Z1 (by omega)).mono ?_
  rintro e Z2 ⟨gl, rfl, g2, r2, b2⟩
  have l2 : aS Z2 g o.ptr f c h (.slice tao N tcp) true := aS.below l1 b2 (aa l1)
  refine hK.out _ _ trivial (fun hHeld => ?_)
  clear hK K
  try simp only [uA]
  have U2 : Hid (dz Z2 (.slice tao N tcp) (S.enc rs)) := HL.out.lg.text.kept fun k hk => (b2.block k (by have := HSLT.out k hk; have := B2.out.size; omega)).trans (B2.out.block k (HSLT.out k hk))
  have R2 := hide r2
  have B3 : Hid (Below w.heap.size w Z2) := B2.out.trans (b2.mono B2.out.size)
  have HLen : Hid ((S.lenOf n).length = 3) := S.bO n
  clear r2 g2 b2 B2 l1
  refine r1 4 fun K hK => ?_
  have c37 := aS.text l2 aY.out.sl
  go_simp
  clear c37
  refine hK.out _ _ trivial (fun hHeld => ?_)
  clear hK K
  try simp only [uA]
  refine rdy [7] ?_
  refine bK (o := ⟨_, _, _, _, _, _⟩) rfl rfl (.tmp 25) (.tmp 27) 22 22 rfl _ _ rfl rfl (bf Z2 _ _ (S.enc rs) (S.lenOf n) 22 U2.out (az R2.out HLen.out.symm (by rw [HLen.out]; omega)) (by rw [<- HN.out, HLen.out]; omega)) AllReadyH.nil ?_
  rintro v3 Z3 ⟨hu3, hg3, ho3⟩
  have c3 := mo hg3
  have l3 : aS Z3 g o.ptr f c h (.slice tao N tcp) true := aS.chg l2 c3 HL.out.lg.sep
  refine ⟨trivial, fun hHeld => ?_⟩
  try simp only [uA]
  have C3 : Hid (Chg (fun k => (Value.slice tao N tcp).ownBlock = some k) w Z3) := (Chg.ofBelow' B3.out).trans c3 (fun _ _ e => e)
  have U3 := hide hu3
  have O3 : Hid (∀ k, v3.ownBlock = some k -> (Value.slice tao N tcp).ownBlock = some k \/ w.heap.size <= k) := fun k hk => by
   rcases ho3 k hk with e | e
   ·exact Or.inl e
   ·exact Or.inr (ltr B3.out.size e)
  have SB3 := hide (HV.out Z3 (C3.out.mono fun k _ e => Or.inr e))
  obtain ⟨a3, c3', hv3⟩ := hu3.shape
  subst hv3
  obtain ⟨N3, hN3⟩ : ∃ N3, N3 = (S.enc rs ++ S.lenOf n).length := ⟨_, rfl⟩
  rw [<- hN3] at U3 O3 ⊢
  have FM : N3 = N + 3 := by rw [hN3, List.length_append, HLen.out, <- HN.out]
  have HN3 := hide FM
  clear hu3 hg3 ho3 c3 l2 U2 R2 B3 hN3 FM
  refine rdy [9] ?_
  refine bK (o := ⟨_, _, _, _, _, _⟩) rfl rfl (.tmp 28) (.tmp 29) 22 22 rfl _ _ rfl rfl (bf Z3 _ _ (S.enc rs ++ S.lenOf n) b 22 U3.out SB3.out (by rw [oO U3.out, HN3.out, <- HNB.out]; omega)) AllReadyH.nil ?_
  rintro v4 Z4 ⟨hu4, hg4, ho4⟩
  have c4 := mo hg4
  have l4 : aS Z4 g o.ptr f c h (.slice tao N tcp) true := aS.chg l3 c4 (fun e => by
   rcases O3.out g e with e | e
   ·exact HL.out.lg.sep e
   ·have := aa HL0.out; omega)
  refine ⟨trivial, fun hHeld => ?_⟩
  try simp only [uA]
  have C4 : Hid (Chg (fun k => (Value.slice tao N tcp).ownBlock = some k) w Z4) := C3.out.trans c4 (fun k hk e => by
   rcases O3.out k e with e | e
   ·exact e
   ·omega)
  have hEN : (S.enc rs ++ S.lenOf n ++ b) = S.enc (rs ++ [b]) := by rw [S.lG, <- HNB.out, List.append_assoc]
  rw [hEN] at hu4
  have U4 := hide hu4
  have O4 : Hid (∀ k, v4.ownBlock = some k -> (Value.slice tao N tcp).ownBlock = some k \/ w.heap.size <= k) := fun k hk => by
   rcases ho4 k hk with e | e
   ·exact O3.out k e
   ·exact Or.inr (ltr C3.out.size e)
  obtain ⟨a4, c4', hv4⟩ := hu4.shape
  subst hv4
  obtain ⟨N4, hN4⟩ : ∃ N4, N4 = (S.enc (rs ++ [b])).length := ⟨_, rfl⟩
  rw [<- hN4] at U4 O4 ⊢
  have HN4 := hide hN4
  have f37 := frozen_of_row _ _ 37 _ _ l4
  have c37 := aS.text l4 aY.out.sl
  have l5 := aS.setText l4 aY.out.sl (.slice a4 N4 c4')
  have c5 : Chg (fun k => k = g \/ (Value.slice tao N tcp).ownBlock = some k) w (Z4.setCell ⟨g, 37, none⟩ (.slice a4 N4 c4')) := (C4.out.mono fun k _ e => Or.inr e).setCell g 37 _ (fun _ => Or.inl rfl)
  have u5 : dz (Z4.setCell ⟨g, 37, none⟩ (.slice a4 N4 c4')) (.slice a4 N4 c4') (S.enc (rs ++ [b])) := U4.out.chg (p := fun k => k = g) (Chg.one g 37 _ rfl) (fun k hk e => by
   subst e
   rcases O4.out _ hk with e | e
   ·exact HL.out.lg.sep e
   ·have := aa HL0.out; omega)
  have C5 := hide c5
  have U5 := hide u5
  have L5 := hide l5
  clear hu4 hg4 ho4 c4 l4 l3 U3 O3 SB3 C3 hEN hN4 l5 c5 u5 U4 C4
  refine tq 10 ?_
  simp only [uA]
  refine tq 11 ?_
  simp only [uA]
  refine r1 12 fun K hK => ?_
  go_simp
  clear c37 f37
  refine hK.out _ _ trivial (fun hHeld => ?_)
  clear hK K
  try simp only [uA]
  refine wpAnyH_done (by kernel_rfl) ?_ _
  refine NoPanic.normal ?_
  clear hHeld
  generalize Z4.setCell ⟨g, 37, none⟩ (.slice a4 N4 c4') = Z5 at C5 U5 L5 ⊢
  go_upto_region 8 with fail
  refine wp_region_noPanic ?_
  refine wp_region_held_drew (S := (fun _ => True)) follows trivial (fun hHeld => ?_)
  have C6 : Hid (Chg (fun k => k = g \/ (Value.slice tao N tcp).ownBlock = some k) w Z5.drew) := C5.out.drew
  have U6 : Hid (dz Z5.drew (.slice a4 N4 c4') (S.enc (rs ++ [b]))) := U5.out.kept fun _ _ => rfl
  have L6 : Hid (aS Z5.drew g o.ptr f c h (.slice a4 N4 c4') true) := L5.out
  clear C5 U5 L5
  generalize Z5.drew = Z6 at C6 U6 L6 hHeld ⊢
  have SB6 := hide (HV.out Z6 C6.out)
  have D6 : Hid (Dsk Z6 o d) := ⟨HL.out.dk.dk.chg C6.out (fun k hk e => by rcases e with e | e; exact HL.out.no (e ▸ hk); exact HL.out.far k e hk), HL.out.dk.k.chg C6.out (fun e => by rcases e with e | e; have := HL.out.pos; omega; exact K0.out e), HL.out.dk.no⟩
  refine tq 0 ?_
  simp only [uA]
  refine tq 1 ?_
  simp only [uA]
  refine tq 2 ?_
  simp only [uA]
  refine tq 3 ?_
  simp only [uA]
  refine tq 5 ?_
  simp only [uA]
  refine tq 6 ?_
  simp only [uA]
  refine tq 7 ?_
  simp only [uA]
  refine tq 10 ?_
  simp only [uA]
  refine tq 11 ?_
  simp only [uA]
  refine tq 12 ?_
  simp only [uA]
  refine tq 13 ?_
  simp only [uA]
  refine tq 15 ?_
  simp only [uA]
  have FAR : Hid (∀ k, (Value.slice a4 N4 c4').ownBlock = some k -> ¬ o.has k /\ k ≠ g) := fun k hk => by
   rcases O4.out k hk with e | e
   ·exact ⟨HL.out.far k e, fun e2 => HL.out.lg.sep (e2 ▸ e)⟩
   ·exact ⟨fun e2 => by have := HL.out.dk.dk.lt k e2; omega, by have := aa HL0.out; omega⟩
  refine rdy [4, 8, 14] ?_
  refine aB (o := ⟨_, _, _, _, _, _⟩) rfl rfl 186 (.tmp 36) rfl (hdv h) (L6.out.loadHead aY.out.sl) ?_ ⟨trivial, fun hHeld => ?_⟩
  rotate_left
  focus
   try simp only [uA]
   refine rdy [8, 14] ?_
   refine AllReadyH.cons (o := ⟨_, _, _, _, _, _⟩) rfl (fun K hK => ?_) ?_
   focus
    have c37 := L6.out.text aY.out.sl
    go_simp
    clear c37
    refine hK.out _ _ trivial (fun hHeld => ?_)
    clear hK K
    try simp only [uA]
    refine tq 9 ?_
    simp only [uA]
    refine rdy [14] ?_
    refine aB (o := ⟨_, _, _, _, _, _⟩) rfl rfl 184 (.tmp 46) rfl (.agg (S.v8 h.sl)) (L6.out.loadSeal aY.out.sl) AllReadyH.nil ⟨trivial, fun hHeld => ?_⟩
    try simp only [uA]
    refine r1 16 fun K hK => ?_
    go_simp
    refine (aM h.sl _ b Z6 aY.out.sl SB6.out (by rw [<- HNB.out]; omega) D6.out.k).mono ?_
    rintro e Z7 ⟨rfl, b7⟩
    refine hK.out _ _ trivial (fun hHeld => ?_)
    clear hK K
    try simp only [uA]
    have B7 := hide b7
    have L7 := hide (L6.out.below b7 (aa L6.out))
    clear b7
   rotate_left
   focus
    refine aB (o := ⟨_, _, _, _, _, _⟩) rfl rfl 184 (.tmp 46) rfl (.agg (S.v8 h.sl)) (L6.out.loadSeal aY.out.sl) AllReadyH.nil ⟨trivial, fun hHeld => ?_⟩
    try simp only [uA]
    refine rdy [8, 16] ?_
    refine AllReadyH.cons (o := ⟨_, _, _, _, _, _⟩) rfl (fun K hK => ?_) ?_
    focus
     have c37 := L6.out.text aY.out.sl
     go_simp
     clear c37
     refine hK.out _ _ trivial (fun hHeld => ?_)
     clear hK K
     try simp only [uA]
     refine tq 9 ?_
     simp only [uA]
     refine r1 16 fun K hK => ?_
     go_simp
     refine (aM h.sl _ b Z6 aY.out.sl SB6.out (by rw [<- HNB.out]; omega) D6.out.k).mono ?_
     rintro e Z7 ⟨rfl, b7⟩
     refine hK.out _ _ trivial (fun hHeld => ?_)
     clear hK K
     try simp only [uA]
     have B7 := hide b7
     have L7 := hide (L6.out.below b7 (aa L6.out))
     clear b7
    rotate_left
    focus
     refine c1 fun K hK => ?_
     go_simp
     refine (aM h.sl _ b Z6 aY.out.sl SB6.out (by rw [<- HNB.out]; omega) D6.out.k).mono ?_
     rintro e Z7 ⟨rfl, b7⟩
     refine hK.out _ _ trivial (fun hHeld => ?_)
     clear hK K
     try simp only [uA]
     have B7 := hide b7
     have L7 := hide (L6.out.below b7 (aa L6.out))
     clear b7
     refine r1 8 fun K hK => ?_
     have c37 := L7.out.text aY.out.sl
     go_simp
     clear c37
     refine hK.out _ _ trivial (fun hHeld => ?_)
     clear hK K
     try simp only [uA]
     refine tq 9 ?_
     simp only [uA]
  rotate_left 3
  focus
   refine AllReadyH.cons (o := ⟨_, _, _, _, _, _⟩) rfl (fun K hK => ?_) ?_
   focus
    have c37 := L6.out.text aY.out.sl
    go_simp
    clear c37
    refine hK.out _ _ trivial (fun hHeld => ?_)
    clear hK K
    try simp only [uA]
    refine tq 9 ?_
    simp only [uA]
    refine rdy [4, 14] ?_
    refine aB (o := ⟨_, _, _, _, _, _⟩) rfl rfl 186 (.tmp 36) rfl (hdv h) (L6.out.loadHead aY.out.sl) ?_ ⟨trivial, fun hHeld => ?_⟩
    rotate_left
    focus
     try simp only [uA]
     refine rdy [14] ?_
     refine aB (o := ⟨_, _, _, _, _, _⟩) rfl rfl 184 (.tmp 46) rfl (.agg (S.v8 h.sl)) (L6.out.loadSeal aY.out.sl) AllReadyH.nil ⟨trivial, fun hHeld => ?_⟩
     try simp only [uA]
     refine r1 16 fun K hK => ?_
     go_simp
     refine (aM h.sl _ b Z6 aY.out.sl SB6.out (by rw [<- HNB.out]; omega) D6.out.k).mono ?_
     rintro e Z7 ⟨rfl, b7⟩
     refine hK.out _ _ trivial (fun hHeld => ?_)
     clear hK K
     try simp only [uA]
     have B7 := hide b7
     have L7 := hide (L6.out.below b7 (aa L6.out))
     clear b7
    rotate_left
    focus
     refine aB (o := ⟨_, _, _, _, _, _⟩) rfl rfl 184 (.tmp 46) rfl (.agg (S.v8 h.sl)) (L6.out.loadSeal aY.out.sl) AllReadyH.nil ⟨trivial, fun hHeld => ?_⟩
     try simp only [uA]
     refine rdy [4, 16] ?_
     refine aB (o := ⟨_, _, _, _, _, _⟩) rfl rfl 186 (.tmp 36) rfl (hdv h) (L6.out.loadHead aY.out.sl) ?_ ⟨trivial, fun hHeld => ?_⟩
     rotate_left
     focus
      try simp only [uA]
      refine r1 16 fun K hK => ?_
      go_simp
      refine (aM h.sl _ b Z6 aY.out.sl SB6.out (by rw [<- HNB.out]; omega) D6.out.k).mono ?_
      rintro e Z7 ⟨rfl, b7⟩
      refine hK.out _ _ trivial (fun hHeld => ?_)
      clear hK K
      try simp only [uA]
      have B7 := hide b7
      have L7 := hide (L6.out.below b7 (aa L6.out))
      clear b7
     rotate_left
     focus
      refine c1 fun K hK => ?_
      go_simp
      refine (aM h.sl _ b Z6 aY.out.sl SB6.out (by rw [<- HNB.out]; omega) D6.out.k).mono ?_
      rintro e Z7 ⟨rfl, b7⟩
      refine hK.out _ _ trivial (fun hHeld => ?_)
      clear hK K
      try simp only [uA]
      have B7 := hide b7
      have L7 := hide (L6.out.below b7 (aa L6.out))
      clear b7
      refine rdy [4] ?_
      refine aB (o := ⟨_, _, _, _, _, _⟩) rfl rfl 186 (.tmp 36) rfl (hdv h) (L7.out.loadHead aY.out.sl) AllReadyH.nil ⟨trivial, fun hHeld => ?_⟩
      try simp only [uA]
   rotate_left 3
   focus
    refine aB (o := ⟨_, _, _, _, _, _⟩) rfl rfl 184 (.tmp 46) rfl (.agg (S.v8 h.sl)) (L6.out.loadSeal aY.out.sl) AllReadyH.nil ⟨trivial, fun hHeld => ?_⟩
    try simp only [uA]
    refine rdy [4, 8, 16] ?_
    refine aB (o := ⟨_, _, _, _, _, _⟩) rfl rfl 186 (.tmp 36) rfl (hdv h) (L6.out.loadHead aY.out.sl) ?_ ⟨trivial, fun hHeld => ?_⟩
    rotate_left
    focus
     try simp only [uA]
     refine rdy [8, 16] ?_
     refine AllReadyH.cons (o := ⟨_, _, _, _, _, _⟩) rfl (fun K hK => ?_) ?_
     focus
      have c37 := L6.out.text aY.out.sl
      go_simp
      clear c37
      refine hK.out _ _ trivial (fun hHeld => ?_)
      clear hK K
      try simp only [uA]
      refine tq 9 ?_
      simp only [uA]
      refine r1 16 fun K hK => ?_
      go_simp
      refine (aM h.sl _ b Z6 aY.out.sl SB6.out (by rw [<- HNB.out]; omega) D6.out.k).mono ?_
      rintro e Z7 ⟨rfl, b7⟩
      refine hK.out _ _ trivial (fun hHeld => ?_)
      clear hK K
      try simp only [uA]
      have B7 := hide b7
      have L7 := hide (L6.out.below b7 (aa L6.out))
      clear b7
     rotate_left
     focus
      refine c1 fun K hK => ?_
      go_simp
      refine (aM h.sl _ b Z6 aY.out.sl SB6.out (by rw [<- HNB.out]; omega) D6.out.k).mono ?_
      rintro e Z7 ⟨rfl, b7⟩
      refine hK.out _ _ trivial (fun hHeld => ?_)
      clear hK K
      try simp only [uA]
      have B7 := hide b7
      have L7 := hide (L6.out.below b7 (aa L6.out))
      clear b7
      refine r1 8 fun K hK => ?_
      have c37 := L7.out.text aY.out.sl
      go_simp
      clear c37
      refine hK.out _ _ trivial (fun hHeld => ?_)
      clear hK K
      try simp only [uA]
      refine tq 9 ?_
      simp only [uA]
    rotate_left 2
    focus
     refine AllReadyH.cons (o := ⟨_, _, _, _, _, _⟩) rfl (fun K hK => ?_) ?_
     focus
      have c37 := L6.out.text aY.out.sl
      go_simp
      clear c37
      refine hK.out _ _ trivial (fun hHeld => ?_)
      clear hK K
      try simp only [uA]
      refine tq 9 ?_
      simp only [uA]
      refine rdy [4, 16] ?_
      refine aB (o := ⟨_, _, _, _, _, _⟩) rfl rfl 186 (.tmp 36) rfl (hdv h) (L6.out.loadHead aY.out.sl) ?_ ⟨trivial, fun hHeld => ?_⟩
      rotate_left
      focus
       try simp only [uA]
       refine r1 16 fun K hK => ?_
       go_simp
       refine (aM h.sl _ b Z6 aY.out.sl SB6.out (by rw [<- HNB.out]; omega) D6.out.k).mono ?_
       rintro e Z7 ⟨rfl, b7⟩
       refine hK.out _ _ trivial (fun hHeld => ?_)
       clear hK K
       try simp only [uA]
       have B7 := hide b7
       have L7 := hide (L6.out.below b7 (aa L6.out))
       clear b7
      rotate_left
      focus
       refine c1 fun K hK => ?_
       go_simp
       refine (aM h.sl _ b Z6 aY.out.sl SB6.out (by rw [<- HNB.out]; omega) D6.out.k).mono ?_
       rintro e Z7 ⟨rfl, b7⟩
       refine hK.out _ _ trivial (fun hHeld => ?_)
       clear hK K
       try simp only [uA]
       have B7 := hide b7
       have L7 := hide (L6.out.below b7 (aa L6.out))
       clear b7
       refine rdy [4] ?_
       refine aB (o := ⟨_, _, _, _, _, _⟩) rfl rfl 186 (.tmp 36) rfl (hdv h) (L7.out.loadHead aY.out.sl) AllReadyH.nil ⟨trivial, fun hHeld => ?_⟩
       try simp only [uA]
     rotate_left 2
     focus
      refine c1 fun K hK => ?_
      go_simp
      refine (aM h.sl _ b Z6 aY.out.sl SB6.out (by rw [<- HNB.out]; omega) D6.out.k).mono ?_
      rintro e Z7 ⟨rfl, b7⟩
      refine hK.out _ _ trivial (fun hHeld => ?_)
      clear hK K
      try simp only [uA]
      have B7 := hide b7
      have L7 := hide (L6.out.below b7 (aa L6.out))
      clear b7
      refine rdy [4, 8] ?_
      refine aB (o := ⟨_, _, _, _, _, _⟩) rfl rfl 186 (.tmp 36) rfl (hdv h) (L7.out.loadHead aY.out.sl) ?_ ⟨trivial, fun hHeld => ?_⟩
      rotate_left
      focus
       try simp only [uA]
       refine r1 8 fun K hK => ?_
       have c37 := L7.out.text aY.out.sl
       go_simp
       clear c37
       refine hK.out _ _ trivial (fun hHeld => ?_)
       clear hK K
       try simp only [uA]
       refine tq 9 ?_
       simp only [uA]
      rotate_left
      focus
       refine c1 fun K hK => ?_
       have c37 := L7.out.text aY.out.sl
       go_simp
       clear c37
       refine hK.out _ _ trivial (fun hHeld => ?_)
       clear hK K
       try simp only [uA]
       refine tq 9 ?_
       simp only [uA]
       refine rdy [4] ?_
       refine aB (o := ⟨_, _, _, _, _, _⟩) rfl rfl 186 (.tmp 36) rfl (hdv h) (L7.out.loadHead aY.out.sl) AllReadyH.nil ⟨trivial, fun hHeld => ?_⟩
       try simp only [uA]
 all_goals
  refine r1 17 fun K hK => ?_
  go_simp
  refine (xL h N4 (S.sum (h.sl ++ b)) Z7 (by rw [HH.out]; exact ht) (S.sum_length _)).mono ?_
  rintro e Z8 ⟨rfl, b8⟩
  refine hK.out _ _ trivial (fun hHeld => ?_)
  clear hK K
  try simp only [uA]
  have eh : (⟨h.turn + 1, N4, S.sum (h.sl ++ b)⟩ : S.Hd) = S.cZ (t + 1) (rs ++ [b]) := by rw [HH.out, HN4.out]; show S.Hd.mk (t + 1) _ (S.sum (S.dY rs ++ b)) = S.Hd.mk (t + 1) _ (S.dY (rs ++ [b])); rw [S.oW]
  rw [eh]
  have b68 : Below Z6.heap.size Z6 Z8 := B7.out.trans (b8.mono B7.out.size)
  have C8 : Hid (Chg (fun k => k = g \/ (Value.slice tao N tcp).ownBlock = some k) w Z8) := C6.out.trans (Chg.ofBelow' (p := fun _ => False) b68) (fun _ _ e => e.elim)
  have U8 : Hid (dz Z8 (.slice a4 N4 c4') (S.enc (rs ++ [b]))) := U6.out.kept fun k hk => b68.block k (U6.out.lt hk)
  have L8 : aS Z8 g o.ptr f c h (.slice a4 N4 c4') true := L6.out.below b68 (aa L6.out)
  have D8 := hide (D6.out.below b68)
  rw [HH.out] at L8
  have HL8 := hide L8
  clear b8 b68 L8 eh
  refine r1 18 fun K hK => ?_
  go_simp
  refine (sQ o d f c p t g rs (rs ++ [b]) a4 N4 c4' (S.enc (rs ++ [b])) Z8 D8.out HL.out.pend HL.out.good ht HRM.out HL8.out U8.out (List.take_length) (by rw [HN4.out]; exact lr _) (by have := HRM.out; have := HN4.out; omega) HL.out.no HL.out.pos FAR.out).mono ?_
  intro e Z9 hch
  have HD : Hid (Gx d (S.commitActs d f c p t rs (rs ++ [b])) o g f c t rs (rs ++ [b]) (.slice tao N tcp) w e Z9) := Did.of hch U8.out (by rw [S.lG]; exact List.prefix_append _ _) List.take_length (by rw [HN4.out]; exact lr _) (by have := HRM.out; have := HN4.out; omega) (fun e => (FAR.out _ e).2 rfl) (fun k hk => (FAR.out k hk).1) C8.out O4.out
  obtain ⟨bb, d', o', hx⟩ := hch
  obtain rfl := hx.ret
  clear hx
  refine hK.out _ _ trivial (fun hHeld => ?_)
  clear hK K
  try simp only [uA]
  generalize S.why bb = y at HD ⊢
  refine tq 19 ?_
  simp only [uA]
  refine wpAnyH_done (by kernel_rfl) ?_ _
  refine NoPanic.normal ?_
  clear hHeld
  go_wp2_with fail
  go_ret
  exact HD.out


end Go.Proofs.YteealihknndclabGreatDoor
