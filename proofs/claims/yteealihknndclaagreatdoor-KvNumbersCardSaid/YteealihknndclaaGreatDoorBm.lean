/- A node that is read: the walk. -/
import Derived.Test.YteealihknndclaaGreatDoorEc
import Derived.Test.YteealihknndclaaGreatDoorJa
namespace Go.Proofs.YteealihknndclaaGreatDoor
open Go.RowKit

theorem Dy (W : World) (y : EnV) : (Instr.buildSlice 122 1 #[(0, .agg #[.slice y.ka y.kn y.kc, .slice y.va y.vn y.vc, .int .i64 y.pg, .pointer y.nd])]).run Tryz.prog W = .ok (.slice (some ⟨W.heap.size, 0, none⟩) 1 1) (W.alloc (.cells (cZ y).toArray 126)) := by
 go_simp
 rfl
structure u7 (w w' : World) (gn gd gx lv k : Nat) (es : List S.Ent) : Prop where
 row : ∃ v d, w'.heap[gn]? = some (.cells #[.int .i64 (lv : Int), v] 124 (0, 0)) /\ dS w.heap.size w' v d /\ d.length = k /\ ∀ (i : Nat) x e, d[i]? = some x -> es[i]? = some e -> EnNew w.heap.size w' x e /\ x.nd = none
 rd : eF w' gd gx ⟨S.nodeB lv es, S.npl lv es k, 0, 0⟩
 base : Below w.heap.size w w'
set_option maxHeartbeats 8000000 in
set_option maxRecDepth 10000 in
theorem mP (B gs n lv : Nat) (pg : Nat -> List UInt8) (es : List S.Ent) (w : World) (hr : Rds B w gs pg) (hn : n < 512) (hp : pg n = S.sheetB (S.nodeB lv es)) (ho : S.NodeOk lv es) :
  Calls Tryz.prog 91 #[.pointer (some ⟨gs, 0, none⟩), .int .i64 (n : Int), .int .i64 (lv : Int)] w fun e w' => ∃ g, e = .returned (.tuple #[.pointer (some ⟨g, 0, none⟩), .int .i64 0]) /\ iw w.heap.size w' g lv es /\ Below w.heap.size w w' := by
 have H := hide hr
 have HN := hide hn
 have HP := hide hp
 have HO := hide ho
 have hlv := ho.lvl
 have hlen := ho.len
 have E1 := hide (S.node_level lv es hlv)
 have E2 := hide (S.node_count lv es (by omega))
 have TL := hide ho.text
 obtain ⟨N, hN⟩ : ∃ N, N = es.length := ⟨_, rfl⟩
 rw [<- hN] at hlen E2
 have HNN := hide hN
 clear hr hn hp ho hN
 go_enter Tryz.func91, Tryz.ntmps91
 go_wp2_with fail
 refine (readSheet_any B gs n pg _ w H.out HN.out HP.out TL.out).mono ?_
 rintro e w1 ⟨gd, gx, rfl, g1, x1, r1, b1⟩
 have R1 := hide r1
 have B1 := hide b1
 have GD : Hid (w.heap.size <= gd /\ w.heap.size <= gx) := ⟨g1, x1⟩
 clear g1 x1 r1 b1 H
 go_wp2_with fail
 refine (ji gd gx w1 E1.out R1.out).mono ?_
 rintro e w2 ⟨rfl, d2, c2⟩
 have B2 : Hid (Below w.heap.size w w2) := B1.out.trans (c2.base B1.out.size GD.out.1)
 have R2 := hide d2
 have k1 : IntKind.i64.wrap (lv : Int) = (lv : Int) := by rw [IntKind.wrap_i64]; omega
 clear d2 c2 R1 B1
 go_wp2_with fail
 obtain ⟨w3, hw3⟩ : ∃ w3, w3 = w2.alloc (.cells #[.int .i64 (lv : Int), .slice none 0 0] 124) := ⟨_, rfl⟩
 rw [<- hw3]
 have b3 : Below w2.heap.size w2 w3 := by rw [hw3]; exact ba ..
 have r3 : w3.heap[w2.heap.size]? = some (.cells #[.int .i64 (lv : Int), .slice none 0 0] 124 (0, 0)) := by rw [hw3]; exact heap_alloc_new _ _
 obtain ⟨gn, hgn⟩ : ∃ gn, gn = w2.heap.size := ⟨_, rfl⟩
 rw [<- hgn] at r3 ⊢
 have R3 := hide (R2.out.below b3)
 have A3 := hide r3
 have B3 := hide (B2.out.trans (b3.mono B2.out.size))
 have GN : Hid (w.heap.size <= gn /\ gd ≠ gn /\ gx ≠ gn) := ⟨by rw [hgn]; exact B2.out.size, by have := R2.out.lt; omega, by have := R2.out.tlt; omega⟩
 clear hw3 b3 r3 hgn R2 B2
 refine (ji gd gx w3 E2.out R3.out).mono ?_
 rintro e w4 ⟨rfl, d4, c4⟩
 have M0 : Hid (u7 w w4 gn gd gx lv 0 es) := ⟨⟨_, [], c4.row A3.out (fun e => GN.out.2.1 e.symm), dS.nil _ _, rfl, fun i x e hx => by simp at hx⟩, d4, B3.out.trans (c4.base B3.out.size GD.out.1)⟩
 clear d4 c4 R3 A3 B3
 go_wp2_with fail
 go_loopw [27] (fun i wr => ∃ k : Nat, k <= N /\ i = .int .u64 (k : Int) /\ Hid (u7 w wr gn gd gx lv k es)) (fun i _ => N - (intOf i).toNat)
 case atStart => exact ⟨0, by omega, rfl, M0⟩
 case round =>
 clear M0
 obtain ⟨k, hk, rfl, M⟩ := hrel
 by_cases hlt : k < N
 ·have hke : k < es.length := by have := HNN.out; omega
  obtain ⟨v, d, rn, er, dl, en⟩ := M.out.row
  have RN := hide rn
  have ER := hide er
  have DL := hide dl
  have EN := hide en
  have RD := hide M.out.rd
  have BW := hide M.out.base
  have XOK := hide (HO.out.ent _ (List.getElem_mem hke))
  have XAT : Hid (es[k]? = some es[k]) := List.getElem?_eq_getElem hke
  obtain ⟨ao, cap, hv⟩ := er.form
  subst hv
  obtain ⟨dn, hdn⟩ : ∃ dn, dn = d.length := ⟨_, rfl⟩
  rw [<- hdn] at RN ER
  have HDN := hide hdn
  have hkI : (k : Int) < (N : Int) := by omega
  clear rn er dl en M hdn
  go_wp2_with fail
  refine wp_region_noPanic ?_
  refine wp_region_held_drew (S := (fun W => W.cell? ⟨gn, 0, none⟩ = some (.int .i64 (lv : Int)))) follows (cells2 RN.out).1 (fun hHeld => ?_)
  have RNd : Hid (wr.drew.heap[gn]? = some (.cells #[.int .i64 (lv : Int), .slice ao dn cap] 124 (0, 0))) := RN.out
  have ERd : Hid (dS w.heap.size wr.drew (.slice ao dn cap) d) := ER.out
  have ENd : Hid (∀ (i : Nat) x e, d[i]? = some x -> es[i]? = some e -> EnNew w.heap.size wr.drew x e /\ x.nd = none) := fun i x e hx he => ⟨(EN.out i x e hx he).1.below (Below.refl _ _).drew, (EN.out i x e hx he).2⟩
  have RDd : Hid (eF wr.drew gd gx ⟨S.nodeB lv es, S.npl lv es k, 0, 0⟩) := RD.out.drewN 1
  have BWd : Hid (Below w.heap.size w wr.drew) := BW.out.drew
  clear RN ER EN RD BW
  generalize wr.drew = Z1 at RNd ERd ENd RDd BWd hHeld ⊢
  refine tq 0 ?_
  simp only [uA]
  refine tq 1 ?_
  simp only [uA]
  refine tq 2 ?_
  simp only [uA]
  refine tq 3 ?_
  simp only [uA]
  refine tq 5 ?_
  simp only [uA]
  refine tq 6 ?_
  simp only [uA]
  refine tq 7 ?_
  simp only [uA]
  refine tq 8 ?_
  simp only [uA]
  refine tk 9 ?_ rfl (Or.inl ⟨by rfl, ?_⟩) ?_
  rotate_left
  ·intro w hSw
   have c4 := hSw
   clear hSw
   go_simp
   all_goals with_reducible rfl
  simp only [uA]
  refine rdy [4, 10] ?_
  refine AllReadyH.cons (o := ⟨_, _, _, _, _, _⟩) rfl (fun K hK => ?_) ?_
  focus
   have c1 := (cells2 RNd.out).2
   go_simp
   refine hK.out _ _ (by assumption) (fun hHeld => ?_)
   clear hK K c1
   try simp only [uA]
   refine r1 10 fun K hK => ?_
   go_simp
   refine (readEntry_any gd gx k lv es es[k] Z1 hlv XAT.out XOK.out RDd.out).mono ?_
   rintro e Z2 ⟨y, rfl, ey, yn, rd2, c2⟩
   have RN2 : Hid (Z2.heap[gn]? = some (.cells #[.int .i64 (lv : Int), .slice ao dn cap] 124 (0, 0))) := c2.row RNd.out (fun e => GN.out.2.1 e.symm)
   have ER2 : Hid (dS w.heap.size Z2 (.slice ao dn cap) d) := ERd.out.chg c2 (fun k hk e => ERd.out.apart RDd.out.row (by decide) (by rw [<- e]; exact hk))
   have EN2 : Hid (∀ (i : Nat) x e, d[i]? = some x -> es[i]? = some e -> EnNew w.heap.size Z2 x e /\ x.nd = none) := fun i x e hx he => ⟨(ENd.out i x e hx he).1.chg c2 (fun k c hk e => ne_of_type hk RDd.out.row (by decide) e), (ENd.out i x e hx he).2⟩
   have EY : Hid (EnNew w.heap.size Z2 y es[k] /\ y.nd = none) := ⟨ey.mono BWd.out.size, yn⟩
   have BW2 : Hid (Below w.heap.size w Z2) := BWd.out.trans (c2.base BWd.out.size GD.out.1)
   have RD2 := hide rd2
   have S2 := (cells2 RN2.out).1
   clear ey yn rd2 c2 RNd ERd ENd RDd BWd
   refine hK.out _ _ S2 (fun hHeld => ?_)
   clear hK K S2
   try simp only [uA]
   obtain ⟨ka, kn, kc, va, vn, vc, pgy, nd⟩ := y
   simp only [cZ]
   refine rdy [11] ?_
   refine bu (o := ⟨_, _, _, _, _, _⟩) rfl rfl 122 1 [(0, Operand.tmp 39)] rfl _ _ (Dy Z2 ⟨ka, kn, kc, va, vn, vc, pgy, nd⟩) AllReadyH.nil ⟨(cells2 ((heap_alloc_old _ _ (ae RN2.out)).trans RN2.out)).1, fun hHeld => ?_⟩
   try simp only [uA]
   obtain ⟨Y, hY⟩ : ∃ Y : EnV, Y = ⟨ka, kn, kc, va, vn, vc, pgy, nd⟩ := ⟨_, rfl⟩
   rw [<- hY] at EY hHeld ⊢
   obtain ⟨Z3, hZ3⟩ : ∃ Z3, Z3 = Z2.alloc (.cells (cZ Y).toArray 126) := ⟨_, rfl⟩
   rw [<- hZ3] at hHeld ⊢
   have b3 : Below Z2.heap.size Z2 Z3 := by rw [hZ3]; exact ba ..
   have r3 : Z3.heap[Z2.heap.size]? = some (.cells (cZ Y).toArray 126 (0, 0)) := by rw [hZ3]; exact heap_alloc_new _ _
   have RN3 : Hid (Z3.heap[gn]? = some (.cells #[.int .i64 (lv : Int), .slice ao dn cap] 124 (0, 0))) := (b3.block gn (ae RN2.out)).trans RN2.out
   have ER3 := hide (ER2.out.below b3)
   have EN3 : Hid (∀ (i : Nat) x e, d[i]? = some x -> es[i]? = some e -> EnNew w.heap.size Z3 x e /\ x.nd = none) := fun i x e hx he => ⟨(EN2.out i x e hx he).1.below b3, (EN2.out i x e hx he).2⟩
   have EY3 : Hid (EnNew w.heap.size Z3 Y es[k] /\ Y.nd = none) := ⟨EY.out.1.below b3, EY.out.2⟩
   have BW3 := hide (BW2.out.trans (b3.mono BW2.out.size))
   have RD3 := hide (RD2.out.below b3)
   have APP := dQ Z3 w.heap.size (.slice ao dn cap) (.slice (some ⟨Z2.heap.size, 0, none⟩) 1 1) d [Y] 122 ER3.out (mW r3) (by have := DL.out; simp; omega) BW3.out.size
   clear b3 r3 hZ3 RN2 ER2 EN2 EY BW2 RD2 hY
  rotate_left
  focus
   refine c1 fun K hK => ?_
   go_simp
   refine (readEntry_any gd gx k lv es es[k] Z1 hlv XAT.out XOK.out RDd.out).mono ?_
   rintro e Z2 ⟨y, rfl, ey, yn, rd2, c2⟩
   have RN2 : Hid (Z2.heap[gn]? = some (.cells #[.int .i64 (lv : Int), .slice ao dn cap] 124 (0, 0))) := c2.row RNd.out (fun e => GN.out.2.1 e.symm)
   have ER2 : Hid (dS w.heap.size Z2 (.slice ao dn cap) d) := ERd.out.chg c2 (fun k hk e => ERd.out.apart RDd.out.row (by decide) (by rw [<- e]; exact hk))
   have EN2 : Hid (∀ (i : Nat) x e, d[i]? = some x -> es[i]? = some e -> EnNew w.heap.size Z2 x e /\ x.nd = none) := fun i x e hx he => ⟨(ENd.out i x e hx he).1.chg c2 (fun k c hk e => ne_of_type hk RDd.out.row (by decide) e), (ENd.out i x e hx he).2⟩
   have EY : Hid (EnNew w.heap.size Z2 y es[k] /\ y.nd = none) := ⟨ey.mono BWd.out.size, yn⟩
   have BW2 : Hid (Below w.heap.size w Z2) := BWd.out.trans (c2.base BWd.out.size GD.out.1)
   have RD2 := hide rd2
   have S2 := (cells2 RN2.out).1
   clear ey yn rd2 c2 RNd ERd ENd RDd BWd
   refine hK.out _ _ S2 (fun hHeld => ?_)
   clear hK K S2
   try simp only [uA]
   obtain ⟨ka, kn, kc, va, vn, vc, pgy, nd⟩ := y
   simp only [cZ]
   refine rdy [4, 11] ?_
   refine AllReadyH.cons (o := ⟨_, _, _, _, _, _⟩) rfl (fun K hK => ?_) ?_
   focus
    have c1 := (cells2 RN2.out).2
    go_simp
    refine hK.out _ _ (by assumption) (fun hHeld => ?_)
    clear hK K c1
    try simp only [uA]
    refine rdy [11] ?_
    refine bu (o := ⟨_, _, _, _, _, _⟩) rfl rfl 122 1 [(0, Operand.tmp 39)] rfl _ _ (Dy Z2 ⟨ka, kn, kc, va, vn, vc, pgy, nd⟩) AllReadyH.nil ⟨(cells2 ((heap_alloc_old _ _ (ae RN2.out)).trans RN2.out)).1, fun hHeld => ?_⟩
    try simp only [uA]
    obtain ⟨Y, hY⟩ : ∃ Y : EnV, Y = ⟨ka, kn, kc, va, vn, vc, pgy, nd⟩ := ⟨_, rfl⟩
    rw [<- hY] at EY hHeld ⊢
    obtain ⟨Z3, hZ3⟩ : ∃ Z3, Z3 = Z2.alloc (.cells (cZ Y).toArray 126) := ⟨_, rfl⟩
    rw [<- hZ3] at hHeld ⊢
    have b3 : Below Z2.heap.size Z2 Z3 := by rw [hZ3]; exact ba ..
    have r3 : Z3.heap[Z2.heap.size]? = some (.cells (cZ Y).toArray 126 (0, 0)) := by rw [hZ3]; exact heap_alloc_new _ _
    have RN3 : Hid (Z3.heap[gn]? = some (.cells #[.int .i64 (lv : Int), .slice ao dn cap] 124 (0, 0))) := (b3.block gn (ae RN2.out)).trans RN2.out
    have ER3 := hide (ER2.out.below b3)
    have EN3 : Hid (∀ (i : Nat) x e, d[i]? = some x -> es[i]? = some e -> EnNew w.heap.size Z3 x e /\ x.nd = none) := fun i x e hx he => ⟨(EN2.out i x e hx he).1.below b3, (EN2.out i x e hx he).2⟩
    have EY3 : Hid (EnNew w.heap.size Z3 Y es[k] /\ Y.nd = none) := ⟨EY.out.1.below b3, EY.out.2⟩
    have BW3 := hide (BW2.out.trans (b3.mono BW2.out.size))
    have RD3 := hide (RD2.out.below b3)
    have APP := dQ Z3 w.heap.size (.slice ao dn cap) (.slice (some ⟨Z2.heap.size, 0, none⟩) 1 1) d [Y] 122 ER3.out (mW r3) (by have := DL.out; simp; omega) BW3.out.size
    clear b3 r3 hZ3 RN2 ER2 EN2 EY BW2 RD2 hY
   rotate_left
   focus
    refine bu (o := ⟨_, _, _, _, _, _⟩) rfl rfl 122 1 [(0, Operand.tmp 39)] rfl _ _ (Dy Z2 ⟨ka, kn, kc, va, vn, vc, pgy, nd⟩) AllReadyH.nil ⟨(cells2 ((heap_alloc_old _ _ (ae RN2.out)).trans RN2.out)).1, fun hHeld => ?_⟩
    try simp only [uA]
    obtain ⟨Y, hY⟩ : ∃ Y : EnV, Y = ⟨ka, kn, kc, va, vn, vc, pgy, nd⟩ := ⟨_, rfl⟩
    rw [<- hY] at EY hHeld ⊢
    obtain ⟨Z3, hZ3⟩ : ∃ Z3, Z3 = Z2.alloc (.cells (cZ Y).toArray 126) := ⟨_, rfl⟩
    rw [<- hZ3] at hHeld ⊢
    have b3 : Below Z2.heap.size Z2 Z3 := by rw [hZ3]; exact ba ..
    have r3 : Z3.heap[Z2.heap.size]? = some (.cells (cZ Y).toArray 126 (0, 0)) := by rw [hZ3]; exact heap_alloc_new _ _
    have RN3 : Hid (Z3.heap[gn]? = some (.cells #[.int .i64 (lv : Int), .slice ao dn cap] 124 (0, 0))) := (b3.block gn (ae RN2.out)).trans RN2.out
    have ER3 := hide (ER2.out.below b3)
    have EN3 : Hid (∀ (i : Nat) x e, d[i]? = some x -> es[i]? = some e -> EnNew w.heap.size Z3 x e /\ x.nd = none) := fun i x e hx he => ⟨(EN2.out i x e hx he).1.below b3, (EN2.out i x e hx he).2⟩
    have EY3 : Hid (EnNew w.heap.size Z3 Y es[k] /\ Y.nd = none) := ⟨EY.out.1.below b3, EY.out.2⟩
    have BW3 := hide (BW2.out.trans (b3.mono BW2.out.size))
    have RD3 := hide (RD2.out.below b3)
    have APP := dQ Z3 w.heap.size (.slice ao dn cap) (.slice (some ⟨Z2.heap.size, 0, none⟩) 1 1) d [Y] 122 ER3.out (mW r3) (by have := DL.out; simp; omega) BW3.out.size
    clear b3 r3 hZ3 RN2 ER2 EN2 EY BW2 RD2 hY
    refine r1 4 fun K hK => ?_
    have c1 := (cells2 RN3.out).2
    go_simp
    refine hK.out _ _ (by assumption) (fun hHeld => ?_)
    clear hK K c1
    try simp only [uA]
  all_goals
   refine rdy [12] ?_
   refine dm (o := ⟨_, _, _, _, _, _⟩) rfl rfl _ _ 122 122 rfl _ _ rfl rfl APP AllReadyH.nil ?_
   rintro v4 Z4 ⟨e4, c4⟩
   have RN4 : Z4.heap[gn]? = some (.cells #[.int .i64 (lv : Int), .slice ao dn cap] 124 (0, 0)) := c4.row RN3.out (ER3.out.apart RN3.out (by decide))
   have EN4 : ∀ (i : Nat) x e, (d ++ [Y])[i]? = some x -> es[i]? = some e -> EnNew w.heap.size Z4 x e /\ x.nd = none := fun i x e hx he => by
    have ap : ∀ k c, Z3.heap[k]? = some (.cells c 5 (0, 0)) -> ¬ (Value.slice ao dn cap).ownBlock = some k := fun k c hk => ER3.out.apart hk (by decide)
    by_cases hi : i < d.length
    ·rw [List.getElem?_append_left hi] at hx
     exact ⟨(EN3.out i x e hx he).1.chg c4 ap, (EN3.out i x e hx he).2⟩
    ·rw [List.getElem?_append_right (by omega)] at hx
     obtain ⟨hi2, hx2⟩ := List.getElem?_eq_some_iff.1 hx
     have hik : i = k := by have := DL.out; simp at hi2; omega
     subst hik
     simp at hx2
     rw [XAT.out] at he
     injection he with he
     subst hx2 he
     exact ⟨EY3.out.1.chg c4 ap, EY3.out.2⟩
   have RD4 : eF Z4 gd gx ⟨S.nodeB lv es, S.npl lv es (k + 1), 0, 0⟩ := RD3.out.chg c4 (ER3.out.apart RD3.out.row (by decide)) (ER3.out.apart RD3.out.text (by decide))
   have BW4 : Below w.heap.size w Z4 := BW3.out.trans (c4.below _ BW3.out.size (fun j hj e => by have := (ER3.out.blk e).1; omega))
   obtain ⟨ao4, cap4, hv4⟩ := e4.form
   subst hv4
   obtain ⟨dn4, hdn4⟩ : ∃ dn4, dn4 = (d ++ [Y]).length := ⟨_, rfl⟩
   have HD4 : Hid ((d ++ [Y]).length = k + 1) := by show (d ++ [Y]).length = k + 1; rw [List.length_append, DL.out]; rfl
   rw [<- hdn4] at e4 ⊢
   have E4 := hide e4
   have RNH := hide RN4
   have ENH := hide EN4
   have RDH := hide RD4
   have BWH := hide BW4
   refine ⟨(cells2 RN4).1, fun hHeld => ?_⟩
   clear e4 c4 RN4 EN4 RD4 BW4 hdn4 RN3 ER3 EN3 EY3 BW3 RD3 APP
   try simp only [uA]
   refine tq 13 ?_
   simp only [uA]
   refine tq 14 ?_
   simp only [uA]
   refine r1 15 fun K hK => ?_
   have c1 := (cells2 RNH.out).2
   have f1 := frozen_of_row _ _ 1 _ _ RNH.out
   go_simp
   obtain ⟨Z5, hZ5⟩ : ∃ Z5, Z5 = Z4.setCell ⟨gn, 1, none⟩ (.slice ao4 dn4 cap4) := ⟨_, rfl⟩
   have c5 : Chg (fun k => k = gn) Z4 (Z4.setCell ⟨gn, 1, none⟩ (.slice ao4 dn4 cap4)) := (Chg.refl (fun k => k = gn) _).setCell gn 1 _ (fun _ => rfl)
   have r5 : (Z4.setCell ⟨gn, 1, none⟩ (.slice ao4 dn4 cap4)).heap[gn]? = some (.cells #[.int .i64 (lv : Int), .slice ao4 dn4 cap4] 124 (0, 0)) := by rw [heap_setCell_same Z4 gn 1 _ _ _ RNH.out]; rfl
   have MM : Hid (u7 w (Z4.setCell ⟨gn, 1, none⟩ (.slice ao4 dn4 cap4)) gn gd gx lv (k + 1) es) := ⟨⟨_, d ++ [Y], r5, E4.out.chg c5 (fun j hj e => E4.out.apart RNH.out (by decide) (by rw [<- e]; exact hj)), HD4.out, fun i x e hx he => ⟨(ENH.out i x e hx he).1.chg c5 (fun j c hj e => ne_of_type hj RNH.out (by decide) e), (ENH.out i x e hx he).2⟩⟩, RDH.out.chg c5 GN.out.2.1 GN.out.2.2, BWH.out.trans (c5.base BWH.out.size GN.out.1)⟩
   refine hK.out _ _ (cells2 r5).1 (fun hHeld => ?_)
   clear hK K c1 f1 c5 r5 E4 RNH ENH RDH BWH HD4
   try simp only [uA]
   refine wpAnyH_done (by kernel_rfl) ?_ _
   refine NoPanic.normal ?_
   clear hHeld
   go_wp2_with fail
   go_roundw
   case rel => exact ⟨k + 1, by omega, by go_num, MM⟩
   case measure => simp [intOf]; omega
 ·obtain rfl : k = N := by omega
  have EF : Hid ((S.Rd.mk (S.nodeB lv es) (S.npl lv es k) 0 0).fin = (0, 0)) := by
   show (S.Rd.mk (S.nodeB lv es) (S.npl lv es k) 0 0).fin = (0, 0)
   rw [HNN.out]
   exact S.node_fin lv es
  go_wp2_with fail
  refine (rend_no gd gx wr EF.out M.out.rd).mono ?_
  rintro e W1 ⟨rfl, b1⟩
  obtain ⟨v, d, rn, er, dl, en⟩ := M.out.row
  have NN : iw w.heap.size wr gn lv es := ⟨⟨v, d, rn, er, by rw [dl]; exact HNN.out, en⟩, GN.out.1⟩
  have N1 := hide (NN.below b1)
  have BB := hide (M.out.base.trans (b1.mono M.out.base.size))
  have c0 := (cells2 ((b1.block gn (ae rn)).trans rn)).1
  have IW := hide (isWhole_any gn lv es W1 (N1.out.node HO.out.ent (by have := HO.out.len; omega)) HO.out)
  clear rn er dl en NN b1 M
  clear v d
  go_wp2_with fail
  refine IW.out.mono ?_
  rintro e W2 ⟨rfl, b2⟩
  have N2 := hide (N1.out.below b2)
  have B2 := hide (BB.out.trans (b2.mono BB.out.size))
  clear b2 N1 BB IW c0
  go_wp2_with fail
  go_ret2
  exact ⟨gn, rfl, N2.out, B2.out⟩
namespace S
def u01 : List UInt8 := 3 :: zeros 63
theorem u01_length : u01.length = 64 := rfl
structure rO (pg : Nat -> List UInt8) (es : List Ent) : Prop where
 head : pg 0 = sheetB (headB es.length 1 0 u01)
 node : pg 1 = sheetB (nodeB 0 es)
 ok : NodeOk 0 es
def lhd (n : Nat) : Hh := ⟨n, 1, 0, u01⟩
theorem lhd_ok {n : Nat} (h : n <= 1000000) : (lhd n).Ok := ⟨by show n < 4294967296; omega, ⟨by show 0 < 1; omega, by show 1 < 65536; omega⟩, by show 0 < 256; omega, rfl⟩
theorem zM {ks : List (List UInt8)} (h : up ks) (k : List UInt8) (hm : k ∈ ks) : ∃ hi : rank ks k < ks.length, ks[rank ks k] = k := by
 obtain ⟨j, hj, rfl⟩ := List.getElem_of_mem hm
 have e : rank ks ks[j] = j := rank_at ks ks[j] j (by omega) (fun i hi hij => up_lt h hj hij) (fun i hi hij => by
  rcases Nat.eq_or_lt_of_le hij with e | e
  ·subst e; rw [kcmp_self]; omega
  ·have := up_lt h hi e
   rw [kcmp_swap]
   omega)
 exact ⟨by rw [e]; exact hj, by simp only [e]⟩
end S
theorem qI (B gs : Nat) (pg : Nat -> List UInt8) (es : List S.Ent) (w : World) (hr : Rds B w gs pg) (hl : S.rO pg es) :
  Calls Tryz.prog 46 #[.pointer (some ⟨gs, 0, none⟩)] w fun e w' => e = .returned (.tuple #[hhv (S.lhd es.length), .int .i64 0]) /\ Below w.heap.size w w' :=
 readHead_any B gs pg (S.lhd es.length) w hr (S.lhd_ok (by have := hl.ok.len; omega)) hl.head
set_option maxHeartbeats 4000000 in
set_option maxRecDepth 10000 in
theorem vU (B gs : Nat) (pg : Nat -> List UInt8) (es : List S.Ent) (kv : Value) (w : World) (hr : Rds B w gs pg) (hl : S.rO pg es) (hk : ∃ ao n c, kv = .slice ao n c) :
  Calls Tryz.prog 53 #[.pointer (some ⟨gs, 0, none⟩), kv] w fun e w' => ∃ g, e = .returned (.tuple #[.pointer (some ⟨g, 0, none⟩), .slice none 0 0, .int .i64 0]) /\ iw w.heap.size w' g 0 es /\ Below w.heap.size w w' := by
 obtain ⟨ao, kn, kc, rfl⟩ := hk
 have H := hide hr
 have HL := hide hl
 clear hr hl
 go_enter Tryz.func53, Tryz.ntmps53
 go_wp2_with fail
 refine (qI B gs pg es w H.out HL.out).mono ?_
 rintro e w1 ⟨rfl, b1⟩
 have hal := alloc105 w1
 obtain ⟨w2, hst, a2, b2⟩ := made105 w1 (S.lhd es.length) rfl
 have B2 := hide (b1.trans (b2.mono b1.size))
 have H2 := hide ((H.out.below b1).below b2)
 have A2 := hide a2
 obtain ⟨gh, hgh⟩ : ∃ gh, gh = w1.heap.size := ⟨_, rfl⟩
 rw [<- hgh] at hal hst A2
 obtain ⟨HC0, jq⟩ : ∃ X, X = (S.hhc S.Hh.none).toArray := ⟨_, rfl⟩
 rw [<- jq] at hal hst
 obtain ⟨HV, hHV⟩ : ∃ X, X = hhv (S.lhd es.length) := ⟨_, rfl⟩
 rw [<- hHV] at hst ⊢
 have c1 : w2.cell? ⟨gh, 1, none⟩ = some (.int .i64 1) := A2.out.root
 have c2 : w2.cell? ⟨gh, 2, none⟩ = some (.int .i64 0) := A2.out.lv
 clear b1 b2 a2 hgh jq hHV H
 go_wp2_with (first | (with_reducible refine aD ⟨some 7, .alloc 105, 0, "node.go:113", #[], none⟩ ?_; refine aA rfl 105 rfl (.pointer (some ⟨gh, 0, none⟩)) (w1.alloc (.cells HC0 105)) hal ?_) | (with_reducible refine aD ⟨none, .store 105 (.tmp 7) (.tmp 15), 0, "node.go:113", #[{ on := 5, ground := Ground.data }, { on := 3, ground := Ground.data }, { on := 1, ground := Ground.chain }, { on := 0, ground := Ground.phase }, { on := 1, ground := Ground.phase }, { on := 2, ground := Ground.phase }, { on := 3, ground := Ground.phase }, { on := 4, ground := Ground.textOnly Departure.lateStores }, { on := 5, ground := Ground.phase }], none⟩ ?_; refine aB rfl 105 (.tmp 7) (.tmp 15) rfl (.pointer (some ⟨gh, 0, none⟩)) HV rfl rfl w2 hst ?_))
 clear hal hst c1 c2
 refine (mP B gs 1 0 pg es w2 H2.out (by omega) HL.out.node HL.out.ok).mono ?_
 rintro e w3 ⟨gn, rfl, n3, b3⟩
 have N3 : Hid (iw w.heap.size w3 gn 0 es) := by
  obtain ⟨⟨v, d, h1, h2, h3, h4⟩, h5⟩ := n3
  have hb := B2.out.size
  refine ⟨⟨v, d, h1, ⟨h2.1, ?_⟩, h3, fun i x e hx he => ⟨(h4 i x e hx he).1.mono hb, (h4 i x e hx he).2⟩⟩, by omega⟩
  rcases h2.2 with h0 | ⟨g, cap, cur, e1, e2, e3⟩
  ·exact Or.inl h0
  ·exact Or.inr ⟨g, cap, cur, e1, by omega, e3⟩
 have B3 := hide (B2.out.trans (b3.mono B2.out.size))
 have c0 : w3.cell? ⟨gn, 0, none⟩ = some (.int .i64 0) := by obtain ⟨v, d, h1, _⟩ := n3.is; exact (cells2 h1).1
 clear n3 b3 H2 B2 A2
 go_wp2_with fail
 go_loopw [8, 9, 10] (fun s8 s9 s10 wr => s8 = .int .i64 0 /\ s9 = .slice none 0 0 /\ s10 = .pointer (some ⟨gn, 0, none⟩) /\ wr = w3) (fun _ _ _ _ => 0)
 case atStart => exact ⟨rfl, rfl, rfl, rfl⟩
 case round =>
  obtain ⟨rfl, rfl, rfl, rfl⟩ := hrel
  go_wp2_with fail
  go_ret3
  exact ⟨gn, rfl, N3.out, B3.out⟩

def lD (w : World) (gt gs : Nat) : Prop := w.heap[gt]? = some (.cells #[.pointer (some ⟨gs, 0, none⟩)] 96 (0, 0))
theorem p9 {w : World} {gt gs : Nat} (h : lD w gt gs) : w.cell? ⟨gt, 0, none⟩ = some (.pointer (some ⟨gs, 0, none⟩)) := by rw [cell_of_row w gt 0 _ _ _ h]; rfl
structure DT (B : Nat) (w : World) (es : List S.Ent) (key : List UInt8) (v : Value) (ok : Bool) : Prop where
 yes : ∀ x ∈ es, x.key = key -> ok = true /\ ((v = .slice none 0 0 /\ x.val = []) \/ ∃ q, v = .slice (some ⟨q, 0, none⟩) x.val.length x.val.length /\ B <= q /\ w.heap[q]? = some (.cells (S.v8 x.val) 5 (0, 0)))
 no : key ∉ es.map (·.key) -> ok = false /\ v = .slice none 0 0
theorem S.NodeOk.same {lv : Nat} {es : List S.Ent} (h : S.NodeOk lv es) {i j : Nat} (hi : i < es.length) (hj : j < es.length) (e : es[i].key = es[j].key) : i = j := by
 rcases Nat.lt_trichotomy i j with h1 | h1 | h1
 ·have := h.lt hj h1
  rw [e, S.kcmp_self] at this
  omega
 ·exact h1
 ·have := h.lt hi h1
  rw [e, S.kcmp_self] at this
  omega
set_option maxHeartbeats 4000000 in
set_option maxRecDepth 10000 in
theorem get_0 (B gt gs : Nat) (pg : Nat -> List UInt8) (es : List S.Ent) (kv : Value) (key : List UInt8) (w : World) (hr : Rds B w gs pg) (ht : lD w gt gs) (hl : S.rO pg es) (hk : SliceAt w kv key) :
  Calls Tryz.prog 23 #[.pointer (some ⟨gt, 0, none⟩), kv] w fun e w' => ∃ v ok, e = .returned (.tuple #[v, .bool ok]) /\ DT w.heap.size w' es key v ok /\ Below w.heap.size w w' := by
 have H := hide hr
 have HL := hide hl
 have HK := hide hk
 have c0 := p9 ht
 obtain ⟨ao, kn, kc, rfl, z1, z2⟩ := hk.form
 clear hr hl ht hk z1 z2
 go_enter Tryz.func23, Tryz.ntmps23
 go_wp2_with fail
 refine (vU B gs pg es _ w H.out HL.out ⟨_, _, _, rfl⟩).mono ?_
 rintro e w1 ⟨gn, rfl, n1, b1⟩
 have N1 := hide n1
 have B1 := hide b1
 have ND := hide (n1.node HL.out.ok.ent (by have := HL.out.ok.len; omega))
 have K1 := hide (HK.out.below b1 (lr _))
 clear n1 b1 c0 H
 go_wp2_with fail
 refine (find_any gn 0 _ es key w1 ND.out K1.out HL.out.ok.up).mono ?_
 rintro e w2 ⟨rfl, b2⟩
 have N2 := hide (N1.out.below b2)
 have B2 := hide (B1.out.trans (b2.mono B1.out.size))
 clear b2 N1 B1 ND K1
 by_cases hm : key ∈ es.map (·.key)
 ·obtain ⟨r, hrr, hi, he⟩ : ∃ r, r = S.rank (es.map (·.key)) key /\ ∃ hi : r < es.length, es[r].key = key := by
   obtain ⟨hi, he⟩ := S.zM HL.out.ok.up key hm
   exact ⟨_, rfl, by simpa using hi, by simpa using he⟩
  rw [decide_eq_true hm, <- hrr]
  obtain ⟨v, d, h1, h2, h3, h4⟩ := N2.out.is
  have hd : r < d.length := by omega
  have hel := h2.els (by have := HL.out.ok.len; omega)
  obtain ⟨b, off, cap, hv, hcap, hb, hc⟩ := hel.at encEn_len r d[r] (List.getElem?_eq_getElem hd)
  subst hv
  obtain ⟨t0, t1, t2, t3⟩ := bcell hc
  have ⟨hen, _⟩ := h4 r d[r] es[r] (List.getElem?_eq_getElem hd) (List.getElem?_eq_getElem hi)
  obtain ⟨g0, g1⟩ := cells2 h1
  obtain ⟨dn, hdn⟩ : ∃ dn, dn = d.length := ⟨_, rfl⟩
  rw [<- hdn] at g1 hd hcap
  have hrI : (r : Int) < (dn : Int) := by omega
  have hr0 : (0 : Int) <= (r : Int) := by omega
  have hdI : (dn : Int) <= 254 := by have := HL.out.ok.len; omega
  have HEK := hide he
  obtain ⟨x, hx⟩ : ∃ x, x = d[r] := ⟨_, rfl⟩
  rw [<- hx] at t0 t1 t2 t3 hen
  have HE := hide hen
  obtain ⟨ka, kn', kc', va, vn, vc, pgx, nd⟩ := x
  simp only at t1
  clear t0 t2 t3 hen he hx h1 h2 h3 h4 hel hc hb N2 hdn hrr hm g0
  go_wp2_with fail
  go_ret2
  refine ⟨_, true, rfl, ⟨fun y hy e => ⟨rfl, ?_⟩, fun hn => ?_⟩, B2.out⟩
  ·obtain ⟨j, hj, rfl⟩ := List.getElem_of_mem hy
   obtain rfl : j = r := HL.out.ok.same hj hi (by rw [e, HEK.out])
   rcases HE.out.val with ⟨a, b, c, e2⟩ | ⟨q, a, b, c, h5, h6, _⟩
   ·simp only at a b c
    subst a b c
    exact Or.inl ⟨rfl, e2⟩
   ·simp only at a b c
    subst a b c
    exact Or.inr ⟨q, rfl, h5, h6⟩
  ·exact absurd (List.mem_map.2 ⟨es[r], List.getElem_mem hi, HEK.out⟩) hn
 ·rw [decide_eq_false hm]
  have HM := hide hm
  generalize S.rank (es.map (·.key)) key = r
  clear hm
  go_wp2_with fail
  go_ret2
  exact ⟨_, false, rfl, ⟨fun x hx e => absurd (List.mem_map.2 ⟨x, hx, e⟩) HM.out, fun _ => ⟨rfl, rfl⟩⟩, B2.out⟩
set_option maxRecDepth 10000 in
theorem AJ (ka va nd : Option Addr) (kn kc vn vc : Nat) (pg : Int) (w : World) (h1 : kn <= 1000000) (h2 : vn <= 1000000) :
  Calls Tryz.prog 150 #[.agg #[.slice ka kn kc, .slice va vn vc, .int .i64 pg, .pointer nd]] w fun e w' => e = .returned (.int .i64 ((4 + kn + vn : Nat) : Int)) /\ Below w.heap.size w w' := by
 go_enter Tryz.func150, Tryz.ntmps150
 go_wp2_with fail
 go_ret
 exact ⟨by simp, ba ..⟩
namespace S
theorem AC {es : List Ent} {k : Nat} {x : Ent} (hx : es[k]? = some x) : essz (es.take (k + 1)) = essz (es.take k) + esz x := by
 unfold essz
 rw [List.take_add_one, hx]
 simp
theorem kw (es : List Ent) (k : Nat) : essz (es.take k) <= essz es := by
 have h : essz es = essz (es.take k) + essz (es.drop k) := by
  unfold essz
  rw [<- List.sum_append, <- List.map_append, List.take_append_drop]
 omega
end S
theorem uI {w : World} {v : Value} {d : List EnV} {es : List S.Ent} (h2 : Els cZ w v d) (h3 : EnsAre w d es) (i : Nat) (hi : i < es.length) : ∃ b off cap x, v = .slice (some ⟨b, off, none⟩) es.length cap /\ es.length <= cap /\ d[i]? = some x /\ b < w.heap.size /\ EnIs w x es[i] /\ (w.cell? ⟨b, off + i * 4, none⟩ = some (.slice x.ka x.kn x.kc) /\ w.cell? ⟨b, off + i * 4 + 1, none⟩ = some (.slice x.va x.vn x.vc) /\ w.cell? ⟨b, off + i * 4 + 2, none⟩ = some (.int .i64 x.pg) /\ w.cell? ⟨b, off + i * 4 + 3, none⟩ = some (.pointer x.nd)) := by
 have hL := h3.1
 have hd1 : i < d.length := by omega
 obtain ⟨b, off, cap, e, q1, q2, q3⟩ := h2.at encEn_len i d[i] (List.getElem?_eq_getElem hd1)
 rw [hL] at e q1
 exact ⟨b, off, cap, d[i], e, q1, List.getElem?_eq_getElem hd1, q2, h3.2 i _ _ (List.getElem?_eq_getElem hd1) (List.getElem?_eq_getElem hi), bcell q3⟩
theorem EnIs.kn {w : World} {x : EnV} {e : S.Ent} (h : EnIs w x e) : x.kn = e.key.length := by obtain ⟨_, _, _, h1, h2, _⟩ := h.key.form; injection h1 with _ h1 _; exact h1.trans h2
theorem EnIs.vn {w : World} {x : EnV} {e : S.Ent} (h : EnIs w x e) : x.vn = e.val.length := by obtain ⟨_, _, _, h1, h2, _⟩ := h.val.form; injection h1 with _ h1 _; exact h1.trans h2
set_option maxHeartbeats 2000000 in
set_option maxRecDepth 10000 in
theorem zS (g lv : Nat) (es : List S.Ent) (w : World) (hn : NodeIs w g lv es) (ho : ∀ x ∈ es, S.EntOk lv x) (hs : S.essz es <= 1000000) (hl : es.length <= 100000) :
  Calls Tryz.prog 94 #[.pointer (some ⟨g, 0, none⟩)] w fun e w' => e = .returned (.int .i64 (S.essz es : Int)) /\ Below w.heap.size w w' := by
 obtain ⟨v, d, h1, h2, h3⟩ := hn.is
 obtain ⟨ao, cap, rfl, _⟩ := h2.form
 have AT := hide (uI h2 h3)
 have HO := hide ho
 have HS := hide hs
 have hL := h3.1
 rw [hL] at h1 AT
 obtain ⟨c0, c1⟩ := cells2 h1
 obtain ⟨n, hnn⟩ : ∃ n, n = es.length := ⟨_, rfl⟩
 obtain ⟨sz, hsz⟩ : ∃ sz, sz = S.essz es := ⟨_, rfl⟩
 rw [<- hnn] at c1 hl
 rw [<- hsz]
 have HN := hide hnn
 have HSZ := hide hsz
 clear hn ho hs h1 h2 h3 hL hnn hsz
 go_enter Tryz.func94, Tryz.ntmps94
 go_wp2_with fail
 clear c0 c1
 go_loopw [3, 11] (fun s i wr => ∃ k : Nat, k <= n /\ i = .int .i64 (k : Int) /\ s = .int .i64 (S.essz (es.take k) : Int) /\ Hid (Below w.heap.size w wr)) (fun _ i _ => n - (intOf i).toNat)
 case atStart => exact ⟨0, by omega, rfl, rfl, Below.refl _ _⟩
 case round =>
 obtain ⟨k, hk, rfl, rfl, BW⟩ := hrel
 by_cases hlt : k < n
 ·have hke : k < es.length := by have := HN.out; omega
  obtain ⟨b, off, cap', x, hv, hcap, hx, hb, hi, t0, t1, t2, t3⟩ := AT.out k hke
  injection hv with hv1 hv2 hv3
  subst hv1 hv3
  have u0 := (BW.out.cell (p := ⟨b, off + k * 4, none⟩) hb).trans t0
  have u1 := (BW.out.cell (p := ⟨b, off + k * 4 + 1, none⟩) hb).trans t1
  have u2 := (BW.out.cell (p := ⟨b, off + k * 4 + 2, none⟩) hb).trans t2
  have u3 := (BW.out.cell (p := ⟨b, off + k * 4 + 3, none⟩) hb).trans t3
  have KN := hide hi.kn
  have VN := hide hi.vn
  have ok := HO.out _ (List.getElem_mem hke)
  have hk1 := ok.key
  have hv1 := ok.val
  have ST := hide (S.AC (List.getElem?_eq_getElem hke))
  have hle := S.kw es k
  have hle2 := S.kw es (k + 1)
  obtain ⟨a, ha⟩ : ∃ a, a = S.essz (es.take k) := ⟨_, rfl⟩
  obtain ⟨a2, ha2⟩ : ∃ a2, a2 = S.essz (es.take (k + 1)) := ⟨_, rfl⟩
  rw [<- ha] at hle ST ⊢
  rw [<- ha2] at hle2 ST
  have HA2 := hide ha2
  obtain ⟨ka, kn, kc, va, vn, vc, pg, nd⟩ := x
  simp only at u0 u1 u2 u3
  have hkI : (k : Int) < (n : Int) := by omega
  have hk0 : (0 : Int) <= (k : Int) := by omega
  have qk : kn <= 40 := by have := KN.out; simp only at this; omega
  have qv : vn <= 400 := by have := VN.out; simp only at this; omega
  have qa : a <= 1000000 := by have := HS.out; omega
  have EA : Hid (a2 = a + (4 + kn + vn)) := by
   have h1 := ST.out
   have h2 := KN.out
   have h3 := VN.out
   simp only at h2 h3
   show a2 = a + (4 + kn + vn)
   rw [h1, h2, h3]
   rfl
  clear t0 t1 t2 t3 hi hx hv2 ok hk1 hv1 ha ha2 hle hle2 hcap
  go_upto_region 5 with fail
  obtain ⟨W, hW⟩ : ∃ W, W = wr.alloc (.cells #[.slice ka kn kc, .slice va vn vc, .int .i64 pg, .pointer nd] 126) := ⟨_, rfl⟩
  rw [<- hW]
  have bW : Below wr.heap.size wr W := by rw [hW]; exact ba ..
  have rW : W.heap[wr.heap.size]? = some (.cells #[.slice ka kn kc, .slice va vn vc, .int .i64 pg, .pointer nd] 126 (0, 0)) := by rw [hW]; exact heap_alloc_new _ _
  obtain ⟨gb, hgb⟩ : ∃ gb, gb = wr.heap.size := ⟨_, rfl⟩
  rw [<- hgb] at rW ⊢
  obtain ⟨x0, x1, x2, x3⟩ := dh rW
  have BWW := hide (BW.out.trans (bW.mono BW.out.size))
  clear hW bW rW hgb u0 u1 u2 u3 BW
  go_wp2_with fail
  refine (AJ ka va nd kn kc vn vc pg W (by omega) (by omega)).mono ?_
  rintro e W2 ⟨rfl, b2⟩
  have B2 := hide (BWW.out.trans (b2.mono BWW.out.size))
  clear b2 BWW x0 x1 x2 x3
  obtain ⟨m, hm⟩ : ∃ m, m = 4 + kn + vn := ⟨_, rfl⟩
  rw [<- hm] at EA ⊢
  have qm : m <= 1000000 := by omega
  clear hm
  go_wp2_with fail
  go_roundw
  case rel => exact ⟨k + 1, by omega, by go_num, by rw [<- HA2.out, EA.out]; go_num, B2⟩
  case measure => simp [intOf]; omega
 ·obtain rfl : k = n := by omega
  have e : es.take k = es := List.take_of_length_le (by have := HN.out; omega)
  rw [e, <- HSZ.out]
  clear e
  go_wp2_with fail
  go_ret
  exact ⟨rfl, BW.out⟩
set_option maxHeartbeats 2000000 in
set_option maxRecDepth 10000 in
theorem tL (v : Value) (w : World) (hv : ∃ ao n c, v = .slice ao n c) : Calls Tryz.prog 52 #[v, .slice none 0 0] w fun e w' => e = .returned (.bool true) /\ w = w' := by
 obtain ⟨ao, n, c, rfl⟩ := hv
 go_enter Tryz.func52, Tryz.ntmps52
 go_wp2_with fail
 go_ret
 exact ⟨rfl, rfl⟩
set_option maxHeartbeats 2000000 in
set_option maxRecDepth 10000 in
theorem wh (g : Nat) (es : List S.Ent) (w : World) (hn : NodeIs w g 0 es) (ho : S.NodeOk 0 es) :
  Calls Tryz.prog 92 #[.pointer (some ⟨g, 0, none⟩), .slice none 0 0, .slice none 0 0] w fun e w' => e = .returned (.bool true) /\ Below w.heap.size w w' := by
 obtain ⟨v, d, h1, h2, h3⟩ := hn.is
 obtain ⟨ao, cap, rfl, _⟩ := h2.form
 have AT := hide (uI h2 h3)
 have HO := hide ho
 have hlen := ho.len
 have hL := h3.1
 rw [hL] at h1 AT
 obtain ⟨c0, c1⟩ := cells2 h1
 obtain ⟨n, hnn⟩ : ∃ n, n = es.length := ⟨_, rfl⟩
 rw [<- hnn] at c1 hlen
 have HN := hide hnn
 clear hn ho h1 h2 h3 hL hnn
 rcases Nat.eq_zero_or_pos n with e0 | e0
 ·subst e0
  go_enter Tryz.func92, Tryz.ntmps92
  go_wp2_with fail
  go_ret
  exact ⟨rfl, Below.refl _ _⟩
 ·have h0e : 0 < es.length := by have := HN.out; omega
  have hle : n - 1 < es.length := by have := HN.out; omega
  obtain ⟨b, off, cap', x, hv, hcap, hx, hb, hi, t0, t1, t2, t3⟩ := AT.out 0 h0e
  obtain ⟨b', off', cap'', y, hv', _, hy, _, hj, s0, s1, s2, s3⟩ := AT.out (n - 1) hle
  injection hv with hv1 hv2 hv3
  injection hv' with hw1 hw2 hw3
  subst hv1 hv3
  injection hw1 with hw1
  injection hw1 with hw4 hw5
  subst hw4 hw5 hw3
  have KX := hide hi.key
  have kpos : 0 < S.kcmp es[0].key [] := by
   have : es[0].key ≠ [] := HO.out.leaf rfl _ (List.getElem_mem h0e)
   cases hk : es[0].key with
   | nil => exact absurd hk this
   | cons a l => rw [S.kcmp_ln]; omega
  have NIL : Hid (SliceAt w (.slice none 0 0) []) := Or.inl ⟨rfl, rfl⟩
  obtain ⟨c, hc⟩ : ∃ c, c = S.kcmp es[0].key [] := ⟨_, rfl⟩
  rw [<- hc] at kpos
  have CQ : Hid (Calls Tryz.prog 79 #[.slice x.ka x.kn x.kc, .slice none 0 0] w fun e w' => e = .returned (.int .i64 c) /\ w = w') := by rw [hc]; exact compare_any _ _ _ _ w KX.out NIL.out
  obtain ⟨ka, kn, kc, va, vn, vc, pg, nd⟩ := x
  obtain ⟨ka', kn', kc', va', vn', vc', pg', nd'⟩ := y
  simp only [Nat.zero_mul, Nat.add_zero] at t0
  simp only at s0
  have hc1 : decide (0 <= c) = true := decide_eq_true (by omega)
  have hc2 : 0 <= c := by omega
  have hz : ¬ (n : Int) = 0 := by omega
  have hz2 : ((n : Int) == 0) = false := beq_false_of_ne hz
  have q0 : (0 : Int) < (n : Int) := by omega
  have qk1 : (n : Int) - 1 = ((n - 1 : Nat) : Int) := by omega
  obtain ⟨k1, hk1⟩ : ∃ k1, k1 = n - 1 := ⟨_, rfl⟩
  rw [<- hk1] at s0 qk1
  have qk2 : (0 : Int) <= (k1 : Int) := by omega
  have qk3 : (k1 : Int) < (n : Int) := by omega
  clear t1 t2 t3 s1 s2 s3 hi hj hx hy hv2 hw2 kpos hc hk1 AT
  go_enter Tryz.func92, Tryz.ntmps92
  go_wp2_with (first | (go_at_call 79; refine CQ.out.mono ?_; rintro e w1 ⟨rfl, rfl⟩) | (go_at_call 52; refine (tL _ _ ⟨_, _, _, rfl⟩).mono ?_; rintro e w1 ⟨rfl, rfl⟩))
  go_ret
  exact ⟨rfl, Below.refl _ _⟩
theorem HhAt.slice {w : World} {b : Nat} {h : S.Hh} (a : HhAt w b h) (hl : h.used.length = 64) : SliceAt w (.slice (some ⟨b, 3, none⟩) 64 64) h.used :=
 Or.inr (Or.inr ⟨b, 3, 64, by rw [hl], by omega, by omega, ae a, fun j hj => a.byte j hj⟩)
theorem HhAt.below {w W : World} {b : Nat} {h : S.Hh} (a : HhAt w b h) (hb : Below w.heap.size w W) : HhAt W b h := (hb.block b (ae a)).trans a
theorem Ao {w : World} {g : Nat} {p : Nat × Nat} (h : w.heap[g]? = some (.cells (S.v8 S.hmark) 5 p)) : SliceAt w (.slice (some ⟨g, 0, none⟩) 13 13) S.hmark := by
 have := qC h (by decide)
 exact this
set_option maxHeartbeats 1000000 in
set_option maxRecDepth 10000 in
theorem hsheet_any (h : S.Hh) (w : World) (ho : h.Ok) :
  Calls Tryz.prog 67 #[hhv h] w fun e w' => ∃ g, e = .returned (.agg #[.int .i64 0, .slice (some ⟨g, 0, none⟩) 1024 1024]) /\ w.heap.size <= g /\ w'.heap[g]? = some (.cells (S.v8 (S.sheetB (S.headB h.cnt h.root h.lv h.used))) 5 (0, 0)) /\ Below w.heap.size w w' := by
 have HO := hide ho
 have q1 := ho.cnt
 have q2 := ho.root.2
 have q3 := ho.lv
 obtain ⟨C, hC⟩ : ∃ C, C = (S.hhc h).toArray := ⟨_, rfl⟩
 obtain ⟨w1, hw1⟩ : ∃ w1, w1 = w.alloc (.cells C 105) := ⟨_, rfl⟩
 have A1 : Hid (HhAt w1 w.heap.size h) := by show w1.heap[w.heap.size]? = _; rw [hw1, hC]; exact heap_alloc_new _ _
 have b1 : Below w.heap.size w w1 := by rw [hw1]; exact ba ..
 obtain ⟨w2, hw2⟩ : ∃ w2, w2 = w1.alloc (.cells #[.int .i64 0, .slice none 0 0] 144) := ⟨_, rfl⟩
 have b2 : Below w1.heap.size w1 w2 := by rw [hw2]; exact ba ..
 have R2 : Hid (w2.heap[w1.heap.size]? = some (.cells #[.int .i64 0, .slice none 0 0] 144 (0, 0))) := by rw [hw2]; exact heap_alloc_new _ _
 have A2 := hide (A1.out.below b2)
 have B2 : Hid (Below w.heap.size w w2) := b1.trans (b2.mono b1.size)
 have z1 : w1.heap.size = w.heap.size + 1 := by rw [hw1]; simp
 obtain ⟨gh, hgh⟩ : ∃ gh, gh = w.heap.size := ⟨_, rfl⟩
 obtain ⟨gr, hgr⟩ : ∃ gr, gr = w.heap.size + 1 := ⟨_, rfl⟩
 rw [<- hgh] at A1 A2
 rw [z1, <- hgr] at R2
 have HG : Hid (gh = w.heap.size /\ gr = w.heap.size + 1) := ⟨hgh, hgr⟩
 rw [hw1] at hw2
 unfold hhv
 rw [<- hC]
 clear ho hC b1 b2 A1 hw1 z1
 go_enter Tryz.func67, Tryz.ntmps67
 go_wp2_with fail
 rw [<- hw2, <- hgr, <- hgh]
 clear hw2 hgh hgr
 refine (wi_new w2).mono ?_
 rintro e w3 ⟨gw, rfl, i3, b3⟩
 have I3 := hide i3
 have B3 := hide b3
 clear i3 b3
 have hcv := fun W C n c => Lib.run_convert_bytes_const (P := Tryz.prog) W 32 5 C n c Tryz.underlying32 Tryz.underlying5
 go_wp2_with fail
 clear hcv
 obtain ⟨w4, hw4⟩ : ∃ w4, w4 = w3.alloc (.cells (S.v8 S.hmark) 5 (13, 14)) := ⟨_, rfl⟩
 have e4 : w3.alloc (.cells #[Value.int .u8 107, Value.int .u8 101, Value.int .u8 121, Value.int .u8 115, Value.int .u8 32, Value.int .u8 105, Value.int .u8 110, Value.int .u8 32, Value.int .u8 111, Value.int .u8 114, Value.int .u8 100, Value.int .u8 101, Value.int .u8 114] 5 (13, 14)) = w4 := hw4.symm
 rw [e4]
 have b4 : Below w3.heap.size w3 w4 := by rw [hw4]; exact ba ..
 have R4 : Hid (w4.heap[w3.heap.size]? = some (.cells (S.v8 S.hmark) 5 (13, 14))) := by rw [hw4]; exact heap_alloc_new _ _
 have I4 := hide (I3.out.below b4)
 have B4 := hide (B3.out.trans (b4.mono B3.out.size))
 have B34 := hide b4
 have RG : Hid (¬ w3.heap.size < w2.heap.size) := by show ¬ w3.heap.size < w2.heap.size; have := B3.out.size; omega
 obtain ⟨gm, hgm⟩ : ∃ gm, gm = w3.heap.size := ⟨_, rfl⟩
 rw [<- hgm] at R4 ⊢
 have HGM := hide hgm
 clear hw4 e4 b4 B3 hgm
 refine (wi_bytes2 w2.heap.size gw _ [] S.hmark w3 w4 I3.out B34.out (fun p W hc hp => Ao (hc.row R4.out (hp gm (Nat.le_of_eq HGM.out.symm)))) (by simp)).mono ?_
 rintro e w5 ⟨rfl, i5, b5⟩
 have I5 := hide i5
 have B5 := hide (B4.out.trans b5)
 clear i5 b5 I4 B4 R4 I3
 have A5 : HhAt w5 gh h := (B5.out.block gh (ae A2.out)).trans A2.out
 have c5 := A5.cnt
 have k1 : IntKind.u64.wrap (h.cnt : Int) = (h.cnt : Int) := by rw [IntKind.wrap_u64]; omega
 have k2 : IntKind.u64.wrap (h.root : Int) = (h.root : Int) := by rw [IntKind.wrap_u64]; omega
 have k3 : IntKind.u64.wrap (h.lv : Int) = (h.lv : Int) := by rw [IntKind.wrap_u64]; omega
 have m1 : (h.cnt : Int) % 18446744073709551616 = (h.cnt : Int) := by omega
 have m2 : (h.root : Int) % 18446744073709551616 = (h.root : Int) := by omega
 have m3 : (h.lv : Int) % 18446744073709551616 = (h.lv : Int) := by omega
 clear A5
 go_wp2_with fail
 refine (wi_num w2.heap.size gw h.cnt 4 _ w5 I5.out (by simp [S.text_length, S.hmark_length])).mono ?_
 rintro e w6 ⟨rfl, i6, b6⟩
 have I6 := hide i6
 have B6 := hide (B5.out.trans b6)
 clear i6 b6 I5 B5 c5
 have A6 : HhAt w6 gh h := (B6.out.block gh (ae A2.out)).trans A2.out
 have c6 := A6.root
 clear A6
 go_wp2_with fail
 refine (wi_num w2.heap.size gw h.root 2 _ w6 I6.out (by simp [S.text_length, S.aK, S.hmark_length]; decide)).mono ?_
 rintro e w7 ⟨rfl, i7, b7⟩
 have I7 := hide i7
 have B7 := hide (B6.out.trans b7)
 clear i7 b7 I6 B6 c6
 have A7 : HhAt w7 gh h := (B7.out.block gh (ae A2.out)).trans A2.out
 have c7 := A7.lv
 clear A7
 go_wp2_with fail
 refine (wi_num w2.heap.size gw h.lv 1 _ w7 I7.out (by simp [S.text_length, S.aK, S.hmark_length]; decide)).mono ?_
 rintro e w8 ⟨rfl, i8, b8⟩
 have I8 := hide i8
 have B8 := hide (B7.out.trans b8)
 clear i8 b8 I7 B7 c7
 go_wp2_with fail
 refine (wi_bytes w2.heap.size gw _ _ h.used w8 I8.out (fun W hW => HhAt.slice ((hW.block gh (ae A2.out)).trans ((B8.out.block gh (ae A2.out)).trans A2.out)) HO.out.used) (by simp [S.text_length, S.aK, S.hmark_length]; decide)).mono ?_
 rintro e w9 ⟨rfl, i9, b9⟩
 obtain ⟨T, hT⟩ : ∃ T, T = S.headB h.cnt h.root h.lv h.used := ⟨_, rfl⟩
 have eT : ((((([] : List UInt8) ++ S.text S.hmark) ++ S.num h.cnt (S.size 4)) ++ S.num h.root (S.size 2)) ++ S.num h.lv (S.size 1)) ++ S.text h.used = T := by
  rw [hT]
  unfold S.headB
  rw [show S.size 4 = 4 from by decide, show S.size 2 = 2 from by decide, show S.size 1 = 1 from by decide]
  simp only [List.nil_append, List.append_assoc]
 rw [eT] at i9
 have tl : T.length = 88 := by rw [hT]; exact S.headB_length _ _ _ _ HO.out.used
 have HT := hide hT
 have I9 := hide i9
 have B9 := hide (B8.out.trans b9)
 have HTL := hide tl
 clear i9 b9 I8 B8 eT hT tl k1 k2 k3 m1 m2 m3 q1 q2 q3
 go_wp2_with fail
 refine (wi_done w2.heap.size gw T w9 I9.out (by have := HTL.out; omega)).mono ?_
 rintro e w10 ⟨gt, rfl, g10, r10, b10⟩
 have SL : Hid (SliceAt w10 (.slice (some ⟨gt, 0, none⟩) T.length T.length) T) := aG r10 rfl (by have := HTL.out; omega)
 have B10 := hide (B9.out.trans (b10.mono B9.out.size))
 clear r10 b10 g10 I9 B9
 obtain ⟨tn, htn⟩ : ∃ tn, tn = T.length := ⟨_, rfl⟩
 rw [<- htn] at SL ⊢
 clear htn
 go_wp2_with fail
 refine (sheetOf_any _ 0 T w10 SL.out (by have := HTL.out; omega)).mono ?_
 rintro e w11 ⟨gb, rfl, g11, r11, b11⟩
 have R11 := hide r11
 have B11 := hide (B10.out.trans (b11.mono B10.out.size))
 have hr : w11.heap[gr]? = some (.cells #[.int .i64 0, .slice none 0 0] 144 (0, 0)) := (B11.out.block gr (ae R2.out)).trans R2.out
 have HRR := hide hr
 have GB : Hid (w2.heap.size <= gb) := ltr B10.out.size g11
 obtain ⟨c0, c1⟩ := cells2 hr
 have f0 := frozen_of_row _ _ 0 _ _ hr
 have f1 := frozen_of_row _ _ 1 _ _ hr
 clear r11 b11 g11 SL B10 hr
 go_wp2_with fail
 have hr7 := set2 (Value.int .i64 ((0 : Nat) : Int)) (.slice (some ⟨gb, 0, none⟩) 1024 1024) HRR.out
 have hc7 := chg2 w11 gr (Value.int .i64 ((0 : Nat) : Int)) (.slice (some ⟨gb, 0, none⟩) 1024 1024)
 refine bodyPost_ret (fK Tryz.results67 _ _ gr _ rfl (loadVar144 hr7)) rfl ?_
 have hb : Below w.heap.size w w11 := B2.out.trans (B11.out.mono B2.out.size)
 refine ⟨gb, rfl, by have := GB.out; have := B2.out.size; omega, by rw [<- HT.out]; exact hc7.row R11.out (by have := GB.out; have := ae R2.out; omega), hb.trans (hc7.base hb.size (by have := HG.out; omega))⟩
theorem sH (B g : Nat) (u : Value) (bs xs : List UInt8) (w : World) (h : Wi B w g bs) (hu : ∀ W, Below B w W -> SliceAt W u xs) (hb : bs.length <= 1000000) :
  Calls Tryz.prog 105 #[.pointer (some ⟨g, 0, none⟩), u] w fun e w' => e = .returned (.tuple #[]) /\ Wi B w' g (bs ++ S.text xs) /\ Below B w w' /\ ∀ (k : Nat) (c : Array Value) (p : Nat × Nat), w.heap[k]? = some (Obj.cells c 126 p) -> w'.heap[k]? = some (Obj.cells c 126 p) := by
 obtain ⟨v, h1, h2⟩ := h.is
 refine (wL g v u bs xs w h1 (fun W hW => hu W (hW.below B h.base (fun k hk e => by
  rcases e with e | e
  ·have := h.at_; omega
  ·have := h2 k e; omega))) (by omega)).mono ?_
 rintro e w1 ⟨rfl, v', h3, h4⟩
 obtain ⟨b1, b2⟩ := h4.base h.base h.at_ h2
 refine ⟨rfl, ⟨⟨v', h3, b2⟩, h.at_, ltr h.base b1.size⟩, b1, fun k c p hk => h4.chg.row hk (fun e => ?_)⟩
 rcases e with e | e
 ·exact ne_of_type hk h1.row (by decide) e
 ·rcases h1.text.2 with ⟨e0, _⟩ | ⟨g', cap, cur, e0, _, hr, _⟩
  ·rw [e0] at e; simp [Value.ownBlock] at e
  ·rw [e0] at e
   simp only [Value.ownBlock, Option.some.injEq] at e
   exact ne_of_type hk hr (by decide) e.symm
namespace S
def iU (es : List Ent) (k : Nat) : List UInt8 := num 0 1 ++ (num es.length 2 ++ entsB 0 (es.take k))
theorem vP (es : List Ent) : iU es 0 = ([] ++ num 0 1) ++ num es.length 2 := by simp [iU, entsB]
theorem xB (es : List Ent) : iU es es.length = nodeB 0 es := by unfold iU nodeB; rw [List.take_length]
theorem vQ {es : List Ent} {k : Nat} {x : Ent} (hx : es[k]? = some x) : (iU es k ++ text x.key) ++ text x.val = iU es (k + 1) := by
 unfold iU entsB
 rw [List.take_add_one, hx]
 simp [entB]
theorem zT {es : List Ent} (h : NodeOk 0 es) (k : Nat) : (iU es k).length <= 1022 := by
 unfold iU
 rw [List.length_append, List.length_append, aK, aK, entsB_length (fun x hx => h.ent x (List.mem_of_mem_take hx))]
 have := kw es k
 have := h.size
 omega
end S
set_option maxHeartbeats 4000000 in
set_option maxRecDepth 10000 in
theorem mX (g n : Nat) (es : List S.Ent) (w : World) (hn : NodeIs w g 0 es) (ho : S.NodeOk 0 es) :
  Calls Tryz.prog 68 #[.pointer (some ⟨g, 0, none⟩), .int .i64 (n : Int)] w fun e w' => ∃ q, e = .returned (.agg #[.int .i64 (n : Int), .slice (some ⟨q, 0, none⟩) 1024 1024]) /\ w.heap.size <= q /\ w'.heap[q]? = some (.cells (S.v8 (S.sheetB (S.nodeB 0 es))) 5 (0, 0)) /\ Below w.heap.size w w' := by
 have ND := hide hn
 have HO := hide ho
 clear hn ho
 go_enter Tryz.func68, Tryz.ntmps68
 go_wp2_with fail
 obtain ⟨w1, hw1⟩ : ∃ w1, w1 = w.alloc (.cells #[.int .i64 0, .slice none 0 0] 144) := ⟨_, rfl⟩
 rw [<- hw1]
 have b1 : Below w.heap.size w w1 := by rw [hw1]; exact ba ..
 have R1 : Hid (w1.heap[w.heap.size]? = some (.cells #[.int .i64 0, .slice none 0 0] 144 (0, 0))) := by rw [hw1]; exact heap_alloc_new _ _
 obtain ⟨gr, hgr⟩ : ∃ gr, gr = w.heap.size := ⟨_, rfl⟩
 rw [<- hgr] at R1 ⊢
 have HGR := hide hgr
 have B1 := hide b1
 have ND1 := hide (ND.out.below b1)
 clear hw1 b1 hgr ND
 refine (wi_new w1).mono ?_
 rintro e w2 ⟨gw, rfl, i2, b2⟩
 have I2 := hide i2
 have B2 := hide b2
 obtain ⟨v, d, h1, h2, h3⟩ := ND1.out.is
 obtain ⟨ao, cap, rfl, _⟩ := h2.form
 have hL := h3.1
 rw [hL] at h1 h2
 have AT : Hid (∀ W, Below w1.heap.size w1 W -> Els cZ W (.slice ao es.length cap) d /\ EnsAre W d es) := fun W hb => ⟨h2.below hb, h3.below hb⟩
 have RN : Hid (∀ W, Below w1.heap.size w1 W -> W.heap[g]? = some (.cells #[.int .i64 0, .slice ao es.length cap] 124 (0, 0))) := fun W hb => (hb.block g (ae h1)).trans h1
 obtain ⟨m, hm⟩ : ∃ m, m = es.length := ⟨_, rfl⟩
 have hlen : m <= 254 := by rw [hm]; exact HO.out.len
 have HM := hide hm
 rw [<- hm] at AT RN
 clear i2 b2 h1 h2 h3 hL ND1 hm
 have c2 := (cells2 (RN.out w2 B2.out)).1
 have hz : ((0 : Nat) : Int) = 0 := rfl
 go_wp2_with fail
 clear c2
 rw [<- hz]
 refine (wi_num w1.heap.size gw 0 1 [] w2 I2.out (by simp)).mono ?_
 rintro e w3 ⟨rfl, i3, b3⟩
 have I3 := hide i3
 have B3 := hide (B2.out.trans b3)
 clear i3 b3 I2 B2
 have c3 := (cells2 (RN.out w3 B3.out)).2
 have k1 : IntKind.u64.wrap (m : Int) = (m : Int) := by rw [IntKind.wrap_u64]; omega
 have k2 : (m : Int) % 18446744073709551616 = (m : Int) := by omega
 go_wp2_with fail
 clear c3
 refine (wi_num w1.heap.size gw m 2 _ w3 I3.out (by simp [S.aK]; decide)).mono ?_
 rintro e w4 ⟨rfl, i4, b4⟩
 have I4 : Hid (Wi w1.heap.size w4 gw (S.iU es 0)) := by
  rw [S.vP, <- HM.out]
  exact i4
 have B4 := hide (B3.out.trans b4)
 clear i4 b4 I3 B3 k1 k2 hz
 have c4 := (cells2 (RN.out w4 B4.out)).2
 go_wp2_with fail
 clear c4
 go_loopw [29] (fun i wr => ∃ k : Nat, k <= m /\ i = .int .i64 (k : Int) /\ Hid (Wi w1.heap.size wr gw (S.iU es k)) /\ Hid (Below w1.heap.size w1 wr)) (fun i _ => m - (intOf i).toNat)
 case atStart => exact ⟨0, by omega, rfl, I4, B4⟩
 case round =>
 clear I4 B4
 obtain ⟨k, hk, rfl, IW, BW⟩ := hrel
 by_cases hlt : k < m
 ·have hke : k < es.length := by have := HM.out; omega
  obtain ⟨hE, hA⟩ := AT.out wr BW.out
  rw [HM.out] at hE
  obtain ⟨b, off, cap', x, hv, hcap, hx, hb, hi, t0, t1, t2, t3⟩ := uI hE hA k hke
  injection hv with hv1 hv2 hv3
  subst hv1 hv3
  have KEY : Hid (∀ W, Below wr.heap.size wr W -> SliceAt W (.slice x.ka x.kn x.kc) es[k].key /\ SliceAt W (.slice x.va x.vn x.vc) es[k].val) := fun W hb => ⟨hi.key.below hb (lr _), hi.val.below hb (lr _)⟩
  have KEYB : Hid (∀ W, Below w1.heap.size w1 W -> SliceAt W (.slice x.ka x.kn x.kc) es[k].key /\ SliceAt W (.slice x.va x.vn x.vc) es[k].val) := fun W hb => by
   obtain ⟨_, hA'⟩ := AT.out W hb
   have := hA'.2 k x es[k] hx (List.getElem?_eq_getElem hke)
   exact ⟨this.key, this.val⟩
  have SUC := hide (S.vQ (List.getElem?_eq_getElem hke))
  have LE := hide (S.zT HO.out k)
  have KL := hide (HO.out.ent _ (List.getElem_mem hke)).key
  obtain ⟨ka, kn, kc, va, vn, vc, pg, nd⟩ := x
  simp only at t0 t1 t2 t3
  have hkI : (k : Int) < (m : Int) := by omega
  have hk0 : (0 : Int) <= (k : Int) := by omega
  clear hv2 hi hx hE hA hcap KEY
  go_upto_region 7 with fail
  obtain ⟨W, hW⟩ : ∃ W, W = wr.alloc (.cells #[.slice ka kn kc, .slice va vn vc, .int .i64 pg, .pointer nd] 126) := ⟨_, rfl⟩
  rw [<- hW]
  have bW : Below wr.heap.size wr W := by rw [hW]; exact ba ..
  have rW : W.heap[wr.heap.size]? = some (.cells #[.slice ka kn kc, .slice va vn vc, .int .i64 pg, .pointer nd] 126 (0, 0)) := by rw [hW]; exact heap_alloc_new _ _
  obtain ⟨gb, hgb⟩ : ∃ gb, gb = wr.heap.size := ⟨_, rfl⟩
  rw [<- hgb] at rW ⊢
  obtain ⟨x0, x1, x2, x3⟩ := dh rW
  have RW := hide rW
  have BWW := hide (BW.out.trans (bW.mono BW.out.size))
  have IWW := hide (IW.out.below bW)
  have GB : Hid (wr.heap.size <= gb) := by rw [hgb]; exact lr _
  have b01 := hide bW
  clear hW bW rW hgb t0 t1 t2 t3 IW
  go_wp2_with fail
  refine (sH w1.heap.size gw _ _ es[k].key W IWW.out (fun V hV => (KEYB.out V (BWW.out.trans hV)).1) (by have := LE.out; omega)).mono ?_
  rintro e W2 ⟨rfl, i2, b2, p2⟩
  have I2 := hide i2
  have B2 := hide (BWW.out.trans b2)
  obtain ⟨y0, y1, y2, y3⟩ := dh (p2 gb _ _ RW.out)
  have cn := (cells2 (RN.out W2 B2.out)).1
  clear i2 b2 p2 IWW BWW RW x0 x1 x2 x3 b01
  go_wp2_with fail
  refine (sH w1.heap.size gw _ _ es[k].val W2 I2.out (fun V hV => (KEYB.out V (B2.out.trans hV)).2) (by have := LE.out; have := KL.out; rw [List.length_append, S.text_length, Nat.mod_eq_of_lt (by omega)]; omega)).mono ?_
  rintro e W3 ⟨rfl, i3, b3, _⟩
  rw [SUC.out] at i3
  have I3 := hide i3
  have B3 := hide (B2.out.trans b3)
  clear i3 b3 I2 B2 y0 y1 y2 y3 cn SUC KEYB
  go_wp2_with fail
  go_roundw
  case rel => exact ⟨k + 1, by omega, by go_num, I3, B3⟩
  case measure => simp [intOf]; omega
 ·obtain rfl : k = m := by omega
  have eT : S.iU es k = S.nodeB 0 es := by rw [HM.out]; exact S.xB es
  rw [eT] at IW
  have tl := HO.out.text
  obtain ⟨T, hT⟩ : ∃ T, T = S.nodeB 0 es := ⟨_, rfl⟩
  rw [<- hT] at IW tl
  have HT := hide hT
  have HTL := hide tl
  clear eT hT tl
  go_wp2_with fail
  refine (wi_done w1.heap.size gw T wr IW.out (by have := HTL.out; omega)).mono ?_
  rintro e w10 ⟨gt, rfl, g10, r10, b10⟩
  have SL : Hid (SliceAt w10 (.slice (some ⟨gt, 0, none⟩) T.length T.length) T) := aG r10 rfl (by have := HTL.out; omega)
  have B10 := hide (BW.out.trans (b10.mono BW.out.size))
  clear r10 b10 g10 IW BW
  obtain ⟨tn, htn⟩ : ∃ tn, tn = T.length := ⟨_, rfl⟩
  rw [<- htn] at SL ⊢
  clear htn
  go_wp2_with fail
  refine (sheetOf_any _ n T w10 SL.out (by have := HTL.out; omega)).mono ?_
  rintro e w11 ⟨gb, rfl, g11, r11, b11⟩
  have R11 := hide r11
  have B11 := hide (B10.out.trans (b11.mono B10.out.size))
  have hr : w11.heap[gr]? = some (.cells #[.int .i64 0, .slice none 0 0] 144 (0, 0)) := (B11.out.block gr (ae R1.out)).trans R1.out
  have HRR := hide hr
  have GB : Hid (w1.heap.size <= gb) := ltr B10.out.size g11
  obtain ⟨c0, c1⟩ := cells2 hr
  have f0 := frozen_of_row _ _ 0 _ _ hr
  have f1 := frozen_of_row _ _ 1 _ _ hr
  clear r11 b11 g11 SL B10 hr
  go_wp2_with fail
  have hr7 := set2 (Value.int .i64 (n : Int)) (.slice (some ⟨gb, 0, none⟩) 1024 1024) HRR.out
  have hc7 := chg2 w11 gr (Value.int .i64 (n : Int)) (.slice (some ⟨gb, 0, none⟩) 1024 1024)
  refine bodyPost_ret (fK Tryz.results68 _ _ gr _ rfl (loadVar144 hr7)) rfl ?_
  have hb : Below w.heap.size w w11 := B1.out.trans (B11.out.mono B1.out.size)
  refine ⟨gb, rfl, by have := GB.out; have := B1.out.size; omega, by rw [<- HT.out]; exact hc7.row R11.out (by have := GB.out; have := ae R1.out; omega), hb.trans (hc7.base hb.size (by have := HGR.out; omega))⟩
end Go.Proofs.YteealihknndclaaGreatDoor
