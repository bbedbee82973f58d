/- Writers of one's own; the sheet of a text, of a head, of a node. -/
import Derived.Test.YteealihknndclabGreatDoorBd
import Derived.Test.YteealihknndclabGreatDoorGl
import Derived.Great.BuildSlice
import Derived.Test.YteealihknndclabGreatDoorJa
import Derived.Shelf.SlSortCmp.WholeK
import Derived.Shelf.SlicesG.Cmp
import Derived.Shelf.Lay
import Derived.Ground.SlsfProg
import Derived.Ground.SlgcProg
import Derived.Test.YteealihknndclabGreatDoorProg
namespace Go.Proofs.YteealihknndclabGreatDoor
open Go.RowKit

structure Wi (B : Nat) (w : World) (g : Nat) (bs : List UInt8) : Prop where
 is : ∃ v, gW w g v bs /\ ∀ k, v.ownBlock = some k -> B <= k
 at_ : B <= g
 base : B <= w.heap.size
theorem yD (w : World) : Calls Tryz.prog 73 #[] w fun e w' => ∃ g, e = .returned (.pointer (some ⟨g, 0, none⟩)) /\ Wi w.heap.size w' g [] /\ Below w.heap.size w w' := by
 refine (iw w).mono ?_
 rintro e w1 ⟨rfl, h1, h2⟩
 exact ⟨_, rfl, ⟨⟨_, h1, nQ _⟩, lr _, h2.size⟩, h2⟩
theorem qW (B g n : Nat) (k : Int) (bs : List UInt8) (w : World) (h : Wi B w g bs) (hb : bs.length <= 1000000) :
  Calls Tryz.prog 75 #[.pointer (some ⟨g, 0, none⟩), .int .u64 (n : Int), .int .i64 k] w fun e w' => e = .returned (.tuple #[]) /\ Wi B w' g (bs ++ S.num n (S.size k)) /\ Below B w w' := by
 obtain ⟨v, h1, h2⟩ := h.is
 refine (kS g v bs n k w h1 (by omega)).mono ?_
 rintro e w1 ⟨rfl, v', h3, h4⟩
 obtain ⟨b1, b2⟩ := h4.base h.base h.at_ h2
 exact ⟨rfl, ⟨⟨v', h3, b2⟩, h.at_, ltr h.base b1.size⟩, b1⟩
theorem wP (B g : Nat) (u : Value) (bs xs : List UInt8) (w : World) (h : Wi B w g bs) (hu : ∀ W, Below B w W -> SliceAt W u xs) (hb : bs.length <= 1000000) :
  Calls Tryz.prog 74 #[.pointer (some ⟨g, 0, none⟩), u] w fun e w' => e = .returned (.tuple #[]) /\ Wi B w' g (bs ++ S.text xs) /\ Below B w w' := by
 obtain ⟨v, h1, h2⟩ := h.is
 refine (mM g v u bs xs w h1 (fun W hW => hu W (hW.below B h.base (fun k hk e => by
  rcases e with e | e
  ·have := h.at_; omega
  ·have := h2 k e; omega))) (by omega)).mono ?_
 rintro e w1 ⟨rfl, v', h3, h4⟩
 obtain ⟨b1, b2⟩ := h4.base h.base h.at_ h2
 exact ⟨rfl, ⟨⟨v', h3, b2⟩, h.at_, ltr h.base b1.size⟩, b1⟩
theorem Bd (B g : Nat) (u : Value) (bs xs : List UInt8) (w0 w : World) (h : Wi B w0 g bs) (hb0 : Below w0.heap.size w0 w) (hu : ∀ p W, Chg p w W -> (∀ k, w0.heap.size <= k -> ¬ p k) -> SliceAt W u xs) (hb : bs.length <= 1000000) :
  Calls Tryz.prog 74 #[.pointer (some ⟨g, 0, none⟩), u] w fun e w' => e = .returned (.tuple #[]) /\ Wi B w' g (bs ++ S.text xs) /\ Below B w w' := by
 obtain ⟨v, h1, h2⟩ := h.is
 have hl : ∀ k, v.ownBlock = some k -> k < w0.heap.size := fun k hk => h1.text.lt hk
 have hg := h1.lt
 refine (mM g v u bs xs w (h1.below hb0) (fun W hW => hu _ W hW (fun k hk e => by
  rcases e with e | e
  ·omega
  ·have := hl k e; omega)) (by omega)).mono ?_
 rintro e w1 ⟨rfl, v', h3, h4⟩
 have hB : B <= w.heap.size := ltr h.base hb0.size
 obtain ⟨b1, b2⟩ := h4.base hB h.at_ h2
 exact ⟨rfl, ⟨⟨v', h3, b2⟩, h.at_, ltr hB b1.size⟩, b1⟩
theorem vv (B g : Nat) (bs : List UInt8) (w : World) (h : Wi B w g bs) (hb : bs.length <= 1000000) :
  Calls Tryz.prog 77 #[.pointer (some ⟨g, 0, none⟩)] w fun e w' => ∃ t, e = .returned (.slice (some ⟨t, 0, none⟩) bs.length bs.length) /\ w.heap.size <= t /\ w'.heap[t]? = some (.cells (S.v8 bs) 5 (0, 0)) /\ Below w.heap.size w w' := by
 obtain ⟨v, h1, h2⟩ := h.is
 refine (lH g v bs w h1 (by omega)).mono ?_
 rintro e w1 ⟨rfl, h3, h4⟩
 exact ⟨_, rfl, lr _, h3, h4⟩
theorem Wi.below {B : Nat} {w W : World} {g : Nat} {bs : List UInt8} (h : Wi B w g bs) (hb : Below w.heap.size w W) : Wi B W g bs := by
 obtain ⟨v, h1, h2⟩ := h.is
 exact ⟨⟨v, h1.below hb, h2⟩, h.at_, ltr h.base hb.size⟩
theorem size144 : (Tryz.prog.info? 109).map (·.size) = some 2 := by kernel_rfl
theorem mY {w : World} {g : Nat} {a b : Value} (h : w.heap[g]? = some (.cells #[a, b] 109 (0, 0))) : (loadVar 109 ⟨g, 0, none⟩).run Tryz.prog w = .ok (.agg #[a, b]) w :=
 run_loadVar_mid (P := Tryz.prog) w g 0 109 [a, b] _ (aH h) Tryz.underlying109 rfl (by rw [size144]; rfl)
theorem set2 {w : World} {g : Nat} {a b : Value} {t : TypeId} (a' b' : Value) (h : w.heap[g]? = some (.cells #[a, b] t (0, 0))) : ((w.setCell ⟨g, 0, none⟩ a').setCell ⟨g, 1, none⟩ b').heap[g]? = some (.cells #[a', b'] t (0, 0)) := by
 have h1 := heap_setCell_same w g 0 _ _ a' h
 rw [heap_setCell_same _ g 1 _ _ b' h1]
 rfl
theorem chg2 (w : World) (g : Nat) (a b : Value) : Chg (fun k => k = g) w ((w.setCell ⟨g, 0, none⟩ a).setCell ⟨g, 1, none⟩ b) := ((Chg.refl (fun k => k = g) _).setCell g 0 a (fun _ => rfl)).setCell g 1 b (fun _ => rfl)
set_option maxHeartbeats 1000000 in
set_option maxRecDepth 10000 in
theorem p9 (v : Value) (n : Nat) (xs : List UInt8) (w : World) (hv : SliceAt w v xs) (hx : xs.length <= 1022) :
  Calls Tryz.prog 76 #[.int .i64 (n : Int), v] w fun e w' => ∃ g, e = .returned (.agg #[.int .i64 (n : Int), .slice (some ⟨g, 0, none⟩) 1024 1024]) /\ w.heap.size <= g /\ w'.heap[g]? = some (.cells (S.v8 (S.aO xs)) 5 (0, 0)) /\ Below w.heap.size w w' := by
 have HV := hide hv
 have HX := hide hx
 obtain ⟨ao, l1, c1, rfl, z1, z2⟩ := hv.form
 clear hv z1 z2 hx
 go_enter Tryz.func76, Tryz.ntmps76
 go_wp2_with fail
 obtain ⟨w1, hw1⟩ : ∃ w1, w1 = w.alloc (.cells #[.int .i64 0, .slice none 0 0] 109) := ⟨_, rfl⟩
 rw [<- hw1]
 have b1 : Below w.heap.size w w1 := by rw [hw1]; exact ba ..
 have r1 : w1.heap[w.heap.size]? = some (.cells #[.int .i64 0, .slice none 0 0] 109 (0, 0)) := by rw [hw1]; exact heap_alloc_new _ _
 obtain ⟨gr, hgr⟩ : ∃ gr, gr = w.heap.size := ⟨_, rfl⟩
 rw [<- hgr] at r1 ⊢
 have HGR : Hid (gr = w.heap.size) := hgr
 have B1 := hide b1
 have R1 := hide r1
 have V1 := hide (HV.out.below b1 (lr _))
 clear b1 r1 hw1 hgr
 refine (yD w1).mono ?_
 rintro e w2 ⟨gw, rfl, i2, b2⟩
 have I2 := hide i2
 have B2 := hide b2
 clear i2 b2
 go_wp2_with fail
 refine (wP w1.heap.size gw _ [] xs w2 I2.out (fun W hW => V1.out.below (B2.out.trans hW) (lr _)) (by simp)).mono ?_
 rintro e w3 ⟨rfl, i3, b3⟩
 have I3 := hide i3
 have B3 : Hid (Below w1.heap.size w1 w3) := B2.out.trans b3
 clear i3 b3 I2 B2
 have hmk : ∀ w : World, (Instr.makeSlice 22 (.int .i64 1024) (.int .i64 1024)).run Tryz.prog w = .ok (.slice (some ⟨w.heap.size, 0, none⟩) 1024 1024) (w.alloc (.cells (S.v8 (S.zeros 1024)) 5)) := fun w => di 1024 (by omega) w
 go_wp2_with fail
 clear hmk
 obtain ⟨w4, hw4⟩ : ∃ w4, w4 = w3.alloc (.cells (S.v8 (S.zeros 1024)) 5) := ⟨_, rfl⟩
 rw [<- hw4]
 have b4 : Below w3.heap.size w3 w4 := by rw [hw4]; exact ba ..
 have r4 : w4.heap[w3.heap.size]? = some (.cells (S.v8 (S.zeros 1024)) 5 (0, 0)) := by rw [hw4]; exact heap_alloc_new _ _
 obtain ⟨gb, hgb⟩ : ∃ gb, gb = w3.heap.size := ⟨_, rfl⟩
 rw [<- hgb] at r4 ⊢
 have LG : Hid (w1.heap.size <= gb) := by rw [hgb]; exact B3.out.size
 have R4 := hide r4
 have B4 : Hid (Below w1.heap.size w1 w4) := B3.out.trans (b4.mono B3.out.size)
 have I4 := hide (I3.out.below b4)
 clear b4 r4 hw4 hgb I3 B3
 have tl : ([] ++ S.text xs).length = 2 + xs.length := by rw [List.nil_append, S.text_length, Nat.mod_eq_of_lt (by have := HX.out; omega)]
 obtain ⟨T, hT⟩ : ∃ T, T = [] ++ S.text xs := ⟨_, rfl⟩
 rw [<- hT] at tl I4
 have HT : Hid (T = S.text xs) := hT
 have HTL : Hid (T.length <= 1024) := by have := HX.out; show T.length <= 1024; omega
 have HTE := hide tl
 clear hT tl
 refine (vv w1.heap.size gw T w4 I4.out (by have := HTL.out; omega)).mono ?_
 rintro e w5 ⟨gt, rfl, g5, r5, b5⟩
 have R5 : Hid (w5.heap[gb]? = some (.cells (S.v8l (S.zeros 1024)).toArray 5 (0, 0))) := (b5.block gb (aa R4.out)).trans R4.out
 have B5 : Hid (Below w1.heap.size w1 w5) := B4.out.trans (b5.mono B4.out.size)
 have HST : Hid (Src w5 (some ⟨gt, 0, none⟩) T) := fun _ => ⟨gt, 0, rfl, aa r5, fun j hj => by rw [Nat.zero_add]; exact bL r5 j hj⟩
 obtain ⟨tn, htn⟩ : ∃ tn, tn = T.length := ⟨_, rfl⟩
 rw [<- htn]
 have HN : Hid ((S.v8l T).length = Nat.min tn 1024) := by show (S.v8l T).length = min tn 1024; rw [S.ae, <- htn]; have := HTL.out; omega
 have HF : Hid (0 + (S.v8l T).length <= (S.v8l (S.zeros 1024)).length) := by show 0 + (S.v8l T).length <= (S.v8l (S.zeros 1024)).length; rw [S.ae, S.ae, S.zeros_length]; have := HTL.out; omega
 clear g5 r5 b5 htn R4 B4 I4
 go_wp2_with (first | (
   refine wpList_copy_splice rfl (.tmp 12) (.tmp 14) 22 22 rfl 5 Tryz.underlying22 kP _ _ _ _ _ _ rfl rfl gb 0 (S.v8l (S.zeros 1024)) 5 R5.out (S.v8l T) HN.out (eZ gb HST.out (Below.refl _ _)) HF.out (S.df _) w1.heap.size w1 B5.out LG.out ?_
   intro w6 HG2 hB2
   have R6 := hide (jg HG2)
   have B6 := hide hB2
   have R61 : Hid (w6.heap[gr]? = some (.cells #[.int .i64 0, .slice none 0 0] 109 (0, 0))) := (hB2.block gr (aa R1.out)).trans R1.out
   obtain ⟨c0, c1⟩ := aK R61.out
   have f0 := frozen_of_row _ _ 0 _ _ R61.out
   have f1 := frozen_of_row _ _ 1 _ _ R61.out
   clear HG2 hB2))
 have hr7 := set2 (Value.int .i64 (n : Int)) (.slice (some ⟨gb, 0, none⟩) 1024 1024) R61.out
 have hc7 := chg2 w6 gr (Value.int .i64 (n : Int)) (.slice (some ⟨gb, 0, none⟩) 1024 1024)
 refine bodyPost_ret (bi Tryz.results76 _ _ gr _ rfl (mY hr7)) rfl ?_
 have e : S.aO xs = splice (S.zeros 1024) 0 T := by
  rw [dS, HTE.out, HT.out]
  unfold S.aO
  rw [show 1024 - (2 + xs.length) = 1022 - xs.length by omega]
 have hw6 : Below w.heap.size w w6 := B1.out.trans (B6.out.mono B1.out.size)
 have hne : ¬ gb = gr := by have := LG.out; have := HGR.out; have := aa R1.out; omega
 refine ⟨gb, rfl, by have := LG.out; have := B1.out.size; omega, ?_, hw6.trans (hc7.base hw6.size (by have := HGR.out; omega))⟩
 rw [e]
 exact hc7.row R6.out hne
theorem bS.slice {w : World} {b : Nat} {h : S.Hh} (a : bS w b h) (hl : h.used.length = 64) : SliceAt w (.slice (some ⟨b, 3, none⟩) 64 64) h.used :=
 Or.inr (Or.inr ⟨b, 3, 64, by rw [hl], by omega, by omega, aa a, fun j hj => a.byte j hj⟩)
theorem bS.below {w W : World} {b : Nat} {h : S.Hh} (a : bS w b h) (hb : Below w.heap.size w W) : bS W b h := (hb.block b (aa a)).trans a
theorem Cu {w : World} {g : Nat} {p : Nat × Nat} (h : w.heap[g]? = some (.cells (S.v8 S.gu) 5 p)) : SliceAt w (.slice (some ⟨g, 0, none⟩) 13 13) S.gu := by
 have := rz h (by decide)
 exact this
set_option maxHeartbeats 1000000 in
set_option maxRecDepth 10000 in
theorem sF (h : S.Hh) (w : World) (ho : h.Ok) :
  Calls Tryz.prog 43 #[hhv h] w fun e w' => ∃ g, e = .returned (.agg #[.int .i64 0, .slice (some ⟨g, 0, none⟩) 1024 1024]) /\ w.heap.size <= g /\ w'.heap[g]? = some (.cells (S.v8 (S.aO (S.dM h.cnt h.root h.lv h.used))) 5 (0, 0)) /\ Below w.heap.size w w' := by
 have HO := hide ho
 have q1 := ho.cnt
 have q2 := ho.root.2
 have q3 := ho.lv
 obtain ⟨C, hC⟩ : ∃ C, C = (S.hhc h).toArray := ⟨_, rfl⟩
 obtain ⟨w1, hw1⟩ : ∃ w1, w1 = w.alloc (.cells C 106) := ⟨_, rfl⟩
 have A1 : Hid (bS w1 w.heap.size h) := by show w1.heap[w.heap.size]? = _; rw [hw1, hC]; exact heap_alloc_new _ _
 have b1 : Below w.heap.size w w1 := by rw [hw1]; exact ba ..
 obtain ⟨w2, hw2⟩ : ∃ w2, w2 = w1.alloc (.cells #[.int .i64 0, .slice none 0 0] 109) := ⟨_, rfl⟩
 have b2 : Below w1.heap.size w1 w2 := by rw [hw2]; exact ba ..
 have R2 : Hid (w2.heap[w1.heap.size]? = some (.cells #[.int .i64 0, .slice none 0 0] 109 (0, 0))) := by rw [hw2]; exact heap_alloc_new _ _
 have A2 := hide (A1.out.below b2)
 have B2 : Hid (Below w.heap.size w w2) := b1.trans (b2.mono b1.size)
 have z1 : w1.heap.size = w.heap.size + 1 := by rw [hw1]; simp
 obtain ⟨gh, hgh⟩ : ∃ gh, gh = w.heap.size := ⟨_, rfl⟩
 obtain ⟨gr, hgr⟩ : ∃ gr, gr = w.heap.size + 1 := ⟨_, rfl⟩
 rw [<- hgh] at A1 A2
 rw [z1, <- hgr] at R2
 have HG : Hid (gh = w.heap.size /\ gr = w.heap.size + 1) := ⟨hgh, hgr⟩
 rw [hw1] at hw2
 unfold hhv
 rw [<- hC]
 clear ho hC b1 b2 A1 hw1 z1
 go_enter Tryz.func43, Tryz.ntmps43
 go_wp2_with fail
 rw [<- hw2, <- hgr, <- hgh]
 clear hw2 hgh hgr
 refine (yD w2).mono ?_
 rintro e w3 ⟨gw, rfl, i3, b3⟩
 have I3 := hide i3
 have B3 := hide b3
 clear i3 b3
 have hcv := fun W C n c => Lib.run_convert_bytes_const (P := Tryz.prog) W 22 5 C n c Tryz.underlying22 Tryz.underlying5
 go_wp2_with fail
 clear hcv
 obtain ⟨w4, hw4⟩ : ∃ w4, w4 = w3.alloc (.cells (S.v8 S.gu) 5 (13, 14)) := ⟨_, rfl⟩
 have e4 : w3.alloc (.cells #[Value.int .u8 107, Value.int .u8 101, Value.int .u8 121, Value.int .u8 115, Value.int .u8 32, Value.int .u8 105, Value.int .u8 110, Value.int .u8 32, Value.int .u8 111, Value.int .u8 114, Value.int .u8 100, Value.int .u8 101, Value.int .u8 114] 5 (13, 14)) = w4 := hw4.symm
 rw [e4]
 have b4 : Below w3.heap.size w3 w4 := by rw [hw4]; exact ba ..
 have R4 : Hid (w4.heap[w3.heap.size]? = some (.cells (S.v8 S.gu) 5 (13, 14))) := by rw [hw4]; exact heap_alloc_new _ _
 have I4 := hide (I3.out.below b4)
 have B4 := hide (B3.out.trans (b4.mono B3.out.size))
 have B34 := hide b4
 have RG : Hid (¬ w3.heap.size < w2.heap.size) := by show ¬ w3.heap.size < w2.heap.size; have := B3.out.size; omega
 obtain ⟨gm, hgm⟩ : ∃ gm, gm = w3.heap.size := ⟨_, rfl⟩
 rw [<- hgm] at R4 ⊢
 have HGM := hide hgm
 clear hw4 e4 b4 B3 hgm
 refine (Bd w2.heap.size gw _ [] S.gu w3 w4 I3.out B34.out (fun p W hc hp => Cu (hc.row R4.out (hp gm (Nat.le_of_eq HGM.out.symm)))) (by simp)).mono ?_
 rintro e w5 ⟨rfl, i5, b5⟩
 have I5 := hide i5
 have B5 := hide (B4.out.trans b5)
 clear i5 b5 I4 B4 R4 I3
 have A5 : bS w5 gh h := (B5.out.block gh (aa A2.out)).trans A2.out
 have c5 := A5.cnt
 have k1 : IntKind.u64.wrap (h.cnt : Int) = (h.cnt : Int) := by rw [IntKind.wrap_u64]; omega
 have k2 : IntKind.u64.wrap (h.root : Int) = (h.root : Int) := by rw [IntKind.wrap_u64]; omega
 have k3 : IntKind.u64.wrap (h.lv : Int) = (h.lv : Int) := by rw [IntKind.wrap_u64]; omega
 have m1 : (h.cnt : Int) % 18446744073709551616 = (h.cnt : Int) := by omega
 have m2 : (h.root : Int) % 18446744073709551616 = (h.root : Int) := by omega
 have m3 : (h.lv : Int) % 18446744073709551616 = (h.lv : Int) := by omega
 clear A5
 go_wp2_with fail
 refine (qW w2.heap.size gw h.cnt 4 _ w5 I5.out (by simp [S.text_length, S.iX])).mono ?_
 rintro e w6 ⟨rfl, i6, b6⟩
 have I6 := hide i6
 have B6 := hide (B5.out.trans b6)
 clear i6 b6 I5 B5 c5
 have A6 : bS w6 gh h := (B6.out.block gh (aa A2.out)).trans A2.out
 have c6 := A6.root
 clear A6
 go_wp2_with fail
 refine (qW w2.heap.size gw h.root 2 _ w6 I6.out (by simp [S.text_length, S.ak, S.iX]; decide)).mono ?_
 rintro e w7 ⟨rfl, i7, b7⟩
 have I7 := hide i7
 have B7 := hide (B6.out.trans b7)
 clear i7 b7 I6 B6 c6
 have A7 : bS w7 gh h := (B7.out.block gh (aa A2.out)).trans A2.out
 have c7 := A7.lv
 clear A7
 go_wp2_with fail
 refine (qW w2.heap.size gw h.lv 1 _ w7 I7.out (by simp [S.text_length, S.ak, S.iX]; decide)).mono ?_
 rintro e w8 ⟨rfl, i8, b8⟩
 have I8 := hide i8
 have B8 := hide (B7.out.trans b8)
 clear i8 b8 I7 B7 c7
 go_wp2_with fail
 refine (wP w2.heap.size gw _ _ h.used w8 I8.out (fun W hW => bS.slice ((hW.block gh (aa A2.out)).trans ((B8.out.block gh (aa A2.out)).trans A2.out)) HO.out.used) (by simp [S.text_length, S.ak, S.iX]; decide)).mono ?_
 rintro e w9 ⟨rfl, i9, b9⟩
 obtain ⟨T, hT⟩ : ∃ T, T = S.dM h.cnt h.root h.lv h.used := ⟨_, rfl⟩
 have eT : ((((([] : List UInt8) ++ S.text S.gu) ++ S.num h.cnt (S.size 4)) ++ S.num h.root (S.size 2)) ++ S.num h.lv (S.size 1)) ++ S.text h.used = T := by
  rw [hT]
  unfold S.dM
  rw [show S.size 4 = 4 from by decide, show S.size 2 = 2 from by decide, show S.size 1 = 1 from by decide]
  simp only [List.nil_append, List.append_assoc]
 rw [eT] at i9
 have tl : T.length = 88 := by rw [hT]; exact S.iY _ _ _ _ HO.out.used
 have HT := hide hT
 have I9 := hide i9
 have B9 := hide (B8.out.trans b9)
 have HTL := hide tl
 clear i9 b9 I8 B8 eT hT tl k1 k2 k3 m1 m2 m3 q1 q2 q3
 go_wp2_with fail
 refine (vv w2.heap.size gw T w9 I9.out (by have := HTL.out; omega)).mono ?_
 rintro e w10 ⟨gt, rfl, g10, r10, b10⟩
 have SL : Hid (SliceAt w10 (.slice (some ⟨gt, 0, none⟩) T.length T.length) T) := az r10 rfl (by have := HTL.out; omega)
 have B10 := hide (B9.out.trans (b10.mono B9.out.size))
 clear r10 b10 g10 I9 B9
 obtain ⟨tn, htn⟩ : ∃ tn, tn = T.length := ⟨_, rfl⟩
 rw [<- htn] at SL ⊢
 clear htn
 go_wp2_with fail
 refine (p9 _ 0 T w10 SL.out (by have := HTL.out; omega)).mono ?_
 rintro e w11 ⟨gb, rfl, g11, r11, b11⟩
 have R11 := hide r11
 have B11 := hide (B10.out.trans (b11.mono B10.out.size))
 have hr : w11.heap[gr]? = some (.cells #[.int .i64 0, .slice none 0 0] 109 (0, 0)) := (B11.out.block gr (aa R2.out)).trans R2.out
 have HRR := hide hr
 have GB : Hid (w2.heap.size <= gb) := ltr B10.out.size g11
 obtain ⟨c0, c1⟩ := aK hr
 have f0 := frozen_of_row _ _ 0 _ _ hr
 have f1 := frozen_of_row _ _ 1 _ _ hr
 clear r11 b11 g11 SL B10 hr
 go_wp2_with fail
 have hr7 := set2 (Value.int .i64 ((0 : Nat) : Int)) (.slice (some ⟨gb, 0, none⟩) 1024 1024) HRR.out
 have hc7 := chg2 w11 gr (Value.int .i64 ((0 : Nat) : Int)) (.slice (some ⟨gb, 0, none⟩) 1024 1024)
 refine bodyPost_ret (bi Tryz.results43 _ _ gr _ rfl (mY hr7)) rfl ?_
 have hb : Below w.heap.size w w11 := B2.out.trans (B11.out.mono B2.out.size)
 refine ⟨gb, rfl, by have := GB.out; have := B2.out.size; omega, by rw [<- HT.out]; exact hc7.row R11.out (by have := GB.out; have := aa R2.out; omega), hb.trans (hc7.base hb.size (by have := HG.out; omega))⟩
theorem info37 : (Tryz.prog.info? 109).map (fun i => (i.zero, i.size, i.bytes)) = some (some (.agg #[.int .i64 0, .slice none 0 0]), 2, 32) := by kernel_rfl
theorem CS (a : Addr) (n cap : Nat) (W : World) : (binOp .eql 82 (.slice (some a) n cap) (.slice none 0 0)).run Tryz.prog W = .ok (.bool false) W :=
 by
  have h : ∀ d : Nat, (Op.equalIn (d + 1) 82 (.slice (some a) n cap) (.slice none 0 0)).run Tryz.prog W = .ok false W := fun d => by
   simp [Op.equalIn, run_underlying Tryz.underlying82]
  simp only [binOp]
  simp [Op.equal, Op.maxDepth, h 9999]
end Go.Proofs.YteealihknndclabGreatDoor
namespace Go.Proofs.YteealihknndclabGreatDoor
open Go.RowKit

theorem iF {w : World} {g : Nat} {x y : Value} (h : w.heap[g]? = some (.cells #[x, y] 109 (0, 0))) : w.cell? ⟨g, 0, none⟩ = some x /\ w.cell? ⟨g, 1, none⟩ = some y :=
 ⟨by rw [cell_of_row w g 0 _ 109 _ h]; rfl, by rw [cell_of_row w g 1 _ 109 _ h]; rfl⟩
end Go.Proofs.YteealihknndclabGreatDoor
namespace Go.Proofs.YteealihknndclabGreatDoor
open Go.RowKit

end Go.Proofs.YteealihknndclabGreatDoor
namespace Go.Proofs
open Go.Shelf Go.RowKit Go.Lib Go.Sort
shelf_lay_g SlLaysF0.n6 Slsf 6 at Tryz 92 as Tryz.sortSheets
shelf_lay_g SlLaysC2.n5 Slgc 5 at Tryz 94 as Tryz.cmpInt
end Go.Proofs
namespace Go.Proofs.YteealihknndclabGreatDoor
open Go.Shelf Go.RowKit Go.Lib Go.Sort

abbrev ShV := Int × Option Addr × Nat × Nat
def ShV.list (x : ShV) : Value := .slice x.2.1 x.2.2.1 x.2.2.2
def dm (x : ShV) : List Value := [.int .i64 x.1, x.list]
def yt (x y : ShV) : Int := Lib.compareInt x.1 y.1
theorem ltSh (x y : ShV) : ltOf yt x y = decide (x.1 < y.1) := by
 unfold ltOf yt Lib.compareInt
 by_cases h1 : x.1 < y.1
 ·simp [h1]
 ·by_cases h2 : y.1 < x.1 <;> simp [h1, h2]
theorem swoSh : SWO (ltOf yt) where
 irrefl x := by rw [ltSh]; simp
 trans x y z h1 h2 := by rw [ltSh] at *; simp at *; omega
 ntrans x y z h1 h2 := by rw [ltSh] at *; simp at *; omega

set_option maxHeartbeats 1000000 in
theorem zQ (n m : Int) (v u : Value) (W : World) : Calls Tryz.prog 93 #[.agg #[.int .i64 n, v], .agg #[.int .i64 m, u]] W fun e w' => e = .returned (.int .i64 (Lib.compareInt n m)) /\ ∃ q os', w' = grow (W.drewN q) os' := by
 have hcon := fun W' => AnyG.cmp_Compare_int Tryz.cmpInt n m W'
 change ∀ W', Calls Tryz.prog 94 _ _ _ at hcon
 generalize Lib.compareInt n m = r at hcon ⊢
 go_enter Tryz.func93, Tryz.ntmps93
 go_wp2_with (go_at_call 94; refine (hcon _).mono ?_; rintro e w' ⟨rfl, rfl⟩)
 go_ret
 exact ⟨rfl, 0, _, by rw [alloc_eq_grow, alloc_eq_grow, grow_grow]; rfl⟩

theorem isAgg37 (w : World) : (isAgg 109).run Tryz.prog w = .ok true w := by kernel_rfl
theorem Ef (w : World) : (Go.sizeOf 109).run Tryz.prog w = .ok 2 w := by kernel_rfl

theorem Ec (blk off cap : Nat) (d : Array ShV) (w : World) (hH : HoldsK dm 2 w blk off d) (hblk : blk < w.heap.size) (hsz : d.size < 4611686018427387904) :
  Calls Tryz.prog 92 #[.slice (some ⟨blk, off, none⟩) d.size cap, .func (.func 93) #[] #[]] w fun e w' => e = .returned (.tuple #[]) /\ ∃ d' n os, PermIn 0 d.size d d' /\ SortedIn (ltOf yt) 0 d.size d' /\ w' = sortWorldK dm 2 w blk off n d' os := by
 have eg : ∀ args w, (callFunc 93 args).run Tryz.prog w = .ok (.enter 93 args) w := enters_of Tryz.func93 (by kernel_rfl) rfl
 exact AnyQ.slices_SortFunc Tryz.sortSheets 2 isAgg37 Ef dm (fun _ => rfl) (fun x v hv => by simp [dm, ShV.list] at hv; rcases hv with rfl | rfl <;> rfl) yt swoSh 93 #[] blk off cap d w eg (fun _ _ _ _ x y => zQ x.1 y.1 x.list y.list _) hH hblk hsz
end Go.Proofs.YteealihknndclabGreatDoor
namespace Go.Proofs.YteealihknndclabGreatDoor
open Go.RowKit

theorem jH (d : List ShV) : (d.flatMap dm).length = d.length * 2 := by
 induction d with
 | nil => rfl
 | cons x r ih => rw [List.flatMap_cons, List.length_append, ih]; simp [dm]; omega
theorem sJ (d : List ShV) (i : Nat) (x : ShV) (h : d[i]? = some x) : (d.flatMap dm)[i * 2]? = some (.int .i64 x.1) /\ (d.flatMap dm)[i * 2 + 1]? = some x.list := by
 induction d generalizing i with
 | nil => simp at h
 | cons y r ih =>
  rw [List.flatMap_cons]
  match i, h with
  | 0, h => simp at h; subst h; exact ⟨rfl, rfl⟩
  | i + 1, h =>
   have := ih i (by simpa using h)
   have e : (i + 1) * 2 = i * 2 + 2 := by omega
   rw [e]
   exact this
theorem zG (d : List ShV) : ∀ v ∈ d.flatMap dm, v.oneCell' = true := by
 intro v hv
 rw [List.mem_flatMap] at hv
 obtain ⟨x, _, hv⟩ := hv
 simp [dm, ShV.list] at hv
 rcases hv with rfl | rfl <;> rfl
structure ShR (w : World) (g : Nat) (d : List ShV) : Prop where
 row : ∃ cur, w.heap[g]? = some (.cells cur 109 (0, 0)) /\ cur.toList.take (d.length * 2) = d.flatMap dm
theorem ShR.cells {w : World} {g : Nat} {d : List ShV} (h : ShR w g d) (i : Nat) (x : ShV) (hx : d[i]? = some x) : w.cell? ⟨g, i * 2, none⟩ = some (.int .i64 x.1) /\ w.cell? ⟨g, i * 2 + 1, none⟩ = some x.list := by
 obtain ⟨cur, h1, h2⟩ := h.row
 have hl : i < d.length := (List.getElem?_eq_some_iff.1 hx).1
 obtain ⟨e0, e1⟩ := sJ d i x hx
 rw [<- h2, List.getElem?_take, if_pos (by omega)] at e0 e1
 exact ⟨by rw [cell_of_row w g _ _ 109 _ h1]; simpa using e0, by rw [cell_of_row w g _ _ 109 _ h1]; simpa using e1⟩
theorem ShR.lt {w : World} {g : Nat} {d : List ShV} (h : ShR w g d) : g < w.heap.size := by obtain ⟨cur, h1, _⟩ := h.row; exact aa h1
theorem ShR.below {w W : World} {g : Nat} {d : List ShV} (h : ShR w g d) (hb : Below w.heap.size w W) : ShR W g d := by
 obtain ⟨cur, h1, h2⟩ := h.row
 exact ⟨cur, (hb.block g (aa h1)).trans h1, h2⟩
set_option maxHeartbeats 4000000 in
set_option maxRecDepth 10000 in
theorem yV (b off cap : Nat) (d : List ShV) (w : World) (h0 : ∀ j u, (d.flatMap dm)[j]? = some u -> w.cell? ⟨b, off + j, none⟩ = some u) (hd : d ≠ []) (hl : d.length <= 100000) :
  Calls Tryz.prog 91 #[.slice (some ⟨b, off, none⟩) d.length cap] w fun e w' => ∃ g c, e = .returned (.slice (some ⟨g, 0, none⟩) d.length c) /\ w.heap.size <= g /\ ShR w' g d /\ Below w.heap.size w w' := by
 have hnil := CS ⟨b, off, none⟩ d.length cap
 obtain ⟨i, hi, hz0, hz1, hz2⟩ := info_parts info37
 obtain ⟨w1, hw1⟩ : ∃ w1, w1 = w.alloc (.cells #[] 109) := ⟨_, rfl⟩
 have b1 : Below w.heap.size w w1 := by rw [hw1]; exact ba ..
 have r1 : w1.heap[w.heap.size]? = some (.cells #[] 109 (0, 0)) := by rw [hw1]; exact heap_alloc_new _ _
 have hown : w1.ownsRow w.heap.size 109 2 (.slice (some ⟨w.heap.size, 0, none⟩) 0 0) 0 [] := ⟨rfl, Or.inr ⟨w.heap.size, 0, #[], rfl, lr _, r1, lr _, by simp [maxLen], rfl, rfl⟩⟩
 have hdl : 0 < d.length := List.length_pos_iff.2 hd
 have hb0 : b < w.heap.size := by
  obtain ⟨x, r, rfl⟩ := List.exists_cons_of_ne_nil hd
  exact World.block_lt_of_cell? w _ (h0 0 (.int .i64 x.1) rfl)
 have APP := hide (run_append_own (P := Tryz.prog) w1 w.heap.size 82 82 109 i (.agg #[.int .i64 0, .slice none 0 0]) 2 32 Tryz.underlying82 hi hz0 hz1 hz2 rfl (by omega) (.slice (some ⟨w.heap.size, 0, none⟩) 0 0) 0 [] hown ⟨b, off, none⟩ d.length cap (d.flatMap dm) (jH d) (fun j u hu => by
  rw [Addr.add_lit]
  exact (b1.cell (p := ⟨b, off + j, none⟩) hb0).trans (h0 j u hu)) (zG d) (by simp [maxLen]; omega) (by omega) b1.size)
 have HB := hide b1
 have HW := hide hw1
 have HD : Hid (0 < d.length) := hdl
 generalize hdn : d.length = dn at hnil APP HD ⊢
 have HN : Hid (d.length = dn) := hdn
 clear b1 r1 hw1 hown h0 hi hz0 hz1 hz2 hb0 hdn hl hd hdl
 clear i
 go_enter Tryz.func91, Tryz.ntmps91
 go_wp2_with (at_builtin; (rw [<- HW.out]; refine aA rfl (.tmp 5) (.tmp 6) 82 82 rfl _ _ rfl rfl (by obtain ⟨v', w', h1, h2⟩ := APP.out; exact ⟨v', w', h1, h2⟩) ?_; rintro v2 w2 ⟨ho, hg, hn⟩; have OW := hide ho; have GR := hide hg; clear ho hg hn))
 rcases OW.out.2 with ⟨e, e2⟩ | ⟨g, c, cur, e, hge, h1, h2, h3, h4, h5⟩
 ·exact absurd e2 (by have := HD.out; simp; omega)
 ·subst e
  have S2 : Hid (ShR w2 g d) := ⟨cur, h1, by rw [HN.out]; simpa using h5⟩
  have B2 : Hid (Below w.heap.size w w2) := HB.out.trans (((Chg.refl (fun k => w.heap.size <= k) w1).grown GR.out (fun k _ e => by simp only [Value.ownBlock, Option.some.injEq] at e; omega)).below _ HB.out.size (fun k hk e => by omega))
  have GE : Hid (w.heap.size <= g) := hge
  clear h1 h2 h3 h4 h5 hge OW GR HB HW APP hnil HD HN
  go_wp2_with fail
  go_ret
  exact ⟨g, c, by simp, GE.out, S2.out, B2.out⟩
open Go.Sort (flatK size_flatK get_flatK HoldsK)

theorem yg (d : List ShV) : (flatK dm 2 d.toArray).toList = d.flatMap dm := by
 apply List.ext_getElem?
 intro t
 by_cases ht : t < d.length * 2
 ·obtain ⟨i, r, hr, rfl⟩ : ∃ i r, r < 2 /\ t = i * 2 + r := ⟨t / 2, t % 2, by omega, by omega⟩
  have hi : i < d.length := by omega
  obtain ⟨e0, e1⟩ := sJ d i d[i] (List.getElem?_eq_getElem hi)
  have hz : i * 2 + r < (flatK dm 2 d.toArray).size := by simpa using ht
  have e := get_flatK dm 2 d.toArray (i * 2 + r) (by simpa using ht)
  rw [show (i * 2 + r) / 2 = i by omega, show (i * 2 + r) % 2 = r by omega, getElem!_pos d.toArray i (by simpa using hi), List.getElem_toArray] at e
  have e3 : (flatK dm 2 d.toArray).toList[i * 2 + r]? = some ((dm d[i])[r]!) := by
   rw [Array.getElem?_toList, Array.getElem?_eq_getElem hz, <- getElem!_pos (flatK dm 2 d.toArray) (i * 2 + r) hz, e]
  rw [e3]
  match r, hr with
  | 0, _ => exact e0.symm
  | 1, _ => exact e1.symm
 ·rw [List.getElem?_eq_none (by simp; omega), List.getElem?_eq_none (by rw [jH]; omega)]

theorem Bo (g c : Nat) (d : List ShV) (w : World) (h : ShR w g d) (hl : d.length <= 100000) :
  Calls Tryz.prog 92 #[.slice (some ⟨g, 0, none⟩) d.length c, .func (.func 93) #[] #[]] w fun e w' => e = .returned (.tuple #[]) /\ ∃ d' : List ShV, d'.Perm d /\ d'.Pairwise (fun x y => x.1 <= y.1) /\ ShR w' g d' /\ ∀ B, B <= g -> Below B w w' := by
 obtain ⟨cur, h1, h2⟩ := h.row
 have hgs := aa h1
 have hcs : d.length * 2 <= cur.size := by
  have := congrArg List.length h2
  rw [jH, List.length_take] at this
  have e : cur.toList.length = cur.size := Array.length_toList
  omega
 have hH : HoldsK dm 2 w g 0 d.toArray := by
  intro j hj
  have hj2 := hj
  rw [size_flatK, List.size_toArray] at hj
  refine ⟨?_, frozen_of_row w g _ cur 109 h1⟩
  rw [cell_of_row w g _ _ 109 _ h1, Nat.zero_add]
  have e : (cur.toList.take (d.length * 2))[j]? = (flatK dm 2 d.toArray).toList[j]? := by rw [h2, yg]
  rw [List.getElem?_take_of_lt hj, Array.getElem?_toList, Array.getElem?_toList] at e
  rw [e, Array.getElem?_eq_getElem hj2, getElem!_pos _ j hj2]
  rfl
 have hs := Ec g 0 c d.toArray w hH hgs (by rw [List.size_toArray]; omega)
 rw [List.size_toArray] at hs
 refine hs.mono ?_
 rintro e w' ⟨rfl, d', n, os, ⟨hp1, _, hp2⟩, hso, rfl⟩
 have hp1 : d'.size = d.length := hp1
 have hp3 : d'.toList.length = d.length := hp1
 have hd' : d' = d'.toList.toArray := by simp
 refine ⟨rfl, d'.toList, ?_, ?_, ?_, ?_⟩
 ·rw [<- hp1] at hp2
  simp only [Array.extract_size] at hp2
  have e2 : d.toArray.extract 0 d'.size = d.toArray := by rw [hp1]; simp
  rw [e2] at hp2
  simpa using hp2
 ·rw [List.pairwise_iff_getElem]
  intro i j hi hj hij
  have hj' : j < d'.size := by simpa using hj
  have hi' : i < d'.size := by omega
  have := hso i j (Nat.zero_le _) hij (by omega)
  rw [ltSh, getElem!_pos d' j hj', getElem!_pos d' i hi', decide_eq_false_iff_not] at this
  simp only [Array.getElem_toList]
  omega
 ·refine ⟨Sort.putCells id 0 (flatK dm 2 d') cur, ?_, ?_⟩
  ·rw [show sortWorldK dm 2 w g 0 n d' os = Sort.grow (Sort.putRow id (Sort.ahead w n) g 0 (flatK dm 2 d')) os from rfl, Sort.heap_grow_old _ _ (by simpa using hgs)]
   simp [Sort.putRow, Sort.mapBlock, Sort.ahead, Array.getElem?_modify, h1, Sort.onCells]
  ·rw [<- yg, <- hd']
   apply List.ext_getElem?
   intro j
   have hz : (flatK dm 2 d').size = d.length * 2 := by rw [size_flatK, hp1]
   by_cases hj : j < d'.toList.length * 2
   ·have hj1 : j < d.length * 2 := by rw [hp3] at hj; exact hj
    rw [List.getElem?_take_of_lt hj, Array.getElem?_toList, Array.getElem?_toList]
    have hq : j < (flatK dm 2 d').size := by omega
    rw [Array.getElem?_eq_getElem hq]
    simp only [Sort.putCells, Array.getElem?_mapIdx, Array.getElem?_eq_getElem (show j < cur.size by omega), Option.map_some]
    rw [if_pos ⟨Nat.zero_le _, by omega⟩, Nat.sub_zero, getElem!_pos _ j hq]
    rfl
   ·rw [hp3] at hj
    have e : (flatK dm 2 d').toList.length = (flatK dm 2 d').size := Array.length_toList
    rw [List.getElem?_take_eq_none (by rw [hp3]; omega), List.getElem?_eq_none (by omega)]
 ·intro B hB
  refine ⟨rfl, rfl, rfl, by simp [sortWorldK, Sort.putRowK, Sort.ahead], fun k hk => ?_⟩
  rw [show sortWorldK dm 2 w g 0 n d' os = Sort.grow (Sort.putRow id (Sort.ahead w n) g 0 (flatK dm 2 d')) os from rfl]
  have hks : k < w.heap.size := by omega
  rw [Sort.heap_grow_old _ _ (by simpa using hks)]
  have : g ≠ k := by omega
  simp [Sort.putRow, Sort.mapBlock, Sort.ahead, Array.getElem?_modify, this]
end Go.Proofs.YteealihknndclabGreatDoor
namespace Go.Proofs.YteealihknndclabGreatDoor
open Go.RowKit

set_option maxHeartbeats 4000000 in
set_option maxRecDepth 10000 in
theorem x9 (b off cap : Nat) (d : List ShV) (w : World) (h0 : ∀ j u, (d.flatMap dm)[j]? = some u -> w.cell? ⟨b, off + j, none⟩ = some u) (hd : d ≠ []) (hl : d.length <= 256) (hp : ∀ x ∈ d, 0 <= x.1 /\ x.1 < 512 /\ x.2.2.1 = 1024) (hn : (d.map (·.1)).Nodup) :
  Calls Tryz.prog 56 #[.slice (some ⟨b, off, none⟩) d.length cap] w fun e w' => ∃ g c, ∃ d' : List ShV, e = .returned (.tuple #[.slice (some ⟨g, 0, none⟩) d.length c, .bool true]) /\ w.heap.size <= g /\ d'.Perm d /\ d'.Pairwise (fun x y => x.1 < y.1) /\ ShR w' g d' /\ Below w.heap.size w w' := by
 have H0 := hide h0
 have HD := hide hd
 have HL := hide hl
 have HP := hide hp
 have HN := hide hn
 have hgt : ¬ ((256 : Int) < (d.length : Int)) := by omega
 clear h0 hd hl hp hn
 go_enter Tryz.func56, Tryz.ntmps56
 go_wp2_with fail
 refine (yV b off cap d w H0.out HD.out (ltr HL.out (by omega))).mono ?_
 rintro e w1 ⟨g, c, rfl, hg, hs, b1⟩
 have S1 := hide hs
 have B1 := hide b1
 have HG : Hid (w.heap.size <= g) := hg
 clear hs b1 hg H0
 go_wp2_with fail
 refine (Bo g c d w1 S1.out (ltr HL.out (by omega))).mono ?_
 rintro e w2 ⟨rfl, d', hpm, hpw, hs2, hb2⟩
 have S2 := hide hs2
 have B2 := hide (B1.out.trans (hb2 _ HG.out))
 have PM := hide hpm
 have PW : Hid (d'.Pairwise (fun x y => x.1 < y.1)) := by
  have hnd : (d'.map (·.1)).Nodup := (hpm.map _).nodup_iff.2 HN.out
  rw [List.Nodup, List.pairwise_map] at hnd
  exact (hpw.and hnd).imp (fun ⟨h1, h2⟩ => by omega)
 have LE : Hid (d'.length = d.length) := hpm.length_eq
 have HQ : Hid (∀ x ∈ d', 0 <= x.1 /\ x.1 < 512 /\ x.2.2.1 = 1024) := fun x hx => HP.out x (hpm.mem_iff.1 hx)
 clear hpm hpw hs2 hb2 S1 B1 HP HN
 go_wp2_with fail
 go_loopw [15] (fun i wr => ∃ k : Nat, k <= d.length /\ i = .int .i64 (k : Int) /\ ShR wr g d' /\ Below w.heap.size w wr) (fun i _ => d.length - (intOf i).toNat)
 case atStart => exact ⟨0, Nat.zero_le _, rfl, S2.out, B2.out⟩
 case round =>
 obtain ⟨k, hk, rfl, hs, hb⟩ := hrel
 have S6 := hide hs
 have B6 := hide hb
 have KL := hide hk
 clear hs hb hk S2 B2
 by_cases hkl : k < d.length
 ·obtain ⟨x, hx⟩ : ∃ x, d'[k]? = some x := ⟨d'[k]'(by rw [LE.out]; exact hkl), List.getElem?_eq_getElem _⟩
  obtain ⟨c0, c1⟩ := S6.out.cells k x hx
  obtain ⟨q1, q2, q3⟩ := HQ.out x (List.mem_of_getElem? hx)
  obtain ⟨xn, ab, xl, cb⟩ := x
  simp only at q1 q2 q3
  subst q3
  obtain ⟨n, rfl⟩ : ∃ n : Nat, xn = (n : Int) := ⟨xn.toNat, by omega⟩
  have NN := hide (show n < 512 by omega)
  have hkI : (k : Int) < (d.length : Int) := by omega
  have hk0 : (0 : Int) <= (k : Int) := by omega
  have XK := hide hx
  have KK := hide hkl
  simp only [ShV.list] at c1
  clear hx q1 q2 hkl
  obtain ⟨w5, hw5⟩ : ∃ w5, w5 = wr.alloc (.cells #[.int .i64 (n : Int), .slice ab 1024 cb] 109) := ⟨_, rfl⟩
  have b5 : Below wr.heap.size wr w5 := by rw [hw5]; exact ba ..
  have R5 : Hid (w5.heap[wr.heap.size]? = some (.cells #[.int .i64 (n : Int), .slice ab 1024 cb] 109 (0, 0))) := by rw [hw5]; exact heap_alloc_new _ _
  have S5 := hide (S6.out.below b5)
  have B5 := hide (B6.out.trans (b5.mono B6.out.size))
  obtain ⟨g5, hg5⟩ : ∃ g5, g5 = wr.heap.size := ⟨_, rfl⟩
  rw [<- hg5] at R5
  have P5 : Hid (∀ u, 0 < k -> d'[k - 1]? = some u -> w5.cell? ⟨g, (k - 1) * 2, none⟩ = some (.int .i64 u.1)) := fun u _ hu => (S5.out.cells (k - 1) u hu).1
  clear b5 S6 B6
  go_upto_region 8 with fail
  rw [<- hw5, <- hg5]
  clear hw5 hg5 c0 c1
  rcases Nat.eq_zero_or_pos k with hz | hz
  focus
   have hkp : ¬ ((0 : Int) < (k : Int)) := by omega
   refine wp_region_noPanic ?_
   refine wp_region_held_drew (S := (fun W => W.heap[g5]? = some (.cells #[.int .i64 (n : Int), .slice ab 1024 cb] 109 (0, 0)) /\ (∀ u, 0 < k -> d'[k - 1]? = some u -> W.cell? ⟨g, (k - 1) * 2, none⟩ = some (.int .i64 u.1)))) follows ⟨R5.out, P5.out⟩ (fun hHeld => ?_)
   have S5d := hide (S5.out.below (Below.refl w5.heap.size w5).drew)
   have B5d : Hid (Below w.heap.size w w5.drew) := B5.out.drew
   clear S5 B5 R5 P5
   generalize w5.drew = Z1 at S5d B5d hHeld ⊢
   refine tq 0 ?_
   simp only [uA]
   refine tk 1 ?_ rfl (Or.inl ⟨by rfl, ?_⟩) ?_
   rotate_left
   ·intro w hSw
    have c0 := (iF hSw.1).1
    clear hSw
    go_simp
    all_goals with_reducible rfl
   simp only [uA]
   refine r1 2 fun K hK => ?_
   go_simp
   refine (kF n NN.out Z1).mono ?_
   rintro e Z2 ⟨rfl, rfl⟩
   refine hK.out _ _ hHeld (fun hHeld => ?_)
   clear hK K
   try simp only [uA]
   refine tq 3 ?_
   simp only [uA]
   refine tq 4 ?_
   simp only [uA]
   refine tq 5 ?_
   simp only [uA]
   refine tk 6 ?_ rfl (Or.inl ⟨by rfl, ?_⟩) ?_
   rotate_left
   ·intro w hSw
    have c1 := (iF hSw.1).2
    clear hSw
    go_simp
    all_goals with_reducible rfl
   simp only [uA]
   refine tq 7 ?_
   simp only [uA]
   refine tq 8 ?_
   simp only [uA]
   refine tq 9 ?_
   simp only [uA]
   refine tq 10 ?_
   simp only [uA]
   refine tq 11 ?_
   simp only [uA]
   refine tq 12 ?_
   simp only [uA]
   refine tq 13 ?_
   simp only [uA]
   refine tk 14 undef rfl (Or.inr ⟨by rfl, rfl⟩) ?_
   simp only [uA]
   refine tk 15 undef rfl (Or.inr ⟨by rfl, rfl⟩) ?_
   simp only [uA]
   refine tk 16 undef rfl (Or.inr ⟨by rfl, rfl⟩) ?_
   simp only [uA]
   refine tk 17 undef rfl (Or.inr ⟨by rfl, rfl⟩) ?_
   simp only [uA]
   refine tk 18 undef rfl (Or.inr ⟨by rfl, rfl⟩) ?_
   simp only [uA]
   refine tk 19 undef rfl (Or.inr ⟨by rfl, rfl⟩) ?_
   simp only [uA]
   refine tk 20 undef rfl (Or.inr ⟨by rfl, rfl⟩) ?_
   simp only [uA]
   refine tk 21 undef rfl (Or.inr ⟨by rfl, rfl⟩) ?_
   simp only [uA]
   refine tk 22 undef rfl (Or.inr ⟨by rfl, rfl⟩) ?_
   simp only [uA]
  rotate_left
  focus
   obtain ⟨m, hm⟩ : ∃ m, k = m + 1 := ⟨k - 1, by omega⟩
   have hkp : (0 : Int) < (k : Int) := by omega
   have hmI : (m : Int) < (d.length : Int) := by have := KK.out; omega
   have hm0 : (0 : Int) <= (m : Int) := by omega
   have hm1 : (k : Int) - 1 = (m : Int) := by omega
   have hmw : IntKind.i64.wrap (m : Int) = (m : Int) := by have := KK.out; have := HL.out; simp [IntKind.wrap, IntKind.bits, IntKind.signed]; omega
   obtain ⟨u, hu⟩ : ∃ u, d'[m]? = some u := ⟨d'[m]'(by have := LE.out; have := KK.out; omega), List.getElem?_eq_getElem _⟩
   have hne : ¬ (u.1 = (n : Int)) := by
    have hkk := LE.out
    have hkl := KK.out
    have h3 := List.pairwise_iff_getElem.1 PW.out m k (by omega) (by omega) (by omega)
    have e1 := (List.getElem?_eq_some_iff.1 hu).2
    have e2 := (List.getElem?_eq_some_iff.1 XK.out).2
    rw [e1, e2] at h3
    simp only at h3
    omega
   have PU := hide hu
   have K0 := hide (show 0 < k by omega)
   have KM := hide (show k - 1 = m by omega)
   clear hu hm
   refine wp_region_noPanic ?_
   refine wp_region_held_drew (S := (fun W => W.heap[g5]? = some (.cells #[.int .i64 (n : Int), .slice ab 1024 cb] 109 (0, 0)) /\ (∀ u, 0 < k -> d'[k - 1]? = some u -> W.cell? ⟨g, (k - 1) * 2, none⟩ = some (.int .i64 u.1)))) follows ⟨R5.out, P5.out⟩ (fun hHeld => ?_)
   have S5d := hide (S5.out.below (Below.refl w5.heap.size w5).drew)
   have B5d : Hid (Below w.heap.size w w5.drew) := B5.out.drew
   clear S5 B5 R5 P5
   generalize w5.drew = Z1 at S5d B5d hHeld ⊢
   refine tq 0 ?_
   simp only [uA]
   refine tk 1 ?_ rfl (Or.inl ⟨by rfl, ?_⟩) ?_
   rotate_left
   ·intro w hSw
    have c0 := (iF hSw.1).1
    clear hSw
    go_simp
    all_goals with_reducible rfl
   simp only [uA]
   refine r1 2 fun K hK => ?_
   go_simp
   refine (kF n NN.out Z1).mono ?_
   rintro e Z2 ⟨rfl, rfl⟩
   refine hK.out _ _ hHeld (fun hHeld => ?_)
   clear hK K
   try simp only [uA]
   refine tq 3 ?_
   simp only [uA]
   refine tq 4 ?_
   simp only [uA]
   refine tq 5 ?_
   simp only [uA]
   refine tk 6 ?_ rfl (Or.inl ⟨by rfl, ?_⟩) ?_
   rotate_left
   ·intro w hSw
    have c1 := (iF hSw.1).2
    clear hSw
    go_simp
    all_goals with_reducible rfl
   simp only [uA]
   refine tq 7 ?_
   simp only [uA]
   refine tq 8 ?_
   simp only [uA]
   refine tq 9 ?_
   simp only [uA]
   refine tq 10 ?_
   simp only [uA]
   refine tq 11 ?_
   simp only [uA]
   refine tq 12 ?_
   simp only [uA]
   refine tq 13 ?_
   simp only [uA]
   refine tq 14 ?_
   simp only [uA]
   refine tq 15 ?_
   simp only [uA]
   refine tq 16 ?_
   simp only [uA]
   refine tq 17 ?_
   simp only [uA]
   refine tq 18 ?_
   simp only [uA]
   refine tk 19 ?_ rfl (Or.inl ⟨by rfl, ?_⟩) ?_
   rotate_left
   ·intro w hSw
    have c2 := hSw.2 _ K0.out (by rw [KM.out]; exact PU.out)
    rw [KM.out] at c2
    clear hSw
    go_simp
    all_goals with_reducible rfl
   simp only [uA]
   refine tq 20 ?_
   simp only [uA]
   refine tk 21 ?_ rfl (Or.inl ⟨by rfl, ?_⟩) ?_
   rotate_left
   ·intro w hSw
    have c0 := (iF hSw.1).1
    clear hSw
    go_simp
    all_goals with_reducible rfl
   simp only [uA]
   refine tq 22 ?_
   simp only [uA]
  all_goals
   refine tq 23 ?_
   simp only [uA]
   refine tq 24 ?_
   simp only [uA]
   refine wpAnyH_done (by kernel_rfl) ?_ _
   refine NoPanic.normal ?_
   clear hHeld
   go_wp2_with fail
   go_roundw
   case rel => exact ⟨k + 1, KK.out, by go_num, S5d.out, B5d.out⟩
   case measure => have := KK.out; simp [intOf]; omega
 ·have hkI : ¬ ((k : Int) < (d.length : Int)) := by omega
  go_wp2_with fail
  go_ret2
  exact ⟨g, ⟨c, rfl⟩, HG.out, d', PM.out, PW.out, S6.out, B6.out⟩
namespace S
end S
end Go.Proofs.YteealihknndclabGreatDoor
namespace Go.Proofs.YteealihknndclabGreatDoor
open Go.RowKit

theorem info3 : (Tryz.prog.info? 3).map (fun i => (i.zero, i.size, i.bytes)) = some (some (.int .i64 0), 1, 8) := by kernel_rfl
end Go.Proofs.YteealihknndclabGreatDoor
namespace Go.Proofs.YteealihknndclabGreatDoor
open Go.RowKit

namespace S
def put (ss : List (List UInt8)) (f : Nat) (x : List UInt8) : Nat -> List (List UInt8)
 | 0 => ss
 | i + 1 => (put ss f x i).set (f + i) ((x.drop (i * 128)).take 128)
theorem rJ (ss : List (List UInt8)) (f : Nat) (x : List UInt8) (i : Nat) : (put ss f x i).length = ss.length := by
 induction i with
 | zero => rfl
 | succ i ih => rw [put, List.length_set, ih]
theorem Ao (ss : List (List UInt8)) (f : Nat) (x : List UInt8) (i j : Nat) (h : j < f \/ f + i <= j) : (put ss f x i).getD j [] = ss.getD j [] := by
 induction i with
 | zero => rfl
 | succ i ih => rw [put, List.getD_eq_getElem?_getD, List.getElem?_set_ne (by omega), <- List.getD_eq_getElem?_getD, ih (by omega)]
theorem put_at (ss : List (List UInt8)) (f : Nat) (x : List UInt8) (i j : Nat) (hf : f + i <= ss.length) (h : j < i) : (put ss f x i).getD (f + j) [] = (x.drop (j * 128)).take 128 := by
 induction i with
 | zero => omega
 | succ i ih =>
  by_cases e : j = i
  ·subst e
   rw [put, List.getD_eq_getElem?_getD, List.getElem?_set_self (by rw [rJ]; omega)]
   rfl
  ·rw [put, List.getD_eq_getElem?_getD, List.getElem?_set_ne (by omega), <- List.getD_eq_getElem?_getD, ih (by omega) (by omega)]
theorem jO {ss tt : List (List UInt8)} {f i : Nat} (h : ∀ j, f <= j -> j < f + i -> ss.getD j [] = tt.getD j []) : secs ss f i = secs tt f i := by
 induction i with
 | zero => rfl
 | succ i ih => rw [secs, secs, ih (fun j h1 h2 => h j h1 (by omega)), h (f + i) (by omega) (by omega)]
theorem Et (ss : List (List UInt8)) (f : Nat) (x : List UInt8) (hx : x.length = 1024) (hf : f + 8 <= ss.length) : bT (put ss f x 8) f = x := by
 have key : ∀ i, i <= 8 -> secs (put ss f x 8) f i = x.take (i * 128) := fun i => by
  induction i with
  | zero => intro _; simp [secs]
  | succ i ih =>
   intro hi
   rw [secs, ih (by omega), put_at ss f x 8 i hf (by omega), Nat.add_mul, Nat.one_mul, List.take_add]
 unfold bT
 rw [key 8 (by omega), List.take_of_length_le (by omega)]
theorem Bz (ss : List (List UInt8)) (f f' : Nat) (x : List UInt8) (h : f' + 8 <= f \/ f + 8 <= f') : bT (put ss f x 8) f' = bT ss f' :=
 jO (fun j h1 h2 => Ao ss f x 8 j (by omega))
end S
theorem Lo.beside {w0 w w2 : World} {o o2 : Ow} {d d2 : S.Dk} {g f c p t : Nat} {rs : List (List UInt8)} {tv : Value} (h : Lo w0 w o d g f c p t rs tv) (hd : aZ w2 o2 d2) (hm : dK o w o2 w2) (hp : d2.pend = []) (hl : d2.safe.length = d.safe.length) (hs : ∀ j, f <= j -> j < f + c -> d2.safe.getD j [] = d.safe.getD j []) : Lo w0 w2 o2 d2 g f c p t rs tv := by
 have hg : g < w.heap.size := aa h.log.lg.row
 have ht : ∀ k, tv.ownBlock = some k -> k < w.heap.size := fun k hk => h.log.lg.text.lt hk
 have hpt : o2.ptr = o.ptr := by unfold Ow.ptr; rw [hm.g]
 refine ⟨⟨h.log.dk.to hd hm, hp, h.log.good.stay hl hs, by rw [hpt]; exact h.log.lg.chg hm.chg h.log.no h.log.far, fun e => ?_, h.log.pos, fun k hk e => ?_, h.log.tpos⟩, fun k e => ?_, h.gb, h.tb, h.below.trans (hm.chg.below _ h.below.size (fun k hk e => by have := h.ob k e; omega)), h.pos⟩
 ·rcases hm.own g e with e | e
  ·exact h.log.no e
  ·omega
 ·rcases hm.own k e with e | e
  ·exact h.log.far k hk e
  ·have := ht k hk; omega
 ·rcases hm.own k e with e | e
  ·exact h.ob k e
  ·exact ltr h.below.size e
namespace S
def bF (s : List UInt8) (n : Nat) : List UInt8 := s.set (n / 8) (s.getD (n / 8) 0 ||| UInt8.ofNat (2 ^ (n % 8)))
theorem dF (s : List UInt8) (n : Nat) : (bF s n).length = s.length := by unfold bF; rw [List.length_set]
def aL (ns : List Nat) : List UInt8 := ns.foldl bF (zeros 64)
theorem nk (ns : List Nat) (s : List UInt8) : (ns.foldl bF s).length = s.length := by
 induction ns generalizing s with
 | nil => rfl
 | cons n r ih => rw [List.foldl_cons, ih, dF]
theorem aF (ns : List Nat) : (aL ns).length = 64 := by unfold aL; rw [nk, zeros_length]
theorem or_bits (r : Nat) (x : UInt8) (h : r < 8) : bits BinOp.or IntKind.u8 (x.toNat : Int) (IntKind.u8.wrap (2 ^ r)) = ((x ||| UInt8.ofNat (2 ^ r)).toNat : Int) := by
 have e : IntKind.u8.wrap (2 ^ r) = (((UInt8.ofNat (2 ^ r)).toNat : Nat) : Int) := by
  match r, h with
  | 0, _ => rfl
  | 1, _ => rfl
  | 2, _ => rfl
  | 3, _ => rfl
  | 4, _ => rfl
  | 5, _ => rfl
  | 6, _ => rfl
  | 7, _ => rfl
 rw [e, u8_or_nat _ _ (UInt8.toNat_lt x) (UInt8.toNat_lt _), UInt8.toNat_or]
def pgs (d : List ShV) : List Nat := d.map (fun x => x.1.toNat)
theorem Br (d : List ShV) (k : Nat) (x : ShV) (h : d[k]? = some x) : aL (pgs (d.take (k + 1))) = bF (aL (pgs (d.take k))) x.1.toNat := by
 unfold aL pgs
 rw [List.take_add_one, h, List.map_append, List.foldl_append]
 rfl
end S
set_option maxHeartbeats 4000000 in
set_option maxRecDepth 10000 in
theorem Bq (g c : Nat) (d : List ShV) (w : World) (hs : ShR w g d) (hp : ∀ x ∈ d, 0 <= x.1 /\ x.1 < 512 /\ x.2.2.1 = 1024) (hl : d.length <= 256) :
  Calls Tryz.prog 59 #[.slice (some ⟨g, 0, none⟩) d.length c] w fun e w' => e = .returned (.agg (S.v8 (S.aL (S.pgs d)))) /\ Below w.heap.size w w' := by
 have gV := dV w
 obtain ⟨w1, hw1⟩ : ∃ w1, w1 = w.alloc (.cells (S.v8 (S.zeros 64)) 135) := ⟨_, rfl⟩
 have fF := dV w1
 obtain ⟨w2, hw2⟩ : ∃ w2, w2 = w1.alloc (.cells (S.v8 (S.zeros 64)) 135) := ⟨_, rfl⟩
 have b1 : Below w.heap.size w w1 := by rw [hw1]; exact ba ..
 have b2 : Below w1.heap.size w1 w2 := by rw [hw2]; exact ba ..
 have r1 : w1.heap[w.heap.size]? = some (.cells (S.v8 (S.zeros 64)) 135 (0, 0)) := by rw [hw1]; exact heap_alloc_new _ _
 have r2 : w2.heap[w1.heap.size]? = some (.cells (S.v8 (S.zeros 64)) 135 (0, 0)) := by rw [hw2]; exact heap_alloc_new _ _
 have R2 : Hid (w2.heap[w.heap.size]? = some (.cells (S.v8 (S.zeros 64)) 135 (0, 0))) := (b2.block _ (aa r1)).trans r1
 have R3 := hide r2
 have B2 : Hid (Below w.heap.size w w2) := b1.trans (b2.mono b1.size)
 have S2 : Hid (ShR w2 g d) := (hs.below b1).below b2
 have HQ := hide hp
 have HL := hide hl
 have hgl := hs.lt
 have NG3 : Hid (¬ g = w1.heap.size) := fun e => by have := b1.size; omega
 have h12 := aa r1
 rw [<- hw1] at gV
 rw [<- hw2] at fF
 obtain ⟨g2, hg2⟩ : ∃ g2, g2 = w.heap.size := ⟨_, rfl⟩
 obtain ⟨g3, hg3⟩ : ∃ g3, g3 = w1.heap.size := ⟨_, rfl⟩
 rw [<- hg2] at gV R2
 rw [<- hg3] at fF R3 NG3
 have N23 : Hid (¬ g2 = g3) := fun e => by omega
 have HG3 : Hid (w.heap.size <= g3) := by show w.heap.size <= g3; omega
 have HG2 : Hid (w.heap.size <= g2) := by show w.heap.size <= g2; omega
 clear b1 b2 r1 r2 hw1 hw2 hg2 hg3 hs h12 hp hl hgl
 go_enter Tryz.func59, Tryz.ntmps59
 go_wp2_with (first | (with_reducible refine au ⟨some 2, .alloc 135, 0, "set.go:14", #[], none⟩ ?_; refine ah rfl 135 rfl (.pointer (some ⟨g2, 0, none⟩)) w1 gV ?_) | (with_reducible refine au ⟨some 3, .alloc 135, 0, "set.go:15", #[], none⟩ ?_; refine ah rfl 135 rfl (.pointer (some ⟨g3, 0, none⟩)) w2 fF ?_))
 clear gV fF
 go_loopw [8] (fun i wr => ∃ k : Nat, k <= d.length /\ i = .int .i64 (k : Int) /\ wr.heap[g2]? = some (.cells (S.v8 (S.zeros 64)) 135 (0, 0)) /\ wr.heap[g3]? = some (.cells (S.v8 (S.aL (S.pgs (d.take k)))) 135 (0, 0)) /\ ShR wr g d /\ Below w.heap.size w wr) (fun i _ => d.length - (intOf i).toNat)
 case atStart => exact ⟨0, Nat.zero_le _, rfl, R2.out, R3.out, S2.out, B2.out⟩
 case round =>
 obtain ⟨k, hk, rfl, h2, h3, hs, hb⟩ := hrel
 clear R2 R3 S2 B2
 by_cases hkl : k < d.length
 ·obtain ⟨x, hx⟩ : ∃ x, d[k]? = some x := ⟨d[k], List.getElem?_eq_getElem hkl⟩
  obtain ⟨c0, c1⟩ := hs.cells k x hx
  obtain ⟨p1, p2, p3⟩ := HQ.out x (List.mem_of_getElem? hx)
  obtain ⟨xn, ab, xl, cb⟩ := x
  simp only at p1 p2 p3
  subst p3
  obtain ⟨n, rfl⟩ : ∃ n : Nat, xn = (n : Int) := ⟨xn.toNat, by omega⟩
  have hn : n < 512 := by omega
  have hkI : (k : Int) < (d.length : Int) := by omega
  have hk0 : (0 : Int) <= (k : Int) := by omega
  have hgt : (d.length : Int) <= 256 := by have := HL.out; omega
  have KK := hide hkl
  simp only [ShV.list] at c1
  obtain ⟨q, hq⟩ : ∃ q : Nat, q = n / 8 := ⟨_, rfl⟩
  obtain ⟨r, hr⟩ : ∃ r : Nat, r = n % 8 := ⟨_, rfl⟩
  obtain ⟨s0, hs0⟩ : ∃ s0, s0 = S.aL (S.pgs (d.take k)) := ⟨_, rfl⟩
  have HONE : Hid (S.aL (S.pgs (d.take (k + 1))) = s0.set q (s0[q]?.getD 0 ||| UInt8.ofNat (2 ^ r))) := by
   show S.aL (S.pgs (d.take (k + 1))) = s0.set q (s0[q]?.getD 0 ||| UInt8.ofNat (2 ^ r))
   rw [S.Br d k _ hx, hq, hr, hs0]; rfl
  have SL : Hid (s0.length = 64) := by rw [hs0]; exact S.aF _
  have hr8 : r < 8 := by omega
  have hq64 : q < 64 := by omega
  have q1 : (n : Int) / 8 = (q : Int) := by omega
  have q2 : (n : Int) % 8 = (r : Int) := by omega
  have q3 : (0 : Int) <= (q : Int) := by omega
  have q4 : (q : Int) < 64 := by omega
  have q5 : (0 : Int) <= (r : Int) := by omega
  have q6 : (r : Int) < 8 := by omega
  have q7 : (0 : Int) <= (n : Int) := by omega
  have q8 : IntKind.i64.wrap (q : Int) = (q : Int) := by rw [IntKind.wrap_i64]; omega
  have q9 : IntKind.i64.wrap (r : Int) = (r : Int) := by rw [IntKind.wrap_i64]; omega
  have q10 : (n : Int).tmod 8 = (r : Int) := by rw [Int.tmod_eq_emod_of_nonneg q7]; exact q2
  rw [<- hs0] at h3
  have R3 := hide h3
  have R2 := hide h2
  have S2 := hide hs
  have B2 := hide hb
  clear hx p1 p2 hkl hq hr hn hs0 h2 h3 hs hb hk
  obtain ⟨bv, hbv⟩ : ∃ bv, bv = Value.slice ab 1024 cb := ⟨_, rfl⟩
  obtain ⟨w5, hw5⟩ : ∃ w5, w5 = wr.alloc (.cells #[.int .i64 (n : Int), .slice ab 1024 cb] 109) := ⟨_, rfl⟩
  have b5 : Below wr.heap.size wr w5 := by rw [hw5]; exact ba ..
  have R5 : Hid (w5.heap[wr.heap.size]? = some (.cells #[.int .i64 (n : Int), bv] 109 (0, 0))) := by rw [hw5, hbv]; exact heap_alloc_new _ _
  have R35 : Hid (w5.heap[g3]? = some (.cells (S.v8 s0) 135 (0, 0))) := (b5.block g3 (aa R3.out)).trans R3.out
  have R25 : Hid (w5.heap[g2]? = some (.cells (S.v8 (S.zeros 64)) 135 (0, 0))) := (b5.block g2 (aa R2.out)).trans R2.out
  have N53 : Hid (¬ wr.heap.size = g3) := fun e => by have := aa R3.out; omega
  have S5 := hide (S2.out.below b5)
  have B5 := hide (B2.out.trans (b5.mono B2.out.size))
  obtain ⟨g5, hg5⟩ : ∃ g5, g5 = wr.heap.size := ⟨_, rfl⟩
  rw [<- hg5] at R5 N53
  clear b5 S2 R2 R3 B2
  go_upto_region 5 with fail
  rw [<- hw5, <- hg5]
  clear hw5 hg5 c0 c1
  refine wp_region_noPanic ?_
  refine wp_region_held_drew (S := (fun W => W.heap[g5]? = some (.cells #[.int .i64 (n : Int), bv] 109 (0, 0)))) follows R5.out (fun hHeld => ?_)
  have R3d : Hid (w5.drew.heap[g3]? = some (.cells (S.v8 s0) 135 (0, 0))) := R35.out
  have R2d : Hid (w5.drew.heap[g2]? = some (.cells (S.v8 (S.zeros 64)) 135 (0, 0))) := R25.out
  have B5d : Hid (Below w.heap.size w w5.drew) := B5.out.drew
  have S5d := hide (S5.out.below (Below.refl w5.heap.size w5).drew)
  clear R35 R25 B5 R5 S5
  generalize w5.drew = Z1 at R3d R2d B5d S5d hHeld ⊢
  refine tq 0 ?_
  simp only [uA]
  refine tk 1 ?_ rfl (Or.inl ⟨by rfl, ?_⟩) ?_
  rotate_left
  ·intro w hSw
   have c0 := (iF hSw).1
   clear hSw
   go_simp
   all_goals with_reducible rfl
  simp only [uA]
  refine tq 2 ?_
  simp only [uA]
  refine tq 3 ?_
  simp only [uA]
  refine tq 5 ?_
  simp only [uA]
  refine tk 6 ?_ rfl (Or.inl ⟨by rfl, ?_⟩) ?_
  rotate_left
  ·intro w hSw
   have c0 := (iF hSw).1
   clear hSw
   go_simp
   all_goals with_reducible rfl
  simp only [uA]
  refine tq 7 ?_
  simp only [uA]
  refine tq 8 ?_
  simp only [uA]
  refine r1 4 fun K hK => ?_
  have c4 := bL R3d.out q (by rw [SL.out]; omega)
  go_simp
  clear c4
  refine hK.out _ _ hHeld (fun hHeld => ?_)
  clear hK K
  try simp only [uA]
  refine tq 9 ?_
  simp only [uA]
  refine tq 10 ?_
  simp only [uA]
  refine r1 11 fun K hK => ?_
  have c4 := bL R3d.out q (by rw [SL.out]; omega)
  have f4 := frozen_of_row _ _ q _ _ R3d.out
  go_simp
  rw [S.or_bits r _ hr8]
  have V3 := hide (jf R3d.out q (s0[q]?.getD 0 ||| UInt8.ofNat (2 ^ r)))
  have a2 : (Z1.setCell ⟨g3, q, none⟩ (.int .u8 ((s0[q]?.getD 0 ||| UInt8.ofNat (2 ^ r)).toNat : Int))).heap[g5]? = some (.cells #[.int .i64 (n : Int), bv] 109 (0, 0)) := (heap_setCell_other _ ⟨g3, q, none⟩ g5 _ (fun e => N53.out e)).trans hHeld
  have R2s : Hid ((Z1.setCell ⟨g3, q, none⟩ (.int .u8 ((s0[q]?.getD 0 ||| UInt8.ofNat (2 ^ r)).toNat : Int))).heap[g2]? = some (.cells (S.v8 (S.zeros 64)) 135 (0, 0))) := (heap_setCell_other _ ⟨g3, q, none⟩ g2 _ (fun e => N23.out e)).trans R2d.out
  have S6 : Hid (ShR (Z1.setCell ⟨g3, q, none⟩ (.int .u8 ((s0[q]?.getD 0 ||| UInt8.ofNat (2 ^ r)).toNat : Int))) g d) := by
   obtain ⟨cur, x1, x2⟩ := S5d.out.row
   exact ⟨cur, (heap_setCell_other _ ⟨g3, q, none⟩ g _ (fun e => NG3.out e)).trans x1, x2⟩
  have B6 : Hid (Below w.heap.size w (Z1.setCell ⟨g3, q, none⟩ (.int .u8 ((s0[q]?.getD 0 ||| UInt8.ofNat (2 ^ r)).toNat : Int)))) := B5d.out.setCell (p := ⟨g3, q, none⟩) HG3.out _
  obtain ⟨Z2, hZ2⟩ : ∃ Z2, Z2 = Z1.setCell ⟨g3, q, none⟩ (.int .u8 ((s0[q]?.getD 0 ||| UInt8.ofNat (2 ^ r)).toNat : Int)) := ⟨_, rfl⟩
  rw [<- hZ2] at V3 a2 R2s S6 B6 ⊢
  refine hK.out _ _ a2 (fun hHeld => ?_)
  clear hK K a2 hZ2 c4 f4 R3d R2d B5d S5d
  try simp only [uA]
  refine wpAnyH_done (by kernel_rfl) ?_ _
  refine NoPanic.normal ?_
  clear hHeld
  go_wp2_with fail
  go_roundw
  case rel => exact ⟨k + 1, KK.out, by go_num, R2s.out, by rw [HONE.out]; exact V3.out, S6.out, B6.out⟩
  case measure => have := KK.out; simp [intOf]; omega

 ·have hkI : ¬ ((k : Int) < (d.length : Int)) := by omega
  rw [List.take_of_length_le (by omega)] at h3
  have ld := iM h3 (S.aF _)
  obtain ⟨w6, hst, r6, c6⟩ := jW (ys := S.aL (S.pgs d)) h2 (S.zeros_length _) (S.aF _)
  have R6 := hide r6
  have B6 : Hid (Below w.heap.size w w6) := hb.trans (c6.base hb.size HG2.out)
  obtain ⟨Z, hZ⟩ : ∃ Z, Z = S.v8 (S.aL (S.pgs d)) := ⟨_, rfl⟩
  rw [<- hZ] at ld hst
  have HZ := hide hZ
  clear r6 c6 h2 h3 hb hZ hs hk hkl
  go_wp2_with (first | (with_reducible refine au ⟨some 24, .load 135 (.tmp 3), 135, "set.go:19", #[], none⟩ ?_; refine ay rfl 135 (.tmp 3) rfl (.pointer (some ⟨g3, 0, none⟩)) rfl (.agg Z) ld ?_) | (with_reducible refine au ⟨none, .store 135 (.tmp 2) (.tmp 24), 0, "set.go:19", #[{ on := 0, ground := Ground.data }, { on := 0, ground := Ground.phase }], none⟩ ?_; refine ai rfl 135 (.tmp 2) (.tmp 24) rfl (.pointer (some ⟨g2, 0, none⟩)) (.agg Z) rfl rfl w6 hst ?_))
  refine bodyPost_ret (bi Tryz.results59 _ _ g2 (.agg (S.v8 (S.aL (S.pgs d)))) rfl (jd R6.out (S.aF _))) rfl ⟨rfl, B6.out⟩
end Go.Proofs.YteealihknndclabGreatDoor
