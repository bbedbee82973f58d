/- Of the changes of one key the last: lastOfEach. -/
import Derived.Test.YteealihknndclaaGreatDoorWc
import Derived.Test.YteealihknndclaaGreatDoorUd
import Derived.Test.YteealihknndclaaGreatDoorJa
namespace Go.Proofs.YteealihknndclaaGreatDoor
open Go.RowKit

def iG {α : Type} (k : α -> List UInt8) (xs : List α) (i : Nat) : Bool :=
 match xs[i]?, xs[i + 1]? with
 | some x, some y => !decide (k x = k y)
 | _, _ => true
def ja {α : Type} (k : α -> List UInt8) (xs : List α) : Nat -> List α
 | 0 => []
 | i + 1 => ja k xs i ++ (if iG k xs i = true then xs[i]?.toList else [])
theorem BQ {α β : Type} (f : α -> β) (k : α -> List UInt8) (k2 : β -> List UInt8) (hk : ∀ x, k2 (f x) = k x) (xs : List α) (i : Nat) : iG k2 (xs.map f) i = iG k xs i := by
 unfold iG
 rw [List.getElem?_map, List.getElem?_map]
 cases xs[i]? <;> cases xs[i + 1]? <;> simp [hk]
theorem Fb {α β : Type} (f : α -> β) (k : α -> List UInt8) (k2 : β -> List UInt8) (hk : ∀ x, k2 (f x) = k x) (xs : List α) (n : Nat) : (ja k xs n).map f = ja k2 (xs.map f) n := by
 induction n with
 | zero => rfl
 | succ n ih =>
 simp only [ja]
 rw [List.map_append, ih, BQ f k k2 hk, List.getElem?_map]
 cases iG k xs n <;> cases xs[n]? <;> simp
theorem nG {α : Type} (k : α -> List UInt8) (xs : List α) (n : Nat) : (ja k xs n).length <= n := by
 induction n with
 | zero => exact lr _
 | succ n ih =>
 simp only [ja]
 rw [List.length_append]
 have : (if iG k xs n = true then xs[n]?.toList else []).length <= 1 := by
  split
  ·cases xs[n]? <;> simp
  ·simp
 omega
namespace S
def lasts (cs : List Cg) : List Cg := ja Cg.key (srt cs) cs.length
theorem vJ (cs : List Cg) : (lasts cs).length <= cs.length := nG _ _ _
end S
structure Ch3 (w : World) (g i : Nat) (x : ChV) : Prop where
 lt : g < w.heap.size
 c0 : w.cell? ⟨g, i * 3, none⟩ = some (.slice x.ka x.kn x.kc)
 c1 : w.cell? ⟨g, i * 3 + 1, none⟩ = some (.slice x.va x.vn x.vc)
 c2 : w.cell? ⟨g, i * 3 + 2, none⟩ = some (.bool x.dr)
theorem Ch3.up {w W : World} {g i : Nat} {x : ChV} (h : Ch3 w g i x) (hb : Below w.heap.size w W) : W.cell? ⟨g, i * 3, none⟩ = some (.slice x.ka x.kn x.kc) /\ W.cell? ⟨g, i * 3 + 1, none⟩ = some (.slice x.va x.vn x.vc) /\ W.cell? ⟨g, i * 3 + 2, none⟩ = some (.bool x.dr) :=
 ⟨(hb.cell (p := ⟨g, i * 3, none⟩) (by exact h.lt)).trans h.c0, (hb.cell (p := ⟨g, i * 3 + 1, none⟩) (by exact h.lt)).trans h.c1, (hb.cell (p := ⟨g, i * 3 + 2, none⟩) (by exact h.lt)).trans h.c2⟩
theorem ChR.at {w : World} {g : Nat} {d : List ChV} (h : ChR w g d) (i : Nat) (x : ChV) (hx : d[i]? = some x) : Ch3 w g i x := by
 obtain ⟨cur, h1, h2⟩ := h.row
 have hl : i < d.length := (List.getElem?_eq_some_iff.1 hx).1
 have e : ∀ r, r < 3 -> cur[i * 3 + r]? = (aQ x)[r]? := fun r hr => by
 have e0 := flat_get (enc := aQ) (k := 3) (fun _ => rfl) d i r x hx hr
 rw [<- h2, List.getElem?_take, if_pos (by omega)] at e0
 rw [<- e0]
 simp
 exact ⟨aa h1, by rw [cell_of_row w g _ _ 34 _ h1]; exact e 0 (by omega), by rw [cell_of_row w g _ _ 34 _ h1]; exact e 1 (by omega), by rw [cell_of_row w g _ _ 34 _ h1]; exact e 2 (by omega)⟩
theorem ChR.chg {p : Nat -> Prop} {w W : World} {g : Nat} {d : List ChV} (h : ChR w g d) (hc : Chg p w W) (hp : ¬ p g) : ChR W g d := by
 obtain ⟨cur, h1, h2⟩ := h.row
 exact ⟨cur, hc.row h1 hp, h2⟩
theorem ED {w : World} {g : Nat} {x : ChV} (h : w.heap[g]? = some (.cells (aQ x).toArray 34 (0, 0))) : Els aQ w (.slice (some ⟨g, 0, none⟩) 1 1) [x] :=
 Or.inr (Or.inr ⟨g, 0, 1, rfl, lr _, by simp, aa h, fun j u hu => by
 rw [Nat.zero_add, cell_of_row w g j _ _ _ h]
 simpa using hu⟩)
def LastIs (w w' : World) (e : Ending) (cs : List S.Cg) : Prop := (∃ v d', e = .returned v /\ Els aQ w' v d' /\ fD w' d' (S.lasts cs) /\ v.oneCell' = true) /\ Below w.heap.size w w'
set_option maxHeartbeats 16000000 in
set_option maxRecDepth 10000 in
theorem BO (b off cap : Nat) (d : List ChV) (cs : List S.Cg) (w : World) (h0 : ∀ j u, (d.flatMap aQ)[j]? = some u -> w.cell? ⟨b, off + j, none⟩ = some u) (hd : d ≠ []) (hl : d.length <= 19) (hc : fD w d cs) :
 Calls Tryz.prog 44 #[.slice (some ⟨b, off, none⟩) d.length cap] w fun e w' => LastIs w w' e cs := by
 obtain ⟨ps, hp1, hp2⟩ : ∃ ps : List (Cp w), ps.map (·.1.1) = d /\ ps.map (·.1.2) = cs := by
 refine ⟨(List.range d.length).attach.map (fun i => ⟨(d[i.1]'(List.mem_range.1 i.2), cs[i.1]'(by rw [<- hc.1]; exact List.mem_range.1 i.2)), hc.2 i.1 _ _ (List.getElem?_eq_getElem _) (List.getElem?_eq_getElem _)⟩), ?_, ?_⟩
 ·apply List.ext_getElem
  ·simp
  ·intro i h1 h2; simp
 ·apply List.ext_getElem
  ·simp [hc.1]
  ·intro i h1 h2; simp
 have hpl : ps.length = d.length := by rw [<- hp1, List.length_map]
 have HCL := hide (zI b off cap d w h0 hd (by omega))
 obtain ⟨n, hn⟩ : ∃ n, n = d.length := ⟨_, rfl⟩
 have HLN := hide (show n <= 19 /\ ps.length = n by omega)
 rw [<- hn] at HCL ⊢
 have HPS := hide (show ps.map (·.1.1) = d /\ ps.map (·.1.2) = cs from ⟨hp1, hp2⟩)
 clear h0 hd hl hc hp1 hp2 hpl hn
 go_enter Tryz.func44, Tryz.ntmps44
 go_wp2_with fail
 refine HCL.out.mono ?_
 rintro e w1 ⟨g, c, rfl, hg, hr, hb⟩
 have HR1 := hide hr
 have HG := hide hg
 have HB1 := hide hb
 clear hr hg hb
 go_wp2_with fail
 have HSF := Bc (W0 := w) (w := w1) g c ps (by rw [HPS.out.1]; exact HR1.out) HB1.out HG.out (by have := HLN.out; omega)
 rw [HLN.out.2] at HSF
 refine HSF.mono ?_
 clear HSF
 rintro e w2 ⟨rfl, xs, hx1, hx2, hx3, hx4⟩
 have HX := hide (show xs.map (·.1.2) = S.srt cs /\ xs.length = n from ⟨by rw [hx1, HPS.out.2], by rw [hx2]⟩)
 have HR2 := hide hx3
 have HB2 := hide (HB1.out.trans (hx4.mono HG.out))
 clear hx1 hx2 hx3 hx4
 go_wp2_with fail
 go_loopg [3, 12] n (fun gk s3 s12 wr => ∃ i : Nat, i + gk = n /\ s12 = .int .i64 (i : Int) /\ Hid (fI w2.heap.size wr s3 ((ja (fun p : Cp w => p.1.2.key) xs i).map (·.1.1))) /\ Hid (ChR wr g (xs.map (·.1.1))) /\ Hid (w2.heap.size <= wr.heap.size) /\ Hid (Below w.heap.size w wr))
 case atStart => exact ⟨0, by omega, rfl, hide (fI.nil _ _), HR2, hide (lr _), HB2⟩
 case round =>
 have HGL := hide HR2.out.lt
 clear HR1 HB1 HR2
 obtain ⟨i, hi, rfl, HO, HRW, HSZ, HBW⟩ := hrel
 obtain ⟨vo, co, hvo⟩ := HO.out.form
 obtain ⟨no, hno⟩ : ∃ no, no = ((ja (fun p : Cp w => p.1.2.key) xs i).map (fun p => p.1.1)).length := ⟨_, rfl⟩
 rw [<- hno] at hvo
 subst hvo
 have HNE := hide (show (Value.slice vo no co).ownBlock ≠ some g from fun e => by have h1 := (HO.out.blk e).1; have h2 := HGL.out; omega)
 have HNO := hide hno
 clear hno
 cases gk with
 | zero =>
  obtain rfl : i = n := by omega
  have qq : ¬ (i : Int) < (i : Int) := by omega
  clear hi
  go_wp2_with fail
  go_ret
  refine ⟨⟨_, (ja (fun p : Cp w => p.1.2.key) xs i).map (·.1.1), rfl, ?_, ?_, rfl⟩, HBW.out⟩
  ·have := HO.out.els (by have := nG (fun p : Cp w => p.1.2.key) xs i; rw [List.length_map]; have := HLN.out; omega)
  exact this
  have e1 : (ja (fun p : Cp w => p.1.2.key) xs i).map (·.1.2) = S.lasts cs := by
  rw [Fb (fun p : Cp w => p.1.2) (fun p : Cp w => p.1.2.key) S.Cg.key (fun _ => rfl), HX.out.1, S.lasts, <- HPS.out.2, List.length_map, HLN.out.2]
  rw [<- e1]
  refine ⟨by simp, fun j x c hx hc => ?_⟩
  rw [List.getElem?_map] at hx hc
  obtain ⟨p, hp, rfl⟩ := Option.map_eq_some_iff.1 hx
  rw [hp] at hc
  obtain rfl := Option.some.inj hc
  exact p.2.below HBW.out
 | succ gO =>
  have qq : (i : Int) < (n : Int) := by omega
  have q0 : (0 : Int) <= (i : Int) := by omega
  have qw : IntKind.i64.wrap ((i : Int) + 1) = (i : Int) + 1 := by rw [IntKind.wrap_i64]; have := HLN.out; omega
  have hlt : i < xs.length := by rw [HX.out.2]; omega
  obtain ⟨x, hx⟩ : ∃ x, xs[i]? = some x := ⟨_, List.getElem?_eq_getElem hlt⟩
  have CI := HRW.out.at i x.1.1 (by rw [List.getElem?_map, hx]; rfl)
  have HXI := hide hx
  have KXW := hide (x.2.key.below HBW.out (lr _))
  obtain ⟨-, c0, c1, c2⟩ := CI
  clear hlt hx
  go_upto_region 7 with fail
  generalize hW1 : wr.alloc _ = W1
  have hb1 : Below wr.heap.size wr W1 := by rw [<- hW1]; exact ba ..
  have R5 : Hid (W1.heap[wr.heap.size]? = some (.cells #[.slice x.1.1.ka x.1.1.kn x.1.1.kc, .slice x.1.1.va x.1.1.vn x.1.1.vc, .bool x.1.1.dr] 34 (0, 0))) := by rw [<- hW1]; exact heap_alloc_new _ _
  obtain ⟨g5, hg5⟩ : ∃ g, g = wr.heap.size := ⟨_, rfl⟩
  rw [<- hg5] at R5 ⊢
  have HO1 := hide (HO.out.below hb1)
  have HRW1 := hide (HRW.out.below hb1)
  have HB1 := hide (HBW.out.trans (hb1.mono HBW.out.size))
  have HS1 := hide hb1.size
  have KX := hide (KXW.out.below hb1 (lr _))
  have HG5 := hide (show g5 ≠ g from fun e => by have := HRW.out.lt; omega)
  clear hW1 hb1 hg5 HO HRW HBW KXW c0 c1 c2
  by_cases hlast : i + 1 = n
  ·have q5 : (i : Int) + 1 = (n : Int) := by omega
  have qwn : IntKind.i64.wrap (n : Int) = (n : Int) := by rw [IntKind.wrap_i64]; have := HLN.out; omega
  have HKP : Hid (iG (fun p : Cp w => p.1.2.key) xs i = true) := by
   show iG _ xs i = true
   unfold iG
   rw [HXI.out, List.getElem?_eq_none (by rw [HX.out.2]; omega)]
  refine wp_region_noPanic ?_
  refine wp_region_held_drew (S := (fun W => Below W1.heap.size W1 W)) follows ((Below.refl _ _).drew) (fun hHeld => ?_)
  clear hHeld
  have hHeld : Below W1.heap.size W1 W1.drew := (Below.refl _ _).drew
  have CZ0 := hide hHeld
  generalize W1.drew = Z0 at CZ0 hHeld ⊢
  refine tq 0 ?_
  simp only [uA]
  refine tq 1 ?_
  simp only [uA]
  refine tq 2 ?_
  simp only [uA]
  refine tq 3 ?_
  simp only [uA]
  refine tq 4 ?_
  simp only [uA]
  refine tq 5 ?_
  simp only [uA]
  refine tk 6 undef rfl (Or.inr ⟨by rfl, rfl⟩) ?_
  simp only [uA]
  refine tk 7 undef rfl (Or.inr ⟨by rfl, rfl⟩) ?_
  simp only [uA]
  refine tk 8 undef rfl (Or.inr ⟨by rfl, rfl⟩) ?_
  simp only [uA]
  refine tk 9 undef rfl (Or.inr ⟨by rfl, rfl⟩) ?_
  simp only [uA]
  refine tk 10 undef rfl (Or.inr ⟨by rfl, rfl⟩) ?_
  simp only [uA]
  refine tk 11 undef rfl (Or.inr ⟨by rfl, rfl⟩) ?_
  simp only [uA]
  refine tk 12 undef rfl (Or.inr ⟨by rfl, rfl⟩) ?_
  simp only [uA]
  refine tk 13 undef rfl (Or.inr ⟨by rfl, rfl⟩) ?_
  simp only [uA]
  refine tk 14 undef rfl (Or.inr ⟨by rfl, rfl⟩) ?_
  simp only [uA]
  refine tk 15 undef rfl (Or.inr ⟨by rfl, rfl⟩) ?_
  simp only [uA]
  refine tq 16 ?_
  simp only [uA]
  refine wpAnyH_done (by kernel_rfl) ?_ _
  refine NoPanic.normal ?_
  clear hHeld
  have BZ : Hid (Below w.heap.size w Z0) := HB1.out.trans (CZ0.out.mono HB1.out.size)
  have HOZ := hide (HO1.out.below CZ0.out)
  have HRZ := hide (HRW1.out.below CZ0.out)
  obtain ⟨e0, e1, e2⟩ := kD ((CZ0.out.block _ (aa R5.out)).trans R5.out)
  have HGZ := hide (show g < Z0.heap.size from HRZ.out.lt)
  obtain ⟨Z2, hZ2⟩ : ∃ Z, Z = Z0.alloc (.cells #[.slice x.1.1.ka x.1.1.kn x.1.1.kc, .slice x.1.1.va x.1.1.vn x.1.1.vc, .bool x.1.1.dr] 34) := ⟨_, rfl⟩
  have hb2 : Below Z0.heap.size Z0 Z2 := by rw [hZ2]; exact ba ..
  have hone : Els aQ Z2 (.slice (some ⟨Z0.heap.size, 0, none⟩) 1 1) [x.1.1] := ED (by rw [hZ2]; exact heap_alloc_new _ _)
  have happ := kS Z2 w2.heap.size (.slice vo no co) (.slice (some ⟨Z0.heap.size, 0, none⟩) 1 1) ((ja (fun p : Cp w => p.1.2.key) xs i).map (fun p => p.1.1)) [x.1.1] 36 (HOZ.out.below hb2) hone (by rw [<- HNO.out]; have := HNO.out; have h2 := nG (fun p : Cp w => p.1.2.key) xs i; rw [List.length_map] at this; have := HLN.out; simp; omega) (ltr HSZ.out (ltr (ltr HS1.out CZ0.out.size) hb2.size))
  have APP := hide happ
  have HZ2 := hide hZ2
  have HBZ2 := hide hb2
  have HRZ2 := hide (HRZ.out.below hb2)
  have BZ2 := hide (BZ.out.trans (hb2.mono BZ.out.size))
  clear hZ2 hb2 hone happ
  go_wp2_with (at_builtin; (rw [<- HZ2.out]; refine av rfl (.tmp 34) (.tmp 36) 36 36 rfl _ _ rfl rfl APP.out ?_; rintro v2 w3 ⟨ho, hg⟩; have OW := hide ho; have GR := hide hg; clear ho hg))
  go_roundg gO
  case measure => omega
  case rel =>
   refine ⟨i + 1, by omega, by first | rfl | (simp; done) | (simp; omega), ?_, hide (HRZ2.out.chg GR.out (by exact HNE.out)), ?_, hide (BZ2.out.trans (GR.out.below w.heap.size BZ2.out.size (fun k hk e => by have := (HO1.out.blk e).1; have := HB2.out.size; omega)))⟩
   ·have e5 : (ja (fun p : Cp w => p.1.2.key) xs (i + 1)).map (fun p => p.1.1) = (ja (fun p : Cp w => p.1.2.key) xs i).map (fun p => p.1.1) ++ [x.1.1] := by
    simp only [ja]
    rw [if_pos HKP.out, HXI.out, List.map_append]
    rfl
   rw [e5]
   exact OW
   ·exact hide (ltr HSZ.out (ltr (ltr HS1.out CZ0.out.size) (ltr HBZ2.out.size GR.out.size)))
  ·have q5 : ¬ (i : Int) + 1 = (n : Int) := by omega
  have q5b : ((i : Int) + 1 == (n : Int)) = false := by simp; omega
  have q6 : (i : Int) + 1 < (n : Int) := by omega
  have q7 : (0 : Int) <= (i : Int) + 1 := by omega
  have q8 : ((i : Int) + 1).toNat = i + 1 := by omega
  obtain ⟨y, hy⟩ : ∃ y, xs[i + 1]? = some y := ⟨_, List.getElem?_eq_getElem (by rw [HX.out.2]; omega)⟩
  have CN := hide (HRW1.out.at (i + 1) y.1.1 (by rw [List.getElem?_map, hy]; rfl))
  have KY := hide (y.2.key.below HB1.out (lr _))
  by_cases hk : x.1.2.key = y.1.2.key
  ·have EQ : Hid (decide (x.1.2.key = y.1.2.key) = true) := decide_eq_true hk
   have HKP : Hid (iG (fun p : Cp w => p.1.2.key) xs i = false) := by
   show iG _ xs i = false
   unfold iG
   rw [HXI.out, hy]
   simp [hk]
   clear hk hy
   refine wp_region_noPanic ?_
   refine wp_region_held_drew (S := (fun W => Below W1.heap.size W1 W)) follows ((Below.refl _ _).drew) (fun hHeld => ?_)
   clear hHeld
   have hHeld : Below W1.heap.size W1 W1.drew := (Below.refl _ _).drew
   have CZ0 := hide hHeld
   generalize W1.drew = Z0 at CZ0 hHeld ⊢
   refine tq 0 ?_
   simp only [uA]
   refine tq 1 ?_
   simp only [uA]
   refine tq 2 ?_
   simp only [uA]
   refine tq 3 ?_
   simp only [uA]
   refine tq 4 ?_
   simp only [uA]
   refine tq 5 ?_
   simp only [uA]
   refine tq 6 ?_
   simp only [uA]
   refine tk 7 ?_ rfl (Or.inl ⟨by rfl, ?_⟩) ?_
   rotate_left
   ·intro w hSw
   obtain ⟨e0, e1, e2⟩ := kD ((hSw.block _ (aa R5.out)).trans R5.out)
   clear hSw
   go_simp
   all_goals with_reducible rfl
   simp only [uA]
   refine tq 8 ?_
   simp only [uA]
   refine tq 9 ?_
   simp only [uA]
   refine tq 10 ?_
   simp only [uA]
   refine tq 11 ?_
   simp only [uA]
   refine tq 12 ?_
   simp only [uA]
   refine tk 13 ?_ rfl (Or.inl ⟨by rfl, ?_⟩) ?_
   rotate_left
   ·intro w hSw
   obtain ⟨f0, f1, f2⟩ := CN.out.up hSw
   clear hSw
   go_simp
   all_goals with_reducible rfl
   simp only [uA]
   refine r1 14 fun K hK => ?_
   go_simp
   refine (gZ _ _ x.1.2.key y.1.2.key Z0 (KX.out.below CZ0.out (lr _)) (KY.out.below CZ0.out (lr _))).mono ?_
   rintro e Z1 ⟨rfl, rfl⟩
   rw [EQ.out]
   clear hHeld
   refine hK.out _ _ CZ0.out (fun hHeld => ?_)
   clear hK K
   try simp only [uA]
   refine tq 15 ?_
   simp only [uA]
   refine tq 16 ?_
   simp only [uA]
   refine wpAnyH_done (by kernel_rfl) ?_ _
   refine NoPanic.normal ?_
   clear hHeld
   have BZ : Hid (Below w.heap.size w Z0) := HB1.out.trans (CZ0.out.mono HB1.out.size)
   have HOZ := hide (HO1.out.below CZ0.out)
   have HRZ := hide (HRW1.out.below CZ0.out)
   go_wp2_with fail
   go_roundg gO
   case measure => omega
   case rel =>
   refine ⟨i + 1, by omega, by first | rfl | (simp; done) | (simp; omega), ?_, HRZ, hide (ltr HSZ.out (ltr HS1.out CZ0.out.size)), BZ⟩
   have e5 : (ja (fun p : Cp w => p.1.2.key) xs (i + 1)).map (fun p => p.1.1) = (ja (fun p : Cp w => p.1.2.key) xs i).map (fun p => p.1.1) := by
    simp only [ja]
    rw [HKP.out]
    simp
   rw [e5]
   exact HOZ
  ·have EQ : Hid (decide (x.1.2.key = y.1.2.key) = false) := decide_eq_false hk
   have HKP : Hid (iG (fun p : Cp w => p.1.2.key) xs i = true) := by
   show iG _ xs i = true
   unfold iG
   rw [HXI.out, hy]
   simp [hk]
   clear hk hy
   refine wp_region_noPanic ?_
   refine wp_region_held_drew (S := (fun W => Below W1.heap.size W1 W)) follows ((Below.refl _ _).drew) (fun hHeld => ?_)
   clear hHeld
   have hHeld : Below W1.heap.size W1 W1.drew := (Below.refl _ _).drew
   have CZ0 := hide hHeld
   generalize W1.drew = Z0 at CZ0 hHeld ⊢
   refine tq 0 ?_
   simp only [uA]
   refine tq 1 ?_
   simp only [uA]
   refine tq 2 ?_
   simp only [uA]
   refine tq 3 ?_
   simp only [uA]
   refine tq 4 ?_
   simp only [uA]
   refine tq 5 ?_
   simp only [uA]
   refine tq 6 ?_
   simp only [uA]
   refine tk 7 ?_ rfl (Or.inl ⟨by rfl, ?_⟩) ?_
   rotate_left
   ·intro w hSw
   obtain ⟨e0, e1, e2⟩ := kD ((hSw.block _ (aa R5.out)).trans R5.out)
   clear hSw
   go_simp
   all_goals with_reducible rfl
   simp only [uA]
   refine tq 8 ?_
   simp only [uA]
   refine tq 9 ?_
   simp only [uA]
   refine tq 10 ?_
   simp only [uA]
   refine tq 11 ?_
   simp only [uA]
   refine tq 12 ?_
   simp only [uA]
   refine tk 13 ?_ rfl (Or.inl ⟨by rfl, ?_⟩) ?_
   rotate_left
   ·intro w hSw
   obtain ⟨f0, f1, f2⟩ := CN.out.up hSw
   clear hSw
   go_simp
   all_goals with_reducible rfl
   simp only [uA]
   refine r1 14 fun K hK => ?_
   go_simp
   refine (gZ _ _ x.1.2.key y.1.2.key Z0 (KX.out.below CZ0.out (lr _)) (KY.out.below CZ0.out (lr _))).mono ?_
   rintro e Z1 ⟨rfl, rfl⟩
   rw [EQ.out]
   clear hHeld
   refine hK.out _ _ CZ0.out (fun hHeld => ?_)
   clear hK K
   try simp only [uA]
   refine tq 15 ?_
   simp only [uA]
   refine tq 16 ?_
   simp only [uA]
   refine wpAnyH_done (by kernel_rfl) ?_ _
   refine NoPanic.normal ?_
   clear hHeld
   have BZ : Hid (Below w.heap.size w Z0) := HB1.out.trans (CZ0.out.mono HB1.out.size)
   have HOZ := hide (HO1.out.below CZ0.out)
   have HRZ := hide (HRW1.out.below CZ0.out)
   obtain ⟨e0, e1, e2⟩ := kD ((CZ0.out.block _ (aa R5.out)).trans R5.out)
   have HGZ := hide (show g < Z0.heap.size from HRZ.out.lt)
   obtain ⟨Z2, hZ2⟩ : ∃ Z, Z = Z0.alloc (.cells #[.slice x.1.1.ka x.1.1.kn x.1.1.kc, .slice x.1.1.va x.1.1.vn x.1.1.vc, .bool x.1.1.dr] 34) := ⟨_, rfl⟩
   have hb2 : Below Z0.heap.size Z0 Z2 := by rw [hZ2]; exact ba ..
   have hone : Els aQ Z2 (.slice (some ⟨Z0.heap.size, 0, none⟩) 1 1) [x.1.1] := ED (by rw [hZ2]; exact heap_alloc_new _ _)
   have happ := kS Z2 w2.heap.size (.slice vo no co) (.slice (some ⟨Z0.heap.size, 0, none⟩) 1 1) ((ja (fun p : Cp w => p.1.2.key) xs i).map (fun p => p.1.1)) [x.1.1] 36 (HOZ.out.below hb2) hone (by rw [<- HNO.out]; have := HNO.out; have h2 := nG (fun p : Cp w => p.1.2.key) xs i; rw [List.length_map] at this; have := HLN.out; simp; omega) (ltr HSZ.out (ltr (ltr HS1.out CZ0.out.size) hb2.size))
   have APP := hide happ
   have HZ2 := hide hZ2
   have HBZ2 := hide hb2
   have HRZ2 := hide (HRZ.out.below hb2)
   have BZ2 := hide (BZ.out.trans (hb2.mono BZ.out.size))
   clear hZ2 hb2 hone happ
   go_wp2_with (at_builtin; (rw [<- HZ2.out]; refine av rfl (.tmp 34) (.tmp 36) 36 36 rfl _ _ rfl rfl APP.out ?_; rintro v2 w3 ⟨ho, hg⟩; have OW := hide ho; have GR := hide hg; clear ho hg))
   go_roundg gO
   case measure => omega
   case rel =>
   refine ⟨i + 1, by omega, by first | rfl | (simp; done) | (simp; omega), ?_, hide (HRZ2.out.chg GR.out (by exact HNE.out)), ?_, hide (BZ2.out.trans (GR.out.below w.heap.size BZ2.out.size (fun k hk e => by have := (HO1.out.blk e).1; have := HB2.out.size; omega)))⟩
   ·have e5 : (ja (fun p : Cp w => p.1.2.key) xs (i + 1)).map (fun p => p.1.1) = (ja (fun p : Cp w => p.1.2.key) xs i).map (fun p => p.1.1) ++ [x.1.1] := by
    simp only [ja]
    rw [if_pos HKP.out, HXI.out, List.map_append]
    rfl
    rw [e5]
    exact OW
   ·exact hide (ltr HSZ.out (ltr (ltr HS1.out CZ0.out.size) (ltr HBZ2.out.size GR.out.size)))
def edc (gs : Nat) (h : S.Hh) (vs : Value) : List Value := .pointer (some ⟨gs, 0, none⟩) :: (S.hhc h ++ [vs])
def aN (w : World) (g gs : Nat) (h : S.Hh) (vs : Value) : Prop := w.heap[g]? = some (.cells (edc gs h vs).toArray 156 (0, 0))
def vsz (d : List EnV) : Nat := (d.map fun x => 4 + x.kn + x.vn).sum
theorem Dp (d : List EnV) (k : Nat) (x : EnV) (h : d[k]? = some x) : vsz (d.take (k + 1)) = vsz (d.take k) + (4 + x.kn + x.vn) := by
 unfold vsz
 rw [List.take_add_one, h]
 simp [List.sum_append]
theorem vsz_le (d : List EnV) (k : Nat) : vsz (d.take k) <= vsz d := by
 conv => rhs; rw [<- List.take_append_drop k d]
 unfold vsz
 rw [List.map_append, List.sum_append]
 omega
theorem uR (d : List EnV) : 4 * d.length <= vsz d := by
 induction d with
 | nil => simp
 | cons x r ih =>
 have e : vsz (x :: r) = (4 + x.kn + x.vn) + vsz r := by simp [vsz]
 rw [e, List.length_cons]
 omega
structure Sp1 (w wr : World) (g1 g2 : Nat) (kv vo : Value) (k : Nat) (d : List EnV) : Prop where
 node : wr.heap[g1]? = some (.cells #[.int .i64 0, vo] 124 (0, 0))
 out : wr.heap[g2]? = some (.cells #[kv, .slice none 0 0, .int .i64 0, .pointer (some ⟨g1, 0, none⟩)] 126 (0, 0))
 row : bF (g2 + 1) wr vo (d.take k)
 base : Below w.heap.size w wr
set_option maxHeartbeats 4000000 in
set_option maxRecDepth 10000 in
theorem split_0 (gn : Nat) (kv v : Value) (d : List EnV) (w : World) (hk : ∃ ao n c, kv = .slice ao n c) (hg : w.heap[gn]? = some (.cells #[.int .i64 0, v] 124 (0, 0))) (hd : Els aV w v d) (hs : vsz d <= 1019) :
 Calls Tryz.prog 119 #[kv, .pointer (some ⟨gn, 0, none⟩)] w fun e w' => ∃ g1 g2 vo, e = .returned (.slice (some ⟨g2, 0, none⟩) 1 1) /\ Sp1 w w' g1 g2 kv vo d.length d /\ w.heap.size <= g1 /\ w.heap.size <= g2 := by
 obtain ⟨ko, kn, kc, rfl⟩ := hk
 have HG := hide hg
 have HD := hide hd
 have HS := hide hs
 obtain ⟨ao, cap, rfl, hbig⟩ := hd.form
 obtain ⟨n, hn⟩ : ∃ n, n = d.length := ⟨_, rfl⟩
 rw [<- hn] at hbig
 have HN := hide hn
 obtain ⟨c0, c1⟩ := aR hg
 rw [<- hn] at c1
 clear hg hd hs hn
 go_enter Tryz.func119, Tryz.ntmps119
 go_upto_region 2 with fail
 obtain ⟨g1, hg1⟩ : ∃ g1, g1 = w.heap.size := ⟨_, rfl⟩
 rw [<- hg1]
 obtain ⟨g2, hg2⟩ : ∃ g2, g2 = g1 + 1 := ⟨_, rfl⟩
 rw [<- hg2]
 obtain ⟨W, hW⟩ : ∃ W, W = (w.alloc (.cells #[.int .i64 0, .slice none 0 0] 124)).alloc (.cells #[.slice ko kn kc, .slice none 0 0, .int .i64 0, .pointer (some ⟨g1, 0, none⟩)] 126) := ⟨_, rfl⟩
 rw [<- hW]
 have hsz : (w.alloc (.cells #[.int .i64 0, .slice none 0 0] 124)).heap.size = g2 := by rw [hg2, hg1]; simp
 have b1 : Below w.heap.size w (w.alloc (.cells #[.int .i64 0, .slice none 0 0] 124)) := ba ..
 have bW : Below w.heap.size w W := by rw [hW]; exact b1.alloc b1.size _
 have r1 : W.heap[g1]? = some (.cells #[.int .i64 0, .slice none 0 0] 124 (0, 0)) := by rw [hW, heap_alloc_old _ _ (by omega), hg1]; exact heap_alloc_new _ _
 have r2 : W.heap[g2]? = some (.cells #[.slice ko kn kc, .slice none 0 0, .int .i64 0, .pointer (some ⟨g1, 0, none⟩)] 126 (0, 0)) := by rw [hW, <- hsz]; exact heap_alloc_new _ _
 have M0 : Hid (Sp1 w W g1 g2 (.slice ko kn kc) (.slice none 0 0) 0 d) := ⟨r1, r2, bF.nil _ _, bW⟩
 have GS : Hid (w.heap.size <= g1 /\ g2 = g1 + 1) := ⟨by omega, hg2⟩
 have d0 := (bW.cell (p := ⟨gn, 0, none⟩) (aa HG.out)).trans c0
 have d1 := (bW.cell (p := ⟨gn, 1, none⟩) (aa HG.out)).trans c1
 clear hsz b1 bW r1 r2 hW hg1 hg2 c0 c1
 go_wp2_with fail
 go_loopw [5, 6, 24] (fun a b i wr => ∃ k : Nat, k <= n /\ i = .int .i64 (k : Int) /\ a = .slice (some ⟨g2, 0, none⟩) 1 1 /\ b = .int .i64 (vsz (d.take k) : Int) /\ ∃ vo, Hid (Sp1 w wr g1 g2 (.slice ko kn kc) vo k d)) (fun _ _ i _ => n - (intOf i).toNat)
 case atStart => exact ⟨0, by omega, rfl, rfl, rfl, _, M0⟩
 case round =>
 clear M0 d0 d1
 obtain ⟨k, hk, rfl, rfl, rfl, vo, M⟩ := hrel
 by_cases hlt : k < n
 ·have hkd : k < d.length := by have := HN.out; omega
 obtain ⟨b, off, cap', hv, hcap, hb, hcl⟩ := HD.out.at fV k d[k] (List.getElem?_eq_getElem hkd)
 injection hv with hv1 hv2 hv3
 subst hv1 hv3
 obtain ⟨t0, t1, t2, t3⟩ := yf hcl
 have BW := M.out.base
 have u0 := (BW.cell (p := ⟨b, off + k * 4, none⟩) hb).trans t0
 have u1 := (BW.cell (p := ⟨b, off + k * 4 + 1, none⟩) hb).trans t1
 have u2 := (BW.cell (p := ⟨b, off + k * 4 + 2, none⟩) hb).trans t2
 have u3 := (BW.cell (p := ⟨b, off + k * 4 + 3, none⟩) hb).trans t3
 have hkI : (k : Int) < (n : Int) := by omega
 have hk0 : (0 : Int) <= (k : Int) := by omega
 obtain ⟨x, hx⟩ : ∃ x, x = d[k] := ⟨_, rfl⟩
 have AT : Hid (d[k]? = some x) := by rw [hx]; exact List.getElem?_eq_getElem hkd
 rw [<- hx] at u0 u1 u2 u3
 obtain ⟨ka, kn', kc', va, vn, vc, pg, nd⟩ := x
 simp only at u0 u1 u2 u3
 have VT := Dp d k _ AT.out
 have VL := vsz_le d (k + 1)
 have HSS := HS.out
 simp only at VT
 obtain ⟨sz, hszk⟩ : ∃ sz, sz = vsz (d.take k) := ⟨_, rfl⟩
 obtain ⟨sz2, hsz2⟩ : ∃ sz2, sz2 = vsz (d.take (k + 1)) := ⟨_, rfl⟩
 rw [<- hszk] at VT ⊢
 rw [<- hsz2] at VT VL
 have SZ2 := hide hsz2
 have hs2 : sz2 <= 1019 := by omega
 have hs3 : (sz : Int) + ((4 + kn' + vn : Nat) : Int) = (sz2 : Int) := by omega
 have hs4 : ¬ (1019 : Int) < (sz2 : Int) := by omega
 have hs5 : decide ((1019 : Int) < (sz2 : Int)) = false := decide_eq_false hs4
 have hkv : kn' <= 1000000 /\ vn <= 1000000 := by omega
 have KV := hide hkv
 clear t0 t1 t2 t3 hcl hx hv2 hcap BW VL HSS hszk hsz2 VT hkv
 go_upto_region 6 with fail
 obtain ⟨W2, hW2⟩ : ∃ W2, W2 = wr.alloc (.cells #[.slice ka kn' kc', .slice va vn vc, .int .i64 pg, .pointer nd] 126) := ⟨_, rfl⟩
 rw [<- hW2]
 have b2 : Below wr.heap.size wr W2 := by rw [hW2]; exact ba ..
 have r2 : W2.heap[wr.heap.size]? = some (.cells #[.slice ka kn' kc', .slice va vn vc, .int .i64 pg, .pointer nd] 126 (0, 0)) := by rw [hW2]; exact heap_alloc_new _ _
 obtain ⟨gb, hgb⟩ : ∃ gb, gb = wr.heap.size := ⟨_, rfl⟩
 rw [<- hgb] at r2 ⊢
 have M2 : Hid (Sp1 w W2 g1 g2 (.slice ko kn kc) vo k d) := ⟨(b2.block g1 (aa M.out.node)).trans M.out.node, (b2.block g2 (aa M.out.out)).trans M.out.out, M.out.row.below b2, M.out.base.trans (b2.mono M.out.base.size)⟩
 have NB : Hid (∀ j, vo.ownBlock = some j -> j ≠ gb) := fun j hj e => by have := (M.out.row.blk hj).2.1; omega
 have RW := hide r2
 obtain ⟨x0, x1, x2, x3⟩ := az r2
 clear hW2 b2 r2 hgb u0 u1 u2 u3 M
 go_wp2_with fail
 refine (uk ka va nd kn' kc' vn vc pg W2 KV.out.1 KV.out.2).mono ?_
 rintro e W3 ⟨rfl, b3⟩
 have M3 : Hid (Sp1 w W3 g1 g2 (.slice ko kn kc) vo k d) := ⟨(b3.block g1 (aa M2.out.node)).trans M2.out.node, (b3.block g2 (aa M2.out.out)).trans M2.out.out, M2.out.row.below b3, M2.out.base.trans (b3.mono M2.out.base.size)⟩
 have RW3 : Hid (W3.heap[gb]? = some (.cells #[.slice ka kn' kc', .slice va vn vc, .int .i64 pg, .pointer nd] 126 (0, 0))) := (b3.block gb (aa RW.out)).trans RW.out
 obtain ⟨y0, y1, y2, y3⟩ := az M3.out.out
 clear b3 x0 x1 x2 x3 RW M2
 go_wp2_with fail
 refine wp_region_noPanic ?_
 refine wp_region_held_drew (S := (fun W => W.cell? ⟨gb, 0, none⟩ = some (.slice ka kn' kc') /\ W.cell? ⟨gb, 1, none⟩ = some (.slice va vn vc) /\ W.cell? ⟨gb, 2, none⟩ = some (.int .i64 pg) /\ W.cell? ⟨gb, 3, none⟩ = some (.pointer nd))) follows (az RW3.out) (fun hHeld => ?_)
 have MZ : Hid (Sp1 w W3.drew g1 g2 (.slice ko kn kc) vo k d) := ⟨M3.out.node, M3.out.out, M3.out.row, M3.out.base.drew⟩
 have RZ : Hid (W3.drew.heap[gb]? = some (.cells #[.slice ka kn' kc', .slice va vn vc, .int .i64 pg, .pointer nd] 126 (0, 0))) := RW3.out
 have NG : Hid (g1 ≠ gb) := bz M3.out.node RW3.out (by decide)
 obtain ⟨vao, AX, hvo⟩ := M3.out.row.form
 obtain ⟨vnn, hvnn⟩ : ∃ vnn, vnn = (d.take k).length := ⟨_, rfl⟩
 rw [<- hvnn] at hvo
 subst hvo
 clear hvnn
 clear M3 RW3 y0 y1 y2 y3
 generalize W3.drew = Z at MZ RZ hHeld ⊢
 refine tq 0 ?_
 simp only [uA]
 refine tq 1 ?_
 simp only [uA]
 refine tq 2 ?_
 simp only [uA]
 refine tq 3 ?_
 simp only [uA]
 refine tk 5 ?_ rfl (Or.inl ⟨by rfl, ?_⟩) ?_
 rotate_left
 ·intro w hSw
  obtain ⟨z0, z1, z2, z3⟩ := hSw
  go_simp
  all_goals with_reducible rfl
 simp only [uA]
 refine rdy [4, 6] ?_
 refine AllReadyH.cons (o := ⟨_, _, _, _, _, _⟩) rfl (fun K hK => ?_) ?_
 focus
  have c1 := (aR MZ.out.node).2
  go_simp
  refine hK.out _ _ (by assumption) (fun hHeld => ?_)
  clear hK K c1
  try simp only [uA]
  refine rdy [6] ?_
  refine aI (o := ⟨_, _, _, _, _, _⟩) rfl rfl 122 1 [(0, Operand.tmp 66)] rfl _ _ (x9 Z ⟨ka, kn', kc', va, vn, vc, pg, nd⟩) AllReadyH.nil ⟨az ((heap_alloc_old _ _ (aa RZ.out)).trans RZ.out), fun hHeld => ?_⟩
  try simp only [uA]
  obtain ⟨Y, hY⟩ : ∃ Y : EnV, Y = ⟨ka, kn', kc', va, vn, vc, pg, nd⟩ := ⟨_, rfl⟩
  rw [<- hY] at hHeld ⊢
  have ATY : Hid (d[k]? = some Y) := by rw [hY]; exact AT.out
  obtain ⟨Z3, hZ3⟩ : ∃ Z3, Z3 = Z.alloc (.cells (aV Y).toArray 126) := ⟨_, rfl⟩
  rw [<- hZ3] at hHeld ⊢
  have b3 : Below Z.heap.size Z Z3 := by rw [hZ3]; exact ba ..
  have r3 : Z3.heap[Z.heap.size]? = some (.cells (aV Y).toArray 126 (0, 0)) := by rw [hZ3]; exact heap_alloc_new _ _
  have M4 : Hid (Sp1 w Z3 g1 g2 (.slice ko kn kc) (.slice vao vnn AX) k d) := ⟨(b3.block g1 (aa MZ.out.node)).trans MZ.out.node, (b3.block g2 (aa MZ.out.out)).trans MZ.out.out, MZ.out.row.below b3, MZ.out.base.trans (b3.mono MZ.out.base.size)⟩
  have R4 : Hid (Z3.heap[gb]? = some (.cells #[.slice ka kn' kc', .slice va vn vc, .int .i64 pg, .pointer nd] 126 (0, 0))) := (b3.block gb (aa RZ.out)).trans RZ.out
  have APP := bJ Z3 (g2 + 1) (.slice vao vnn AX) (.slice (some ⟨Z.heap.size, 0, none⟩) 1 1) (d.take k) [Y] 122 M4.out.row (jZ r3) (by have := HN.out; have h1 := uR d; have h2 := HS.out; rw [List.length_take]; simp; omega) (by have := aa M4.out.out; omega)
  clear b3 r3 hZ3 hY MZ RZ
 rotate_left
 focus
  refine aI (o := ⟨_, _, _, _, _, _⟩) rfl rfl 122 1 [(0, Operand.tmp 66)] rfl _ _ (x9 Z ⟨ka, kn', kc', va, vn, vc, pg, nd⟩) AllReadyH.nil ⟨az ((heap_alloc_old _ _ (aa RZ.out)).trans RZ.out), fun hHeld => ?_⟩
  try simp only [uA]
  obtain ⟨Y, hY⟩ : ∃ Y : EnV, Y = ⟨ka, kn', kc', va, vn, vc, pg, nd⟩ := ⟨_, rfl⟩
  rw [<- hY] at hHeld ⊢
  have ATY : Hid (d[k]? = some Y) := by rw [hY]; exact AT.out
  obtain ⟨Z3, hZ3⟩ : ∃ Z3, Z3 = Z.alloc (.cells (aV Y).toArray 126) := ⟨_, rfl⟩
  rw [<- hZ3] at hHeld ⊢
  have b3 : Below Z.heap.size Z Z3 := by rw [hZ3]; exact ba ..
  have r3 : Z3.heap[Z.heap.size]? = some (.cells (aV Y).toArray 126 (0, 0)) := by rw [hZ3]; exact heap_alloc_new _ _
  have M4 : Hid (Sp1 w Z3 g1 g2 (.slice ko kn kc) (.slice vao vnn AX) k d) := ⟨(b3.block g1 (aa MZ.out.node)).trans MZ.out.node, (b3.block g2 (aa MZ.out.out)).trans MZ.out.out, MZ.out.row.below b3, MZ.out.base.trans (b3.mono MZ.out.base.size)⟩
  have R4 : Hid (Z3.heap[gb]? = some (.cells #[.slice ka kn' kc', .slice va vn vc, .int .i64 pg, .pointer nd] 126 (0, 0))) := (b3.block gb (aa RZ.out)).trans RZ.out
  have APP := bJ Z3 (g2 + 1) (.slice vao vnn AX) (.slice (some ⟨Z.heap.size, 0, none⟩) 1 1) (d.take k) [Y] 122 M4.out.row (jZ r3) (by have := HN.out; have h1 := uR d; have h2 := HS.out; rw [List.length_take]; simp; omega) (by have := aa M4.out.out; omega)
  clear b3 r3 hZ3 hY MZ RZ
  refine r1 4 fun K hK => ?_
  have c1 := (aR M4.out.node).2
  go_simp
  refine hK.out _ _ (by assumption) (fun hHeld => ?_)
  clear hK K c1
  try simp only [uA]
 all_goals
  refine rdy [7] ?_
  refine aS (o := ⟨_, _, _, _, _, _⟩) rfl rfl _ _ 122 122 rfl _ _ rfl rfl APP AllReadyH.nil ?_
  rintro v4 Z4 ⟨e4, c4⟩
  have N4 : Z4.heap[g1]? = some (.cells #[.int .i64 0, .slice vao vnn AX] 124 (0, 0)) := c4.row M4.out.node (M4.out.row.apart M4.out.node (by decide))
  have O4 : Z4.heap[g2]? = some (.cells #[.slice ko kn kc, .slice none 0 0, .int .i64 0, .pointer (some ⟨g1, 0, none⟩)] 126 (0, 0)) := c4.row M4.out.out (fun e => by have := (M4.out.row.blk e).1; omega)
  have X4 : Z4.heap[gb]? = some (.cells #[.slice ka kn' kc', .slice va vn vc, .int .i64 pg, .pointer nd] 126 (0, 0)) := c4.row R4.out (fun e => NB.out _ e rfl)
  have E4 : Hid (bF (g2 + 1) Z4 v4 (d.take (k + 1))) := by show bF (g2 + 1) Z4 v4 (d.take (k + 1)); rw [List.take_add_one, ATY.out]; exact e4
  have B4 : Hid (Below w.heap.size w Z4) := M4.out.base.trans (c4.below _ M4.out.base.size (fun j hj e => by have := (M4.out.row.blk e).1; have := GS.out; omega))
  have N4H := hide N4
  have O4H := hide O4
  have X4H := hide X4
  refine ⟨az X4, fun hHeld => ?_⟩
  clear e4 c4 N4 O4 X4 APP R4 M4
  try simp only [uA]
  obtain ⟨o4, oc4, hv4⟩ := E4.out.form
  obtain ⟨n4, hn4⟩ : ∃ n4, n4 = (d.take (k + 1)).length := ⟨_, rfl⟩
  rw [<- hn4] at hv4
  subst hv4
  clear hn4
  refine tq 8 ?_
  simp only [uA]
  refine tq 9 ?_
  simp only [uA]
  refine r1 10 fun K hK => ?_
  have c1 := (aR N4H.out).2
  have f1 := frozen_of_row _ _ 1 _ _ N4H.out
  go_simp
  have c5 : Chg (fun k => k = g1) Z4 (Z4.setCell ⟨g1, 1, none⟩ (.slice o4 n4 oc4)) := (Chg.refl (fun k => k = g1) _).setCell g1 1 _ (fun _ => rfl)
  have r5 : (Z4.setCell ⟨g1, 1, none⟩ (.slice o4 n4 oc4)).heap[g1]? = some (.cells #[.int .i64 0, .slice o4 n4 oc4] 124 (0, 0)) := by rw [heap_setCell_same Z4 g1 1 _ _ _ N4H.out]; rfl
  have MM : Hid (Sp1 w (Z4.setCell ⟨g1, 1, none⟩ (.slice o4 n4 oc4)) g1 g2 (.slice ko kn kc) (.slice o4 n4 oc4) (k + 1) d) := ⟨r5, c5.row O4H.out (by have := GS.out; omega), E4.out.chg c5 (fun j hj e => E4.out.apart N4H.out (by decide) (by rw [<- e]; exact hj)), B4.out.trans (c5.base B4.out.size GS.out.1)⟩
  have a5 := az (c5.row X4H.out (fun e => NG.out e.symm))
  clear hHeld
  refine hK.out _ _ a5 (fun hHeld => ?_)
  clear hK K c1 f1 c5 r5 a5 E4 N4H O4H X4H B4
  try simp only [uA]
  refine wpAnyH_done (by kernel_rfl) ?_ _
  refine NoPanic.normal ?_
  clear hHeld
  go_wp2_with fail
  go_roundw
  case rel => exact ⟨k + 1, by omega, by go_num, rfl, by rw [<- SZ2.out]; congr 1, _, MM⟩
  case measure => simp [intOf]; omega
 ·obtain rfl : k = n := by omega
 go_wp2_with fail
 go_ret
 exact ⟨g1, g2, vo, rfl, by rw [<- HN.out]; exact M.out, GS.out.1, by have := GS.out; omega⟩
theorem pI {w : World} {ao : Option Addr} {n c : Nat} {bs : List UInt8} (h : SliceAt w (.slice ao n c) bs) : n = bs.length := by
 obtain ⟨a, l, c', e, h1, _⟩ := h.form
 injection e with _ e _
 rw [e, h1]
theorem vsz_ess {w : World} {d : List EnV} {es : List S.Ent} (h : bf w d es) : vsz d = S.gJ es := by
 induction d generalizing es with
 | nil =>
 have := h.1
 cases es with
 | nil => rfl
 | cons a r => simp at this
 | cons x r ih =>
 cases es with
 | nil => have := h.1; simp at this
 | cons e l =>
  have h0 := h.2 0 x e rfl rfl
  have hr : bf w r l := ⟨by have := h.1; simpa using this, fun i y f hy hf => h.2 (i + 1) y f (by simpa using hy) (by simpa using hf)⟩
  have e1 : vsz (x :: r) = (4 + x.kn + x.vn) + vsz r := by simp [vsz]
  have e2 : S.gJ (e :: l) = S.esz e + S.gJ l := by simp [S.gJ]
  rw [e1, e2, ih hr, pI h0.key, pI h0.val]
  rfl
structure Chd (w w' : World) (g gs g1 g2 : Nat) (kv : Value) (h : S.Hh) (vs : Value) (es : List S.Ent) : Prop where
 node : ∃ vo d, w'.heap[g1]? = some (.cells #[.int .i64 0, vo] 124 (0, 0)) /\ bF w.heap.size w' vo d /\ ∀ W, Chg (fun k => k = g) w' W -> bf W d es
 out : w'.heap[g2]? = some (.cells #[kv, .slice none 0 0, .int .i64 0, .pointer (some ⟨g1, 0, none⟩)] 126 (0, 0))
 edit : aN w' g gs { h with used := S.fJ h.used 1, cnt := es.length } vs
 chg : Chg (fun k => k = g) w w'
 up : w.heap.size <= g1 /\ w.heap.size <= g2
namespace S
end S
namespace S
def ckc (gs : Nat) (s : List UInt8) (n : Nat) : List Value := .pointer (some ⟨gs, 0, none⟩) :: (v8l s ++ [.int .i64 (n : Int)])
end S
set_option maxHeartbeats 4000000 in
set_option maxRecDepth 10000 in
theorem zl (B gc gs c : Nat) (s : List UInt8) (pg : Nat -> List UInt8) (es : List S.Ent) (w : World) (hr : Rds B w gs pg) (hk : gU w gc gs s c) (hs : s.length = 64) (_hB : B <= gc) (hl : S.nU pg es) (hc : c <= 1000000) :
 Calls Tryz.prog 49 #[.pointer (some ⟨gc, 0, none⟩), .int .i64 1, .int .i64 0, .slice none 0 0, .slice none 0 0] w fun e w' => e = .returned (.tuple #[.int .i64 (es.length : Int), .int .i64 (S.gJ es : Int), .int .i64 0]) /\ gU w' gc gs (S.bE s 1) (c + es.length) /\ Chg (fun k => k = gc) w w' := by
 have H := hide hr
 have HK := hide hk
 have HL := hide hl
 have HS := hide hs
 have c0 := hk.store
 obtain ⟨n, hn⟩ : ∃ n, n = es.length := ⟨_, rfl⟩
 obtain ⟨sz, hsz⟩ : ∃ sz, sz = S.gJ es := ⟨_, rfl⟩
 rw [<- hn, <- hsz]
 have HN := hide hn
 have HSZ := hide hsz
 have hlen : n <= 254 := by rw [hn]; exact hl.ok.len
 clear hr hk hl hs hn hsz
 go_enter Tryz.func49, Tryz.ntmps49
 go_wp2_with fail
 refine (jS B gs 1 0 pg es w H.out (by omega) HL.out.node HL.out.ok).mono ?_
 rintro e w1 ⟨gn, rfl, n1, b1⟩
 have N1 := hide n1
 have B1 := hide b1
 have ND := hide (n1.node HL.out.ok.ent (by have := HL.out.ok.len; omega))
 have GN : Hid (gc < gn) := Nat.lt_of_lt_of_le (aa HK.out) n1.at_
 have K1 : Hid (gU w1 gc gs s c) := (b1.block gc (aa HK.out)).trans HK.out
 clear n1 b1 c0 HK
 go_wp2_with fail
 refine (xH gn es w1 ND.out HL.out.ok).mono ?_
 rintro e w2 ⟨rfl, b2⟩
 have N2 := hide (N1.out.below b2)
 have B2 := hide (B1.out.trans (b2.mono B1.out.size))
 have K2 : Hid (gU w2 gc gs s c) := (b2.block gc (aa K1.out)).trans K1.out
 clear b2 N1 B1 K1 ND
 go_wp2_with fail
 refine (uy gc gs c 1 s w2 K2.out HS.out (by omega)).mono ?_
 rintro e w3 ⟨rfl, k3, c3⟩
 have K3 := hide k3
 have C3 : Hid (Chg (fun k => k = gc) w w3) := (Chg.ofBelow' (p := fun k => k = gc) B2.out).trans c3 (fun _ _ e => e)
 have N3 : Hid (dP w.heap.size w3 gn 0 es) := by
 obtain ⟨⟨v, d, h1, h2, h3, h4⟩, h5⟩ := N2.out
 exact ⟨⟨v, d, c3.row h1 (by have := GN.out; omega), h2.chg c3 (fun k hk e => h2.apart K2.out (by decide) (by rw [<- e]; exact hk)), h3, fun i x e hx he => ⟨(h4 i x e hx he).1.chg c3 (fun k c hk e => bz hk K2.out (by decide) e), (h4 i x e hx he).2⟩⟩, h5⟩
 clear k3 c3 N2 B2 K2
 obtain ⟨v, d, h1, h2, h3, h4⟩ := N3.out.is
 obtain ⟨ao, cap, hv⟩ := h2.form
 subst hv
 obtain ⟨g0, g1⟩ := aR h1
 rw [h3, <- HN.out] at g1
 have R1 := hide h1
 have k1 := K3.out.cnt (by rw [S.dC]; exact HS.out)
 have f1 := frozen_of_row _ _ 65 _ _ K3.out
 clear h1 h2 h3 h4
 go_wp2_with fail
 go_region
 have K4 := hide (K3.out.setCnt (by rw [S.dC]; exact HS.out) (c + n))
 have ew : (c : Int) + (n : Int) = ((c + n : Nat) : Int) := by omega
 rw [ew]
 obtain ⟨w4, hw4⟩ : ∃ w4, w4 = (w3.setCell ⟨gc, 65, none⟩ (.int .i64 ((c + n : Nat) : Int))).drew := ⟨_, rfl⟩
 rw [<- hw4]
 have c4 : Chg (fun k => k = gc) w3 w4 := by rw [hw4]; exact ((Chg.refl (fun k => k = gc) w3).setCell gc _ _ (fun _ => rfl)).drew
 have K5 : Hid (gU w4 gc gs (S.bE s 1) (c + n)) := by rw [hw4]; exact K4.out
 have C4 : Hid (Chg (fun k => k = gc) w w4) := C3.out.trans c4 (fun _ _ e => e)
 have N4 : Hid (dP w.heap.size w4 gn 0 es) := by
 obtain ⟨⟨v, d, h1, h2, h3, h4⟩, h5⟩ := N3.out
 exact ⟨⟨v, d, c4.row h1 (by have := GN.out; omega), h2.chg c4 (fun k hk e => h2.apart K3.out (by decide) (by rw [<- e]; exact hk)), h3, fun i x e hx he => ⟨(h4 i x e hx he).1.chg c4 (fun k c hk e => bz hk K3.out (by decide) e), (h4 i x e hx he).2⟩⟩, h5⟩
 have g4 := (aR (c4.row R1.out (by have := GN.out; omega))).2
 have hln : d.length = n := by
 have e1 := (aR R1.out).2
 rw [g1] at e1
 injection e1 with e1
 injection e1 with _ e1 _
 exact e1.symm
 rw [hln] at g4
 have NS := hide (fun W (hb : Below w4.heap.size w4 W) => Bu gn 0 es W ((N4.out.below hb).node HL.out.ok.ent (by have := HL.out.ok.len; omega)) HL.out.ok.ent (by have := HL.out.ok.size; omega) (by have := HL.out.ok.len; omega))
 rw [<- HSZ.out] at NS
 have GL : gn < w4.heap.size := by obtain ⟨v, d, h1, _⟩ := N4.out.is; exact aa h1
 clear K4 ew hw4 c4 K3 C3 N3 g0 g1 k1 f1 hln R1
 go_wp2_with fail
 refine wp_region_noPanic ?_
 refine wp_region_held_drew (S := (fun W => W.cell? ⟨gn, 1, none⟩ = some (.slice ao n cap))) follows g4 (fun hHeld => ?_)
 have BD : Hid (Below w4.heap.size w4 w4.drew) := (Below.refl _ _).drew
 clear g4
 generalize w4.drew = Z1 at BD hHeld ⊢
 refine tq 0 ?_
 simp only [uA]
 refine tq 1 ?_
 simp only [uA]
 refine tq 2 ?_
 simp only [uA]
 refine tk 3 ?_ rfl (Or.inl ⟨by rfl, ?_⟩) ?_
 rotate_left
 ·intro w hSw
 have c4 := hSw
 clear hSw
 go_simp
 all_goals with_reducible rfl
 simp only [uA]
 refine tq 4 ?_
 simp only [uA]
 refine tq 5 ?_
 simp only [uA]
 refine r1 6 fun K hK => ?_
 go_simp
 refine (NS.out Z1 BD.out).mono ?_
 rintro e Z2 ⟨rfl, b2⟩
 have a2 := (b2.cell (p := ⟨gn, 1, none⟩) (Nat.lt_of_lt_of_le GL BD.out.size)).trans hHeld
 have B2 := hide (BD.out.trans (b2.mono BD.out.size))
 clear hHeld
 refine hK.out _ _ a2 (fun hHeld => ?_)
 clear hK K
 try simp only [uA]
 clear a2 b2 BD
 refine tq 7 ?_
 simp only [uA]
 refine tq 8 ?_
 simp only [uA]
 refine tq 9 ?_
 simp only [uA]
 refine wpAnyH_done (by kernel_rfl) ?_ _
 refine NoPanic.normal ?_
 clear hHeld
 go_wp2_with fail
 go_ret3
 exact ⟨rfl, (B2.out.block gc (aa K5.out)).trans K5.out, C4.out.trans (Chg.ofBelow' (p := fun k => k = gc) B2.out) (fun _ _ e => e)⟩
theorem yZ : (Tryz.prog.info? 112).map (fun i => (i.size, i.bytes)) = some (66, 80) := by kernel_rfl
theorem yz : (Tryz.prog.info? 112).bind (·.zero) = some (.agg (.pointer none :: (S.v8l (S.zeros 64) ++ [.int .i64 0])).toArray) := by kernel_rfl
theorem Pg.pgs {w0 w : World} {o : Ow} {d : S.Dk} {p t : Nat} {pg : Nat -> List UInt8} (h : Pg w0 w o d p t pg) (hs : ∀ n, n < 512 -> (pg n).length = 1024) : S.Pgs d.safe p t [] pg :=
 ⟨h.len, h.mark, h.log, fun i hi => by simp at hi, fun m hm _ => h.home m hm, fun n hn => by simp at hn, List.Pairwise.nil, by simp, hs⟩
structure Bt1 (w0 w : World) (o : Ow) (d : S.Dk) (p t : Nat) (pg : Nat -> List UInt8) (es : List S.Ent) : Prop where
 pgs : Pg w0 w o d p t pg
 size : ∀ n, n < 512 -> (pg n).length = 1024
 leaf : S.nU pg es
theorem Bt1.then {w0 w W : World} {o : Ow} {d : S.Dk} {p t : Nat} {pg : Nat -> List UInt8} {es : List S.Ent} (h : Bt1 w0 w o d p t pg es) (hb : Below w.heap.size w W) : Bt1 w0 W o d p t pg es := ⟨h.pgs.then hb, h.size, h.leaf⟩
theorem Pg.rds {w0 w : World} {o : Ow} {d : S.Dk} {p t gs : Nat} {pg : Nat -> List UInt8} (h : Pg w0 w o d p t pg) (hz : ∀ n, n < 512 -> (pg n).length = 1024) (hs : dX w gs o) : Rds w.heap.size w gs pg :=
 ⟨⟨w0, o, d, p, t, [], ⟨h.dk, h.pend, h.pgs hz, h.ob, h.below, h.pos⟩, hs, fun k hk => h.dk.dk.lt k hk, aa hs, h.below.size⟩, lr _⟩
theorem Bt1.rds {w0 w : World} {o : Ow} {d : S.Dk} {p t gs : Nat} {pg : Nat -> List UInt8} {es : List S.Ent} (h : Bt1 w0 w o d p t pg es) (hs : dX w gs o) : Rds w.heap.size w gs pg := h.pgs.rds h.size hs
set_option maxHeartbeats 2000000 in
set_option maxRecDepth 10000 in
theorem Cj (w0 w : World) (o : Ow) (d : S.Dk) (p t : Nat) (pg : Nat -> List UInt8) (es : List S.Ent) (h : Bt1 w0 w o d p t pg es) :
 Calls Tryz.prog 11 #[o.ptr] w fun e w' => ∃ gt gs, e = .returned (.tuple #[.pointer (some ⟨gt, 0, none⟩), .int .i64 0]) /\ kL w' gt gs /\ dX w' gs o /\ w.heap.size <= gt /\ w.heap.size <= gs /\ Below w.heap.size w w' := by
 have H := hide h
 have hp : o.ptr = .pointer (some ⟨o.g, 0, none⟩) := rfl
 clear h
 rw [hp]
 go_enter Tryz.func11, Tryz.ntmps11
 go_wp2_with fail
 rw [<- hp]
 refine (wT w0 w o d p t pg H.out.pgs).mono ?_
 rintro e w1 ⟨gs, rfl, s1, g1, p1, b1⟩
 have S1 := hide s1
 have B1 := hide b1
 have G1 := hide g1
 rw [hp]
 clear s1 g1 p1 b1
 go_wp2_with fail
 obtain ⟨w2, hw2⟩ : ∃ w2, w2 = w1.alloc (.cells #[.pointer (some ⟨gs, 0, none⟩)] 96) := ⟨_, rfl⟩
 rw [<- hw2]
 have b2 : Below w1.heap.size w1 w2 := by rw [hw2]; exact ba ..
 have t2 : kL w2 w1.heap.size gs := by unfold kL; rw [hw2]; exact heap_alloc_new _ _
 have GT : Hid (w.heap.size <= w1.heap.size) := B1.out.size
 obtain ⟨gt, hgt⟩ : ∃ gt, gt = w1.heap.size := ⟨_, rfl⟩
 rw [<- hgt] at t2 GT ⊢
 have T2 := hide t2
 have S2 : Hid (dX w2 gs o) := (b2.block gs (aa S1.out)).trans S1.out
 have B2 := hide (B1.out.trans (b2.mono B1.out.size))
 have R2 := hide ((H.out.then B2.out).rds S2.out)
 clear hw2 b2 t2 hgt S1 B1
 refine (Ap w2.heap.size gt gs pg es w2 R2.out T2.out H.out.leaf).mono ?_
 rintro e w3 ⟨rfl, b3⟩
 have B3 := hide (B2.out.trans (b3.mono B2.out.size))
 have T3 : Hid (kL w3 gt gs) := (b3.block gt (aa T2.out)).trans T2.out
 have S3 : Hid (dX w3 gs o) := (b3.block gs (aa S2.out)).trans S2.out
 clear b3 B2 T2 S2 R2
 go_wp2_with fail
 go_ret2
 exact ⟨gt, gs, rfl, T3.out, S3.out, GT.out, G1.out, B3.out⟩
theorem yY : (Tryz.prog.info? 126).map (fun i => (i.zero, i.size, i.bytes)) = some (some (.agg #[.slice none 0 0, .slice none 0 0, .int .i64 0, .pointer none]), 4, 64) := by kernel_rfl
theorem iM (d : List EnV) : (d.flatMap cZ).length = d.length * 4 := by
 induction d with
 | nil => rfl
 | cons x r ih => rw [List.flatMap_cons, List.length_append, ih, encEn_len, List.length_cons]; omega
theorem AU (x : EnV) : ∀ v ∈ cZ x, v.oneCell' = true := by
 intro v hv
 simp [cZ] at hv
 rcases hv with rfl | rfl | rfl | rfl <;> rfl
theorem xN (d : List EnV) : ∀ v ∈ d.flatMap cZ, v.oneCell' = true := by
 intro v hv
 rw [List.mem_flatMap] at hv
 obtain ⟨x, _, hv⟩ := hv
 exact AU x v hv
def dS (B : Nat) (w : World) (v : Value) (d : List EnV) : Prop := w.ownsRow B 126 4 v d.length (d.flatMap cZ)
theorem dS.nil (B : Nat) (w : World) : dS B w (.slice none 0 0) [] := ⟨rfl, Or.inl ⟨rfl, rfl⟩⟩
theorem dS.els {B : Nat} {w : World} {v : Value} {d : List EnV} (h : dS B w v d) (hl : d.length <= 1000000) : Els cZ w v d := by
 rcases h.2 with ⟨rfl, h0⟩ | ⟨g, cap, cur, rfl, hB, hr, h1, h2, h3, h4⟩
 ·exact Or.inl ⟨rfl, List.length_eq_zero_iff.1 h0⟩
 ·refine Or.inr (Or.inr ⟨g, 0, cap, rfl, h1, hl, ae hr, fun j u hu => ?_⟩)
  have hj : j < d.length * 4 := by have := (List.getElem?_eq_some_iff.1 hu).1; rw [iM] at this; exact this
  rw [Nat.zero_add, cell_of_row w g j _ _ _ hr]
  rw [<- h4, List.getElem?_take, if_pos hj] at hu
  simpa using hu
theorem dS.form {B : Nat} {w : World} {v : Value} {d : List EnV} (h : dS B w v d) : ∃ ao cap, v = .slice ao d.length cap := by
 rcases h.2 with ⟨rfl, h0⟩ | ⟨g, cap, cur, rfl, _⟩
 ·exact ⟨none, 0, by rw [h0]⟩
 ·exact ⟨_, _, rfl⟩
theorem dS.blk {B : Nat} {w : World} {v : Value} {d : List EnV} (h : dS B w v d) {k : Nat} (hk : v.ownBlock = some k) : B <= k /\ k < w.heap.size /\ ∃ cur, w.heap[k]? = some (.cells cur 126 (0, 0)) := by
 rcases h.2 with ⟨rfl, h0⟩ | ⟨g, cap, cur, rfl, hB, hr, _⟩
 ·simp [Value.ownBlock] at hk
 ·simp only [Value.ownBlock, Option.some.injEq] at hk
  subst hk
  exact ⟨hB, ae hr, cur, hr⟩
theorem dS.apart {B : Nat} {w : World} {v : Value} {d : List EnV} (h : dS B w v d) {k : Nat} {c : Array Value} {t : TypeId} {p : Nat × Nat} (hk : w.heap[k]? = some (.cells c t p)) (ht : t ≠ 126) : v.ownBlock ≠ some k := fun e => by
 obtain ⟨_, _, cur, hr⟩ := h.blk e
 rw [hk] at hr
 injection hr with hr
 injection hr with _ h2 _
 exact ht h2
theorem dS.chg {p : Nat -> Prop} {B : Nat} {w W : World} {v : Value} {d : List EnV} (h : dS B w v d) (hc : Chg p w W) (hp : ∀ k, v.ownBlock = some k -> ¬ p k) : dS B W v d := by
 refine ⟨h.1, ?_⟩
 rcases h.2 with h0 | ⟨g, cap, cur, rfl, hB, hr, h1⟩
 ·exact Or.inl h0
 ·exact Or.inr ⟨g, cap, cur, rfl, hB, hc.row hr (hp g rfl), h1⟩
theorem dS.below {B : Nat} {w W : World} {v : Value} {d : List EnV} (h : dS B w v d) (hb : Below w.heap.size w W) : dS B W v d := h.chg (p := fun _ => False) (Chg.ofBelow' hb) (fun _ _ e => e)
theorem dQ (w : World) (B : Nat) (v u : Value) (d y : List EnV) (ty : TypeId) (hown : dS B w v d) (hu : Els cZ w u y) (hl : d.length + y.length <= 100000) (hB : B <= w.heap.size) :
  ∃ v' w', (Builtin.append_ #[122, 122] ty #[v, u]).run Tryz.prog w = .ok v' w' /\ (dS B w' v' (d ++ y) /\ Chg (fun k => v.ownBlock = some k) w w') := by
 obtain ⟨i, hi, hz0, hz1, hz2⟩ := info_parts yY
 have key : ∀ (a : Addr) (c : Nat), (∀ j x, (y.flatMap cZ)[j]? = some x -> w.cell? (a.add j) = some x) -> u = .slice (some a) y.length c -> ∃ v' w', (Builtin.append_ #[122, 122] ty #[v, u]).run Tryz.prog w = .ok v' w' /\ (dS B w' v' (d ++ y) /\ Chg (fun k => v.ownBlock = some k) w w') := fun a c hc hu => by
  obtain ⟨v', w', h1, h2, h3, h4⟩ := run_append_own (P := Tryz.prog) w B 122 ty 126 i (.agg #[.slice none 0 0, .slice none 0 0, .int .i64 0, .pointer none]) 4 64 Tryz.underlying122 hi hz0 hz1 hz2 rfl (by omega) v d.length (d.flatMap cZ) hown a y.length c (y.flatMap cZ) (iM y) hc (xN y) (by simp [maxLen]; omega) (by omega) hB
  have h2b : dS B w' v' (d ++ y) := by unfold dS; rw [List.length_append, List.flatMap_append]; exact h2
  exact ⟨v', w', by rw [hu]; exact h1, h2b, (Chg.refl _ w).grown h3 (fun k _ e => e)⟩
 rcases hu with ⟨rfl, rfl⟩ | ⟨a, cap, rfl, rfl⟩ | ⟨b, off, cap, rfl, h1, h2, h3, h4⟩
 ·exact ⟨v, w, run_append_owned_none (P := Tryz.prog) (w := w) B 122 ty 126 i 4 Tryz.underlying122 hi v d.length (d.flatMap cZ) hown, by rw [List.append_nil]; exact hown, Chg.refl _ _⟩
 ·exact key a cap (fun j x h => by simp at h) rfl
 ·exact key ⟨b, off, none⟩ cap (fun j x h => by rw [Addr.add_lit]; exact h4 j x h) rfl
theorem mW {w : World} {g : Nat} {y : EnV} (h : w.heap[g]? = some (.cells (cZ y).toArray 126 (0, 0))) : Els cZ w (.slice (some ⟨g, 0, none⟩) 1 1) [y] :=
 Or.inr (Or.inr ⟨g, 0, 1, rfl, lr _, by simp, ae h, fun j u hu => by
  rw [Nat.zero_add, cell_of_row w g j _ _ _ h]
  simpa using hu⟩)
structure iw (B : Nat) (w : World) (g lv : Nat) (es : List S.Ent) : Prop where
 is : ∃ v d, w.heap[g]? = some (.cells #[.int .i64 (lv : Int), v] 124 (0, 0)) /\ dS B w v d /\ d.length = es.length /\ ∀ (i : Nat) x e, d[i]? = some x -> es[i]? = some e -> EnNew B w x e /\ x.nd = none
 at_ : B <= g
theorem iw.node {B : Nat} {w : World} {g lv : Nat} {es : List S.Ent} (h : iw B w g lv es) (ho : ∀ x ∈ es, S.EntOk lv x) (hl : es.length <= 1000000) : NodeIs w g lv es := by
 obtain ⟨v, d, h1, h2, h3, h4⟩ := h.is
 exact ⟨v, d, h1, h2.els (by omega), h3, fun i x e hx he => (h4 i x e hx he).1.is (by have := (ho e (List.mem_of_getElem? he)).key; omega) (by have := (ho e (List.mem_of_getElem? he)).val; omega)⟩
theorem iw.below {B : Nat} {w W : World} {g lv : Nat} {es : List S.Ent} (h : iw B w g lv es) (hb : Below w.heap.size w W) : iw B W g lv es := by
 obtain ⟨v, d, h1, h2, h3, h4⟩ := h.is
 exact ⟨⟨v, d, (hb.block g (ae h1)).trans h1, h2.below hb, h3, fun i x e hx he => ⟨(h4 i x e hx he).1.below hb, (h4 i x e hx he).2⟩⟩, h.at_⟩
end Go.Proofs.YteealihknndclaaGreatDoor
