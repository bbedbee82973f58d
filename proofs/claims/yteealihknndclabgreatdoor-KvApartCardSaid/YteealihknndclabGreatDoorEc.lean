/- Of the changes of one key the last: lastOfEach. -/
import Derived.Test.YteealihknndclabGreatDoorBv
import Derived.Test.YteealihknndclabGreatDoorUd
import Derived.Test.YteealihknndclabGreatDoorBk
namespace Go.Proofs.YteealihknndclabGreatDoor
open Go.RowKit

def jk {α : Type} (k : α -> List UInt8) (xs : List α) (i : Nat) : Bool :=
 match xs[i]?, xs[i + 1]? with
 | some x, some y => !decide (k x = k y)
 | _, _ => true
def jq {α : Type} (k : α -> List UInt8) (xs : List α) : Nat -> List α
 | 0 => []
 | i + 1 => jq k xs i ++ (if jk k xs i = true then xs[i]?.toList else [])
theorem Ce {α β : Type} (f : α -> β) (k : α -> List UInt8) (k2 : β -> List UInt8) (hk : ∀ x, k2 (f x) = k x) (xs : List α) (i : Nat) : jk k2 (xs.map f) i = jk k xs i := by
 unfold jk
 rw [List.getElem?_map, List.getElem?_map]
 cases xs[i]? <;> cases xs[i + 1]? <;> simp [hk]
theorem Fh {α β : Type} (f : α -> β) (k : α -> List UInt8) (k2 : β -> List UInt8) (hk : ∀ x, k2 (f x) = k x) (xs : List α) (n : Nat) : (jq k xs n).map f = jq k2 (xs.map f) n := by
 induction n with
 | zero => rfl
 | succ n ih =>
  simp only [jq]
  rw [List.map_append, ih, Ce f k k2 hk, List.getElem?_map]
  cases jk k xs n <;> cases xs[n]? <;> simp
theorem nS {α : Type} (k : α -> List UInt8) (xs : List α) (n : Nat) : (jq k xs n).length <= n := by
 induction n with
 | zero => exact lr _
 | succ n ih =>
  simp only [jq]
  rw [List.length_append]
  have : (if jk k xs n = true then xs[n]?.toList else []).length <= 1 := by
   split
   ·cases xs[n]? <;> simp
   ·simp
  omega
namespace S
def lasts (cs : List Cg) : List Cg := jq Cg.key (srt cs) cs.length
theorem vW (cs : List Cg) : (lasts cs).length <= cs.length := nS _ _ _
end S
structure Ch3 (w : World) (g i : Nat) (x : ChV) : Prop where
 lt : g < w.heap.size
 c0 : w.cell? ⟨g, i * 3, none⟩ = some (.slice x.ka x.kn x.kc)
 c1 : w.cell? ⟨g, i * 3 + 1, none⟩ = some (.slice x.va x.vn x.vc)
 c2 : w.cell? ⟨g, i * 3 + 2, none⟩ = some (.bool x.dr)
theorem Ch3.up {w W : World} {g i : Nat} {x : ChV} (h : Ch3 w g i x) (hb : Below w.heap.size w W) : W.cell? ⟨g, i * 3, none⟩ = some (.slice x.ka x.kn x.kc) /\ W.cell? ⟨g, i * 3 + 1, none⟩ = some (.slice x.va x.vn x.vc) /\ W.cell? ⟨g, i * 3 + 2, none⟩ = some (.bool x.dr) :=
 ⟨(hb.cell (p := ⟨g, i * 3, none⟩) (by exact h.lt)).trans h.c0, (hb.cell (p := ⟨g, i * 3 + 1, none⟩) (by exact h.lt)).trans h.c1, (hb.cell (p := ⟨g, i * 3 + 2, none⟩) (by exact h.lt)).trans h.c2⟩
theorem ChR.at {w : World} {g : Nat} {d : List ChV} (h : ChR w g d) (i : Nat) (x : ChV) (hx : d[i]? = some x) : Ch3 w g i x := by
 obtain ⟨cur, h1, h2⟩ := h.row
 have hl : i < d.length := (List.getElem?_eq_some_iff.1 hx).1
 have e : ∀ r, r < 3 -> cur[i * 3 + r]? = (bg x)[r]? := fun r hr => by
  have e0 := flat_get (enc := bg) (k := 3) (fun _ => rfl) d i r x hx hr
  rw [<- h2, List.getElem?_take, if_pos (by omega)] at e0
  rw [<- e0]
  simp
 exact ⟨aa h1, by rw [cell_of_row w g _ _ 77 _ h1]; exact e 0 (by omega), by rw [cell_of_row w g _ _ 77 _ h1]; exact e 1 (by omega), by rw [cell_of_row w g _ _ 77 _ h1]; exact e 2 (by omega)⟩
theorem ChR.chg {p : Nat -> Prop} {w W : World} {g : Nat} {d : List ChV} (h : ChR w g d) (hc : Chg p w W) (hp : ¬ p g) : ChR W g d := by
 obtain ⟨cur, h1, h2⟩ := h.row
 exact ⟨cur, hc.row h1 hp, h2⟩
theorem EJ {w : World} {g : Nat} {x : ChV} (h : w.heap[g]? = some (.cells (bg x).toArray 77 (0, 0))) : Els bg w (.slice (some ⟨g, 0, none⟩) 1 1) [x] :=
 Or.inr (Or.inr ⟨g, 0, 1, rfl, lr _, by simp, aa h, fun j u hu => by
  rw [Nat.zero_add, cell_of_row w g j _ _ _ h]
  simpa using hu⟩)
def LastIs (w w' : World) (e : Ending) (cs : List S.Cg) : Prop := (∃ v d', e = .returned v /\ Els bg w' v d' /\ dL w' d' (S.lasts cs) /\ v.oneCell' = true) /\ Below w.heap.size w w'
set_option maxHeartbeats 16000000 in
set_option maxRecDepth 10000 in
theorem Cb (b off cap : Nat) (d : List ChV) (cs : List S.Cg) (w : World) (h0 : ∀ j u, (d.flatMap bg)[j]? = some u -> w.cell? ⟨b, off + j, none⟩ = some u) (hd : d ≠ []) (hl : d.length <= 19) (hc : dL w d cs) :
  Calls Tryz.prog 33 #[.slice (some ⟨b, off, none⟩) d.length cap] w fun e w' => LastIs w w' e cs := by
 obtain ⟨ps, hp1, hp2⟩ : ∃ ps : List (Cp w), ps.map (·.1.1) = d /\ ps.map (·.1.2) = cs := by
  refine ⟨(List.range d.length).attach.map (fun i => ⟨(d[i.1]'(List.mem_range.1 i.2), cs[i.1]'(by rw [<- hc.1]; exact List.mem_range.1 i.2)), hc.2 i.1 _ _ (List.getElem?_eq_getElem _) (List.getElem?_eq_getElem _)⟩), ?_, ?_⟩
  ·apply List.ext_getElem
   ·simp
   ·intro i h1 h2; simp
  ·apply List.ext_getElem
   ·simp [hc.1]
   ·intro i h1 h2; simp
 have hpl : ps.length = d.length := by rw [<- hp1, List.length_map]
 have HCL := hide (zP b off cap d w h0 hd (by omega))
 obtain ⟨n, hn⟩ : ∃ n, n = d.length := ⟨_, rfl⟩
 have HLN := hide (show n <= 19 /\ ps.length = n by omega)
 rw [<- hn] at HCL ⊢
 have HPS := hide (show ps.map (·.1.1) = d /\ ps.map (·.1.2) = cs from ⟨hp1, hp2⟩)
 clear h0 hd hl hc hp1 hp2 hpl hn
 go_enter Tryz.func33, Tryz.ntmps33
 go_wp2_with fail
 refine HCL.out.mono ?_
 rintro e w1 ⟨g, c, rfl, hg, hr, hb⟩
 have HR1 := hide hr
 have HG := hide hg
 have HB1 := hide hb
 clear hr hg hb
 go_wp2_with fail
 have HSF := Bl (W0 := w) (w := w1) g c ps (by rw [HPS.out.1]; exact HR1.out) HB1.out HG.out (by have := HLN.out; omega)
 rw [HLN.out.2] at HSF
 refine HSF.mono ?_
 clear HSF
 rintro e w2 ⟨rfl, xs, hx1, hx2, hx3, hx4⟩
 have HX := hide (show xs.map (·.1.2) = S.srt cs /\ xs.length = n from ⟨by rw [hx1, HPS.out.2], by rw [hx2]⟩)
 have HR2 := hide hx3
 have HB2 := hide (HB1.out.trans (hx4.mono HG.out))
 clear hx1 hx2 hx3 hx4
 go_wp2_with fail
 go_loopg [3, 12] n (fun gk s3 s12 wr => ∃ i : Nat, i + gk = n /\ s12 = .int .i64 (i : Int) /\ Hid (fJ w2.heap.size wr s3 ((jq (fun p : Cp w => p.1.2.key) xs i).map (·.1.1))) /\ Hid (ChR wr g (xs.map (·.1.1))) /\ Hid (w2.heap.size <= wr.heap.size) /\ Hid (Below w.heap.size w wr))
 case atStart => exact ⟨0, by omega, rfl, hide (fJ.nil _ _), HR2, hide (lr _), HB2⟩
 case round =>
  have HGL := hide HR2.out.lt
  clear HR1 HB1 HR2
  obtain ⟨i, hi, rfl, HO, HRW, HSZ, HBW⟩ := hrel
  obtain ⟨vo, co, hvo⟩ := HO.out.form
  obtain ⟨no, hno⟩ : ∃ no, no = ((jq (fun p : Cp w => p.1.2.key) xs i).map (fun p => p.1.1)).length := ⟨_, rfl⟩
  rw [<- hno] at hvo
  subst hvo
  have HNE := hide (show (Value.slice vo no co).ownBlock ≠ some g from fun e => by have h1 := (HO.out.blk e).1; have h2 := HGL.out; omega)
  have HNO := hide hno
  clear hno
  cases gk with
  | zero =>
   obtain rfl : i = n := by omega
   have qq : ¬ (i : Int) < (i : Int) := by omega
   clear hi
   go_wp2_with fail
   go_ret
   refine ⟨⟨_, (jq (fun p : Cp w => p.1.2.key) xs i).map (·.1.1), rfl, ?_, ?_, rfl⟩, HBW.out⟩
   ·have := HO.out.els (by have := nS (fun p : Cp w => p.1.2.key) xs i; rw [List.length_map]; have := HLN.out; omega)
    exact this
   have e1 : (jq (fun p : Cp w => p.1.2.key) xs i).map (·.1.2) = S.lasts cs := by
    rw [Fh (fun p : Cp w => p.1.2) (fun p : Cp w => p.1.2.key) S.Cg.key (fun _ => rfl), HX.out.1, S.lasts, <- HPS.out.2, List.length_map, HLN.out.2]
   rw [<- e1]
   refine ⟨by simp, fun j x c hx hc => ?_⟩
   rw [List.getElem?_map] at hx hc
   obtain ⟨p, hp, rfl⟩ := Option.map_eq_some_iff.1 hx
   rw [hp] at hc
   obtain rfl := Option.some.inj hc
   exact p.2.below HBW.out
  | succ gO =>
   have qq : (i : Int) < (n : Int) := by omega
   have q0 : (0 : Int) <= (i : Int) := by omega
   have qw : IntKind.i64.wrap ((i : Int) + 1) = (i : Int) + 1 := by rw [IntKind.wrap_i64]; have := HLN.out; omega
   have hlt : i < xs.length := by rw [HX.out.2]; omega
   obtain ⟨x, hx⟩ : ∃ x, xs[i]? = some x := ⟨_, List.getElem?_eq_getElem hlt⟩
   have CI := HRW.out.at i x.1.1 (by rw [List.getElem?_map, hx]; rfl)
   have HXI := hide hx
   have KXW := hide (x.2.key.below HBW.out (lr _))
   obtain ⟨-, c0, c1, c2⟩ := CI
   clear hlt hx
   go_upto_region 7 with fail
   generalize hW1 : wr.alloc _ = W1
   have hb1 : Below wr.heap.size wr W1 := by rw [<- hW1]; exact ba ..
   have R5 : Hid (W1.heap[wr.heap.size]? = some (.cells #[.slice x.1.1.ka x.1.1.kn x.1.1.kc, .slice x.1.1.va x.1.1.vn x.1.1.vc, .bool x.1.1.dr] 77 (0, 0))) := by rw [<- hW1]; exact heap_alloc_new _ _
   obtain ⟨g5, hg5⟩ : ∃ g, g = wr.heap.size := ⟨_, rfl⟩
   rw [<- hg5] at R5 ⊢
   have HO1 := hide (HO.out.below hb1)
   have HRW1 := hide (HRW.out.below hb1)
   have HB1 := hide (HBW.out.trans (hb1.mono HBW.out.size))
   have HS1 := hide hb1.size
   have KX := hide (KXW.out.below hb1 (lr _))
   have HG5 := hide (show g5 ≠ g from fun e => by have := HRW.out.lt; omega)
   clear hW1 hb1 hg5 HO HRW HBW KXW c0 c1 c2
   by_cases hlast : i + 1 = n
   ·have q5 : (i : Int) + 1 = (n : Int) := by omega
    have qwn : IntKind.i64.wrap (n : Int) = (n : Int) := by rw [IntKind.wrap_i64]; have := HLN.out; omega
    have HKP : Hid (jk (fun p : Cp w => p.1.2.key) xs i = true) := by
     show jk _ xs i = true
     unfold jk
     rw [HXI.out, List.getElem?_eq_none (by rw [HX.out.2]; omega)]
    refine wp_region_noPanic ?_
    refine wp_region_held_drew (S := (fun W => Below W1.heap.size W1 W)) follows ((Below.refl _ _).drew) (fun hHeld => ?_)
    clear hHeld
    have hHeld : Below W1.heap.size W1 W1.drew := (Below.refl _ _).drew
    have CZ0 := hide hHeld
    generalize W1.drew = Z0 at CZ0 hHeld ⊢
    refine tq 0 ?_
    simp only [uA]
    refine tq 1 ?_
    simp only [uA]
    refine tq 2 ?_
    simp only [uA]
    refine tq 3 ?_
    simp only [uA]
    refine tq 4 ?_
    simp only [uA]
    refine tq 5 ?_
    simp only [uA]
    refine tk 6 undef rfl (Or.inr ⟨by rfl, rfl⟩) ?_
    simp only [uA]
    refine tk 7 undef rfl (Or.inr ⟨by rfl, rfl⟩) ?_
    simp only [uA]
    refine tk 8 undef rfl (Or.inr ⟨by rfl, rfl⟩) ?_
    simp only [uA]
    refine tk 9 undef rfl (Or.inr ⟨by rfl, rfl⟩) ?_
    simp only [uA]
    refine tk 10 undef rfl (Or.inr ⟨by rfl, rfl⟩) ?_
    simp only [uA]
    refine tk 11 undef rfl (Or.inr ⟨by rfl, rfl⟩) ?_
    simp only [uA]
    refine tk 12 undef rfl (Or.inr ⟨by rfl, rfl⟩) ?_
    simp only [uA]
    refine tk 13 undef rfl (Or.inr ⟨by rfl, rfl⟩) ?_
    simp only [uA]
    refine tk 14 undef rfl (Or.inr ⟨by rfl, rfl⟩) ?_
    simp only [uA]
    refine tk 15 undef rfl (Or.inr ⟨by rfl, rfl⟩) ?_
    simp only [uA]
    refine tq 16 ?_
    simp only [uA]
    refine wpAnyH_done (by kernel_rfl) ?_ _
    refine NoPanic.normal ?_
    clear hHeld
    have BZ : Hid (Below w.heap.size w Z0) := HB1.out.trans (CZ0.out.mono HB1.out.size)
    have HOZ := hide (HO1.out.below CZ0.out)
    have HRZ := hide (HRW1.out.below CZ0.out)
    obtain ⟨e0, e1, e2⟩ := iE ((CZ0.out.block _ (aa R5.out)).trans R5.out)
    have HGZ := hide (show g < Z0.heap.size from HRZ.out.lt)
    obtain ⟨Z2, hZ2⟩ : ∃ Z, Z = Z0.alloc (.cells #[.slice x.1.1.ka x.1.1.kn x.1.1.kc, .slice x.1.1.va x.1.1.vn x.1.1.vc, .bool x.1.1.dr] 77) := ⟨_, rfl⟩
    have hb2 : Below Z0.heap.size Z0 Z2 := by rw [hZ2]; exact ba ..
    have hone : Els bg Z2 (.slice (some ⟨Z0.heap.size, 0, none⟩) 1 1) [x.1.1] := EJ (by rw [hZ2]; exact heap_alloc_new _ _)
    have happ := kW Z2 w2.heap.size (.slice vo no co) (.slice (some ⟨Z0.heap.size, 0, none⟩) 1 1) ((jq (fun p : Cp w => p.1.2.key) xs i).map (fun p => p.1.1)) [x.1.1] 57 (HOZ.out.below hb2) hone (by rw [<- HNO.out]; have := HNO.out; have h2 := nS (fun p : Cp w => p.1.2.key) xs i; rw [List.length_map] at this; have := HLN.out; simp; omega) (ltr HSZ.out (ltr (ltr HS1.out CZ0.out.size) hb2.size))
    have APP := hide happ
    have HZ2 := hide hZ2
    have HBZ2 := hide hb2
    have HRZ2 := hide (HRZ.out.below hb2)
    have BZ2 := hide (BZ.out.trans (hb2.mono BZ.out.size))
    clear hZ2 hb2 hone happ
    go_wp2_with (at_builtin; (rw [<- HZ2.out]; refine aA rfl (.tmp 34) (.tmp 36) 57 57 rfl _ _ rfl rfl APP.out ?_; rintro v2 w3 ⟨ho, hg⟩; have OW := hide ho; have GR := hide hg; clear ho hg))
    go_roundg gO
    case measure => omega
    case rel =>
     refine ⟨i + 1, by omega, by first | rfl | (simp; done) | (simp; omega), ?_, hide (HRZ2.out.chg GR.out (by exact HNE.out)), ?_, hide (BZ2.out.trans (GR.out.below w.heap.size BZ2.out.size (fun k hk e => by have := (HO1.out.blk e).1; have := HB2.out.size; omega)))⟩
     ·have e5 : (jq (fun p : Cp w => p.1.2.key) xs (i + 1)).map (fun p => p.1.1) = (jq (fun p : Cp w => p.1.2.key) xs i).map (fun p => p.1.1) ++ [x.1.1] := by
       simp only [jq]
       rw [if_pos HKP.out, HXI.out, List.map_append]
       rfl
      rw [e5]
      exact OW
     ·exact hide (ltr HSZ.out (ltr (ltr HS1.out CZ0.out.size) (ltr HBZ2.out.size GR.out.size)))
   ·have q5 : ¬ (i : Int) + 1 = (n : Int) := by omega
    have q5b : ((i : Int) + 1 == (n : Int)) = false := by simp; omega
    have q6 : (i : Int) + 1 < (n : Int) := by omega
    have q7 : (0 : Int) <= (i : Int) + 1 := by omega
    have q8 : ((i : Int) + 1).toNat = i + 1 := by omega
    obtain ⟨y, hy⟩ : ∃ y, xs[i + 1]? = some y := ⟨_, List.getElem?_eq_getElem (by rw [HX.out.2]; omega)⟩
    have CN := hide (HRW1.out.at (i + 1) y.1.1 (by rw [List.getElem?_map, hy]; rfl))
    have KY := hide (y.2.key.below HB1.out (lr _))
    by_cases hk : x.1.2.key = y.1.2.key
    ·have EQ : Hid (decide (x.1.2.key = y.1.2.key) = true) := decide_eq_true hk
     have HKP : Hid (jk (fun p : Cp w => p.1.2.key) xs i = false) := by
      show jk _ xs i = false
      unfold jk
      rw [HXI.out, hy]
      simp [hk]
     clear hk hy
     refine wp_region_noPanic ?_
     refine wp_region_held_drew (S := (fun W => Below W1.heap.size W1 W)) follows ((Below.refl _ _).drew) (fun hHeld => ?_)
     clear hHeld
     have hHeld : Below W1.heap.size W1 W1.drew := (Below.refl _ _).drew
     have CZ0 := hide hHeld
     generalize W1.drew = Z0 at CZ0 hHeld ⊢
     refine tq 0 ?_
     simp only [uA]
     refine tq 1 ?_
     simp only [uA]
     refine tq 2 ?_
     simp only [uA]
     refine tq 3 ?_
     simp only [uA]
     refine tq 4 ?_
     simp only [uA]
     refine tq 5 ?_
     simp only [uA]
     refine tq 6 ?_
     simp only [uA]
     refine tk 7 ?_ rfl (Or.inl ⟨by rfl, ?_⟩) ?_
     rotate_left
     ·intro w hSw
      obtain ⟨e0, e1, e2⟩ := iE ((hSw.block _ (aa R5.out)).trans R5.out)
      clear hSw
      go_simp
      all_goals with_reducible rfl
     simp only [uA]
     refine tq 8 ?_
     simp only [uA]
     refine tq 9 ?_
     simp only [uA]
     refine tq 10 ?_
     simp only [uA]
     refine tq 11 ?_
     simp only [uA]
     refine tq 12 ?_
     simp only [uA]
     refine tk 13 ?_ rfl (Or.inl ⟨by rfl, ?_⟩) ?_
     rotate_left
     ·intro w hSw
      obtain ⟨f0, f1, f2⟩ := CN.out.up hSw
      clear hSw
      go_simp
      all_goals with_reducible rfl
     simp only [uA]
     refine r1 14 fun K hK => ?_
     go_simp
     refine (ig _ _ x.1.2.key y.1.2.key Z0 (KX.out.below CZ0.out (lr _)) (KY.out.below CZ0.out (lr _))).mono ?_
     rintro e Z1 ⟨rfl, rfl⟩
     rw [EQ.out]
     clear hHeld
     refine hK.out _ _ CZ0.out (fun hHeld => ?_)
     clear hK K
     try simp only [uA]
     refine tq 15 ?_
     simp only [uA]
     refine tq 16 ?_
     simp only [uA]
     refine wpAnyH_done (by kernel_rfl) ?_ _
     refine NoPanic.normal ?_
     clear hHeld
     have BZ : Hid (Below w.heap.size w Z0) := HB1.out.trans (CZ0.out.mono HB1.out.size)
     have HOZ := hide (HO1.out.below CZ0.out)
     have HRZ := hide (HRW1.out.below CZ0.out)
     go_wp2_with fail
     go_roundg gO
     case measure => omega
     case rel =>
      refine ⟨i + 1, by omega, by first | rfl | (simp; done) | (simp; omega), ?_, HRZ, hide (ltr HSZ.out (ltr HS1.out CZ0.out.size)), BZ⟩
      have e5 : (jq (fun p : Cp w => p.1.2.key) xs (i + 1)).map (fun p => p.1.1) = (jq (fun p : Cp w => p.1.2.key) xs i).map (fun p => p.1.1) := by
       simp only [jq]
       rw [HKP.out]
       simp
      rw [e5]
      exact HOZ
    ·have EQ : Hid (decide (x.1.2.key = y.1.2.key) = false) := decide_eq_false hk
     have HKP : Hid (jk (fun p : Cp w => p.1.2.key) xs i = true) := by
      show jk _ xs i = true
      unfold jk
      rw [HXI.out, hy]
      simp [hk]
     clear hk hy
     refine wp_region_noPanic ?_
     refine wp_region_held_drew (S := (fun W => Below W1.heap.size W1 W)) follows ((Below.refl _ _).drew) (fun hHeld => ?_)
     clear hHeld
     have hHeld : Below W1.heap.size W1 W1.drew := (Below.refl _ _).drew
     have CZ0 := hide hHeld
     generalize W1.drew = Z0 at CZ0 hHeld ⊢
     refine tq 0 ?_
     simp only [uA]
     refine tq 1 ?_
     simp only [uA]
     refine tq 2 ?_
     simp only [uA]
     refine tq 3 ?_
     simp only [uA]
     refine tq 4 ?_
     simp only [uA]
     refine tq 5 ?_
     simp only [uA]
     refine tq 6 ?_
     simp only [uA]
     refine tk 7 ?_ rfl (Or.inl ⟨by rfl, ?_⟩) ?_
     rotate_left
     ·intro w hSw
      obtain ⟨e0, e1, e2⟩ := iE ((hSw.block _ (aa R5.out)).trans R5.out)
      clear hSw
      go_simp
      all_goals with_reducible rfl
     simp only [uA]
     refine tq 8 ?_
     simp only [uA]
     refine tq 9 ?_
     simp only [uA]
     refine tq 10 ?_
     simp only [uA]
     refine tq 11 ?_
     simp only [uA]
     refine tq 12 ?_
     simp only [uA]
     refine tk 13 ?_ rfl (Or.inl ⟨by rfl, ?_⟩) ?_
     rotate_left
     ·intro w hSw
      obtain ⟨f0, f1, f2⟩ := CN.out.up hSw
      clear hSw
      go_simp
      all_goals with_reducible rfl
     simp only [uA]
     refine r1 14 fun K hK => ?_
     go_simp
     refine (ig _ _ x.1.2.key y.1.2.key Z0 (KX.out.below CZ0.out (lr _)) (KY.out.below CZ0.out (lr _))).mono ?_
     rintro e Z1 ⟨rfl, rfl⟩
     rw [EQ.out]
     clear hHeld
     refine hK.out _ _ CZ0.out (fun hHeld => ?_)
     clear hK K
     try simp only [uA]
     refine tq 15 ?_
     simp only [uA]
     refine tq 16 ?_
     simp only [uA]
     refine wpAnyH_done (by kernel_rfl) ?_ _
     refine NoPanic.normal ?_
     clear hHeld
     have BZ : Hid (Below w.heap.size w Z0) := HB1.out.trans (CZ0.out.mono HB1.out.size)
     have HOZ := hide (HO1.out.below CZ0.out)
     have HRZ := hide (HRW1.out.below CZ0.out)
     obtain ⟨e0, e1, e2⟩ := iE ((CZ0.out.block _ (aa R5.out)).trans R5.out)
     have HGZ := hide (show g < Z0.heap.size from HRZ.out.lt)
     obtain ⟨Z2, hZ2⟩ : ∃ Z, Z = Z0.alloc (.cells #[.slice x.1.1.ka x.1.1.kn x.1.1.kc, .slice x.1.1.va x.1.1.vn x.1.1.vc, .bool x.1.1.dr] 77) := ⟨_, rfl⟩
     have hb2 : Below Z0.heap.size Z0 Z2 := by rw [hZ2]; exact ba ..
     have hone : Els bg Z2 (.slice (some ⟨Z0.heap.size, 0, none⟩) 1 1) [x.1.1] := EJ (by rw [hZ2]; exact heap_alloc_new _ _)
     have happ := kW Z2 w2.heap.size (.slice vo no co) (.slice (some ⟨Z0.heap.size, 0, none⟩) 1 1) ((jq (fun p : Cp w => p.1.2.key) xs i).map (fun p => p.1.1)) [x.1.1] 57 (HOZ.out.below hb2) hone (by rw [<- HNO.out]; have := HNO.out; have h2 := nS (fun p : Cp w => p.1.2.key) xs i; rw [List.length_map] at this; have := HLN.out; simp; omega) (ltr HSZ.out (ltr (ltr HS1.out CZ0.out.size) hb2.size))
     have APP := hide happ
     have HZ2 := hide hZ2
     have HBZ2 := hide hb2
     have HRZ2 := hide (HRZ.out.below hb2)
     have BZ2 := hide (BZ.out.trans (hb2.mono BZ.out.size))
     clear hZ2 hb2 hone happ
     go_wp2_with (at_builtin; (rw [<- HZ2.out]; refine aA rfl (.tmp 34) (.tmp 36) 57 57 rfl _ _ rfl rfl APP.out ?_; rintro v2 w3 ⟨ho, hg⟩; have OW := hide ho; have GR := hide hg; clear ho hg))
     go_roundg gO
     case measure => omega
     case rel =>
      refine ⟨i + 1, by omega, by first | rfl | (simp; done) | (simp; omega), ?_, hide (HRZ2.out.chg GR.out (by exact HNE.out)), ?_, hide (BZ2.out.trans (GR.out.below w.heap.size BZ2.out.size (fun k hk e => by have := (HO1.out.blk e).1; have := HB2.out.size; omega)))⟩
      ·have e5 : (jq (fun p : Cp w => p.1.2.key) xs (i + 1)).map (fun p => p.1.1) = (jq (fun p : Cp w => p.1.2.key) xs i).map (fun p => p.1.1) ++ [x.1.1] := by
        simp only [jq]
        rw [if_pos HKP.out, HXI.out, List.map_append]
        rfl
       rw [e5]
       exact OW
      ·exact hide (ltr HSZ.out (ltr (ltr HS1.out CZ0.out.size) (ltr HBZ2.out.size GR.out.size)))
def edc (gs : Nat) (h : S.Hh) (vs : Value) : List Value := .pointer (some ⟨gs, 0, none⟩) :: (S.hhc h ++ [vs])
def aP (w : World) (g gs : Nat) (h : S.Hh) (vs : Value) : Prop := w.heap[g]? = some (.cells (edc gs h vs).toArray 117 (0, 0))
theorem aP.store {w : World} {g gs : Nat} {h : S.Hh} {vs : Value} (a : aP w g gs h vs) : w.cell? ⟨g, 0, none⟩ = some (.pointer (some ⟨gs, 0, none⟩)) := by rw [cell_of_row w g 0 _ _ _ a]; rfl
theorem aP.cnt {w : World} {g gs : Nat} {h : S.Hh} {vs : Value} (a : aP w g gs h vs) : w.cell? ⟨g, 1, none⟩ = some (.int .i64 (h.cnt : Int)) := by rw [cell_of_row w g 1 _ _ _ a]; rfl
theorem aP.root {w : World} {g gs : Nat} {h : S.Hh} {vs : Value} (a : aP w g gs h vs) : w.cell? ⟨g, 2, none⟩ = some (.int .i64 (h.root : Int)) := by rw [cell_of_row w g 2 _ _ _ a]; rfl
theorem aP.lv {w : World} {g gs : Nat} {h : S.Hh} {vs : Value} (a : aP w g gs h vs) : w.cell? ⟨g, 3, none⟩ = some (.int .i64 (h.lv : Int)) := by rw [cell_of_row w g 3 _ _ _ a]; rfl
theorem aP.sheets {w : World} {g gs : Nat} {h : S.Hh} {vs : Value} (a : aP w g gs h vs) (hl : h.used.length = 64) : w.cell? ⟨g, 68, none⟩ = some vs := by
 rw [cell_of_row w g 68 _ _ _ a]
 simp only [edc, List.getElem?_toArray, List.getElem?_cons_succ]
 rw [List.getElem?_append_right (by rw [S.cO hl]; omega), S.cO hl]
 rfl
theorem aP.byte {w : World} {g gs : Nat} {h : S.Hh} {vs : Value} (a : aP w g gs h vs) (j : Nat) (hj : j < h.used.length) : w.cell? ⟨g, 4 + j, none⟩ = some (.int .u8 ((h.used.getD j 0).toNat : Int)) := by
 rw [cell_of_row w g (4 + j) _ _ _ a, show 4 + j = (((j + 1) + 1) + 1) + 1 by omega]
 simp only [edc, S.hhc, List.getElem?_toArray, List.getElem?_cons_succ, List.cons_append]
 rw [List.getElem?_append_left (by rw [S.ae]; exact hj)]
 simp [S.v8l, hj]
theorem aP.head {w : World} {g gs : Nat} {h : S.Hh} {vs : Value} (a : aP w g gs h vs) : w.rangeAt g 1 (S.hhc h) := fun j v hv => by
 rw [cell_of_row w g (1 + j) _ _ _ a, Nat.add_comm 1 j]
 simp only [edc, List.getElem?_toArray, List.getElem?_cons_succ]
 rw [List.getElem?_append_left (List.getElem?_eq_some_iff.1 hv).1]
 exact hv
theorem aP.setByte {w : World} {g gs : Nat} {h : S.Hh} {vs : Value} (a : aP w g gs h vs) (j : Nat) (hj : j < h.used.length) (x : UInt8) : aP (w.setCell ⟨g, 4 + j, none⟩ (.int .u8 (x.toNat : Int))) g gs { h with used := h.used.set j x } vs := by
 unfold aP
 rw [heap_setCell_same w g (4 + j) _ _ _ a]
 congr 2
 apply Array.ext'
 have e : 4 + j = (((j + 1) + 1) + 1) + 1 := by omega
 simp only [e, edc, S.hhc, List.setIfInBounds_toArray, List.set_cons_succ, List.cons_append, S.v8l]
 rw [List.set_append_left _ _ (by simpa using hj), <- List.map_set]
theorem aP.setCnt {w : World} {g gs : Nat} {h : S.Hh} {vs : Value} (a : aP w g gs h vs) (n : Nat) : aP (w.setCell ⟨g, 1, none⟩ (.int .i64 (n : Int))) g gs { h with cnt := n } vs := by
 unfold aP
 rw [heap_setCell_same w g 1 _ _ _ a]
 rfl
theorem aP.setRoot {w : World} {g gs : Nat} {h : S.Hh} {vs : Value} (a : aP w g gs h vs) (n : Nat) : aP (w.setCell ⟨g, 2, none⟩ (.int .i64 (n : Int))) g gs { h with root := n } vs := by
 unfold aP
 rw [heap_setCell_same w g 2 _ _ _ a]
 rfl
theorem aP.setLv {w : World} {g gs : Nat} {h : S.Hh} {vs : Value} (a : aP w g gs h vs) (n : Nat) : aP (w.setCell ⟨g, 3, none⟩ (.int .i64 (n : Int))) g gs { h with lv := n } vs := by
 unfold aP
 rw [heap_setCell_same w g 3 _ _ _ a]
 rfl
theorem aP.setSheets {w : World} {g gs : Nat} {h : S.Hh} {vs : Value} (a : aP w g gs h vs) (hl : h.used.length = 64) (v : Value) : aP (w.setCell ⟨g, 68, none⟩ v) g gs h v := by
 unfold aP
 rw [heap_setCell_same w g 68 _ _ _ a]
 congr 2
 apply Array.ext'
 simp only [edc, List.setIfInBounds_toArray, List.set_cons_succ]
 rw [List.set_append_right _ _ (by rw [S.cO hl]; omega), S.cO hl]
 rfl
theorem aP.dropped {w : World} {g gs : Nat} {h : S.Hh} {vs : Value} (a : aP w g gs h vs) (hu : h.used.length = 64) (n : Nat) (hn : n < 512) :
  Calls Tryz.prog 161 #[.pointer (some ⟨g, 4, none⟩), .int .i64 (n : Int)] w fun e w' => e = .returned (.tuple #[]) /\ aP w' g gs { h with used := S.fK h.used n } vs /\ Chg (fun k => k = g) w w' := by
 have hj : n / 8 < h.used.length := by omega
 refine (F7 g 4 n (h.used.getD (n / 8) 0) w (a.byte _ hj) (frozen_of_row _ _ _ _ _ a) hn).mono ?_
 rintro e w' ⟨rfl, q, rfl⟩
 exact ⟨rfl, a.setByte (n / 8) hj _, ((Chg.refl (fun k => k = g) w).setCell g _ _ (fun _ => rfl)).drewN q⟩
theorem aP.added {w : World} {g gs : Nat} {h : S.Hh} {vs : Value} (a : aP w g gs h vs) (hu : h.used.length = 64) (n : Nat) (hn : n < 512) :
  Calls Tryz.prog 72 #[.pointer (some ⟨g, 4, none⟩), .int .i64 (n : Int)] w fun e w' => e = .returned (.tuple #[]) /\ aP w' g gs { h with used := S.bF h.used n } vs /\ Chg (fun k => k = g) w w' := by
 have hj : n / 8 < h.used.length := by omega
 refine (wI g 4 n (h.used.getD (n / 8) 0) w (a.byte _ hj) (frozen_of_row _ _ _ _ _ a) hn).mono ?_
 rintro e w' ⟨rfl, q, rfl⟩
 exact ⟨rfl, a.setByte (n / 8) hj _, ((Chg.refl (fun k => k = g) w).setCell g _ _ (fun _ => rfl)).drewN q⟩
theorem bG.mono {B B' : Nat} {w : World} {v : Value} {d : List EnV} (h : bG B w v d) (hB : B' <= B) : bG B' w v d := by
 refine ⟨h.1, ?_⟩
 rcases h.2 with h0 | ⟨g, cap, cur, h1, h2, h3⟩
 ·exact Or.inl h0
 ·exact Or.inr ⟨g, cap, cur, h1, ltr hB h2, h3⟩
theorem dW.mono {B B' : Nat} {w : World} {g lv : Nat} {es : List S.Ent} (h : dW B w g lv es) (hB : B' <= B) : dW B' w g lv es := by
 obtain ⟨⟨v, d, h1, h2, h3, h4⟩, h5⟩ := h
 exact ⟨⟨v, d, h1, h2.mono hB, h3, fun i x e hx he => ⟨(h4 i x e hx he).1.mono hB, (h4 i x e hx he).2⟩⟩, ltr hB h5⟩
theorem oM (x : EnV) (w : World) : Calls Tryz.prog 87 #[.agg #[.slice x.ka x.kn x.kc, .slice x.va x.vn x.vc, .int .i64 x.pg, .pointer x.nd]] w fun e w' => e = .returned (.bool (decide (x.pg ≠ 0))) /\ Below w.heap.size w w' := by
 obtain ⟨ka, kn, kc, va, vn, vc, pg, nd⟩ := x
 simp only
 go_enter Tryz.func87, Tryz.ntmps87
 go_wp2_with fail
 go_ret
 refine ⟨?_, ba ..⟩
 by_cases h : pg = 0 <;> simp [h]
set_option maxHeartbeats 4000000 in
set_option maxRecDepth 10000 in
theorem Ca (g gs n : Nat) (h : S.Hh) (vs : Value) (x : EnV) (w : World) (he : aP w g gs h vs) (hu : h.used.length = 64) (hx : x.pg = (n : Int)) (hn : 0 < n /\ n < 512) :
  Calls Tryz.prog 130 #[.pointer (some ⟨g, 0, none⟩), .agg #[.slice x.ka x.kn x.kc, .slice x.va x.vn x.vc, .int .i64 x.pg, .pointer x.nd]] w fun e w' => e = .returned (.tuple #[]) /\ aP w' g gs { h with used := S.fK h.used n } vs /\ Chg (fun k => k = g) w w' := by
 obtain ⟨ka, kn, kc, va, vn, vc, pg, nd⟩ := x
 simp only at hx ⊢
 subst hx
 have HE := hide he
 have HU := hide hu
 have HN := hide hn
 clear he hu hn
 have SA := hide (fun W => oM ⟨ka, kn, kc, va, vn, vc, (n : Int), nd⟩ W)
 go_enter Tryz.func130, Tryz.ntmps130
 go_wp2_with fail
 obtain ⟨W, hW⟩ : ∃ W, W = w.alloc (.cells #[.slice ka kn kc, .slice va vn vc, .int .i64 (n : Int), .pointer nd] 95) := ⟨_, rfl⟩
 rw [<- hW]
 have bW : Below w.heap.size w W := by rw [hW]; exact ba ..
 have rW : W.heap[w.heap.size]? = some (.cells #[.slice ka kn kc, .slice va vn vc, .int .i64 (n : Int), .pointer nd] 95 (0, 0)) := by rw [hW]; exact heap_alloc_new _ _
 have EW : Hid (aP W g gs h vs) := (bW.block g (aa HE.out)).trans HE.out
 have RW := hide rW
 have BW := hide bW
 clear hW bW rW HE
 refine (SA.out W).mono ?_
 rintro e X ⟨rfl, b1⟩
 have q : decide ((n : Int) ≠ 0) = true := decide_eq_true (by have := HN.out; omega)
 simp only [q]
 have EX : Hid (aP X g gs h vs) := (b1.block g (aa EW.out)).trans EW.out
 have RX : Hid (X.heap[w.heap.size]? = some (.cells #[.slice ka kn kc, .slice va vn vc, .int .i64 (n : Int), .pointer nd] 95 (0, 0))) := (b1.block w.heap.size (aa RW.out)).trans RW.out
 have BX := hide (BW.out.trans (b1.mono BW.out.size))
 clear b1 EW RW BW q
 go_wp2_with fail
 refine wp_region_noPanic ?_
 refine wp_region_held_drew (S := (fun W => W.cell? ⟨w.heap.size, 2, none⟩ = some (.int .i64 (n : Int)))) follows ((cell_of_row X w.heap.size 2 _ _ _ RX.out).trans rfl) (fun hHeld => ?_)
 have EZ : Hid (aP X.drew g gs h vs) := EX.out
 have CZ : Hid (Chg (fun k => k = g) w X.drew) := (Chg.ofBelow' BX.out).drew
 have GX : Hid (w.heap.size < X.drew.heap.size) := aa (w := X) RX.out
 have NE : Hid (w.heap.size ≠ g) := bq RX.out EX.out (by decide)
 clear EX BX RX
 generalize X.drew = Z at EZ CZ GX hHeld ⊢
 refine tq 0 ?_
 simp only [uA]
 refine tq 1 ?_
 simp only [uA]
 refine tq 2 ?_
 simp only [uA]
 refine tq 3 ?_
 simp only [uA]
 refine tq 4 ?_
 simp only [uA]
 refine tk 5 ?_ rfl (Or.inl ⟨by rfl, ?_⟩) ?_
 rotate_left
 ·intro w hSw
  have c4 := hSw
  clear hSw
  go_simp
  all_goals with_reducible rfl
 simp only [uA]
 refine r1 6 fun K hK => ?_
 go_simp
 refine (EZ.out.dropped HU.out n HN.out.2).mono ?_
 rintro e Z2 ⟨rfl, e2, c2⟩
 have E2 := hide e2
 have C2 : Hid (Chg (fun k => k = g) w Z2) := CZ.out.trans c2 (fun _ _ e => e)
 have a2 : Z2.cell? ⟨w.heap.size, 2, none⟩ = some (.int .i64 (n : Int)) := (World.cell?_of_block (c2.block w.heap.size GX.out NE.out)).trans hHeld
 clear hHeld e2 c2 EZ CZ
 refine hK.out _ _ a2 (fun hHeld => ?_)
 clear hK K
 try simp only [uA]
 refine wpAnyH_done (by kernel_rfl) ?_ _
 refine NoPanic.normal ?_
 clear hHeld
 go_wp2_with fail
 go_end0
 exact ⟨rfl, E2.out, C2.out⟩

set_option maxHeartbeats 4000000 in
set_option maxRecDepth 10000 in
theorem Fs (B g gs n lv : Nat) (h : S.Hh) (vs : Value) (x : EnV) (pg : Nat -> List UInt8) (es : List S.Ent) (w : World) (hr : Rds B w gs pg) (he : aP w g gs h vs) (hx : x.pg = (n : Int)) (hn : 0 < n /\ n < 512) (hp : pg n = S.aO (S.aN lv es)) (ho : S.bC lv es) :
  Calls Tryz.prog 129 #[.pointer (some ⟨g, 0, none⟩), .agg #[.slice x.ka x.kn x.kc, .slice x.va x.vn x.vc, .int .i64 x.pg, .pointer x.nd], .int .i64 (lv : Int)] w fun e w' => ∃ gn, e = .returned (.tuple #[.pointer (some ⟨gn, 0, none⟩), .int .i64 0]) /\ dW w.heap.size w' gn lv es /\ Below w.heap.size w w' := by
 obtain ⟨ka, kn, kc, va, vn, vc, pgx, nd⟩ := x
 simp only at hx ⊢
 subst hx
 have HE := hide he
 have HR := hide hr
 have HN := hide hn
 have HP := hide hp
 have HO := hide ho
 clear he hr hn hp ho
 have SA := hide (fun W => oM ⟨ka, kn, kc, va, vn, vc, (n : Int), nd⟩ W)
 go_enter Tryz.func129, Tryz.ntmps129
 go_wp2_with fail
 obtain ⟨W, hW⟩ : ∃ W, W = w.alloc (.cells #[.slice ka kn kc, .slice va vn vc, .int .i64 (n : Int), .pointer nd] 95) := ⟨_, rfl⟩
 rw [<- hW]
 have bW : Below w.heap.size w W := by rw [hW]; exact ba ..
 have rW : W.heap[w.heap.size]? = some (.cells #[.slice ka kn kc, .slice va vn vc, .int .i64 (n : Int), .pointer nd] 95 (0, 0)) := by rw [hW]; exact heap_alloc_new _ _
 have EW : Hid (aP W g gs h vs) := (bW.block g (aa HE.out)).trans HE.out
 have RDW := hide (HR.out.below bW)
 have RW := hide rW
 have BW := hide bW
 clear hW bW rW HE HR
 refine (SA.out W).mono ?_
 rintro e X ⟨rfl, b1⟩
 have q : decide ((n : Int) ≠ 0) = true := decide_eq_true (by have := HN.out; omega)
 simp only [q]
 have EX : Hid (aP X g gs h vs) := (b1.block g (aa EW.out)).trans EW.out
 have RDX := hide (RDW.out.below b1)
 have RX : Hid (X.heap[w.heap.size]? = some (.cells #[.slice ka kn kc, .slice va vn vc, .int .i64 (n : Int), .pointer nd] 95 (0, 0))) := (b1.block w.heap.size (aa RW.out)).trans RW.out
 have BX := hide (BW.out.trans (b1.mono BW.out.size))
 clear b1 EW RW BW q RDW
 go_wp2_with fail
 refine wp_region_noPanic ?_
 refine wp_region_held_drew (S := (fun W => W.cell? ⟨g, 0, none⟩ = some (.pointer (some ⟨gs, 0, none⟩)) /\ W.cell? ⟨w.heap.size, 2, none⟩ = some (.int .i64 (n : Int)))) follows ⟨EX.out.store, (cell_of_row X w.heap.size 2 _ _ _ RX.out).trans rfl⟩ (fun hHeld => ?_)
 have RDZ : Hid (Rds B X.drew gs pg) := RDX.out.below (Below.refl _ _).drew
 have BZ : Hid (Below w.heap.size w X.drew) := BX.out.drew
 have GL : Hid (g < X.drew.heap.size /\ w.heap.size < X.drew.heap.size) := ⟨aa (w := X) EX.out, aa (w := X) RX.out⟩
 clear EX BX RX RDX
 generalize X.drew = Z at RDZ BZ GL hHeld ⊢
 refine tq 0 ?_
 simp only [uA]
 refine tq 1 ?_
 simp only [uA]
 refine tq 2 ?_
 simp only [uA]
 refine tk 3 ?_ rfl (Or.inl ⟨by rfl, ?_⟩) ?_
 rotate_left
 ·intro w hSw
  have c4 := hSw.1
  clear hSw
  go_simp
  all_goals with_reducible rfl
 simp only [uA]
 refine tq 4 ?_
 simp only [uA]
 refine tk 5 ?_ rfl (Or.inl ⟨by rfl, ?_⟩) ?_
 rotate_left
 ·intro w hSw
  have c4 := hSw.2
  clear hSw
  go_simp
  all_goals with_reducible rfl
 simp only [uA]
 refine tq 6 ?_
 simp only [uA]
 refine r1 7 fun K hK => ?_
 go_simp
 refine (jY B gs n lv pg es Z RDZ.out HN.out.2 HP.out HO.out).mono ?_
 rintro e Z2 ⟨gn, rfl, n2, b2⟩
 have a2 : Z2.cell? ⟨g, 0, none⟩ = some (.pointer (some ⟨gs, 0, none⟩)) /\ Z2.cell? ⟨w.heap.size, 2, none⟩ = some (.int .i64 (n : Int)) := ⟨(b2.cell (p := ⟨g, 0, none⟩) GL.out.1).trans hHeld.1, (b2.cell (p := ⟨w.heap.size, 2, none⟩) GL.out.2).trans hHeld.2⟩
 have N2 := hide (n2.mono BZ.out.size)
 have B2 := hide (BZ.out.trans (b2.mono BZ.out.size))
 clear hHeld n2 b2 RDZ BZ GL
 refine hK.out _ _ a2 (fun hHeld => ?_)
 clear hK K
 try simp only [uA]
 clear a2
 refine tq 8 ?_
 simp only [uA]
 refine tq 9 ?_
 simp only [uA]
 refine tq 10 ?_
 simp only [uA]
 refine tq 11 ?_
 simp only [uA]
 refine wpAnyH_done (by kernel_rfl) ?_ _
 refine NoPanic.normal ?_
 clear hHeld
 go_wp2_with fail
 go_ret2
 exact ⟨gn, rfl, N2.out, B2.out⟩
theorem CP (B g gs n lv : Nat) (h : S.Hh) (vs : Value) (x : EnV) (pg : Nat -> List UInt8) (es : List S.Ent) (w : World) (hr : Rds B w gs pg) (he : aP w g gs h vs) (hu : h.used.length = 64) (hx : x.pg = (n : Int)) (hn : 0 < n /\ n < 512) (hp : pg n = S.aO (S.aN lv es)) (ho : S.bC lv es) :
  Calls Tryz.prog 83 #[.pointer (some ⟨g, 0, none⟩), .agg #[.slice x.ka x.kn x.kc, .slice x.va x.vn x.vc, .int .i64 x.pg, .pointer x.nd], .int .i64 (lv : Int)] w fun e w' => ∃ gn, e = .returned (.tuple #[.pointer (some ⟨gn, 0, none⟩), .int .i64 0]) /\ dW w.heap.size w' gn lv es /\ aP w' g gs { h with used := S.fK h.used n } vs /\ Chg (fun k => k = g) w w' := by
 have LK := hide (fun W (hb : Below w.heap.size w W) => Fs B g gs n lv h vs x pg es W (hr.below hb) ((hb.block g (aa he)).trans he) hx hn hp ho)
 have LV := hide (fun W (hw : aP W g gs h vs) => Ca g gs n h vs x W hw hu hx hn)
 obtain ⟨ka, kn, kc, va, vn, vc, pgx, nd⟩ := x
 simp only at hx LK LV ⊢
 have HE := hide he
 clear he hr hn hp ho hu hx
 go_enter Tryz.func83, Tryz.ntmps83
 go_wp2_with fail
 obtain ⟨W, hW⟩ : ∃ W, W = w.alloc (.cells #[.slice ka kn kc, .slice va vn vc, .int .i64 pgx, .pointer nd] 95) := ⟨_, rfl⟩
 rw [<- hW]
 have bW : Below w.heap.size w W := by rw [hW]; exact ba ..
 have rW : W.heap[w.heap.size]? = some (.cells #[.slice ka kn kc, .slice va vn vc, .int .i64 pgx, .pointer nd] 95 (0, 0)) := by rw [hW]; exact heap_alloc_new _ _
 have LK2 := hide (LK.out W bW)
 have EW : Hid (aP W g gs h vs) := (bW.block g (aa HE.out)).trans HE.out
 have RW := hide rW
 have BW := hide bW
 clear hW bW rW LK
 refine LK2.out.mono ?_
 rintro e X ⟨gn, rfl, n1, b1⟩
 have N1 := hide n1
 have EX : Hid (aP X g gs h vs) := (b1.block g (aa EW.out)).trans EW.out
 have RX : Hid (X.heap[w.heap.size]? = some (.cells #[.slice ka kn kc, .slice va vn vc, .int .i64 pgx, .pointer nd] 95 (0, 0))) := (b1.block w.heap.size (aa RW.out)).trans RW.out
 have BX := hide (BW.out.trans (b1.mono BW.out.size))
 have WS : Hid (w.heap.size <= W.heap.size) := BW.out.size
 have GNW : Hid (W.heap.size <= gn) := n1.at_
 have c0 : X.cell? ⟨w.heap.size, 0, none⟩ = some (.slice ka kn kc) := (cell_of_row X w.heap.size 0 _ _ _ RX.out).trans rfl
 have c1 : X.cell? ⟨w.heap.size, 1, none⟩ = some (.slice va vn vc) := (cell_of_row X w.heap.size 1 _ _ _ RX.out).trans rfl
 have c2 : X.cell? ⟨w.heap.size, 2, none⟩ = some (.int .i64 pgx) := (cell_of_row X w.heap.size 2 _ _ _ RX.out).trans rfl
 have c3 : X.cell? ⟨w.heap.size, 3, none⟩ = some (.pointer nd) := (cell_of_row X w.heap.size 3 _ _ _ RX.out).trans rfl
 clear b1 EW RW BW n1 LK2
 go_wp2_with fail
 refine (LV.out X EX.out).mono ?_
 rintro e Y ⟨rfl, e2, k2⟩
 have E2 := hide e2
 have C2 : Hid (Chg (fun k => k = g) w Y) := (Chg.ofBelow' BX.out).trans k2 (fun _ _ e => e)
 have N2 : Hid (dW w.heap.size Y gn lv es) := by
  obtain ⟨⟨v, d, h1, h2, h3, h4⟩, h5⟩ := N1.out
  have hg : gn ≠ g := by have := aa HE.out; have := GNW.out; have := WS.out; omega
  exact ⟨⟨v, d, k2.row h1 hg, (h2.mono WS.out).chg k2 (fun k hk e => h2.apart EX.out (by decide) (by rw [<- e]; exact hk)), h3, fun i x e hx he => ⟨((h4 i x e hx he).1.mono WS.out).chg k2 (fun k c hk e => bq hk EX.out (by decide) e), (h4 i x e hx he).2⟩⟩, ltr WS.out h5⟩
 clear e2 k2 c0 c1 c2 c3 EX RX BX N1 LV
 go_wp2_with fail
 go_ret2
 exact ⟨gn, rfl, N2.out, E2.out, C2.out⟩
def vsz (d : List EnV) : Nat := (d.map fun x => 4 + x.kn + x.vn).sum
theorem Dw (d : List EnV) (k : Nat) (x : EnV) (h : d[k]? = some x) : vsz (d.take (k + 1)) = vsz (d.take k) + (4 + x.kn + x.vn) := by
 unfold vsz
 rw [List.take_add_one, h]
 simp [List.sum_append]
theorem vsz_le (d : List EnV) (k : Nat) : vsz (d.take k) <= vsz d := by
 conv => rhs; rw [<- List.take_append_drop k d]
 unfold vsz
 rw [List.map_append, List.sum_append]
 omega
theorem vw (d : List EnV) : 4 * d.length <= vsz d := by
 induction d with
 | nil => simp
 | cons x r ih =>
  have e : vsz (x :: r) = (4 + x.kn + x.vn) + vsz r := by simp [vsz]
  rw [e, List.length_cons]
  omega
structure Sp1 (w wr : World) (g1 g2 : Nat) (kv vo : Value) (k : Nat) (d : List EnV) : Prop where
 node : wr.heap[g1]? = some (.cells #[.int .i64 0, vo] 98 (0, 0))
 out : wr.heap[g2]? = some (.cells #[kv, .slice none 0 0, .int .i64 0, .pointer (some ⟨g1, 0, none⟩)] 95 (0, 0))
 row : bG (g2 + 1) wr vo (d.take k)
 base : Below w.heap.size w wr
set_option maxHeartbeats 4000000 in
set_option maxRecDepth 10000 in
theorem split_0 (gn : Nat) (kv v : Value) (d : List EnV) (w : World) (hk : ∃ ao n c, kv = .slice ao n c) (hg : w.heap[gn]? = some (.cells #[.int .i64 0, v] 98 (0, 0))) (hd : Els aR w v d) (hs : vsz d <= 1019) :
  Calls Tryz.prog 86 #[kv, .pointer (some ⟨gn, 0, none⟩)] w fun e w' => ∃ g1 g2 vo, e = .returned (.slice (some ⟨g2, 0, none⟩) 1 1) /\ Sp1 w w' g1 g2 kv vo d.length d /\ w.heap.size <= g1 /\ w.heap.size <= g2 := by
 obtain ⟨ko, kn, kc, rfl⟩ := hk
 have HG := hide hg
 have HD := hide hd
 have HS := hide hs
 obtain ⟨ao, cap, rfl, hbig⟩ := hd.form
 obtain ⟨n, hn⟩ : ∃ n, n = d.length := ⟨_, rfl⟩
 rw [<- hn] at hbig
 have HN := hide hn
 obtain ⟨c0, c1⟩ := aK hg
 rw [<- hn] at c1
 clear hg hd hs hn
 go_enter Tryz.func86, Tryz.ntmps86
 go_upto_region 2 with fail
 obtain ⟨g1, hg1⟩ : ∃ g1, g1 = w.heap.size := ⟨_, rfl⟩
 rw [<- hg1]
 obtain ⟨g2, hg2⟩ : ∃ g2, g2 = g1 + 1 := ⟨_, rfl⟩
 rw [<- hg2]
 obtain ⟨W, hW⟩ : ∃ W, W = (w.alloc (.cells #[.int .i64 0, .slice none 0 0] 98)).alloc (.cells #[.slice ko kn kc, .slice none 0 0, .int .i64 0, .pointer (some ⟨g1, 0, none⟩)] 95) := ⟨_, rfl⟩
 rw [<- hW]
 have hsz : (w.alloc (.cells #[.int .i64 0, .slice none 0 0] 98)).heap.size = g2 := by rw [hg2, hg1]; simp
 have b1 : Below w.heap.size w (w.alloc (.cells #[.int .i64 0, .slice none 0 0] 98)) := ba ..
 have bW : Below w.heap.size w W := by rw [hW]; exact b1.alloc b1.size _
 have r1 : W.heap[g1]? = some (.cells #[.int .i64 0, .slice none 0 0] 98 (0, 0)) := by rw [hW, heap_alloc_old _ _ (by omega), hg1]; exact heap_alloc_new _ _
 have r2 : W.heap[g2]? = some (.cells #[.slice ko kn kc, .slice none 0 0, .int .i64 0, .pointer (some ⟨g1, 0, none⟩)] 95 (0, 0)) := by rw [hW, <- hsz]; exact heap_alloc_new _ _
 have M0 : Hid (Sp1 w W g1 g2 (.slice ko kn kc) (.slice none 0 0) 0 d) := ⟨r1, r2, bG.nil _ _, bW⟩
 have GS : Hid (w.heap.size <= g1 /\ g2 = g1 + 1) := ⟨by omega, hg2⟩
 have d0 := (bW.cell (p := ⟨gn, 0, none⟩) (aa HG.out)).trans c0
 have d1 := (bW.cell (p := ⟨gn, 1, none⟩) (aa HG.out)).trans c1
 clear hsz b1 bW r1 r2 hW hg1 hg2 c0 c1
 go_wp2_with fail
 go_loopw [5, 6, 24] (fun a b i wr => ∃ k : Nat, k <= n /\ i = .int .i64 (k : Int) /\ a = .slice (some ⟨g2, 0, none⟩) 1 1 /\ b = .int .i64 (vsz (d.take k) : Int) /\ ∃ vo, Hid (Sp1 w wr g1 g2 (.slice ko kn kc) vo k d)) (fun _ _ i _ => n - (intOf i).toNat)
 case atStart => exact ⟨0, by omega, rfl, rfl, rfl, _, M0⟩
 case round =>
 clear M0 d0 d1
 obtain ⟨k, hk, rfl, rfl, rfl, vo, M⟩ := hrel
 by_cases hlt : k < n
 ·have hkd : k < d.length := by have := HN.out; omega
  obtain ⟨b, off, cap', hv, hcap, hb, hcl⟩ := HD.out.at gB k d[k] (List.getElem?_eq_getElem hkd)
  injection hv with hv1 hv2 hv3
  subst hv1 hv3
  obtain ⟨t0, t1, t2, t3⟩ := yz hcl
  have BW := M.out.base
  have u0 := (BW.cell (p := ⟨b, off + k * 4, none⟩) hb).trans t0
  have u1 := (BW.cell (p := ⟨b, off + k * 4 + 1, none⟩) hb).trans t1
  have u2 := (BW.cell (p := ⟨b, off + k * 4 + 2, none⟩) hb).trans t2
  have u3 := (BW.cell (p := ⟨b, off + k * 4 + 3, none⟩) hb).trans t3
  have hkI : (k : Int) < (n : Int) := by omega
  have hk0 : (0 : Int) <= (k : Int) := by omega
  obtain ⟨x, hx⟩ : ∃ x, x = d[k] := ⟨_, rfl⟩
  have AT : Hid (d[k]? = some x) := by rw [hx]; exact List.getElem?_eq_getElem hkd
  rw [<- hx] at u0 u1 u2 u3
  obtain ⟨ka, kn', kc', va, vn, vc, pg, nd⟩ := x
  simp only at u0 u1 u2 u3
  have VT := Dw d k _ AT.out
  have VL := vsz_le d (k + 1)
  have HSS := HS.out
  simp only at VT
  obtain ⟨sz, hszk⟩ : ∃ sz, sz = vsz (d.take k) := ⟨_, rfl⟩
  obtain ⟨sz2, hsz2⟩ : ∃ sz2, sz2 = vsz (d.take (k + 1)) := ⟨_, rfl⟩
  rw [<- hszk] at VT ⊢
  rw [<- hsz2] at VT VL
  have SZ2 := hide hsz2
  have hs2 : sz2 <= 1019 := by omega
  have hs3 : (sz : Int) + ((4 + kn' + vn : Nat) : Int) = (sz2 : Int) := by omega
  have hs4 : ¬ (1019 : Int) < (sz2 : Int) := by omega
  have hs5 : decide ((1019 : Int) < (sz2 : Int)) = false := decide_eq_false hs4
  have hkv : kn' <= 1000000 /\ vn <= 1000000 := by omega
  have KV := hide hkv
  clear t0 t1 t2 t3 hcl hx hv2 hcap BW VL HSS hszk hsz2 VT hkv
  go_upto_region 6 with fail
  obtain ⟨W2, hW2⟩ : ∃ W2, W2 = wr.alloc (.cells #[.slice ka kn' kc', .slice va vn vc, .int .i64 pg, .pointer nd] 95) := ⟨_, rfl⟩
  rw [<- hW2]
  have b2 : Below wr.heap.size wr W2 := by rw [hW2]; exact ba ..
  have r2 : W2.heap[wr.heap.size]? = some (.cells #[.slice ka kn' kc', .slice va vn vc, .int .i64 pg, .pointer nd] 95 (0, 0)) := by rw [hW2]; exact heap_alloc_new _ _
  obtain ⟨gb, hgb⟩ : ∃ gb, gb = wr.heap.size := ⟨_, rfl⟩
  rw [<- hgb] at r2 ⊢
  have M2 : Hid (Sp1 w W2 g1 g2 (.slice ko kn kc) vo k d) := ⟨(b2.block g1 (aa M.out.node)).trans M.out.node, (b2.block g2 (aa M.out.out)).trans M.out.out, M.out.row.below b2, M.out.base.trans (b2.mono M.out.base.size)⟩
  have NB : Hid (∀ j, vo.ownBlock = some j -> j ≠ gb) := fun j hj e => by have := (M.out.row.blk hj).2.1; omega
  have RW := hide r2
  obtain ⟨x0, x1, x2, x3⟩ := aQ r2
  clear hW2 b2 r2 hgb u0 u1 u2 u3 M
  go_wp2_with fail
  refine (uO ka va nd kn' kc' vn vc pg W2 KV.out.1 KV.out.2).mono ?_
  rintro e W3 ⟨rfl, b3⟩
  have M3 : Hid (Sp1 w W3 g1 g2 (.slice ko kn kc) vo k d) := ⟨(b3.block g1 (aa M2.out.node)).trans M2.out.node, (b3.block g2 (aa M2.out.out)).trans M2.out.out, M2.out.row.below b3, M2.out.base.trans (b3.mono M2.out.base.size)⟩
  have RW3 : Hid (W3.heap[gb]? = some (.cells #[.slice ka kn' kc', .slice va vn vc, .int .i64 pg, .pointer nd] 95 (0, 0))) := (b3.block gb (aa RW.out)).trans RW.out
  obtain ⟨y0, y1, y2, y3⟩ := aQ M3.out.out
  clear b3 x0 x1 x2 x3 RW M2
  go_wp2_with fail
  refine wp_region_noPanic ?_
  refine wp_region_held_drew (S := (fun W => W.cell? ⟨gb, 0, none⟩ = some (.slice ka kn' kc') /\ W.cell? ⟨gb, 1, none⟩ = some (.slice va vn vc) /\ W.cell? ⟨gb, 2, none⟩ = some (.int .i64 pg) /\ W.cell? ⟨gb, 3, none⟩ = some (.pointer nd))) follows (aQ RW3.out) (fun hHeld => ?_)
  have MZ : Hid (Sp1 w W3.drew g1 g2 (.slice ko kn kc) vo k d) := ⟨M3.out.node, M3.out.out, M3.out.row, M3.out.base.drew⟩
  have RZ : Hid (W3.drew.heap[gb]? = some (.cells #[.slice ka kn' kc', .slice va vn vc, .int .i64 pg, .pointer nd] 95 (0, 0))) := RW3.out
  have NG : Hid (g1 ≠ gb) := bq M3.out.node RW3.out (by decide)
  obtain ⟨vao, Bf, hvo⟩ := M3.out.row.form
  obtain ⟨vnn, hvnn⟩ : ∃ vnn, vnn = (d.take k).length := ⟨_, rfl⟩
  rw [<- hvnn] at hvo
  subst hvo
  clear hvnn
  clear M3 RW3 y0 y1 y2 y3
  generalize W3.drew = Z at MZ RZ hHeld ⊢
  refine tq 0 ?_
  simp only [uA]
  refine tq 1 ?_
  simp only [uA]
  refine tq 2 ?_
  simp only [uA]
  refine tq 3 ?_
  simp only [uA]
  refine tk 5 ?_ rfl (Or.inl ⟨by rfl, ?_⟩) ?_
  rotate_left
  ·intro w hSw
   obtain ⟨z0, z1, z2, z3⟩ := hSw
   go_simp
   all_goals with_reducible rfl
  simp only [uA]
  refine rdy [4, 6] ?_
  refine AllReadyH.cons (o := ⟨_, _, _, _, _, _⟩) rfl (fun K hK => ?_) ?_
  focus
   have c1 := (aK MZ.out.node).2
   go_simp
   refine hK.out _ _ (by assumption) (fun hHeld => ?_)
   clear hK K c1
   try simp only [uA]
   refine rdy [6] ?_
   refine aJ (o := ⟨_, _, _, _, _, _⟩) rfl rfl 96 1 [(0, Operand.tmp 66)] rfl _ _ (yx Z ⟨ka, kn', kc', va, vn, vc, pg, nd⟩) AllReadyH.nil ⟨aQ ((heap_alloc_old _ _ (aa RZ.out)).trans RZ.out), fun hHeld => ?_⟩
   try simp only [uA]
   obtain ⟨Y, hY⟩ : ∃ Y : EnV, Y = ⟨ka, kn', kc', va, vn, vc, pg, nd⟩ := ⟨_, rfl⟩
   rw [<- hY] at hHeld ⊢
   have ATY : Hid (d[k]? = some Y) := by rw [hY]; exact AT.out
   obtain ⟨Z3, hZ3⟩ : ∃ Z3, Z3 = Z.alloc (.cells (aR Y).toArray 95) := ⟨_, rfl⟩
   rw [<- hZ3] at hHeld ⊢
   have b3 : Below Z.heap.size Z Z3 := by rw [hZ3]; exact ba ..
   have r3 : Z3.heap[Z.heap.size]? = some (.cells (aR Y).toArray 95 (0, 0)) := by rw [hZ3]; exact heap_alloc_new _ _
   have M4 : Hid (Sp1 w Z3 g1 g2 (.slice ko kn kc) (.slice vao vnn Bf) k d) := ⟨(b3.block g1 (aa MZ.out.node)).trans MZ.out.node, (b3.block g2 (aa MZ.out.out)).trans MZ.out.out, MZ.out.row.below b3, MZ.out.base.trans (b3.mono MZ.out.base.size)⟩
   have R4 : Hid (Z3.heap[gb]? = some (.cells #[.slice ka kn' kc', .slice va vn vc, .int .i64 pg, .pointer nd] 95 (0, 0))) := (b3.block gb (aa RZ.out)).trans RZ.out
   have APP := bM Z3 (g2 + 1) (.slice vao vnn Bf) (.slice (some ⟨Z.heap.size, 0, none⟩) 1 1) (d.take k) [Y] 96 M4.out.row (kr r3) (by have := HN.out; have h1 := vw d; have h2 := HS.out; rw [List.length_take]; simp; omega) (by have := aa M4.out.out; omega)
   clear b3 r3 hZ3 hY MZ RZ
  rotate_left
  focus
   refine aJ (o := ⟨_, _, _, _, _, _⟩) rfl rfl 96 1 [(0, Operand.tmp 66)] rfl _ _ (yx Z ⟨ka, kn', kc', va, vn, vc, pg, nd⟩) AllReadyH.nil ⟨aQ ((heap_alloc_old _ _ (aa RZ.out)).trans RZ.out), fun hHeld => ?_⟩
   try simp only [uA]
   obtain ⟨Y, hY⟩ : ∃ Y : EnV, Y = ⟨ka, kn', kc', va, vn, vc, pg, nd⟩ := ⟨_, rfl⟩
   rw [<- hY] at hHeld ⊢
   have ATY : Hid (d[k]? = some Y) := by rw [hY]; exact AT.out
   obtain ⟨Z3, hZ3⟩ : ∃ Z3, Z3 = Z.alloc (.cells (aR Y).toArray 95) := ⟨_, rfl⟩
   rw [<- hZ3] at hHeld ⊢
   have b3 : Below Z.heap.size Z Z3 := by rw [hZ3]; exact ba ..
   have r3 : Z3.heap[Z.heap.size]? = some (.cells (aR Y).toArray 95 (0, 0)) := by rw [hZ3]; exact heap_alloc_new _ _
   have M4 : Hid (Sp1 w Z3 g1 g2 (.slice ko kn kc) (.slice vao vnn Bf) k d) := ⟨(b3.block g1 (aa MZ.out.node)).trans MZ.out.node, (b3.block g2 (aa MZ.out.out)).trans MZ.out.out, MZ.out.row.below b3, MZ.out.base.trans (b3.mono MZ.out.base.size)⟩
   have R4 : Hid (Z3.heap[gb]? = some (.cells #[.slice ka kn' kc', .slice va vn vc, .int .i64 pg, .pointer nd] 95 (0, 0))) := (b3.block gb (aa RZ.out)).trans RZ.out
   have APP := bM Z3 (g2 + 1) (.slice vao vnn Bf) (.slice (some ⟨Z.heap.size, 0, none⟩) 1 1) (d.take k) [Y] 96 M4.out.row (kr r3) (by have := HN.out; have h1 := vw d; have h2 := HS.out; rw [List.length_take]; simp; omega) (by have := aa M4.out.out; omega)
   clear b3 r3 hZ3 hY MZ RZ
   refine r1 4 fun K hK => ?_
   have c1 := (aK M4.out.node).2
   go_simp
   refine hK.out _ _ (by assumption) (fun hHeld => ?_)
   clear hK K c1
   try simp only [uA]
  all_goals
   refine rdy [7] ?_
   refine bK (o := ⟨_, _, _, _, _, _⟩) rfl rfl _ _ 96 96 rfl _ _ rfl rfl APP AllReadyH.nil ?_
   rintro v4 Z4 ⟨e4, c4⟩
   have N4 : Z4.heap[g1]? = some (.cells #[.int .i64 0, .slice vao vnn Bf] 98 (0, 0)) := c4.row M4.out.node (M4.out.row.apart M4.out.node (by decide))
   have O4 : Z4.heap[g2]? = some (.cells #[.slice ko kn kc, .slice none 0 0, .int .i64 0, .pointer (some ⟨g1, 0, none⟩)] 95 (0, 0)) := c4.row M4.out.out (fun e => by have := (M4.out.row.blk e).1; omega)
   have X4 : Z4.heap[gb]? = some (.cells #[.slice ka kn' kc', .slice va vn vc, .int .i64 pg, .pointer nd] 95 (0, 0)) := c4.row R4.out (fun e => NB.out _ e rfl)
   have E4 : Hid (bG (g2 + 1) Z4 v4 (d.take (k + 1))) := by show bG (g2 + 1) Z4 v4 (d.take (k + 1)); rw [List.take_add_one, ATY.out]; exact e4
   have B4 : Hid (Below w.heap.size w Z4) := M4.out.base.trans (c4.below _ M4.out.base.size (fun j hj e => by have := (M4.out.row.blk e).1; have := GS.out; omega))
   have N4H := hide N4
   have O4H := hide O4
   have X4H := hide X4
   refine ⟨aQ X4, fun hHeld => ?_⟩
   clear e4 c4 N4 O4 X4 APP R4 M4
   try simp only [uA]
   obtain ⟨o4, oc4, hv4⟩ := E4.out.form
   obtain ⟨n4, hn4⟩ : ∃ n4, n4 = (d.take (k + 1)).length := ⟨_, rfl⟩
   rw [<- hn4] at hv4
   subst hv4
   clear hn4
   refine tq 8 ?_
   simp only [uA]
   refine tq 9 ?_
   simp only [uA]
   refine r1 10 fun K hK => ?_
   have c1 := (aK N4H.out).2
   have f1 := frozen_of_row _ _ 1 _ _ N4H.out
   go_simp
   have c5 : Chg (fun k => k = g1) Z4 (Z4.setCell ⟨g1, 1, none⟩ (.slice o4 n4 oc4)) := (Chg.refl (fun k => k = g1) _).setCell g1 1 _ (fun _ => rfl)
   have r5 : (Z4.setCell ⟨g1, 1, none⟩ (.slice o4 n4 oc4)).heap[g1]? = some (.cells #[.int .i64 0, .slice o4 n4 oc4] 98 (0, 0)) := by rw [heap_setCell_same Z4 g1 1 _ _ _ N4H.out]; rfl
   have MM : Hid (Sp1 w (Z4.setCell ⟨g1, 1, none⟩ (.slice o4 n4 oc4)) g1 g2 (.slice ko kn kc) (.slice o4 n4 oc4) (k + 1) d) := ⟨r5, c5.row O4H.out (by have := GS.out; omega), E4.out.chg c5 (fun j hj e => E4.out.apart N4H.out (by decide) (by rw [<- e]; exact hj)), B4.out.trans (c5.base B4.out.size GS.out.1)⟩
   have a5 := aQ (c5.row X4H.out (fun e => NG.out e.symm))
   clear hHeld
   refine hK.out _ _ a5 (fun hHeld => ?_)
   clear hK K c1 f1 c5 r5 a5 E4 N4H O4H X4H B4
   try simp only [uA]
   refine wpAnyH_done (by kernel_rfl) ?_ _
   refine NoPanic.normal ?_
   clear hHeld
   go_wp2_with fail
   go_roundw
   case rel => exact ⟨k + 1, by omega, by go_num, rfl, by rw [<- SZ2.out]; congr 1, _, MM⟩
   case measure => simp [intOf]; omega
 ·obtain rfl : k = n := by omega
  go_wp2_with fail
  go_ret
  exact ⟨g1, g2, vo, rfl, by rw [<- HN.out]; exact M.out, GS.out.1, by have := GS.out; omega⟩
theorem Ei : (Tryz.prog.info? 95).map (·.size) = some 4 := by kernel_rfl
theorem wS {w : World} {g : Nat} {c0 : Array Value} (a : w.heap[g]? = some (.cells c0 95 (0, 0))) (h0 : c0.size = 4) (x : EnV) :
  ∃ w', (Instr.storeAt 95 (.pointer (some ⟨g, 0, none⟩)) (.agg (aR x).toArray)).run Tryz.prog w = .ok () w' /\ w'.heap[g]? = some (.cells (aR x).toArray 95 (0, 0)) /\ Chg (fun k => k = g) w w' := by
 have hr := run_storeVar_row (P := Tryz.prog) w g 95 95 _ (aR x).toArray a (by rw [Ei, List.size_toArray, gB]) (by exact h0) (all_oneCell_toArray (uR x))
 refine ⟨w.setRow g (aR x).toArray, ?_, setRow_heap w g _ _ _ _ a, Chg.setRow (p := fun k => k = g) g _ rfl⟩
 simp only [Instr.storeAt, Instr.sureAddr, Sem.run_bind, Sem.run_pure, Result.andThen_ok, hr]
set_option maxHeartbeats 4000000 in
set_option maxRecDepth 10000 in
theorem Cv (g2 : Nat) (ko : Option Addr) (kn kc : Nat) (nd : Option Addr) (w : World) (h : w.heap[g2]? = some (.cells #[.slice ko kn kc, .slice none 0 0, .int .i64 0, .pointer nd] 95 (0, 0))) :
  Calls Tryz.prog 49 #[.slice (some ⟨g2, 0, none⟩) 1 1] w fun e w' => e = .returned (.agg #[.slice ko kn kc, .slice none 0 0, .int .i64 0, .pointer nd]) /\ Below w.heap.size w w' := by
 have H := hide h
 obtain ⟨c0, c1, c2, c3⟩ := aQ h
 have GL := aa h
 clear h
 have b0 : Below w.heap.size w (w.alloc (.cells #[.slice none 0 0, .slice none 0 0, .int .i64 0, .pointer none] 95)) := ba ..
 have d0 := (b0.cell (p := ⟨g2, 0, none⟩) GL).trans c0
 have d1 := (b0.cell (p := ⟨g2, 1, none⟩) GL).trans c1
 have d2 := (b0.cell (p := ⟨g2, 2, none⟩) GL).trans c2
 have d3 := (b0.cell (p := ⟨g2, 3, none⟩) GL).trans c3
 have r0 : (w.alloc (.cells #[.slice none 0 0, .slice none 0 0, .int .i64 0, .pointer none] 95)).heap[w.heap.size]? = some (.cells #[.slice none 0 0, .slice none 0 0, .int .i64 0, .pointer none] 95 (0, 0)) := heap_alloc_new _ _
 obtain ⟨W, hW⟩ : ∃ W, W = w.alloc (.cells #[.slice none 0 0, .slice none 0 0, .int .i64 0, .pointer none] 95) := ⟨_, rfl⟩
 rw [<- hW] at b0 d0 d1 d2 d3 r0
 have HW := hide hW
 go_enter Tryz.func49, Tryz.ntmps49
 go_upto_region 1 with fail
 rw [<- hW]
 have B0 := hide b0
 have R0 := hide r0
 have f0 : ∀ i, W.frozen? ⟨w.heap.size, i, none⟩ = false := fun i => frozen_of_row _ _ i _ _ R0.out
 clear b0 r0 hW c0 c1 c2 c3 HW
 go_loopw [0] (fun a wr => a = .slice (some ⟨g2, 0, none⟩) 1 1 /\ wr = W) (fun _ _ => 0)
 case atStart => exact ⟨rfl, rfl⟩
 case round =>
 obtain ⟨rfl, rfl⟩ := hrel
 obtain ⟨W2, hst, r2, k2⟩ := wS R0.out rfl ⟨ko, kn, kc, none, 0, 0, 0, nd⟩
 have jl : (Instr.storeAt 95 (.pointer (some ⟨w.heap.size, 0, none⟩)) (.agg #[.slice ko kn kc, .slice none 0 0, .int .i64 0, .pointer nd])).run Tryz.prog wr = .ok () W2 := hst
 have R2 := hide r2
 have B2 : Hid (Below w.heap.size w W2) := B0.out.trans (k2.base B0.out.size (lr _))
 clear hst r2 k2 f0
 go_wp2_with (with_reducible refine au ⟨none, .store 95 (.tmp 2) (.tmp 20), 0, "edit.go:224", #[{ on := 2, ground := Ground.data }, { on := 0, ground := Ground.phase }, { on := 1, ground := Ground.phase }, { on := 2, ground := Ground.phase }], none⟩ ?_; refine ai rfl 95 (.tmp 2) (.tmp 20) rfl (.pointer (some ⟨w.heap.size, 0, none⟩)) (.agg #[.slice ko kn kc, .slice none 0 0, .int .i64 0, .pointer nd]) rfl rfl W2 jl ?_)
 exact bodyPost_ret (bi Tryz.results49 _ _ w.heap.size _ rfl (kC R2.out)) rfl ⟨rfl, B2.out⟩
set_option maxHeartbeats 4000000 in
set_option maxRecDepth 10000 in
theorem Fj (g g1 : Nat) (ko : Option Addr) (kn kc : Nat) (v : Value) (w : World) (h : w.heap[g1]? = some (.cells #[.int .i64 0, v] 98 (0, 0))) :
  Calls Tryz.prog 48 #[.pointer (some ⟨g, 0, none⟩), .agg #[.slice ko kn kc, .slice none 0 0, .int .i64 0, .pointer (some ⟨g1, 0, none⟩)]] w fun e w' => e = .returned (.tuple #[.agg #[.slice ko kn kc, .slice none 0 0, .int .i64 0, .pointer (some ⟨g1, 0, none⟩)], .int .i64 0]) /\ Below w.heap.size w w' := by
 have c0 := (aK h).1
 have GL := aa h
 obtain ⟨W1, hW1⟩ : ∃ W, W = w.alloc (.cells #[.slice ko kn kc, .slice none 0 0, .int .i64 0, .pointer (some ⟨g1, 0, none⟩)] 95) := ⟨_, rfl⟩
 have hs1 : W1.heap.size = w.heap.size + 1 := by rw [hW1]; simp
 obtain ⟨W2, hW2⟩ : ∃ W, W = W1.alloc (.cells #[.slice none 0 0, .slice none 0 0, .int .i64 0, .pointer none] 95) := ⟨_, rfl⟩
 have b1 : Below w.heap.size w W1 := by rw [hW1]; exact ba ..
 have b2 : Below w.heap.size w W2 := by rw [hW2]; exact b1.alloc b1.size _
 have r1 : W2.heap[w.heap.size]? = some (.cells #[.slice ko kn kc, .slice none 0 0, .int .i64 0, .pointer (some ⟨g1, 0, none⟩)] 95 (0, 0)) := by rw [hW2, heap_alloc_old _ _ (by omega), hW1]; exact heap_alloc_new _ _
 have r2 : W2.heap[w.heap.size + 1]? = some (.cells #[.slice none 0 0, .slice none 0 0, .int .i64 0, .pointer none] 95 (0, 0)) := by rw [hW2, <- hs1]; exact heap_alloc_new _ _
 have d0 := (b2.cell (p := ⟨g1, 0, none⟩) GL).trans c0
 obtain ⟨x0, x1, x2, x3⟩ := aQ r1
 have R2 := hide r2
 have B2 := hide b2
 go_enter Tryz.func48, Tryz.ntmps48
 go_upto_region 1 with fail
 rw [<- hW1, <- hW2]
 clear b1 b2 r1 r2 hW1 hW2 hs1 c0 h
 go_loopw [] (fun wr => wr = W2) (fun _ => 0)
 case atStart => rfl
 case round =>
 subst hrel
 obtain ⟨W3, hst, r3, k3⟩ := wS R2.out rfl ⟨ko, kn, kc, none, 0, 0, 0, some ⟨g1, 0, none⟩⟩
 have jl : (Instr.storeAt 95 (.pointer (some ⟨w.heap.size + 1, 0, none⟩)) (.agg #[.slice ko kn kc, .slice none 0 0, .int .i64 0, .pointer (some ⟨g1, 0, none⟩)])).run Tryz.prog wr = .ok () W3 := hst
 have R3 := hide r3
 have B3 : Hid (Below w.heap.size w W3) := B2.out.trans (k3.base B2.out.size (by omega))
 clear hst r3 k3
 go_wp2_with (with_reducible refine au ⟨none, .store 95 (.tmp 4) (.tmp 57), 0, "edit.go:216", #[{ on := 0, ground := Ground.data }, { on := 0, ground := Ground.phase }], none⟩ ?_; refine ai rfl 95 (.tmp 4) (.tmp 57) rfl (.pointer (some ⟨w.heap.size + 1, 0, none⟩)) (.agg #[.slice ko kn kc, .slice none 0 0, .int .i64 0, .pointer (some ⟨g1, 0, none⟩)]) rfl rfl W3 jl ?_)
 exact bodyPost_ret (aW Tryz.results48 _ _ (w.heap.size + 1) _ rfl (kC R3.out)) rfl ⟨rfl, B3.out⟩
end Go.Proofs.YteealihknndclabGreatDoor
