/- Changes in memory; which of them may be. -/
import Derived.Test.YteealihknndclabGreatDoorBk
import Derived.Shelf.SlSortCmp.InsertionK
import Derived.Shelf.Lay
import Derived.Ground.SlsfProg
import Derived.Test.YteealihknndclabGreatDoorBf
import Derived.Test.YteealihknndclabGreatDoorBy
import Derived.Deep.CutBlock
namespace Go.Proofs.YteealihknndclabGreatDoor
open Go.RowKit

structure ChV where
 ka : Option Addr
 kn : Nat
 kc : Nat
 va : Option Addr
 vn : Nat
 vc : Nat
 dr : Bool
def bg (x : ChV) : List Value := [.slice x.ka x.kn x.kc, .slice x.va x.vn x.vc, .bool x.dr]
theorem gD (x : ChV) : (bg x).length = 3 := rfl
def ChV.good (x : ChV) : Bool := decide (1 <= x.kn) && decide (x.kn <= 40) && decide (x.vn <= 400)
theorem Gd {w : World} {b off i : Nat} {x : ChV} (h : ∀ (r : Nat) u, (bg x)[r]? = some u -> w.cell? ⟨b, off + (i * 3 + r), none⟩ = some u) :
  w.cell? ⟨b, off + i * 3, none⟩ = some (.slice x.ka x.kn x.kc) /\ w.cell? ⟨b, off + i * 3 + 1, none⟩ = some (.slice x.va x.vn x.vc) /\ w.cell? ⟨b, off + i * 3 + 2, none⟩ = some (.bool x.dr) :=
 ⟨h 0 _ rfl, by rw [Nat.add_assoc]; exact h 1 _ rfl, by rw [Nat.add_assoc]; exact h 2 _ rfl⟩
theorem iE {w : World} {g : Nat} {a b c : Value} {t : TypeId} (h : w.heap[g]? = some (.cells #[a, b, c] t (0, 0))) : w.cell? ⟨g, 0, none⟩ = some a /\ w.cell? ⟨g, 1, none⟩ = some b /\ w.cell? ⟨g, 2, none⟩ = some c :=
 ⟨by rw [cell_of_row w g 0 _ _ _ h]; rfl, by rw [cell_of_row w g 1 _ _ _ h]; rfl, by rw [cell_of_row w g 2 _ _ _ h]; rfl⟩
set_option maxHeartbeats 4000000 in
set_option maxRecDepth 10000 in
theorem tL (v : Value) (d : List ChV) (w : World) (hd : Els bg w v d) :
  Calls Tryz.prog 31 #[v] w fun e w' => e = .returned (.bool (d.all ChV.good && decide (d.length <= 80))) /\ Below w.heap.size w w' := by
 have HD := hide hd
 obtain ⟨ao, cap, rfl, hbig⟩ := hd.form
 obtain ⟨n, hn⟩ : ∃ n, n = d.length := ⟨_, rfl⟩
 obtain ⟨r, hr⟩ : ∃ r, r = (d.all ChV.good && decide (d.length <= 80)) := ⟨_, rfl⟩
 rw [<- hr]
 rw [<- hn] at hbig ⊢
 have HN := hide hn
 have HR := hide hr
 clear hd hr hn
 go_enter Tryz.func31, Tryz.ntmps31
 go_wp2_with fail
 go_loopw [7] (fun i wr => ∃ k : Nat, k <= n /\ i = .int .i64 (k : Int) /\ Hid (Below w.heap.size w wr) /\ Hid ((d.take k).all ChV.good = true)) (fun i _ => n - (intOf i).toNat)
 case atStart => exact ⟨0, by omega, rfl, Below.refl _ _, rfl⟩
 case round =>
 obtain ⟨k, hk, rfl, BW, AL⟩ := hrel
 by_cases hlt : k < n
 ·have hkd : k < d.length := by have := HN.out; omega
  obtain ⟨b, off, cap', hv, hcap, hb, hc⟩ := HD.out.at gD k d[k] (List.getElem?_eq_getElem hkd)
  injection hv with hv1 hv2 hv3
  subst hv1 hv3
  obtain ⟨t0, t1, t2⟩ := Gd hc
  have u0 := (BW.out.cell (p := ⟨b, off + k * 3, none⟩) hb).trans t0
  have u1 := (BW.out.cell (p := ⟨b, off + k * 3 + 1, none⟩) hb).trans t1
  have u2 := (BW.out.cell (p := ⟨b, off + k * 3 + 2, none⟩) hb).trans t2
  have hkI : (k : Int) < (n : Int) := by omega
  have hk0 : (0 : Int) <= (k : Int) := by omega
  obtain ⟨x, hx⟩ : ∃ x, x = d[k] := ⟨_, rfl⟩
  rw [<- hx] at u0 u1 u2
  have AT : Hid (d[k]? = some x) := by rw [hx]; exact List.getElem?_eq_getElem hkd
  obtain ⟨ka, kn, kc, va, vn, vc, dr⟩ := x
  simp only at u0 u1 u2
  clear t0 t1 t2 hc hx hv2 hcap
  go_upto_region 4 with fail
  obtain ⟨W, hW⟩ : ∃ W, W = wr.alloc (.cells #[.slice ka kn kc, .slice va vn vc, .bool dr] 77) := ⟨_, rfl⟩
  rw [<- hW]
  have bW : Below wr.heap.size wr W := by rw [hW]; exact ba ..
  have rW : W.heap[wr.heap.size]? = some (.cells #[.slice ka kn kc, .slice va vn vc, .bool dr] 77 (0, 0)) := by rw [hW]; exact heap_alloc_new _ _
  obtain ⟨gb, hgb⟩ : ∃ gb, gb = wr.heap.size := ⟨_, rfl⟩
  rw [<- hgb] at rW ⊢
  obtain ⟨x0, x1, x2⟩ := iE rW
  have BWW := hide (BW.out.trans (bW.mono BW.out.size))
  clear hW bW rW hgb u0 u1 u2 BW
  have NO : Hid (¬ (1 <= kn /\ kn <= 40 /\ vn <= 400) -> r = false) := fun hno => by
   rw [HR.out]
   have : d.all ChV.good = false := by
    rw [List.all_eq_false]
    refine ⟨_, List.mem_of_getElem? AT.out, ?_⟩
    simp [ChV.good]
    omega
   rw [this]
   rfl
  by_cases h1 : kn < 1
  ·have q1 : decide ((kn : Int) < 1) = true := decide_eq_true (by omega)
   have q2 : (kn : Int) < 1 := by omega
   have q3 : (kn : Int) = 0 := by omega
   have hr0 := NO.out (by omega)
   subst hr0
   clear q3
   go_wp2_with fail
   go_ret
   exact ⟨rfl, BWW.out⟩
  ·have q1 : decide ((kn : Int) < 1) = false := decide_eq_false (by omega)
   have q2 : ¬ (kn : Int) < 1 := by omega
   by_cases h2 : 40 < kn
   ·have q3 : decide ((40 : Int) < (kn : Int)) = true := decide_eq_true (by omega)
    have q4 : (40 : Int) < (kn : Int) := by omega
    have hr0 := NO.out (by omega)
    subst hr0
    go_wp2_with fail
    go_ret
    exact ⟨rfl, BWW.out⟩
   ·have q3 : decide ((40 : Int) < (kn : Int)) = false := decide_eq_false (by omega)
    have q4 : ¬ (40 : Int) < (kn : Int) := by omega
    by_cases h3 : 400 < vn
    ·have q5 : decide ((400 : Int) < (vn : Int)) = true := decide_eq_true (by omega)
     have q6 : (400 : Int) < (vn : Int) := by omega
     have hr0 := NO.out (by omega)
     subst hr0
     go_wp2_with fail
     go_ret
     exact ⟨rfl, BWW.out⟩
    ·have q5 : decide ((400 : Int) < (vn : Int)) = false := decide_eq_false (by omega)
     have q6 : ¬ (400 : Int) < (vn : Int) := by omega
     have AL2 : Hid ((d.take (k + 1)).all ChV.good = true) := by
      show (d.take (k + 1)).all ChV.good = true
      rw [List.take_add_one, AT.out, List.all_append, AL.out]
      simp [ChV.good]
      omega
     go_wp2_with fail
     go_roundw
     case rel => exact ⟨k + 1, by omega, by go_num, BWW, AL2⟩
     case measure => simp [intOf]; omega
 ·obtain rfl : k = n := by omega
  have HRR : Hid (r = decide (k <= 80)) := by
   show r = decide (k <= 80)
   have e : d.take k = d := List.take_of_length_le (by have := HN.out; omega)
   have a := AL.out
   rw [e] at a
   rw [HR.out, a, HN.out, Bool.true_and]
  go_wp2_with fail
  go_ret
  refine ⟨?_, BW.out⟩
  rw [HRR.out]
  simp
  try omega
namespace S
structure Cg where
 key : List UInt8
 val : List UInt8
 dr : Bool
def mrg : List Ent -> List Cg -> List Ent
 | es, [] => es
 | es, c :: l => es.take (rank (es.map (·.key)) c.key) ++ ((if c.dr then [] else [⟨c.key, c.val, 0⟩]) ++ mrg (es.drop (rank (es.map (·.key)) c.key + if c.key ∈ es.map (·.key) then 1 else 0)) l)
theorem vL (ks : List (List UInt8)) (k : List UInt8) : rank ks k <= ks.length := List.countP_le_length
end S
structure zW (w : World) (x : ChV) (c : S.Cg) : Prop where
 key : SliceAt w (.slice x.ka x.kn x.kc) c.key
 val : SliceAt w (.slice x.va x.vn x.vc) c.val
 dr : x.dr = c.dr
def dL (w : World) (d : List ChV) (cs : List S.Cg) : Prop := d.length = cs.length /\ ∀ (i : Nat) x c, d[i]? = some x -> cs[i]? = some c -> zW w x c
theorem zW.below {w W : World} {x : ChV} {c : S.Cg} (h : zW w x c) (hb : Below w.heap.size w W) : zW W x c := ⟨h.key.below hb (lr _), h.val.below hb (lr _), h.dr⟩
theorem dL.below {w W : World} {d : List ChV} {cs : List S.Cg} (h : dL w d cs) (hb : Below w.heap.size w W) : dL W d cs := ⟨h.1, fun i x e hx he => (h.2 i x e hx he).below hb⟩
theorem aX.app {w : World} {d d' : List EnV} {es es' : List S.Ent} (h : aX w d es) (h' : aX w d' es') : aX w (d ++ d') (es ++ es') := by
 refine ⟨by rw [List.length_append, List.length_append, h.1, h'.1], fun i x e hx he => ?_⟩
 by_cases hi : i < d.length
 ·rw [List.getElem?_append_left hi] at hx
  rw [List.getElem?_append_left (by rw [<- h.1]; exact hi)] at he
  exact h.2 i x e hx he
 ·rw [List.getElem?_append_right (by omega)] at hx
  rw [List.getElem?_append_right (by have := h.1; omega), <- h.1] at he
  exact h'.2 _ x e hx he
theorem aX.take {w : World} {d : List EnV} {es : List S.Ent} (h : aX w d es) (n : Nat) : aX w (d.take n) (es.take n) := by
 refine ⟨by rw [List.length_take, List.length_take, h.1], fun i x e hx he => ?_⟩
 rw [List.getElem?_take] at hx he
 split at hx
 ·rename_i hi; rw [if_pos hi] at he; exact h.2 i x e hx he
 ·cases hx
theorem aX.drop {w : World} {d : List EnV} {es : List S.Ent} (h : aX w d es) (n : Nat) : aX w (d.drop n) (es.drop n) := by
 refine ⟨by rw [List.length_drop, List.length_drop, h.1], fun i x e hx he => ?_⟩
 rw [List.getElem?_drop] at hx he
 exact h.2 _ x e hx he
theorem aX.one {w : World} {x : EnV} {e : S.Ent} (h : nG w x e) : aX w [x] [e] := by
 refine ⟨rfl, fun i y f hy hf => ?_⟩
 match i, hy, hf with
 | 0, hy, hf => simp at hy hf; subst hy hf; exact h
 | i + 1, hy, hf => simp at hy
theorem CJ (d : List EnV) (i j : Nat) (hi : i <= d.length) : ((d.drop i).flatMap aR)[j]? = (d.flatMap aR)[i * 4 + j]? := by
 conv => rhs; rw [<- List.take_append_drop i d]
 rw [List.flatMap_append, List.getElem?_append_right (by rw [iC, List.length_take]; omega), iC, List.length_take]
 congr 1
 omega
theorem CG (d : List EnV) (i j : Nat) (u : Value) (h : ((d.take i).flatMap aR)[j]? = some u) : (d.flatMap aR)[j]? = some u := by
 rw [<- List.take_append_drop i d, List.flatMap_append]
 rw [List.getElem?_append_left (List.getElem?_eq_some_iff.1 h).1]
 exact h
theorem qZ : Tryz.prog.underlying 96 = some (.slice (Tryz.prog.elem 96)) := by simp [Program.elem, Tryz.underlying96]
theorem sz126 (W : World) : (sizeOf 95).run Tryz.prog W = .ok 4 W := by
 obtain ⟨i, hi, hz0, hz1, hz2⟩ := info_parts Av
 go_simp

theorem vF (W : World) : (sizeOf (Tryz.prog.elem 96)).run Tryz.prog W = .ok 4 W := by
 have e : Tryz.prog.elem 96 = 95 := by simp [Program.elem, Tryz.underlying96]
 rw [e]
 exact sz126 W
theorem sO {w : World} {ao : Option Addr} {n cap : Nat} {d : List EnV} (h : Els aR w (.slice ao n cap) d) (i : Nat) (hi : i <= n) :
  ∃ ao' cap', (∀ W, (Instr.slice 96 (.slice ao n cap) (some (.int .i64 (i : Int))) none none).run Tryz.prog W = .ok (.slice ao' (n - i) cap') W) /\ Els aR w (.slice ao' (n - i) cap') (d.drop i) := by
 refine ⟨if cap = i then ao else ao.map (·.add (i * 4)), cap - i, fun W => ?_, ?_⟩
 ·rw [run_slice_l W 96 ao n cap qZ .i64 _ (by omega) (by omega), vF]
  rfl
 ·rcases h with ⟨h, rfl⟩ | ⟨a, c, h, rfl⟩ | ⟨b, off, c, h, h1, h2, h3, h4⟩
  ·injection h with ha hb hc
   subst ha hb hc
   obtain rfl : i = 0 := by omega
   exact Or.inl ⟨rfl, rfl⟩
  ·injection h with ha hb hc
   subst ha hb hc
   obtain rfl : i = 0 := by omega
   rw [List.drop_nil]
   split
   ·exact Or.inr (Or.inl ⟨_, _, rfl, rfl⟩)
   ·exact Or.inr (Or.inl ⟨_, _, rfl, rfl⟩)
  ·injection h with ha hb hc
   subst ha hb hc
   by_cases hc : cap = i
   ·rw [if_pos hc]
    have e : d.drop i = [] := List.drop_eq_nil_of_le (by omega)
    rw [e, show d.length - i = 0 by omega]
    exact Or.inr (Or.inl ⟨_, _, rfl, rfl⟩)
   ·rw [if_neg hc]
    refine Or.inr (Or.inr ⟨b, off + i * 4, cap - i, ?_, ?_, ?_, h3, fun j u hu => ?_⟩)
    ·rw [List.length_drop]; simp [Addr.add_lit]
    ·rw [List.length_drop]; omega
    ·rw [List.length_drop]; omega
    ·rw [CJ d i j hi] at hu
     rw [Nat.add_assoc]
     exact h4 _ u hu
theorem F3 {w : World} {ao : Option Addr} {n cap : Nat} {d : List EnV} (h : Els aR w (.slice ao n cap) d) (i : Nat) (hi : i <= n) :
  ∃ ao' cap', (∀ W, (Instr.slice 96 (.slice ao n cap) none (some (.int .i64 (i : Int))) none).run Tryz.prog W = .ok (.slice ao' i cap') W) /\ Els aR w (.slice ao' i cap') (d.take i) := by
 have hcap : n <= cap := by
  rcases h with ⟨h, rfl⟩ | ⟨a, c, h, rfl⟩ | ⟨b, off, c, h, h1, h2, h3, h4⟩ <;> injection h with ha hb hc <;> omega
 refine ⟨if cap = 0 then ao else ao.map (·.add (0 * 4)), cap, fun W => ?_, ?_⟩
 ·rw [run_slice_h W 96 ao n cap qZ .i64 _ (by omega) (by omega), vF]
  rfl
 ·rcases h with ⟨h, rfl⟩ | ⟨a, c, h, rfl⟩ | ⟨b, off, c, h, h1, h2, h3, h4⟩
  ·injection h with ha hb hc
   subst ha hb hc
   obtain rfl : i = 0 := by omega
   exact Or.inl ⟨rfl, rfl⟩
  ·injection h with ha hb hc
   subst ha hb hc
   obtain rfl : i = 0 := by omega
   rw [List.take_nil]
   split
   ·exact Or.inr (Or.inl ⟨_, _, rfl, rfl⟩)
   ·exact Or.inr (Or.inl ⟨_, _, rfl, rfl⟩)
  ·injection h with ha hb hc
   subst ha hb hc
   by_cases hc : cap = 0
   ·obtain rfl : i = 0 := by omega
    rw [if_pos hc]
    exact Or.inr (Or.inl ⟨_, _, rfl, rfl⟩)
   ·rw [if_neg hc]
    have e : (d.take i).length = i := by rw [List.length_take]; omega
    refine Or.inr (Or.inr ⟨b, off, cap, ?_, ?_, ?_, h3, fun j u hu => h4 j u (CG d i j u hu)⟩)
    ·rw [e]; simp [Addr.add_lit]
    ·omega
    ·omega
structure Mg (w wr : World) (d : List EnV) (dc : List ChV) (vp vo : Value) (k : Nat) (es : List S.Ent) (cs : List S.Cg) : Prop where
 is : ∃ dp ep dd eo, Els aR w vp dp /\ (∀ W, aX W d es -> dL W dc cs -> aX W dp ep) /\ (∀ x ∈ dp, x.nd = none) /\ S.up (ep.map (·.key)) /\ bG w.heap.size wr vo dd /\ (∀ W, aX W d es -> dL W dc cs -> aX W dd eo) /\ (∀ x ∈ dd, x.nd = none) /\ eo.length + ep.length <= es.length + k /\ eo ++ S.mrg ep (cs.drop k) = S.mrg es cs
 base : Below w.heap.size w wr
set_option maxHeartbeats 4000000 in
set_option maxRecDepth 10000 in
theorem zl (v l : Value) (d : List EnV) (es : List S.Ent) (dc : List ChV) (cs : List S.Cg) (w : World) (hd : Els aR w v d) (he : aX w d es) (hnd : ∀ x ∈ d, x.nd = none) (hu : S.up (es.map (·.key)))
  (hl : Els bg w l dc) (hc : dL w dc cs) (hlen : es.length + cs.length <= 10000) :
  Calls Tryz.prog 84 #[v, l] w fun e w' => ∃ u d', e = .returned u /\ bG w.heap.size w' u d' /\ (∀ W, aX W d es -> dL W dc cs -> aX W d' (S.mrg es cs)) /\ (∀ x ∈ d', x.nd = none) /\ Below w.heap.size w w' := by
 have M0 : Hid (Mg w w d dc v (.slice none 0 0) 0 es cs) := ⟨⟨d, es, [], [], hd, fun _ a _ => a, hnd, hu, bG.nil _ _, fun _ _ _ => ⟨rfl, fun i x e hx => by simp at hx⟩, by simp, by simp, by simp⟩, Below.refl _ _⟩
 have HL := hide hl
 have HEE := hide he
 have HC := hide hc
 obtain ⟨vo, Bf, rfl, _⟩ := hd.form
 obtain ⟨lo, lcap, rfl, hbig⟩ := hl.form
 obtain ⟨n, hn⟩ : ∃ n, n = dc.length := ⟨_, rfl⟩
 obtain ⟨vn, hvn⟩ : ∃ vn, vn = d.length := ⟨_, rfl⟩
 rw [<- hn] at hbig ⊢
 rw [<- hvn] at M0 ⊢
 have HN := hide hn
 have NC : Hid (n = cs.length) := by rw [hn]; exact hc.1
 have HLEN := hide hlen
 clear hd he hnd hu hl hc hlen hn hvn
 go_enter Tryz.func84, Tryz.ntmps84
 go_wp2_with fail
 go_loopw [0, 5, 13] (fun a b i wr => ∃ k : Nat, k <= n /\ i = .int .i64 (k : Int) /\ (∃ ao x y, a = .slice ao x y) /\ (∃ bo x y, b = .slice bo x y) /\ Hid (Mg w wr d dc a b k es cs)) (fun _ _ i _ => n - (intOf i).toNat)
 case atStart => exact ⟨0, by omega, rfl, ⟨_, _, _, rfl⟩, ⟨_, _, _, rfl⟩, M0⟩
 case round =>
 clear M0
 obtain ⟨k, hk, rfl, ⟨ao, pn, pc, rfl⟩, ⟨bo, on, oc, rfl⟩, M⟩ := hrel
 obtain ⟨dp, ep, dd, eo, m1, m2, m3, m4, m5, m6, m7, m8, m9⟩ := M.out.is
 have BW := hide M.out.base
 have M1 := hide m1
 have M2g := hide m2
 have M2 := hide (m2 w HEE.out HC.out)
 have M3 := hide m3
 have M4 := hide m4
 have M5 := hide m5
 have M6g := hide m6
 have M6 := hide (m6 w HEE.out HC.out)
 have M7 := hide m7
 have M8 := hide m8
 have M9 := hide m9
 have PN : Hid (pn = ep.length) := by
  obtain ⟨_, _, e, _⟩ := m1.form
  injection e with _ e _
  rw [e]; exact M2.out.1
 clear m1 m2 m3 m4 m5 m6 m7 m8 m9 M
 by_cases hlt : k < n
 ·have hkd : k < dc.length := by have := HN.out; omega
  have hkc : k < cs.length := by have := NC.out; omega
  obtain ⟨b, off, cap', hv, hcap, hb, hcl⟩ := HL.out.at gD k dc[k] (List.getElem?_eq_getElem hkd)
  have CI := hide (HC.out.2 k dc[k] cs[k] (List.getElem?_eq_getElem hkd) (List.getElem?_eq_getElem hkc))
  injection hv with hv1 hv2 hv3
  subst hv1 hv3
  obtain ⟨t0, t1, t2⟩ := Gd hcl
  have u0 := (BW.out.cell (p := ⟨b, off + k * 3, none⟩) hb).trans t0
  have u1 := (BW.out.cell (p := ⟨b, off + k * 3 + 1, none⟩) hb).trans t1
  have u2 := (BW.out.cell (p := ⟨b, off + k * 3 + 2, none⟩) hb).trans t2
  have hkI : (k : Int) < (n : Int) := by omega
  have hk0 : (0 : Int) <= (k : Int) := by omega
  obtain ⟨x, hx⟩ : ∃ x, x = dc[k] := ⟨_, rfl⟩
  rw [<- hx] at u0 u1 u2 CI
  obtain ⟨c, hc⟩ : ∃ c, c = cs[k] := ⟨_, rfl⟩
  rw [<- hc] at CI
  have DR : Hid (cs.drop k = c :: cs.drop (k + 1)) := by rw [hc]; exact List.drop_eq_getElem_cons hkc
  have CIg : Hid (∀ W, dL W dc cs -> zW W x c) := fun W h => h.2 k x c (by rw [hx]; exact List.getElem?_eq_getElem hkd) (by rw [hc]; exact List.getElem?_eq_getElem hkc)
  obtain ⟨ka, kn, kc, va, vn', vc, dr⟩ := x
  simp only at u0 u1 u2
  have DRC : Hid (dr = c.dr) := CI.out.dr
  have CK : Hid (SliceAt w (.slice ka kn kc) c.key) := CI.out.key
  have CV : Hid (SliceAt w (.slice va vn' vc) c.val) := CI.out.val
  clear t0 t1 t2 hcl hx hc hv2 hcap CI
  go_upto_region 5 with fail
  obtain ⟨W, hW⟩ : ∃ W, W = wr.alloc (.cells #[.slice ka kn kc, .slice va vn' vc, .bool dr] 77) := ⟨_, rfl⟩
  rw [<- hW]
  have bW : Below wr.heap.size wr W := by rw [hW]; exact ba ..
  have rW : W.heap[wr.heap.size]? = some (.cells #[.slice ka kn kc, .slice va vn' vc, .bool dr] 77 (0, 0)) := by rw [hW]; exact heap_alloc_new _ _
  obtain ⟨gb, hgb⟩ : ∃ gb, gb = wr.heap.size := ⟨_, rfl⟩
  rw [<- hgb] at rW ⊢
  have RW := hide rW
  have M5W := hide (M5.out.below bW)
  have BWW := hide (BW.out.trans (bW.mono BW.out.size))
  clear hW bW rW hgb u0 u1 u2 BW M5
  go_upto_region 6 with fail
  obtain ⟨X, hX⟩ : ∃ X, X = W.alloc (.cells #[.int .i64 0, .slice ao pn pc] 98) := ⟨_, rfl⟩
  rw [<- hX]
  have bX : Below W.heap.size W X := by rw [hX]; exact ba ..
  have rX : X.heap[W.heap.size]? = some (.cells #[.int .i64 0, .slice ao pn pc] 98 (0, 0)) := by rw [hX]; exact heap_alloc_new _ _
  obtain ⟨gc, hgc⟩ : ∃ gc, gc = W.heap.size := ⟨_, rfl⟩
  rw [<- hgc] at rX ⊢
  have RX := hide ((bX.block gb (aa RW.out)).trans RW.out)
  have M5X := hide (M5W.out.below bX)
  have BWX := hide (BWW.out.trans (bX.mono BWW.out.size))
  have NX : Hid (gT X gc 0 ep) := ⟨_, dp, rX, M1.out.below (BWX.out), M2.out.below BWX.out⟩
  obtain ⟨x0, x1, x2⟩ := iE RX.out
  clear hX bX rX hgc RW M5W BWW
  go_upto_region 7 with fail
  refine (sM gc 0 _ ep c.key X NX.out (CK.out.below BWX.out (lr _)) M4.out).mono ?_
  rintro e Y ⟨rfl, b2⟩
  have RY := hide ((b2.block gb (aa RX.out)).trans RX.out)
  have M5Y := hide (M5X.out.below b2)
  have BWY := hide (BWX.out.trans (b2.mono BWX.out.size))
  obtain ⟨i, hi⟩ : ∃ i, i = S.rank (ep.map (·.key)) c.key := ⟨_, rfl⟩
  obtain ⟨fo, hfo⟩ : ∃ fo, fo = decide (c.key ∈ ep.map (·.key)) := ⟨_, rfl⟩
  rw [<- hi, <- hfo]
  have HI := hide hi
  have HFO := hide hfo
  have IL : Hid (i <= pn) := by rw [hi]; have := S.vL (ep.map (·.key)) c.key; rw [List.length_map] at this; have := PN.out; show S.rank _ _ <= pn; omega
  have FP : Hid (fo = true -> i < pn) := fun h => by
   rw [HFO.out] at h
   have hm := of_decide_eq_true h
   have h1 := IL.out
   have h2 : i ≠ pn := fun e => by
    have h3 : (ep.map (·.key)).countP (fun a => decide (S.bU a c.key < 0)) = (ep.map (·.key)).length := by rw [List.length_map, <- PN.out, <- e]; exact HI.out.symm
    have h4 := List.countP_eq_length.1 h3 _ hm
    rw [S.bY] at h4
    simp at h4
   omega
  clear b2 hi hfo x0 x1 x2 NX RX M5X BWX
  go_upto_region 7 with fail
  obtain ⟨ua, uc, SL1, EL1⟩ := F3 M1.out i IL.out
  obtain ⟨fa, fc, SL2, EL2⟩ := sO M1.out i IL.out
  have E1 := hide EL1
  have E2 := hide EL2
  clear EL1 EL2
  have APP := hide (bM Y w.heap.size (.slice bo on oc) (.slice ua i uc) dd (dp.take i) 96 M5Y.out (E1.out.below BWY.out) (by have h1 := M8.out; have h2 := M6.out.1; have h3 := HLEN.out; have h4 := NC.out; have h5 := M2.out.1; rw [List.length_take]; omega) BWY.out.size)
  go_upto_region 8 with (at_builtin; (refine aA rfl (.tmp 25) (.tmp 28) 96 96 rfl _ _ rfl rfl APP.out ?_; rintro v4 Z2 ⟨e4, c4⟩; have E4 := hide e4; have C4 := hide c4; clear e4 c4))
  have RY2 : Hid (Z2.heap[gb]? = some (.cells #[.slice ka kn kc, .slice va vn' vc, .bool dr] 77 (0, 0))) := C4.out.row RY.out (M5Y.out.apart RY.out (by decide))
  have BW2 : Hid (Below w.heap.size w Z2) := BWY.out.trans (C4.out.below _ BWY.out.size (fun j hj e => by have := (M5Y.out.blk e).1; omega))
  clear C4 APP RY M5Y BWY SL1
  obtain ⟨x0, x1, x2⟩ := iE RY2.out
  obtain ⟨pn2, hpn2⟩ : ∃ pn2, pn2 = pn - i := ⟨_, rfl⟩
  rw [<- hpn2] at SL2 E2
  have HP2 := hide hpn2
  clear hpn2
  cases hfo : fo with
  | true =>
   subst hfo
   have hp1 : Hid (1 <= pn2) := by have := FP.out rfl; have := HP2.out; show 1 <= pn2; omega
   obtain ⟨ga, gcp, SL3', EL3⟩ := sO E2.out 1 hp1.out
   have SL3 : ∀ W, (Instr.slice 96 (.slice fa pn2 fc) (some (.int .i64 1)) none none).run Tryz.prog W = .ok (.slice ga (pn2 - 1) gcp) W := SL3'
   have E3 : Hid (Els aR w (.slice ga (pn2 - 1) gcp) (dp.drop (i + 1))) := by rw [List.drop_drop] at EL3; exact EL3
   have MR : Hid (S.mrg ep (cs.drop k) = ep.take i ++ ((if c.dr then [] else [⟨c.key, c.val, 0⟩]) ++ S.mrg (ep.drop (i + 1)) (cs.drop (k + 1)))) := by
    show S.mrg ep (cs.drop k) = _
    rw [DR.out, S.mrg, <- HI.out, if_pos (of_decide_eq_true HFO.out.symm)]
   clear EL3 SL3'
   obtain ⟨pn3, hpn3⟩ : ∃ pn3, pn3 = pn2 - 1 := ⟨_, rfl⟩
   rw [<- hpn3] at SL3 E3
   clear hpn3 hp1
   cases hdr : dr with
   | false =>
    subst hdr
    obtain ⟨Y3, hY3⟩ : ∃ Y3 : EnV, Y3 = ⟨ka, kn, kc, va, vn', vc, 0, none⟩ := ⟨_, rfl⟩
    obtain ⟨Z3, hZ3⟩ : ∃ Z3, Z3 = Z2.alloc (.cells #[.slice ka kn kc, .slice va vn' vc, .int .i64 0, .pointer none] 95) := ⟨_, rfl⟩
    have HZ3 := hide hZ3
    have b3 : Below Z2.heap.size Z2 Z3 := by rw [hZ3]; exact ba ..
    have r3 : Z3.heap[Z2.heap.size]? = some (.cells (aR Y3).toArray 95 (0, 0)) := by rw [hZ3, hY3]; exact heap_alloc_new _ _
    have BW3 := hide (BW2.out.trans (b3.mono BW2.out.size))
    have M53 := hide (E4.out.below b3)
    have EI : Hid (∀ W, dL W dc cs -> nG W Y3 ⟨c.key, c.val, 0⟩) := fun W h => by rw [hY3]; exact ⟨(CIg.out W h).key, (CIg.out W h).val, rfl⟩
    have YN : Hid (Y3.nd = none) := by rw [hY3]; rfl
    have APP := hide (bM Z3 w.heap.size v4 (.slice (some ⟨Z2.heap.size, 0, none⟩) 1 1) (dd ++ dp.take i) [Y3] 96 M53.out (kr r3) (by have h1 := M8.out; have h2 := M6.out.1; have h3 := HLEN.out; have h4 := NC.out; have h5 := M2.out.1; rw [List.length_append, List.length_take]; simp; omega) BW3.out.size)
    clear b3 r3 hZ3 hY3
    go_wp2_with (at_builtin; (rw [<- HZ3.out]; refine aA rfl (.tmp 39) (.tmp 45) 96 96 rfl _ _ rfl rfl APP.out ?_; rintro v5 Z4 ⟨e5, c5⟩; have E5 := hide e5; have C5 := hide c5; clear e5 c5))
    have BW4 : Hid (Below w.heap.size w Z4) := BW3.out.trans (C5.out.below _ BW3.out.size (fun j hj e => by have := (M53.out.blk e).1; omega))
    have MM : Hid (Mg w Z4 d dc (.slice ga pn3 gcp) v5 (k + 1) es cs) := by
     refine ⟨⟨dp.drop (i + 1), ep.drop (i + 1), dd ++ dp.take i ++ [Y3], eo ++ ep.take i ++ [⟨c.key, c.val, 0⟩], E3.out, fun W a b => (M2g.out W a b).drop _, fun x hx => M3.out x (List.mem_of_mem_drop hx), ?_, E5.out, fun W a b => ((M6g.out W a b).app ((M2g.out W a b).take i)).app (aX.one (EI.out W b)), ?_, ?_, ?_⟩, BW4.out⟩
     ·rw [List.map_drop]; exact List.Pairwise.sublist (List.drop_sublist _ _) M4.out
     ·intro x hx
      rcases List.mem_append.1 hx with hx | hx
      ·rcases List.mem_append.1 hx with hx | hx
       ·exact M7.out x hx
       ·exact M3.out x (List.mem_of_mem_take hx)
      ·simp at hx; rw [hx]; exact YN.out
     ·have h1 := M8.out; have h2 := IL.out; have h3 := PN.out
      simp only [List.length_append, List.length_take, List.length_drop, List.length_cons, List.length_nil]
      omega
     ·rw [<- M9.out, MR.out, <- DRC.out]
      simp [List.append_assoc]
    obtain ⟨o5, oc5, hv5⟩ := E5.out.form
    subst hv5
    obtain ⟨n5, hn5⟩ : ∃ n5, n5 = (dd ++ dp.take i ++ [Y3]).length := ⟨_, rfl⟩
    rw [<- hn5] at MM ⊢
    clear hn5 E5 C5 APP M53 BW3 E4
    go_wp2_with fail
    go_roundw
    case rel => exact ⟨k + 1, by omega, by go_num, ⟨_, _, _, rfl⟩, ⟨_, _, _, rfl⟩, MM⟩
    case measure => simp [intOf]; omega
   | true =>
    subst hdr
    have MM : Hid (Mg w Z2 d dc (.slice ga pn3 gcp) v4 (k + 1) es cs) := by
     refine ⟨⟨dp.drop (i + 1), ep.drop (i + 1), dd ++ dp.take i, eo ++ ep.take i, E3.out, fun W a b => (M2g.out W a b).drop _, fun x hx => M3.out x (List.mem_of_mem_drop hx), ?_, E4.out, fun W a b => (M6g.out W a b).app ((M2g.out W a b).take i), ?_, ?_, ?_⟩, BW2.out⟩
     ·rw [List.map_drop]; exact List.Pairwise.sublist (List.drop_sublist _ _) M4.out
     ·intro x hx
      rcases List.mem_append.1 hx with hx | hx
      ·exact M7.out x hx
      ·exact M3.out x (List.mem_of_mem_take hx)
     ·have h1 := M8.out; have h2 := IL.out; have h3 := PN.out
      simp only [List.length_append, List.length_take, List.length_drop]
      omega
     ·rw [<- M9.out, MR.out, <- DRC.out]
      simp [List.append_assoc]
    obtain ⟨o5, oc5, hv5⟩ := E4.out.form
    subst hv5
    obtain ⟨n5, hn5⟩ : ∃ n5, n5 = (dd ++ dp.take i).length := ⟨_, rfl⟩
    rw [<- hn5] at MM ⊢
    clear hn5 E4
    go_wp2_with fail
    go_roundw
    case rel => exact ⟨k + 1, by omega, by go_num, ⟨_, _, _, rfl⟩, ⟨_, _, _, rfl⟩, MM⟩
    case measure => simp [intOf]; omega
  | false =>
   subst hfo
   have MR : Hid (S.mrg ep (cs.drop k) = ep.take i ++ ((if c.dr then [] else [⟨c.key, c.val, 0⟩]) ++ S.mrg (ep.drop i) (cs.drop (k + 1)))) := by
    show S.mrg ep (cs.drop k) = _
    rw [DR.out, S.mrg, <- HI.out, if_neg (of_decide_eq_false HFO.out.symm)]
    rfl
   cases hdr : dr with
   | false =>
    subst hdr
    obtain ⟨Y3, hY3⟩ : ∃ Y3 : EnV, Y3 = ⟨ka, kn, kc, va, vn', vc, 0, none⟩ := ⟨_, rfl⟩
    obtain ⟨Z3, hZ3⟩ : ∃ Z3, Z3 = Z2.alloc (.cells #[.slice ka kn kc, .slice va vn' vc, .int .i64 0, .pointer none] 95) := ⟨_, rfl⟩
    have HZ3 := hide hZ3
    have b3 : Below Z2.heap.size Z2 Z3 := by rw [hZ3]; exact ba ..
    have r3 : Z3.heap[Z2.heap.size]? = some (.cells (aR Y3).toArray 95 (0, 0)) := by rw [hZ3, hY3]; exact heap_alloc_new _ _
    have BW3 := hide (BW2.out.trans (b3.mono BW2.out.size))
    have M53 := hide (E4.out.below b3)
    have EI : Hid (∀ W, dL W dc cs -> nG W Y3 ⟨c.key, c.val, 0⟩) := fun W h => by rw [hY3]; exact ⟨(CIg.out W h).key, (CIg.out W h).val, rfl⟩
    have YN : Hid (Y3.nd = none) := by rw [hY3]; rfl
    have APP := hide (bM Z3 w.heap.size v4 (.slice (some ⟨Z2.heap.size, 0, none⟩) 1 1) (dd ++ dp.take i) [Y3] 96 M53.out (kr r3) (by have h1 := M8.out; have h2 := M6.out.1; have h3 := HLEN.out; have h4 := NC.out; have h5 := M2.out.1; rw [List.length_append, List.length_take]; simp; omega) BW3.out.size)
    clear b3 r3 hZ3 hY3
    go_wp2_with (at_builtin; (rw [<- HZ3.out]; refine aA rfl (.tmp 39) (.tmp 45) 96 96 rfl _ _ rfl rfl APP.out ?_; rintro v5 Z4 ⟨e5, c5⟩; have E5 := hide e5; have C5 := hide c5; clear e5 c5))
    have BW4 : Hid (Below w.heap.size w Z4) := BW3.out.trans (C5.out.below _ BW3.out.size (fun j hj e => by have := (M53.out.blk e).1; omega))
    have MM : Hid (Mg w Z4 d dc (.slice fa pn2 fc) v5 (k + 1) es cs) := by
     refine ⟨⟨dp.drop (i), ep.drop (i), dd ++ dp.take i ++ [Y3], eo ++ ep.take i ++ [⟨c.key, c.val, 0⟩], E2.out, fun W a b => (M2g.out W a b).drop _, fun x hx => M3.out x (List.mem_of_mem_drop hx), ?_, E5.out, fun W a b => ((M6g.out W a b).app ((M2g.out W a b).take i)).app (aX.one (EI.out W b)), ?_, ?_, ?_⟩, BW4.out⟩
     ·rw [List.map_drop]; exact List.Pairwise.sublist (List.drop_sublist _ _) M4.out
     ·intro x hx
      rcases List.mem_append.1 hx with hx | hx
      ·rcases List.mem_append.1 hx with hx | hx
       ·exact M7.out x hx
       ·exact M3.out x (List.mem_of_mem_take hx)
      ·simp at hx; rw [hx]; exact YN.out
     ·have h1 := M8.out; have h2 := IL.out; have h3 := PN.out
      simp only [List.length_append, List.length_take, List.length_drop, List.length_cons, List.length_nil]
      omega
     ·rw [<- M9.out, MR.out, <- DRC.out]
      simp [List.append_assoc]
    obtain ⟨o5, oc5, hv5⟩ := E5.out.form
    subst hv5
    obtain ⟨n5, hn5⟩ : ∃ n5, n5 = (dd ++ dp.take i ++ [Y3]).length := ⟨_, rfl⟩
    rw [<- hn5] at MM ⊢
    clear hn5 E5 C5 APP M53 BW3 E4
    go_wp2_with fail
    go_roundw
    case rel => exact ⟨k + 1, by omega, by go_num, ⟨_, _, _, rfl⟩, ⟨_, _, _, rfl⟩, MM⟩
    case measure => simp [intOf]; omega
   | true =>
    subst hdr
    have MM : Hid (Mg w Z2 d dc (.slice fa pn2 fc) v4 (k + 1) es cs) := by
     refine ⟨⟨dp.drop (i), ep.drop (i), dd ++ dp.take i, eo ++ ep.take i, E2.out, fun W a b => (M2g.out W a b).drop _, fun x hx => M3.out x (List.mem_of_mem_drop hx), ?_, E4.out, fun W a b => (M6g.out W a b).app ((M2g.out W a b).take i), ?_, ?_, ?_⟩, BW2.out⟩
     ·rw [List.map_drop]; exact List.Pairwise.sublist (List.drop_sublist _ _) M4.out
     ·intro x hx
      rcases List.mem_append.1 hx with hx | hx
      ·exact M7.out x hx
      ·exact M3.out x (List.mem_of_mem_take hx)
     ·have h1 := M8.out; have h2 := IL.out; have h3 := PN.out
      simp only [List.length_append, List.length_take, List.length_drop]
      omega
     ·rw [<- M9.out, MR.out, <- DRC.out]
      simp [List.append_assoc]
    obtain ⟨o5, oc5, hv5⟩ := E4.out.form
    subst hv5
    obtain ⟨n5, hn5⟩ : ∃ n5, n5 = (dd ++ dp.take i).length := ⟨_, rfl⟩
    rw [<- hn5] at MM ⊢
    clear hn5 E4
    go_wp2_with fail
    go_roundw
    case rel => exact ⟨k + 1, by omega, by go_num, ⟨_, _, _, rfl⟩, ⟨_, _, _, rfl⟩, MM⟩
    case measure => simp [intOf]; omega
 ·obtain rfl : k = n := by omega
  have APP := hide (bM wr w.heap.size (.slice bo on oc) (.slice ao pn pc) dd dp 96 M5.out (M1.out.below BW.out) (by have h1 := M8.out; have h2 := M6.out.1; have h3 := HLEN.out; have h4 := NC.out; have h5 := M2.out.1; omega) BW.out.size)
  go_wp2_with (at_builtin; (refine aA rfl (.tmp 48) (.tmp 49) 96 96 rfl _ _ rfl rfl APP.out ?_; rintro v4 Z2 ⟨e4, c4⟩; have E4 := hide e4; have C4 := hide c4; clear e4 c4))
  have BW2 : Hid (Below w.heap.size w Z2) := BW.out.trans (C4.out.below _ BW.out.size (fun j hj e => by have := (M5.out.blk e).1; omega))
  have FIN : eo ++ ep = S.mrg es cs := by
   have h := M9.out
   rw [List.drop_of_length_le (by have := NC.out; omega)] at h
   simpa [S.mrg] using h
  have ND : ∀ x ∈ dd ++ dp, x.nd = none := fun x hx => (List.mem_append.1 hx).elim (M7.out x) (M3.out x)
  have EA : ∀ W, aX W d es -> dL W dc cs -> aX W (dd ++ dp) (S.mrg es cs) := fun W a b => by rw [<- FIN]; exact (M6g.out W a b).app (M2g.out W a b)
  obtain ⟨o4, oc4, hv4⟩ := E4.out.form
  subst hv4
  go_ret
  exact ⟨_, _, rfl, E4.out, EA, ND, BW2.out⟩
end Go.Proofs.YteealihknndclabGreatDoor
namespace Go.Proofs
open Go.Shelf Go.RowKit Go.Lib Go.Sort
shelf_lay_g SlLaysF0.n20 Slsf 20 at Tryz 136 as Tryz.insCh
end Go.Proofs
namespace Go.Proofs.YteealihknndclabGreatDoor
open Go.Shelf Go.RowKit Go.Lib
open Go.Sort (flatK size_flatK get_flatK HoldsK insertionSort insInner insOuter swp)

/-! Sorting goes through a map. -/
theorem qO {α β : Type} [Inhabited α] [Inhabited β] (f : α -> β) (d : Array α) (i : Nat) (h : i < d.size) : (d.map f)[i]! = f d[i]! := by
 rw [getElem!_pos d i h, getElem!_pos (d.map f) i (by simpa using h)]
 simp
theorem swp_size {α : Type} [Inhabited α] (d : Array α) (i j : Nat) : (swp d i j).size = d.size := by simp [swp]
theorem swp_map {α β : Type} [Inhabited α] [Inhabited β] (f : α -> β) (d : Array α) (i j : Nat) (hi : i < d.size) (hj : j < d.size) : (swp d i j).map f = swp (d.map f) i j := by
 unfold swp
 rw [qO f d i hi, qO f d j hj]
 simp [Array.map_setIfInBounds]
theorem sw {α : Type} [Inhabited α] (lt : α -> α -> Bool) (a j : Nat) (d : Array α) : (insInner lt a j d).size = d.size := by
 induction j generalizing d with
 | zero => rfl
 | succ j ih =>
  unfold insInner
  split
  ·rw [ih, swp_size]
  ·rfl
theorem Ch {α β : Type} [Inhabited α] [Inhabited β] (f : α -> β) (l1 : α -> α -> Bool) (l2 : β -> β -> Bool) (hl : ∀ x y, l2 (f x) (f y) = l1 x y) (a j : Nat) (d : Array α) (hj : j < d.size) : (insInner l1 a j d).map f = insInner l2 a j (d.map f) := by
 induction j generalizing d with
 | zero => rfl
 | succ j ih =>
  unfold insInner
  rw [qO f d (j + 1) hj, qO f d j (by omega), hl]
  by_cases h : (decide (j + 1 > a) && l1 d[j + 1]! d[j]!) = true
  ·rw [if_pos h, if_pos h, <- swp_map f d (j + 1) j hj (by omega)]
   exact ih _ (by rw [swp_size]; omega)
  ·rw [if_neg h, if_neg h]
theorem rQ {α : Type} [Inhabited α] (lt : α -> α -> Bool) (a b i : Nat) (d : Array α) (h : i < b) : insOuter lt a b i d = insOuter lt a b (i + 1) (insInner lt a i d) := by rw [insOuter, if_pos h]
theorem mV {α : Type} [Inhabited α] (lt : α -> α -> Bool) (a b i : Nat) (d : Array α) (h : ¬ i < b) : insOuter lt a b i d = d := by rw [insOuter, if_neg h]
theorem BK {α β : Type} [Inhabited α] [Inhabited β] (f : α -> β) (l1 : α -> α -> Bool) (l2 : β -> β -> Bool) (hl : ∀ x y, l2 (f x) (f y) = l1 x y) (a b : Nat) : ∀ (n i : Nat) (d : Array α), b - i = n -> b <= d.size -> (insOuter l1 a b i d).map f = insOuter l2 a b i (d.map f) := by
 intro n
 induction n with
 | zero =>
  intro i d hn _
  rw [mV _ _ _ _ _ (by omega), mV _ _ _ _ _ (by omega)]
 | succ n ih =>
  intro i d hn hb
  rw [rQ l1 a b i d (by omega), rQ l2 a b i (d.map f) (by omega), ih (i + 1) _ (by omega) (by rw [sw]; exact hb), Ch f l1 l2 hl a i d (by omega)]
theorem Eb {α β : Type} [Inhabited α] [Inhabited β] (f : α -> β) (l1 : α -> α -> Bool) (l2 : β -> β -> Bool) (hl : ∀ x y, l2 (f x) (f y) = l1 x y) (b : Nat) (d : Array α) (hb : b <= d.size) : (insertionSort l1 d 0 b).map f = insertionSort l2 (d.map f) 0 b := BK f l1 l2 hl 0 b _ 1 d rfl hb
theorem y7 {α : Type} [Inhabited α] (lt : α -> α -> Bool) (a b : Nat) : ∀ (n i : Nat) (d : Array α), b - i = n -> (insOuter lt a b i d).size = d.size := by
 intro n
 induction n with
 | zero => intro i d hn; rw [mV _ _ _ _ _ (by omega)]
 | succ n ih => intro i d hn; rw [rQ _ _ _ _ _ (by omega), ih (i + 1) _ (by omega), sw]
theorem Bn {α : Type} [Inhabited α] (lt : α -> α -> Bool) (b : Nat) (d : Array α) : (insertionSort lt d 0 b).size = d.size := y7 lt 0 b _ 1 d rfl

instance : Inhabited S.Cg := ⟨⟨[], [], false⟩⟩
namespace S
def srt (cs : List Cg) : List Cg := (insertionSort (fun a b : Cg => decide (compareBytes a.key b.key < 0)) cs.toArray 0 cs.length).toList
end S

set_option maxHeartbeats 1000000 in
theorem Dj (x y : ChV) (kx ky : List UInt8) (W : World) (hx : SliceAt W (.slice x.ka x.kn x.kc) kx) (hy : SliceAt W (.slice y.ka y.kn y.kc) ky) :
  Calls Tryz.prog 53 #[.agg (bg x).toArray, .agg (bg y).toArray] W fun e w' => e = .returned (.int .i64 (compareBytes kx ky)) /\ ∃ q os', w' = Sort.grow (W.drewN q) os' := by
 have HX := hide hx
 have HY := hide hy
 have e1 : (bg x).toArray = #[.slice x.ka x.kn x.kc, .slice x.va x.vn x.vc, .bool x.dr] := rfl
 have e2 : (bg y).toArray = #[.slice y.ka y.kn y.kc, .slice y.va y.vn y.vc, .bool y.dr] := rfl
 rw [e1, e2]
 clear hx hy e1 e2
 go_enter Tryz.func53, Tryz.ntmps53
 go_wp2_with fail
 refine (iH _ _ kx ky _ (HX.out.below ((ba ..).alloc (by simp) _) (lr _)) (HY.out.below ((ba ..).alloc (by simp) _) (lr _))).mono ?_
 rintro e w' ⟨rfl, rfl⟩
 go_wp2_with fail
 go_ret
 exact ⟨rfl, 0, _, by rw [Sort.alloc_eq_grow, Sort.alloc_eq_grow, Sort.grow_grow]; rfl⟩

theorem isAgg34 (w : World) : (isAgg 77).run Tryz.prog w = .ok true w := by kernel_rfl
theorem Eg (w : World) : (Go.sizeOf 77).run Tryz.prog w = .ok 3 w := by kernel_rfl
theorem fq (d : List ChV) : (d.flatMap bg).length = d.length * 3 := by
 induction d with
 | nil => rfl
 | cons x d ih => rw [List.flatMap_cons, List.length_append, ih, gD, List.length_cons]; omega
theorem nu (d : List ChV) : ∀ v ∈ d.flatMap bg, v.oneCell' = true := by
 intro v hv
 rw [List.mem_flatMap] at hv
 obtain ⟨x, _, hv⟩ := hv
 simp only [bg, List.mem_cons, List.not_mem_nil, or_false] at hv
 rcases hv with rfl | rfl | rfl <;> rfl
structure ChR (w : World) (g : Nat) (d : List ChV) : Prop where
 row : ∃ cur, w.heap[g]? = some (.cells cur 77 (0, 0)) /\ cur.toList.take (d.length * 3) = d.flatMap bg
theorem ChR.lt {w : World} {g : Nat} {d : List ChV} (h : ChR w g d) : g < w.heap.size := by obtain ⟨cur, h1, _⟩ := h.row; exact aa h1
theorem ChR.below {w W : World} {g : Nat} {d : List ChV} (h : ChR w g d) (hb : Below w.heap.size w W) : ChR W g d := by
 obtain ⟨cur, h1, h2⟩ := h.row
 exact ⟨cur, (hb.block g (aa h1)).trans h1, h2⟩
abbrev Cp (W : World) := {p : ChV × S.Cg // zW W p.1 p.2}
instance (W : World) : Inhabited (Cp W) := ⟨⟨(⟨none, 0, 0, none, 0, 0, false⟩, ⟨[], [], false⟩), ⟨Or.inl ⟨rfl, rfl⟩, Or.inl ⟨rfl, rfl⟩, rfl⟩⟩⟩
def fw {W : World} (p : Cp W) : List Value := bg p.1.1
def cfCp {W : World} (p q : Cp W) : Int := compareBytes p.1.2.key q.1.2.key
theorem AJ {W : World} (d : List (Cp W)) : d.flatMap fw = (d.map (·.1.1)).flatMap bg := by
 induction d with
 | nil => rfl
 | cons x d ih => rw [List.flatMap_cons, List.map_cons, List.flatMap_cons, ih]; rfl
theorem yh {W : World} (d : List (Cp W)) : (flatK fw 3 d.toArray).toList = (d.map (·.1.1)).flatMap bg := by
 rw [<- AJ]
 apply List.ext_getElem?
 intro t
 have hl : (d.flatMap fw).length = d.length * 3 := by rw [AJ, fq, List.length_map]
 by_cases ht : t < d.length * 3
 ·obtain ⟨i, r, hr, rfl⟩ : ∃ i r, r < 3 /\ t = i * 3 + r := ⟨t / 3, t % 3, by omega, by omega⟩
  have hi : i < d.length := by omega
  have e0 := flat_get (enc := fw) (k := 3) (fun _ => rfl) d i r d[i] (List.getElem?_eq_getElem hi) hr
  have hz : i * 3 + r < (flatK fw 3 d.toArray).size := by simpa using ht
  have e := get_flatK fw 3 d.toArray (i * 3 + r) (by simpa using ht)
  rw [show (i * 3 + r) / 3 = i by omega, show (i * 3 + r) % 3 = r by omega, getElem!_pos d.toArray i (by simpa using hi), List.getElem_toArray] at e
  have e3 : (flatK fw 3 d.toArray).toList[i * 3 + r]? = some ((fw d[i])[r]!) := by
   rw [Array.getElem?_toList, Array.getElem?_eq_getElem hz, <- getElem!_pos (flatK fw 3 d.toArray) (i * 3 + r) hz, e]
  rw [e3, e0]
  match r, hr with
  | 0, _ => rfl
  | 1, _ => rfl
  | 2, _ => rfl
 ·rw [List.getElem?_eq_none (by simp; omega), List.getElem?_eq_none (by omega)]
theorem pY {W w : World} {g n : Nat} {d' : Array (Cp W)} {os : Array Obj} (B : Nat) (hB : B <= g) (hg : g < w.heap.size) : Below B w (sortWorldK fw 3 w g 0 n d' os) := by
 refine ⟨rfl, rfl, rfl, by simp [sortWorldK, Sort.putRowK, Sort.ahead], fun k hk => ?_⟩
 rw [show sortWorldK fw 3 w g 0 n d' os = Sort.grow (Sort.putRow id (Sort.ahead w n) g 0 (flatK fw 3 d')) os from rfl]
 have hks : k < w.heap.size := by omega
 rw [Sort.heap_grow_old _ _ (by simpa using hks)]
 have : g ≠ k := by omega
 simp [Sort.putRow, Sort.mapBlock, Sort.ahead, Array.getElem?_modify, this]
theorem ins_any {W0 w : World} (g c : Nat) (d : List (Cp W0)) (h : ChR w g (d.map (·.1.1))) (hW : Below W0.heap.size W0 w) (hg0 : W0.heap.size <= g) (hl : d.length <= 100000) :
  Calls Tryz.prog 136 #[.slice (some ⟨g, 0, none⟩) d.length c, .int .i64 0, .int .i64 (d.length : Int), .func (.func 53) #[] #[]] w fun e w' => e = .returned (.tuple #[]) /\ ∃ d' : List (Cp W0), d'.map (·.1.2) = S.srt (d.map (·.1.2)) /\ d'.length = d.length /\ ChR w' g (d'.map (·.1.1)) /\ Below g w w' := by
 obtain ⟨cur, h1, h2⟩ := h.row
 rw [List.length_map] at h2
 have hgs := aa h1
 have hcs : d.length * 3 <= cur.size := by
  have := congrArg List.length h2
  rw [fq, List.length_take, List.length_map] at this
  have e : cur.toList.length = cur.size := Array.length_toList
  omega
 have hH : HoldsK fw 3 w g 0 d.toArray := by
  intro j hj
  have hj2 := hj
  rw [size_flatK, List.size_toArray] at hj
  refine ⟨?_, frozen_of_row w g _ cur 77 h1⟩
  rw [cell_of_row w g _ _ 77 _ h1, Nat.zero_add]
  have e : (cur.toList.take (d.length * 3))[j]? = (flatK fw 3 d.toArray).toList[j]? := by rw [h2, yh]
  rw [List.getElem?_take_of_lt hj, Array.getElem?_toList, Array.getElem?_toList] at e
  rw [e, Array.getElem?_eq_getElem hj2, getElem!_pos _ j hj2]
  rfl
 have eg : ∀ args w, (callFunc 53 args).run Tryz.prog w = .ok (.enter 53 args) w := enters_of Tryz.func53 (by kernel_rfl) rfl
 have hs := AnyQ.insertionSortCmpFunc Tryz.insCh 3 isAgg34 Eg (fw (W := W0)) (fun _ => rfl) (fun x v hv => by
   simp only [fw, bg, List.mem_cons, List.not_mem_nil, or_false] at hv
   rcases hv with rfl | rfl | rfl <;> rfl) cfCp 53 #[] g 0 c 0 d.length d.toArray w eg (fun m os dk _ x y => by
    have hb : Below W0.heap.size W0 (sortWorldK fw 3 w g 0 m dk os) := hW.trans (pY _ hg0 hgs)
    exact Dj x.1.1 y.1.1 x.1.2.key y.1.2.key _ (x.2.key.below hb (lr _)) (y.2.key.below hb (lr _))) hH hgs (Nat.zero_le _) (by simp) (by rw [List.size_toArray]; omega)
 rw [List.size_toArray] at hs
 refine Calls.mono hs ?_
 rintro e w' ⟨rfl, n, os, rfl⟩
 obtain ⟨d', hd0⟩ : ∃ d', d' = insertionSort (ltOf cfCp) d.toArray 0 d.length := ⟨_, rfl⟩
 have hp1 : d'.size = d.length := by rw [hd0, Bn, List.size_toArray]
 have hp3 : d'.toList.length = d.length := hp1
 have hd' : d' = d'.toList.toArray := by simp
 rw [<- hd0]
 refine ⟨rfl, d'.toList, ?_, hp3, ⟨Sort.putCells id 0 (flatK fw 3 d') cur, ?_, ?_⟩, pY _ (lr _) hgs⟩
 ·have := Eb (fun p : Cp W0 => p.1.2) (ltOf cfCp) (fun a b : S.Cg => decide (compareBytes a.key b.key < 0)) (fun _ _ => rfl) d.length d.toArray (by simp)
  rw [<- hd0] at this
  unfold S.srt
  rw [List.length_map]
  have e := congrArg Array.toList this
  simpa using e
 ·rw [show sortWorldK fw 3 w g 0 n d' os = Sort.grow (Sort.putRow id (Sort.ahead w n) g 0 (flatK fw 3 d')) os from rfl, Sort.heap_grow_old _ _ (by simpa using hgs)]
  simp [Sort.putRow, Sort.mapBlock, Sort.ahead, Array.getElem?_modify, h1, Sort.onCells]
 ·rw [<- yh, <- hd', List.length_map]
  apply List.ext_getElem?
  intro j
  have hz : (flatK fw 3 d').size = d.length * 3 := by rw [size_flatK, hp1]
  by_cases hj : j < d'.toList.length * 3
  ·have hj1 : j < d.length * 3 := by rw [hp3] at hj; exact hj
   rw [List.getElem?_take_of_lt hj, Array.getElem?_toList, Array.getElem?_toList]
   have hq : j < (flatK fw 3 d').size := by omega
   rw [Array.getElem?_eq_getElem hq]
   simp only [Sort.putCells, Array.getElem?_mapIdx, Array.getElem?_eq_getElem (show j < cur.size by omega), Option.map_some]
   rw [if_pos ⟨Nat.zero_le _, by omega⟩, Nat.sub_zero, getElem!_pos _ j hq]
   rfl
  ·rw [hp3] at hj
   have e : (flatK fw 3 d').toList.length = (flatK fw 3 d').size := Array.length_toList
   rw [List.getElem?_take_eq_none (by rw [hp3]; omega), List.getElem?_eq_none (by omega)]
end Go.Proofs.YteealihknndclabGreatDoor
namespace Go.Proofs.YteealihknndclabGreatDoor
open Go.RowKit

theorem zx : (Tryz.prog.info? 77).map (fun i => (i.zero, i.size, i.bytes)) = some (some (.agg #[.slice none 0 0, .slice none 0 0, .bool false]), 3, 56) := by kernel_rfl
theorem CY (a : Addr) (n cap : Nat) (W : World) : (binOp .eql 57 (.slice (some a) n cap) (.slice none 0 0)).run Tryz.prog W = .ok (.bool false) W :=
 by
  have h : ∀ d : Nat, (Op.equalIn (d + 1) 57 (.slice (some a) n cap) (.slice none 0 0)).run Tryz.prog W = .ok false W := fun d => by
   simp [Op.equalIn, run_underlying Tryz.underlying57]
  simp only [binOp]
  simp [Op.equal, Op.maxDepth, h 9999]
def fJ (B : Nat) (w : World) (v : Value) (d : List ChV) : Prop := w.ownsRow B 77 3 v d.length (d.flatMap bg)
theorem fJ.nil (B : Nat) (w : World) : fJ B w (.slice none 0 0) [] := ⟨rfl, Or.inl ⟨rfl, rfl⟩⟩
theorem fJ.els {B : Nat} {w : World} {v : Value} {d : List ChV} (h : fJ B w v d) (hl : d.length <= 1000000) : Els bg w v d := by
 rcases h.2 with ⟨rfl, h0⟩ | ⟨g, cap, cur, rfl, hB, hr, h1, h2, h3, h4⟩
 ·exact Or.inl ⟨rfl, List.length_eq_zero_iff.1 h0⟩
 ·refine Or.inr (Or.inr ⟨g, 0, cap, rfl, h1, hl, aa hr, fun j u hu => ?_⟩)
  have hj : j < d.length * 3 := by have := (List.getElem?_eq_some_iff.1 hu).1; rw [fq] at this; exact this
  rw [Nat.zero_add, cell_of_row w g j _ _ _ hr]
  rw [<- h4, List.getElem?_take, if_pos hj] at hu
  simpa using hu
theorem fJ.form {B : Nat} {w : World} {v : Value} {d : List ChV} (h : fJ B w v d) : ∃ ao cap, v = .slice ao d.length cap := by
 rcases h.2 with ⟨rfl, h0⟩ | ⟨g, cap, cur, rfl, _⟩
 ·exact ⟨none, 0, by rw [h0]⟩
 ·exact ⟨_, _, rfl⟩
theorem fJ.blk {B : Nat} {w : World} {v : Value} {d : List ChV} (h : fJ B w v d) {k : Nat} (hk : v.ownBlock = some k) : B <= k /\ k < w.heap.size /\ ∃ cur, w.heap[k]? = some (.cells cur 77 (0, 0)) := by
 rcases h.2 with ⟨rfl, h0⟩ | ⟨g, cap, cur, rfl, hB, hr, _⟩
 ·simp [Value.ownBlock] at hk
 ·simp only [Value.ownBlock, Option.some.injEq] at hk
  subst hk
  exact ⟨hB, aa hr, cur, hr⟩
theorem fJ.chg {p : Nat -> Prop} {B : Nat} {w W : World} {v : Value} {d : List ChV} (h : fJ B w v d) (hc : Chg p w W) (hp : ∀ k, v.ownBlock = some k -> ¬ p k) : fJ B W v d := by
 refine ⟨h.1, ?_⟩
 rcases h.2 with h0 | ⟨g, cap, cur, rfl, hB, hr, h1⟩
 ·exact Or.inl h0
 ·exact Or.inr ⟨g, cap, cur, rfl, hB, hc.row hr (hp g rfl), h1⟩
theorem fJ.below {B : Nat} {w W : World} {v : Value} {d : List ChV} (h : fJ B w v d) (hb : Below w.heap.size w W) : fJ B W v d := h.chg (p := fun _ => False) (Chg.ofBelow' hb) (fun _ _ e => e)
theorem kW (w : World) (B : Nat) (v u : Value) (d y : List ChV) (ty : TypeId) (hown : fJ B w v d) (hu : Els bg w u y) (hl : d.length + y.length <= 100000) (hB : B <= w.heap.size) :
  ∃ v' w', (Builtin.append_ #[57, 57] ty #[v, u]).run Tryz.prog w = .ok v' w' /\ (fJ B w' v' (d ++ y) /\ Chg (fun k => v.ownBlock = some k) w w') := by
 obtain ⟨i, hi, hz0, hz1, hz2⟩ := info_parts zx
 have key : ∀ (a : Addr) (c : Nat), (∀ j x, (y.flatMap bg)[j]? = some x -> w.cell? (a.add j) = some x) -> u = .slice (some a) y.length c -> ∃ v' w', (Builtin.append_ #[57, 57] ty #[v, u]).run Tryz.prog w = .ok v' w' /\ (fJ B w' v' (d ++ y) /\ Chg (fun k => v.ownBlock = some k) w w') := fun a c hc hu => by
  obtain ⟨v', w', h1, h2, h3, h4⟩ := run_append_own (P := Tryz.prog) w B 57 ty 77 i (.agg #[.slice none 0 0, .slice none 0 0, .bool false]) 3 56 Tryz.underlying57 hi hz0 hz1 hz2 rfl (by omega) v d.length (d.flatMap bg) hown a y.length c (y.flatMap bg) (fq y) hc (nu y) (by simp [maxLen]; omega) (by omega) hB
  have h2b : fJ B w' v' (d ++ y) := by unfold fJ; rw [List.length_append, List.flatMap_append]; exact h2
  exact ⟨v', w', by rw [hu]; exact h1, h2b, (Chg.refl _ w).grown h3 (fun k _ e => e)⟩
 rcases hu with ⟨rfl, rfl⟩ | ⟨a, cap, rfl, rfl⟩ | ⟨b, off, cap, rfl, h1, h2, h3, h4⟩
 ·exact ⟨v, w, run_append_owned_none (P := Tryz.prog) (w := w) B 57 ty 77 i 3 Tryz.underlying57 hi v d.length (d.flatMap bg) hown, by rw [List.append_nil]; exact hown, Chg.refl _ _⟩
 ·exact key a cap (fun j x h => by simp at h) rfl
 ·exact key ⟨b, off, none⟩ cap (fun j x h => by rw [Addr.add_lit]; exact h4 j x h) rfl
set_option maxHeartbeats 4000000 in
set_option maxRecDepth 10000 in
theorem zP (b off cap : Nat) (d : List ChV) (w : World) (h0 : ∀ j u, (d.flatMap bg)[j]? = some u -> w.cell? ⟨b, off + j, none⟩ = some u) (hd : d ≠ []) (hl : d.length <= 100000) :
  Calls Tryz.prog 51 #[.slice (some ⟨b, off, none⟩) d.length cap] w fun e w' => ∃ g c, e = .returned (.slice (some ⟨g, 0, none⟩) d.length c) /\ w.heap.size <= g /\ ChR w' g d /\ Below w.heap.size w w' := by
 have hnil := CY ⟨b, off, none⟩ d.length cap
 obtain ⟨i, hi, hz0, hz1, hz2⟩ := info_parts zx
 obtain ⟨w1, hw1⟩ : ∃ w1, w1 = w.alloc (.cells #[] 77) := ⟨_, rfl⟩
 have b1 : Below w.heap.size w w1 := by rw [hw1]; exact ba ..
 have r1 : w1.heap[w.heap.size]? = some (.cells #[] 77 (0, 0)) := by rw [hw1]; exact heap_alloc_new _ _
 have hown : w1.ownsRow w.heap.size 77 3 (.slice (some ⟨w.heap.size, 0, none⟩) 0 0) 0 [] := ⟨rfl, Or.inr ⟨w.heap.size, 0, #[], rfl, lr _, r1, lr _, by simp [maxLen], rfl, rfl⟩⟩
 have hdl : 0 < d.length := List.length_pos_iff.2 hd
 have hb0 : b < w.heap.size := by
  obtain ⟨x, r, rfl⟩ := List.exists_cons_of_ne_nil hd
  exact World.block_lt_of_cell? w _ (h0 0 (.slice x.ka x.kn x.kc) rfl)
 have APP := hide (run_append_own (P := Tryz.prog) w1 w.heap.size 57 57 77 i (.agg #[.slice none 0 0, .slice none 0 0, .bool false]) 3 56 Tryz.underlying57 hi hz0 hz1 hz2 rfl (by omega) (.slice (some ⟨w.heap.size, 0, none⟩) 0 0) 0 [] hown ⟨b, off, none⟩ d.length cap (d.flatMap bg) (fq d) (fun j u hu => by
  rw [Addr.add_lit]
  exact (b1.cell (p := ⟨b, off + j, none⟩) hb0).trans (h0 j u hu)) (nu d) (by simp [maxLen]; omega) (by omega) b1.size)
 have HB := hide b1
 have HW := hide hw1
 have HD : Hid (0 < d.length) := hdl
 generalize hdn : d.length = dn at hnil APP HD ⊢
 have HN : Hid (d.length = dn) := hdn
 clear b1 r1 hw1 hown h0 hi hz0 hz1 hz2 hb0 hdn hl hd hdl
 clear i
 go_enter Tryz.func51, Tryz.ntmps51
 go_wp2_with (at_builtin; (rw [<- HW.out]; refine aA rfl (.tmp 5) (.tmp 6) 57 57 rfl _ _ rfl rfl (by obtain ⟨v', w', h1, h2⟩ := APP.out; exact ⟨v', w', h1, h2⟩) ?_; rintro v2 w2 ⟨ho, hg, hn⟩; have OW := hide ho; have GR := hide hg; clear ho hg hn))
 rcases OW.out.2 with ⟨e, e2⟩ | ⟨g, c, cur, e, hge, h1, h2, h3, h4, h5⟩
 ·exact absurd e2 (by have := HD.out; simp; omega)
 ·subst e
  have S2 : Hid (ChR w2 g d) := ⟨cur, h1, by rw [HN.out]; simpa using h5⟩
  have B2 : Hid (Below w.heap.size w w2) := HB.out.trans (((Chg.refl (fun k => w.heap.size <= k) w1).grown GR.out (fun k _ e => by simp only [Value.ownBlock, Option.some.injEq] at e; omega)).below _ HB.out.size (fun k hk e => by omega))
  have GE : Hid (w.heap.size <= g) := hge
  clear h1 h2 h3 h4 h5 hge OW GR HB HW APP hnil HD HN
  go_wp2_with fail
  go_ret
  exact ⟨g, c, by simp, GE.out, S2.out, B2.out⟩

set_option maxHeartbeats 1000000 in
theorem yM {W0 w : World} (g c : Nat) (d : List (Cp W0)) (h : ChR w g (d.map (·.1.1))) (hW : Below W0.heap.size W0 w) (hg0 : W0.heap.size <= g) (hl : d.length <= 19) :
  Calls Tryz.prog 89 #[.slice (some ⟨g, 0, none⟩) d.length c, .int .i64 (d.length : Int), .func (.func 53) #[] #[]] w fun e w' => e = .returned (.tuple #[]) /\ ∃ d' : List (Cp W0), d'.map (·.1.2) = S.srt (d.map (·.1.2)) /\ d'.length = d.length /\ ChR w' g (d'.map (·.1.1)) /\ Below g w w' := by
 have HI := hide (ins_any g c d h hW hg0 (by omega))
 obtain ⟨n, hn⟩ : ∃ n, n = d.length := ⟨_, rfl⟩
 have q1 : ¬ (20 : Int) <= (n : Int) := by omega
 have q2 : ¬ (20 : Int) < (n : Int) := by omega
 rw [<- hn] at HI ⊢
 have HN := hide hn
 clear h hW hg0 hl hn
 go_enter Tryz.func89, Tryz.ntmps89
 go_wp2_with fail
 go_loopw [7, 8] (fun s7 s8 wr => s7 = .int .i64 0 /\ s8 = .int .i64 20 /\ wr = w) (fun _ _ _ => 0)
 case atStart => exact ⟨rfl, rfl, rfl⟩
 case round =>
  obtain ⟨rfl, rfl, hwr⟩ := hrel
  subst hwr
  go_wp2_with fail
  refine HI.out.mono ?_
  rintro e w1 ⟨rfl, H⟩
  have H1 := hide H
  clear H
  go_wp2_with fail
  go_loopw [6] (fun s6 wz => s6 = .int .i64 20 /\ wz = w1) (fun _ _ => 0)
  case atStart => exact ⟨rfl, rfl⟩
  case round =>
   obtain ⟨rfl, hwr⟩ := hrel
   subst hwr
   go_wp2_with fail
   go_end0
   exact ⟨rfl, H1.out⟩
theorem Bl {W0 w : World} (g c : Nat) (d : List (Cp W0)) (h : ChR w g (d.map (·.1.1))) (hW : Below W0.heap.size W0 w) (hg0 : W0.heap.size <= g) (hl : d.length <= 19) :
  Calls Tryz.prog 52 #[.slice (some ⟨g, 0, none⟩) d.length c, .func (.func 53) #[] #[]] w fun e w' => e = .returned (.tuple #[]) /\ ∃ d' : List (Cp W0), d'.map (·.1.2) = S.srt (d.map (·.1.2)) /\ d'.length = d.length /\ ChR w' g (d'.map (·.1.1)) /\ Below g w w' := by
 have HI := hide (yM g c d h hW hg0 hl)
 obtain ⟨n, hn⟩ : ∃ n, n = d.length := ⟨_, rfl⟩
 rw [<- hn] at HI ⊢
 have HN := hide hn
 clear h hW hg0 hl hn
 go_enter Tryz.func52, Tryz.ntmps52
 go_wp2_with fail
 refine HI.out.mono ?_
 rintro e w1 ⟨rfl, H⟩
 have H1 := hide H
 clear H
 go_wp2_with fail
 go_end0
 exact ⟨rfl, H1.out⟩
end Go.Proofs.YteealihknndclabGreatDoor
