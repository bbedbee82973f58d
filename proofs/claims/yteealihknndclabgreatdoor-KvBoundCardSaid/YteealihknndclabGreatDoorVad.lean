/- Changes of a store in memory; which of them may be. -/
import Derived.Test.YteealihknndclabGreatDoorEd
import Derived.Test.YteealihknndclabGreatDoorBv
import Derived.Maps.Own
import Derived.Maps.OwnSet
namespace Go.Proofs.YteealihknndclabGreatDoor
open Go.RowKit

structure KcV where
 sp : UInt8
 ka : Option Addr
 kn : Nat
 kc : Nat
 va : Option Addr
 vn : Nat
 vc : Nat
 dr : Bool
def bS (x : KcV) : List Value := [.int .u8 (x.sp.toNat : Int), .slice x.ka x.kn x.kc, .slice x.va x.vn x.vc, .bool x.dr]
theorem lW (x : KcV) : (bS x).length = 4 := rfl
def KcV.good (x : KcV) : Bool := decide (1 <= x.kn) && decide (x.kn <= 39) && decide (x.vn <= 400)
theorem vI {w : World} {b off i : Nat} {x : KcV} (h : ∀ (r : Nat) u, (bS x)[r]? = some u -> w.cell? ⟨b, off + (i * 4 + r), none⟩ = some u) :
  w.cell? ⟨b, off + i * 4, none⟩ = some (.int .u8 (x.sp.toNat : Int)) /\ w.cell? ⟨b, off + i * 4 + 1, none⟩ = some (.slice x.ka x.kn x.kc) /\ w.cell? ⟨b, off + i * 4 + 2, none⟩ = some (.slice x.va x.vn x.vc) /\ w.cell? ⟨b, off + i * 4 + 3, none⟩ = some (.bool x.dr) :=
 ⟨h 0 _ rfl, by rw [Nat.add_assoc]; exact h 1 _ rfl, by rw [Nat.add_assoc]; exact h 2 _ rfl, by rw [Nat.add_assoc]; exact h 3 _ rfl⟩
theorem kr {w : World} {g : Nat} {a b c d : Value} {t : TypeId} (h : w.heap[g]? = some (.cells #[a, b, c, d] t (0, 0))) : w.cell? ⟨g, 0, none⟩ = some a /\ w.cell? ⟨g, 1, none⟩ = some b /\ w.cell? ⟨g, 2, none⟩ = some c /\ w.cell? ⟨g, 3, none⟩ = some d :=
 ⟨by rw [cell_of_row w g 0 _ _ _ h]; rfl, by rw [cell_of_row w g 1 _ _ _ h]; rfl, by rw [cell_of_row w g 2 _ _ _ h]; rfl, by rw [cell_of_row w g 3 _ _ _ h]; rfl⟩
set_option maxHeartbeats 4000000 in
set_option maxRecDepth 10000 in
theorem iH (v : Value) (d : List KcV) (w : World) (hd : Els bS w v d) :
  Calls Tryz.prog 18 #[v] w fun e w' => e = .returned (.bool (d.all KcV.good && decide (d.length <= 80))) /\ Below w.heap.size w w' := by
 have HD := hide hd
 obtain ⟨ao, cap, rfl, hbig⟩ := hd.form
 obtain ⟨n, hn⟩ : ∃ n, n = d.length := ⟨_, rfl⟩
 obtain ⟨r, hr⟩ : ∃ r, r = (d.all KcV.good && decide (d.length <= 80)) := ⟨_, rfl⟩
 rw [<- hr]
 rw [<- hn] at hbig ⊢
 have HN := hide hn
 have HR := hide hr
 clear hd hr hn
 go_enter Tryz.func18, Tryz.ntmps18
 go_wp2_with fail
 go_loopw [7] (fun i wr => ∃ k : Nat, k <= n /\ i = .int .i64 (k : Int) /\ Hid (Below w.heap.size w wr) /\ Hid ((d.take k).all KcV.good = true)) (fun i _ => n - (intOf i).toNat)
 case atStart => exact ⟨0, by omega, rfl, Below.refl _ _, rfl⟩
 case round =>
 obtain ⟨k, hk, rfl, BW, AL⟩ := hrel
 by_cases hlt : k < n
 ·have hkd : k < d.length := by have := HN.out; omega
  obtain ⟨b, off, cap', hv, hcap, hb, hc⟩ := HD.out.at lW k d[k] (List.getElem?_eq_getElem hkd)
  injection hv with hv1 hv2 hv3
  subst hv1 hv3
  obtain ⟨t0, t1, t2, t3⟩ := vI hc
  have u0 := (BW.out.cell (p := ⟨b, off + k * 4, none⟩) hb).trans t0
  have u1 := (BW.out.cell (p := ⟨b, off + k * 4 + 1, none⟩) hb).trans t1
  have u2 := (BW.out.cell (p := ⟨b, off + k * 4 + 2, none⟩) hb).trans t2
  have u3 := (BW.out.cell (p := ⟨b, off + k * 4 + 3, none⟩) hb).trans t3
  have hkI : (k : Int) < (n : Int) := by omega
  have hk0 : (0 : Int) <= (k : Int) := by omega
  obtain ⟨x, hx⟩ : ∃ x, x = d[k] := ⟨_, rfl⟩
  rw [<- hx] at u0 u1 u2 u3
  have AT : Hid (d[k]? = some x) := by rw [hx]; exact List.getElem?_eq_getElem hkd
  obtain ⟨sp, ka, kn, kc, va, vn, vc, dr⟩ := x
  simp only at u0 u1 u2 u3
  clear t0 t1 t2 t3 hc hx hv2 hcap
  go_upto_region 4 with fail
  obtain ⟨W, hW⟩ : ∃ W, W = wr.alloc (.cells #[.int .u8 (sp.toNat : Int), .slice ka kn kc, .slice va vn vc, .bool dr] 30) := ⟨_, rfl⟩
  rw [<- hW]
  have bW : Below wr.heap.size wr W := by rw [hW]; exact ba ..
  have rW : W.heap[wr.heap.size]? = some (.cells #[.int .u8 (sp.toNat : Int), .slice ka kn kc, .slice va vn vc, .bool dr] 30 (0, 0)) := by rw [hW]; exact heap_alloc_new _ _
  obtain ⟨gb, hgb⟩ : ∃ gb, gb = wr.heap.size := ⟨_, rfl⟩
  rw [<- hgb] at rW ⊢
  obtain ⟨x0, x1, x2, x3⟩ := kr rW
  have BWW := hide (BW.out.trans (bW.mono BW.out.size))
  clear hW bW rW hgb u0 u1 u2 u3 BW
  have NO : Hid (¬ (1 <= kn /\ kn <= 39 /\ vn <= 400) -> r = false) := fun hno => by
   rw [HR.out]
   have : d.all KcV.good = false := by
    rw [List.all_eq_false]
    refine ⟨_, List.mem_of_getElem? AT.out, ?_⟩
    simp [KcV.good]
    omega
   rw [this]
   rfl
  by_cases h1 : kn < 1
  ·have q1 : decide ((kn : Int) < 1) = true := decide_eq_true (by omega)
   have q2 : (kn : Int) < 1 := by omega
   have q3 : (kn : Int) = 0 := by omega
   have hr0 := NO.out (by omega)
   subst hr0
   clear q3
   go_wp2_with fail
   go_ret
   exact ⟨rfl, BWW.out⟩
  ·have q1 : decide ((kn : Int) < 1) = false := decide_eq_false (by omega)
   have q2 : ¬ (kn : Int) < 1 := by omega
   by_cases h2 : 39 < kn
   ·have q3 : decide ((39 : Int) < (kn : Int)) = true := decide_eq_true (by omega)
    have q4 : (39 : Int) < (kn : Int) := by omega
    have hr0 := NO.out (by omega)
    subst hr0
    go_wp2_with fail
    go_ret
    exact ⟨rfl, BWW.out⟩
   ·have q3 : decide ((39 : Int) < (kn : Int)) = false := decide_eq_false (by omega)
    have q4 : ¬ (39 : Int) < (kn : Int) := by omega
    by_cases h3 : 400 < vn
    ·have q5 : decide ((400 : Int) < (vn : Int)) = true := decide_eq_true (by omega)
     have q6 : (400 : Int) < (vn : Int) := by omega
     have hr0 := NO.out (by omega)
     subst hr0
     go_wp2_with fail
     go_ret
     exact ⟨rfl, BWW.out⟩
    ·have q5 : decide ((400 : Int) < (vn : Int)) = false := decide_eq_false (by omega)
     have q6 : ¬ (400 : Int) < (vn : Int) := by omega
     have AL2 : Hid ((d.take (k + 1)).all KcV.good = true) := by
      show (d.take (k + 1)).all KcV.good = true
      rw [List.take_add_one, AT.out, List.all_append, AL.out]
      simp [KcV.good]
      omega
     go_wp2_with fail
     go_roundw
     case rel => exact ⟨k + 1, by omega, by go_num, BWW, AL2⟩
     case measure => simp [intOf]; omega
 ·obtain rfl : k = n := by omega
  have HRR : Hid (r = decide (k <= 80)) := by
   show r = decide (k <= 80)
   have e : d.take k = d := List.take_of_length_le (by have := HN.out; omega)
   have a := AL.out
   rw [e] at a
   rw [HR.out, a, HN.out, Bool.true_and]
  go_wp2_with fail
  go_ret
  refine ⟨?_, BW.out⟩
  rw [HRR.out]
  simp
  try omega
attribute [local go_sem] Oper.semAt_some
def S.tr (c : UInt8 × S.Cg) : S.Cg := ⟨c.1 :: c.2.key, c.2.val, c.2.dr⟩
structure lZ (w : World) (x : KcV) (c : UInt8 × S.Cg) : Prop where
 sp : x.sp = c.1
 key : SliceAt w (.slice x.ka x.kn x.kc) c.2.key
 val : SliceAt w (.slice x.va x.vn x.vc) c.2.val
 dr : x.dr = c.2.dr
def jD (w : World) (d : List KcV) (cs : List (UInt8 × S.Cg)) : Prop := d.length = cs.length /\ ∀ (i : Nat) x c, d[i]? = some x -> cs[i]? = some c -> lZ w x c
def lG (w : World) (g n : Nat) (l : List ChV) : Prop := ∃ cur, w.heap[g]? = some (.cells cur 77 (0, 0)) /\ l.length <= n /\ cur.size = n * 3 /\ ∀ j x, l[j]? = some x -> ∀ (r : Nat) u, (aZ x)[r]? = some u -> cur[j * 3 + r]? = some u
theorem lG.lt {w : World} {g n : Nat} {l : List ChV} (h : lG w g n l) : g < w.heap.size := by
 obtain ⟨cur, hr, _⟩ := h
 exact aa hr
theorem lG.below {w W : World} {g n : Nat} {l : List ChV} (h : lG w g n l) (hb : Below w.heap.size w W) : lG W g n l := by
 obtain ⟨cur, hr, q⟩ := h
 exact ⟨cur, (hb.block g (aa hr)).trans hr, q⟩
theorem lG.store {w : World} {g n : Nat} {l : List ChV} (h : lG w g n l) (k : Nat) (hk : k < n) (x : ChV) (hl : l.length = k) :
  ∃ w', (Instr.storeAt 77 (.pointer (some ⟨g, k * 3, none⟩)) (.agg (aZ x).toArray)).run Tryz.prog w = .ok () w' /\ lG w' g n (l ++ [x]) /\ Chg (fun k => k = g) w w' := by
 obtain ⟨cur, hr, q0, q3, q4⟩ := h
 have hth : w.there g (k * 3) (aZ x).toArray.size := fun i hi => by
  have hi : i < 3 := hi
  refine ⟨?_, frozen_of_row _ _ _ _ _ hr⟩
  rw [cell_of_row _ _ _ _ _ _ hr, Array.getElem?_eq_getElem (by omega)]
  rfl
 have hrun := run_storeAt_mid (P := Tryz.prog) w g (k * 3) 77 (aZ x).toArray hth (by rw [size34', List.size_toArray, gu]) (all_oneCell_toArray (fun v hv => mO [x] v (by simpa using hv)))
 have e : w.setCells g (k * 3) (aZ x).toArray.toList = ((w.setCell ⟨g, k * 3, none⟩ (.slice x.ka x.kn x.kc)).setCell ⟨g, k * 3 + 1, none⟩ (.slice x.va x.vn x.vc)).setCell ⟨g, k * 3 + 1 + 1, none⟩ (.bool x.dr) := rfl
 rw [e] at hrun
 have r1 := heap_setCell_same w g (k * 3) _ _ (.slice x.ka x.kn x.kc) hr
 have r2 := heap_setCell_same _ g (k * 3 + 1) _ _ (.slice x.va x.vn x.vc) r1
 have r3 := heap_setCell_same _ g (k * 3 + 1 + 1) _ _ (.bool x.dr) r2
 refine ⟨_, hrun, ⟨_, r3, by rw [List.length_append]; simp; omega, by simpa using q3, fun j y hy r u hu => ?_⟩, (((Chg.refl (fun k => k = g) w).setCell g _ _ (fun _ => rfl)).setCell g _ _ (fun _ => rfl)).setCell g _ _ (fun _ => rfl)⟩
 have hr3 : r < 3 := by have := (List.getElem?_eq_some_iff.1 hu).1; rw [gu] at this; exact this
 by_cases hj : j < l.length
 ·rw [List.getElem?_append_left hj] at hy
  have h0 := q4 j y hy r u hu
  rw [Array.getElem?_setIfInBounds_ne (by omega), Array.getElem?_setIfInBounds_ne (by omega), Array.getElem?_setIfInBounds_ne (by omega)]
  exact h0
 ·have hj2 : j = k := by
   have := (List.getElem?_eq_some_iff.1 hy).1
   rw [List.length_append] at this
   simp at this
   omega
  subst hj2
  rw [List.getElem?_append_right (by omega)] at hy
  rw [show j - l.length = 0 by omega] at hy
  simp at hy
  subst hy
  match r, hu with
  | 0, hu =>
   cases hu
   rw [show j * 3 + 0 = j * 3 from rfl, Array.getElem?_setIfInBounds_ne (by omega), Array.getElem?_setIfInBounds_ne (by omega), Array.getElem?_setIfInBounds_self_of_lt (by omega)]
  | 1, hu =>
   cases hu
   rw [Array.getElem?_setIfInBounds_ne (by omega), Array.getElem?_setIfInBounds_self_of_lt (by rw [Array.size_setIfInBounds]; omega)]
  | 2, hu =>
   cases hu
   rw [Array.getElem?_setIfInBounds_self_of_lt (by rw [Array.size_setIfInBounds, Array.size_setIfInBounds]; omega)]
def fV (w0 w : World) (g : Nat) (d : List ChV) (cs : List S.Cg) : Prop := d.length = cs.length /\ ∀ (i : Nat) x c, d[i]? = some x -> cs[i]? = some c -> SliceAt w0 (.slice x.va x.vn x.vc) c.val /\ x.dr = c.dr /\ ∃ gk, gk ≠ g /\ gk < w.heap.size /\ ∀ W : World, W.heap[gk]? = w.heap[gk]? -> SliceAt W (.slice x.ka x.kn x.kc) c.key
theorem fV.chg {w0 w W : World} {g : Nat} {d : List ChV} {cs : List S.Cg} (h : fV w0 w g d cs) (hc : ∀ k, k < w.heap.size -> k ≠ g -> W.heap[k]? = w.heap[k]?) (hs : w.heap.size <= W.heap.size) : fV w0 W g d cs :=
 ⟨h.1, fun i x c hx hcx => by
  obtain ⟨h1, h2, gk, h3, h4, h5⟩ := h.2 i x c hx hcx
  exact ⟨h1, h2, gk, h3, Nat.lt_of_lt_of_le h4 hs, fun V hV => h5 V (hV.trans (hc gk h4 h3))⟩⟩
theorem fV.below {w0 w W : World} {g : Nat} {d : List ChV} {cs : List S.Cg} (h : fV w0 w g d cs) (hb : Below w.heap.size w W) : fV w0 W g d cs := h.chg (fun k hk _ => hb.block k hk) hb.size
theorem fV.snoc {w0 w : World} {g : Nat} {d : List ChV} {cs : List S.Cg} {x : ChV} {c : S.Cg} (h : fV w0 w g d cs) (h1 : SliceAt w0 (.slice x.va x.vn x.vc) c.val) (h2 : x.dr = c.dr) (h3 : ∃ gk, gk ≠ g /\ gk < w.heap.size /\ ∀ W : World, W.heap[gk]? = w.heap[gk]? -> SliceAt W (.slice x.ka x.kn x.kc) c.key) : fV w0 w g (d ++ [x]) (cs ++ [c]) := by
 refine ⟨by simp [h.1], fun i y c' hy hc' => ?_⟩
 by_cases hi : i < d.length
 ·rw [List.getElem?_append_left hi] at hy
  rw [List.getElem?_append_left (by have := h.1; omega)] at hc'
  exact h.2 i y c' hy hc'
 ·have hl := h.1
  have hi2 : i = d.length := by
   have := (List.getElem?_eq_some_iff.1 hy).1
   simp at this; omega
  subst hi2
  rw [List.getElem?_append_right (lr _)] at hy
  rw [List.getElem?_append_right (by omega), hl] at hc'
  simp at hy hc'
  subst hy hc'
  exact ⟨h1, h2, h3⟩
theorem fV.are {w0 w : World} {g : Nat} {d : List ChV} {cs : List S.Cg} (h : fV w0 w g d cs) (hb : Below w0.heap.size w0 w) : dI w d cs :=
 ⟨h.1, fun i x c hx hc => by
  obtain ⟨h1, h2, gk, _, _, h5⟩ := h.2 i x c hx hc
  exact ⟨h5 w rfl, h1.below hb (lr _), h2⟩⟩
theorem lG.els {w : World} {g n : Nat} {l : List ChV} (h : lG w g n l) (hl : l.length = n) : ∀ j u, (l.flatMap aZ)[j]? = some u -> w.cell? ⟨g, 0 + j, none⟩ = some u := by
 obtain ⟨cur, hr, q0, q3, q4⟩ := h
 intro j u hj
 have hlt : j < l.length * 3 := by have := (List.getElem?_eq_some_iff.1 hj).1; rw [eZ] at this; exact this
 have hx : l[j / 3]? = some (l[j / 3]'(by omega)) := List.getElem?_eq_getElem (by omega)
 have h2 := flat_get gu l (j / 3) (j % 3) _ hx (by omega)
 rw [show j / 3 * 3 + j % 3 = j by omega, hj] at h2
 rw [Nat.zero_add, cell_of_row _ _ _ _ _ _ hr]
 have h3 := q4 _ _ hx (j % 3) u h2.symm
 rwa [show j / 3 * 3 + j % 3 = j by omega] at h3
set_option maxHeartbeats 16000000 in
set_option maxRecDepth 100000 in
theorem gM (v : Value) (d : List KcV) (cs : List (UInt8 × S.Cg)) (w : World) (hd : Els bS w v d) (hc : jD w d cs) (hl : d.length <= 100000) (hkl : ∀ c ∈ cs, c.2.key.length <= 1000000) :
  Calls Tryz.prog 19 #[v] w fun e w' => ∃ g d', e = .returned (.slice (some ⟨g, 0, none⟩) d.length d.length) /\ w.heap.size <= g /\ d'.length = d.length /\ lG w' g d.length d' /\ dI w' d' (cs.map S.tr) /\ Below w.heap.size w w' := by
 have HD := hide hd
 obtain ⟨ao, cap, rfl, hbig⟩ := hd.form
 obtain ⟨n, hn⟩ : ∃ n, n = d.length := ⟨_, rfl⟩
 rw [<- hn] at hbig hl ⊢
 have HN := hide hn
 have HC := hide hc
 have HKL := hide hkl
 have HL := hide hl
 obtain ⟨i0, hi, hz, hs, hb⟩ := info_parts yY
 obtain ⟨w1, hmk, hown, hgr⟩ := run_makeSlice_full (P := Tryz.prog) (w := w) w.heap.size 57 77 i0 _ 3 Tryz.underlying57 hi hz hs .i64 .i64 n (by omega) (by rw [hb]; omega) (by simp [maxLen]; omega) (lr _)
 have B1 : Hid (Below w.heap.size w w1) := ((Chg.refl (fun k => w.heap.size <= k) w).grown hgr (fun k _ e => by simp at e)).below _ (lr _) (fun k hk e => by omega)
 have CI1 : Hid (lG w1 w.heap.size n []) := by
  rcases hown.2 with ⟨e, _⟩ | ⟨g', c', cur, e, _, h3, h4, _, h6, _⟩
  ·simp at e
  ·simp only [Value.slice.injEq, Option.some.injEq, Addr.mk.injEq] at e
   obtain ⟨⟨rfl, _, _⟩, _, rfl⟩ := e
   exact ⟨cur, h3, Nat.zero_le _, h6, fun j x hx => by simp at hx⟩
 obtain ⟨g, hg⟩ : ∃ g, g = w.heap.size := ⟨_, rfl⟩
 have AR1 : Hid (fV w w1 g [] ((cs.take 0).map S.tr)) := ⟨by simp, fun i x c hx => by simp at hx⟩
 have HG : Hid (w.heap.size <= g) := Nat.le_of_eq hg.symm
 rw [<- hg] at hmk CI1
 clear hd hc hn hi hz hs hb hown hgr hkl hl hg
 clear i0
 go_enter Tryz.func19, Tryz.ntmps19
 go_wp2_with (first | (with_reducible refine ak ⟨some 8, .makeSlice 57 (.tmp 7) (.tmp 7), 57, "kv.go:98", #[{ on := 1, ground := Ground.data }, { on := 1, ground := Ground.data }], none⟩ ?_; refine lY rfl 57 _ _ rfl _ _ rfl rfl _ _ hmk ?_))
 clear hmk
 go_loopw [11] (fun i wr => ∃ k : Nat, k <= n /\ i = .int .i64 (k : Int) /\ Hid (Below w.heap.size w wr) /\ ∃ d1 : List ChV, d1.length = k /\ Hid (lG wr g n d1) /\ Hid (fV w wr g d1 ((cs.take k).map S.tr))) (fun i _ => n - (intOf i).toNat)
 case atStart => exact ⟨0, by omega, rfl, B1, [], rfl, CI1, AR1⟩
 case round =>
 obtain ⟨k, hk, rfl, BW, d1, hd1, CI, AR⟩ := hrel
 by_cases hlt : k < n
 ·have hkd : k < d.length := by have := HN.out; omega
  have hkc : k < cs.length := by have := HC.out.1; omega
  obtain ⟨b, off, cap', hv, hcap, hb, hc⟩ := HD.out.at lW k d[k] (List.getElem?_eq_getElem hkd)
  injection hv with hv1 hv2 hv3
  subst hv1 hv3
  obtain ⟨t0, t1, t2, t3⟩ := vI hc
  have u0 := (BW.out.cell (p := ⟨b, off + k * 4, none⟩) hb).trans t0
  have u1 := (BW.out.cell (p := ⟨b, off + k * 4 + 1, none⟩) hb).trans t1
  have u2 := (BW.out.cell (p := ⟨b, off + k * 4 + 2, none⟩) hb).trans t2
  have u3 := (BW.out.cell (p := ⟨b, off + k * 4 + 3, none⟩) hb).trans t3
  have hkI : (k : Int) < (n : Int) := by omega
  have hk0 : (0 : Int) <= (k : Int) := by omega
  obtain ⟨x, hx⟩ : ∃ x, x = d[k] := ⟨_, rfl⟩
  obtain ⟨c, hcx⟩ : ∃ c, c = cs[k] := ⟨_, rfl⟩
  have KI : Hid (lZ w x c) := by rw [hx, hcx]; exact HC.out.2 k _ _ (List.getElem?_eq_getElem hkd) (List.getElem?_eq_getElem hkc)
  have CK : Hid (cs[k]? = some c) := by rw [hcx]; exact List.getElem?_eq_getElem hkc
  rw [<- hx] at u0 u1 u2 u3
  obtain ⟨sp, ka, kn, kc, va, vn, vc, dr⟩ := x
  obtain ⟨sp', key, val, dr'⟩ := c
  obtain rfl : sp = sp' := KI.out.sp
  obtain rfl : dr = dr' := KI.out.dr
  simp only at u0 u1 u2 u3
  have KLN : Hid (key.length <= 1000000) := HKL.out _ (List.mem_of_getElem? CK.out)
  have HK1 := hide hd1
  clear t0 t1 t2 t3 hc hx hcx hv2 hcap
  go_upto_region 5 with fail
  obtain ⟨W, hW⟩ : ∃ W, W = wr.alloc (.cells #[.int .u8 (sp.toNat : Int), .slice ka kn kc, .slice va vn vc, .bool dr] 30) := ⟨_, rfl⟩
  rw [<- hW]
  have bW : Below wr.heap.size wr W := by rw [hW]; exact ba ..
  have rW : W.heap[wr.heap.size]? = some (.cells #[.int .u8 (sp.toNat : Int), .slice ka kn kc, .slice va vn vc, .bool dr] 30 (0, 0)) := by rw [hW]; exact heap_alloc_new _ _
  obtain ⟨gb, hgb⟩ : ∃ gb, gb = wr.heap.size := ⟨_, rfl⟩
  have NG : Hid (gb ≠ g) := by have := CI.out.lt; show gb ≠ g; omega
  rw [<- hgb] at rW ⊢
  have CW := hide (CI.out.below bW)
  have AW := hide (AR.out.below bW)
  have BWW := hide (BW.out.trans (bW.mono BW.out.size))
  have KX : Hid (SliceAt W (.slice ka kn kc) key) := KI.out.key.below BWW.out (lr _)
  have VX : Hid (SliceAt W (.slice va vn vc) val) := KI.out.val.below BWW.out (lr _)
  have RW := hide rW
  clear hW bW rW hgb u0 u1 u2 u3 BW CI AR
  refine wp_region_noPanic ?_
  refine wp_region_held_drew (S := (fun Z => Z.heap[gb]? = some (.cells #[.int .u8 (sp.toNat : Int), .slice ka kn kc, .slice va vn vc, .bool dr] 30 (0, 0)))) follows RW.out (fun hHeld => ?_)
  have CZ : Hid (lG W.drew g n d1) := CW.out
  have AZ : Hid (fV w W.drew g d1 ((cs.take k).map S.tr)) := AW.out
  have BZ : Hid (Below w.heap.size w W.drew) := BWW.out.drew
  have KZ : Hid (SliceAt W.drew (.slice ka kn kc) key) := KX.out
  have VZ : Hid (SliceAt W.drew (.slice va vn vc) val) := VX.out
  clear CW AW BWW KX VX RW
  generalize W.drew = Z0 at CZ AZ BZ KZ VZ hHeld ⊢
  refine tq 0 ?_
  simp only [uA]
  refine tq 1 ?_
  simp only [uA]
  refine tq 2 ?_
  simp only [uA]
  refine tk 3 ?_ rfl (Or.inl ⟨by rfl, ?_⟩) ?_
  rotate_left
  ·intro w hSw
   obtain ⟨x0, x1, x2, x3⟩ := kr hSw
   clear hSw
   go_simp
   all_goals with_reducible rfl
  simp only [uA]
  refine tq 4 ?_
  simp only [uA]
  refine tk 5 ?_ rfl (Or.inl ⟨by rfl, ?_⟩) ?_
  rotate_left
  ·intro w hSw
   obtain ⟨x0, x1, x2, x3⟩ := kr hSw
   clear hSw
   go_simp
   all_goals with_reducible rfl
  simp only [uA]
  refine tq 7 ?_
  simp only [uA]
  refine tk 8 ?_ rfl (Or.inl ⟨by rfl, ?_⟩) ?_
  rotate_left
  ·intro w hSw
   obtain ⟨x0, x1, x2, x3⟩ := kr hSw
   clear hSw
   go_simp
   all_goals with_reducible rfl
  simp only [uA]
  refine tq 9 ?_
  simp only [uA]
  refine tk 10 ?_ rfl (Or.inl ⟨by rfl, ?_⟩) ?_
  rotate_left
  ·intro w hSw
   obtain ⟨x0, x1, x2, x3⟩ := kr hSw
   clear hSw
   go_simp
   all_goals with_reducible rfl
  simp only [uA]
  refine r1 6 fun K hK => ?_
  go_simp
  refine (nJ sp _ key Z0 KZ.out KLN.out).mono ?_
  rintro e Z1 ⟨gn, cn, rfl, hgn, hrow, hsn, b1⟩
  have C1 := hide (CZ.out.below b1)
  have A1 := hide (AZ.out.below b1)
  have B1 := hide (BZ.out.trans (b1.mono BZ.out.size))
  have V1 := hide (VZ.out.below b1 (lr _))
  have K1 : Hid (gn ≠ g /\ gn < Z1.heap.size /\ ∀ W, W.heap[gn]? = Z1.heap[gn]? -> SliceAt W (.slice (some ⟨gn, 0, none⟩) (sp :: key).length cn) (sp :: key)) := ⟨by have := CZ.out.lt; omega, hrow, hsn⟩
  have h1 : Z1.heap[gb]? = _ := (b1.block gb (aa hHeld)).trans hHeld
  clear hgn hrow hsn b1 CZ AZ BZ KZ VZ hHeld
  refine hK.out _ _ h1 (fun hHeld => ?_)
  clear hK K h1
  try simp only [uA]
  refine tq 11 ?_
  simp only [uA]
  refine tq 12 ?_
  simp only [uA]
  refine rdy [13] ?_
  obtain ⟨W3, hst, hci, hcg⟩ := C1.out.store k hlt ⟨some ⟨gn, 0, none⟩, key.length + 1, cn, va, vn, vc, dr⟩ HK1.out
  have W3H : W3.heap[gb]? = _ := (hcg.block gb (aa hHeld) NG.out).trans hHeld
  have A2 := hide ((A1.out.snoc (x := ⟨some ⟨gn, 0, none⟩, key.length + 1, cn, va, vn, vc, dr⟩) (c := ⟨sp :: key, val, dr⟩) KI.out.val rfl ⟨gn, K1.out⟩).chg (fun j hj hne => hcg.block j hj hne) hcg.size)
  have B2 := hide (B1.out.trans (hcg.below _ B1.out.size (fun j hj e => by have := HG.out; omega)))
  have C2 := hide hci
  refine dU (o := ⟨_, _, _, _, _, _⟩) rfl rfl 77 (.tmp 28) (.tmp 27) rfl W3 hst AllReadyH.nil ⟨W3H, fun hHeld => ?_⟩
  simp only [Act.put]
  refine wpAnyH_done (by kernel_rfl) ?_ _
  refine NoPanic.normal ?_
  clear hHeld
  have A3 : Hid (fV w W3 g (d1 ++ [⟨some ⟨gn, 0, none⟩, key.length + 1, cn, va, vn, vc, dr⟩]) ((cs.take (k + 1)).map S.tr)) := by
   have e1 : (cs.take (k + 1)).map S.tr = (cs.take k).map S.tr ++ [⟨sp :: key, val, dr⟩] := by rw [List.take_add_one, CK.out]; simp [S.tr]
   rw [e1]
   exact A2.out
  go_wp2_with fail
  go_roundw
  case rel => exact ⟨k + 1, by omega, by go_num, B2, _, by simp [HK1.out], C2, A3⟩
  case measure => simp [intOf]; omega
 ·obtain rfl : k = n := by omega
  have e1 : cs.take k = cs := List.take_of_length_le (by have := HC.out.1; have := HN.out; omega)
  rw [e1] at AR
  have HD1 := hide hd1
  go_wp2_with fail
  go_ret
  exact ⟨g, d1, rfl, HG.out, HD1.out, CI.out, AR.out.are BW.out, BW.out⟩
end Go.Proofs.YteealihknndclabGreatDoor
namespace Go.Proofs.YteealihknndclabGreatDoor
open Go.RowKit
open Go.Shelf
attribute [local go_sem] Oper.semAt_some
theorem Chg.putObj {p : Nat -> Prop} {w W : World} {l : Nat} {o' : Obj} (h : Chg p w W) (hl : w.heap.size <= l) : Chg p w (W.putObj l o') := by
 refine ⟨h.os, h.tape, h.output, by rw [World.putObj_size]; exact h.size, fun k hk hn => ?_⟩
 rw [World.putObj_heap_other (by omega)]
 exact h.block k hk hn
theorem nT {W : World} {l g : Nat} {o o' : Obj} {cs : Array Value} {t : TypeId} {fr : Nat × Nat} (hg : W.heap[g]? = some (.cells cs t fr)) (hl : W.heap[l]? = some o) (hn : o.isCells = false) : (W.putObj l o').heap[g]? = some (.cells cs t fr) := by
 by_cases e : g = l
 ·subst e; rw [hg] at hl; injection hl with hl; rw [<- hl] at hn; simp [Obj.isCells] at hn
 ·rw [World.putObj_heap_other e]; exact hg
theorem vT {n : Nat} {w W : World} {l : Nat} {o' : Obj} (h : Below n w W) (hl : n <= l) : Below n w (W.putObj l o') :=
 ⟨h.os, h.tape, h.output, by rw [World.putObj_size]; exact h.size, fun k hk => by rw [World.putObj_heap_other (by omega)]; exact h.block k hk⟩
def noDef (o : Oper) : Bool := match o.op with | .defer _ => false | _ => true
theorem Em {l : List Oper} (h : l.all noDef = true) (i : Nat) (o : Oper) (ho : l.toArray[i]? = some o) (c : Call) : o.op ≠ .defer c := fun e => by
 have := List.all_eq_true.1 h o (List.mem_of_getElem? (by simpa using ho))
 rw [noDef, e] at this
 cases this
theorem yB {fn : Func} {p : Tmp} {ty : TypeId} (h : fn.results = #[.cell p ty]) (tmps : Array Value) (w : World) (g : Nat) (v : Value)
  (hp : tmps.getD p undef = .pointer (some ⟨g, 0, none⟩)) (hl : (loadVar ty ⟨g, 0, none⟩).run Tryz.prog w = .ok v w) :
  (results fn tmps).run Tryz.prog w = .ok v w := by
 have hp' : tmps[p]?.getD undef = .pointer (some ⟨g, 0, none⟩) := by simpa using hp
 simp [results, h, hp', asAddr, hl]
theorem Bl {P : Program} {c : Code} {Q : Exit -> Act -> World -> Prop} {a : Act} {w : World} (h : ∀ T, T = a.tmps -> c.wp P Q { tmps := T, defers := a.defers } w) : c.wp P Q a w := h a.tmps rfl
theorem lD.grows (B : Nat) (es : List S.Ent) (pre : List EnV) (x : EnV) {V W : World} (h : lD B es pre x V) (hb : Below V.heap.size V W) : lD B es pre x W := by
 obtain ⟨e, h1, h2⟩ := h
 exact ⟨e, h1, h2.below hb⟩
end Go.Proofs.YteealihknndclabGreatDoor
namespace Go.Proofs.YteealihknndclabGreatDoor
open Go.RowKit Go.Shelf
attribute [local go_sem] Oper.semAt_some
def S.used : List S.Ent -> Nat
 | [] => 0
 | e :: es => (e.key.length + e.val.length) + S.used es
theorem S.used_take (es : List S.Ent) (k : Nat) (e : S.Ent) (h : es[k]? = some e) : S.used (es.take (k + 1)) = S.used (es.take k) + (e.key.length + e.val.length) := by
 induction es generalizing k with
 | nil => simp at h
 | cons x es ih =>
  cases k with
  | zero => simp at h; subst h; simp [S.used]
  | succ k => simp at h; simp [S.used, ih k h]; omega
theorem S.used_le (es : List S.Ent) (h : ∀ e ∈ es, e.key.length <= 40 /\ e.val.length <= 400) : S.used es <= 440 * es.length := by
 induction es with
 | nil => simp [S.used]
 | cons x es ih =>
  have h1 := h x (by simp)
  have h2 := ih (fun e he => h e (by simp [he]))
  simp [S.used]
  omega
set_option maxHeartbeats 16000000 in
set_option maxRecDepth 100000 in
theorem dX (B gk gs gt : Nat) (b : Int) (pg : Nat -> List UInt8) (es : List S.Ent) (w : World) (hr : Rds B w gs pg) (hl : S.nW pg es) (ht : jL w gt gs) (hs : pu w gk gt b) :
  Calls Tryz.prog 14 #[.pointer (some ⟨gk, 0, none⟩)] w fun e w' => e = .returned (.int .i64 (S.used es : Int)) /\ Below w.heap.size w w' := by
 have HR := hide hr
 have HL := hide hl
 have HT := hide ht
 have HS := hide hs
 have HUL : Hid (∀ k, S.used (es.take k) <= 200000) := fun k => by
  have h1 := S.used_le (es.take k) (fun e he => ⟨(hl.ok.ent e (List.mem_of_mem_take he)).key, (hl.ok.ent e (List.mem_of_mem_take he)).val⟩)
  have h2 := hl.ok.len
  have h3 : (es.take k).length <= es.length := List.length_take_le' k es
  omega
 clear hr hl ht hs
 refine (callsIn_wide (n := 3)).1 ?_
 refine callsIn_of_wp_marks Tryz.func14 rfl trivial ?_ rfl
 refine wpIn_wide.2 ?_
 simp only [Tryz.ntmps14, List.size_toArray, List.length_cons, List.length_nil, Nat.reduceAdd, Nat.reduceSub, Array.replicate_succ, Array.replicate_zero, List.push_toArray, List.append_toArray, List.nil_append, List.cons_append]
 go_upto_region 2 with fail
 generalize hW0 : w.alloc _ = W0
 have b0 : Below w.heap.size w W0 := by rw [<- hW0]; exact ba ..
 have r0 : W0.heap[w.heap.size]? = some (.cells #[.int .i64 0] 3 (0, 0)) := by rw [<- hW0]; exact heap_alloc_new _ _
 obtain ⟨gn, hgn⟩ : ∃ g, g = w.heap.size := ⟨_, rfl⟩
 rw [<- hgn] at r0 ⊢
 have HG : Hid (w.heap.size <= gn) := Nat.le_of_eq hgn.symm
 have B0 := hide b0
 have R0 := hide r0
 obtain ⟨c0, c1⟩ := aJ (HS.out.below b0)
 clear hW0 b0 r0 hgn
 go_wp2_with fail
 refine (AY gt W0).mono ?_
 rintro e W4 ⟨g3, g4, g5, rfl, hsq, l3, l4, l5⟩
 have BW := hide (B0.out.trans (hsq.1.mono B0.out.size))
 have NN := hide ((hsq.1.block _ (aa R0.out)).trans R0.out)
 have G5 : Hid (g5 ≠ gn) := by have := aa R0.out; show g5 ≠ gn; omega
 have HSEQ := hide (AX 1 B gs gt g4 g5 g3 pg es (fun k => k = gn) W4 (HR.out.below BW.out) HL.out ((BW.out.block _ (aa HT.out)).trans HT.out) hsq.2.2.1 hsq.2.2.2 hsq.2.1 (fun k hk => by rw [hk]; exact aa NN.out) G5.out)
 clear hsq l3 l4 l5 c0 c1 HR HT HS R0 B0
 go_wp2_with fail
 refine Bl (fun T hT => ?_)
 have HTT := hide hT
 clear hT
 refine (wpIn_wide (n := 2)).1 (sD (n := 2) (w0 := W4) (gf := 38) (lb := #[.pointer (some ⟨g4, 0, none⟩), .pointer (some ⟨g5, 0, none⟩), .pointer (some ⟨g3, 0, none⟩)]) (by rw [HTT.out]; rfl) (enters_of Tryz.func38 (by kernel_rfl) rfl) HSEQ.out (Below.refl _ _) (fun _ => rfl) (fun k hk => by rw [hk]; exact aa NN.out)
  (fun pre V => V.heap[gn]? = some (.cells #[.int .i64 (S.used (es.take pre.length) : Int)] 3 (0, 0)) /\ Chg (fun k => k = gn) W4 V) (fun _ _ _ => False)
  (fun s A V h hb => ⟨(hb.block _ (aa h.1)).trans h.1, h.2.trans (q := fun _ => False) (Chg.ofBelow' hb) (fun _ _ e => e.elim)⟩) (fun c s A V h hb => h) (fun s A l o o' h hl ho hc => ⟨nT h.1 ho hc, h.2.putObj hl⟩) (fun c s A l o o' h hl ho hc => h) (fun pre => lD.bare _ _ es pre) (fun pre s A V h hb => lD.grows _ es pre s h hb) ⟨NN.out, Chg.refl _ _⟩
  (fun x a' V => ∃ gx, V.heap[gx]? = some (.cells #[.slice x.ka x.kn x.kc, .slice x.va x.vn x.vc] 43 (0, 0)) /\ a' = { tmps := (T.setIfInBounds 10 (.agg #[.slice x.ka x.kn x.kc, .slice x.va x.vn x.vc])).setIfInBounds 4 (.pointer (some ⟨gx, 0, none⟩)), defers := [] })
  (fun x s A l o o' h hl ho hc => by obtain ⟨gx, h1, h2⟩ := h; exact ⟨gx, nT h1 ho hc, h2⟩) ?assign ?body ?done ?stop)
 case assign =>
  rintro l pre x V K ⟨hI1, hI2⟩ hp hK
  obtain ⟨ka, kn, kc, va, vn, vc', px, nd⟩ := x
  have hT2 : ∀ (T : Array Value), ((#[10] : Array Tmp).zip (Ab ⟨ka, kn, kc, va, vn, vc', px, nd⟩)).foldl (fun t (p, v) => t.setIfInBounds p v) T = T.setIfInBounds 10 (.agg #[.slice ka kn kc, .slice va vn vc']) := fun T => by simp [Ab]
  rw [hT2]
  have hK2 := hK _ (V.alloc (.cells #[.slice ka kn kc, .slice va vn vc'] 43 (0, 0))) ((Below.refl _ V).alloc (lr _) _) ⟨V.heap.size, heap_alloc_new _ _, rfl⟩
  clear hK hT2 hp hI1 hI2
  have HK2 := hide hK2
  clear hK2
  have hT := HTT.out
  subst hT
  simp only [List.setIfInBounds_toArray, List.set_cons_zero, List.set_cons_succ] at HK2 ⊢
  gi_wp2
  exact HK2.out
 case body =>
  rintro l pre x a' V ⟨hI1, hI2⟩ ⟨en, hen, hnew⟩ ⟨gx, hgx, rfl⟩
  obtain ⟨ka, kn, kc, va, vn, vc', px, nd⟩ := x
  have eok := HL.out.ok.ent en (List.mem_of_getElem? hen)
  have his := hnew.is (by have := eok.key; omega) (by have := eok.val; omega)
  have UT := hide (S.used_take es _ en hen)
  obtain ⟨m, hm⟩ : ∃ m, m = S.used (es.take pre.length) := ⟨_, rfl⟩
  rw [<- hm] at hI1
  have HM := hide hm
  have NK : Hid (kn = en.key.length /\ vn = en.val.length /\ kn <= 40 /\ vn <= 400) := by
   obtain ⟨q, e1, e2, e3, e4, e5⟩ := hnew.key
   simp only at e2
   have h1 := eok.key
   have h2 := eok.val
   rcases hnew.val with ⟨f1, f2, f3, f4⟩ | ⟨q', f1, f2, f3, f4, f5, _⟩
   ·simp only at f2
    refine ⟨e2, by rw [f2, f4]; rfl, by omega, by omega⟩
   ·simp only at f2
    exact ⟨e2, f2, by omega, by omega⟩
  have NX : Hid (gx ≠ gn) := fun e => by rw [e, hI1] at hgx; cases hgx
  have HI1 := hide hI1
  have HI2 := hide hI2
  have HX := hide hgx
  have QS : Hid (IntKind.i64.wrap ((m : Int) + ((kn : Int) + (vn : Int))) = ((m + (kn + vn) : Nat) : Int)) := by
   have h1 := HUL.out pre.length
   have h2 := HM.out
   have h3 := NK.out
   show IntKind.i64.wrap _ = _
   rw [IntKind.wrap_i64]; omega
  clear hI1 hI2 hen hnew hgx eok his hm
  have hT := HTT.out
  subst hT
  simp only [List.setIfInBounds_toArray, List.set_cons_zero, List.set_cons_succ]
  gi_wp2
  refine wpIn_region_any (by kernel_rfl) (xC (fun h => by obtain ⟨_, _, h⟩ := h; exact h) (Em (by kernel_rfl)) _ _ _ _ (wpAny_of_held (S := fun Z => Z.heap[gx]? = some (.cells #[.slice ka kn kc, .slice va vn vc'] 43 (0, 0))) _ _ _ _ ?_))
  have hHeld : V.drew.heap[gx]? = some (.cells #[.slice ka kn kc, .slice va vn vc'] 43 (0, 0)) := HX.out
  have GN : Hid (V.drew.heap[gn]? = some (.cells #[.int .i64 (m : Int)] 3 (0, 0))) := HI1.out
  have CD : Hid (Chg (fun k => k = gn) W4 V.drew /\ Chg (fun k => k = gn) V V.drew) := ⟨HI2.out.drew, (Chg.refl _ _).drew⟩
  clear HI1 HX HI2
  show wpAnyH _ _ _ _ _ _ _ _ V.drew
  generalize V.drew = Z0 at hHeld CD GN ⊢
  refine tq 1 ?_
  simp only [uA]
  refine tk 2 ?_ rfl (Or.inl ⟨by rfl, ?_⟩) ?_
  rotate_left
  ·intro w hSw
   have c0 := (aJ hSw).1
   clear hSw
   go_simp
   all_goals with_reducible rfl
  simp only [uA]
  refine tq 3 ?_
  simp only [uA]
  refine tk 4 ?_ rfl (Or.inl ⟨by rfl, ?_⟩) ?_
  rotate_left
  ·intro w hSw
   have c0 := (aJ hSw).2
   clear hSw
   go_simp
   all_goals with_reducible rfl
  simp only [uA]
  have hld : (Instr.loadAt 3 (.pointer (some ⟨gn, 0, none⟩))).run Tryz.prog Z0 = .ok (.int .i64 (m : Int)) Z0 := by
   have c0 := fK GN.out
   go_simp
  have HLD := hide hld
  clear hld
  refine rdy [0, 5] ?_
  refine aG (o := ⟨_, _, _, _, _, _⟩) rfl rfl 3 (.tmp 3) rfl (.int .i64 (m : Int)) HLD.out ?_ ⟨hHeld, fun hHeld => ?_⟩
  rotate_left
  ·simp only [uA]
   refine r1 5 fun K hK => ?_
   go_simp
   refine (jb ka va kn vn kc vc' (by have := NK.out; omega) (by have := NK.out; omega) Z0).mono ?_
   rintro e Z1 ⟨rfl, rfl⟩
   refine hK.out _ _ hHeld (fun hHeld => ?_)
   clear hK K
   try simp only [uA]
   refine tq 6 ?_
   simp only [uA]
   refine rdy [7] ?_
   have hst : (Instr.storeAt 3 (.pointer (some ⟨gn, 0, none⟩)) (.int .i64 (IntKind.i64.wrap ((m : Int) + ((kn : Int) + (vn : Int)))))).run Tryz.prog Z1 = .ok () (Z1.setCell ⟨gn, 0, none⟩ (.int .i64 (IntKind.i64.wrap ((m : Int) + ((kn : Int) + (vn : Int)))))) := by
    have c0 := fK GN.out
    have fz := frozen_of_row _ gn 0 _ _ GN.out
    go_simp
   refine dU (o := ⟨_, _, _, _, _, _⟩) rfl rfl 3 (.tmp 3) (.tmp 17) rfl _ hst AllReadyH.nil ⟨(heap_setCell_other Z1 ⟨gn, 0, none⟩ gx _ NX.out).trans hHeld, fun hHeld => ?_⟩
   simp only [Act.put]
   refine wpAnyH_done (by kernel_rfl) ?_ _
   have UE : S.used (es.take (pre.length + 1)) = m + (kn + vn) := by have h1 := UT.out; have h2 := HM.out; have h3 := NK.out; omega
   gi_wp2
   refine ⟨CD.out.2.setCell gn 0 _ (fun _ => rfl), ?_, CD.out.1.setCell gn 0 _ (fun _ => rfl)⟩
   rw [List.length_append, show ([_] : List EnV).length = 1 from rfl, UE, <- QS.out]
   exact one_setCell GN.out
  refine c1 fun K hK => ?_
  go_simp
  refine (jb ka va kn vn kc vc' (by have := NK.out; omega) (by have := NK.out; omega) Z0).mono ?_
  rintro e Z1 ⟨rfl, rfl⟩
  refine hK.out _ _ hHeld (fun hHeld => ?_)
  clear hK K
  try simp only [uA]
  refine rdy [0] ?_
  refine aG (o := ⟨_, _, _, _, _, _⟩) rfl rfl 3 (.tmp 3) rfl (.int .i64 (m : Int)) HLD.out AllReadyH.nil ⟨hHeld, fun hHeld => ?_⟩
  simp only [uA]
  refine tq 6 ?_
  simp only [uA]
  refine rdy [7] ?_
  have hst : (Instr.storeAt 3 (.pointer (some ⟨gn, 0, none⟩)) (.int .i64 (IntKind.i64.wrap ((m : Int) + ((kn : Int) + (vn : Int)))))).run Tryz.prog Z1 = .ok () (Z1.setCell ⟨gn, 0, none⟩ (.int .i64 (IntKind.i64.wrap ((m : Int) + ((kn : Int) + (vn : Int)))))) := by
   have c0 := fK GN.out
   have fz := frozen_of_row _ gn 0 _ _ GN.out
   go_simp
  refine dU (o := ⟨_, _, _, _, _, _⟩) rfl rfl 3 (.tmp 3) (.tmp 17) rfl _ hst AllReadyH.nil ⟨(heap_setCell_other Z1 ⟨gn, 0, none⟩ gx _ NX.out).trans hHeld, fun hHeld => ?_⟩
  simp only [Act.put]
  refine wpAnyH_done (by kernel_rfl) ?_ _
  have UE : S.used (es.take (pre.length + 1)) = m + (kn + vn) := by have h1 := UT.out; have h2 := HM.out; have h3 := NK.out; omega
  gi_wp2
  refine ⟨CD.out.2.setCell gn 0 _ (fun _ => rfl), ?_, CD.out.1.setCell gn 0 _ (fun _ => rfl)⟩
  rw [List.length_append, show ([_] : List EnV).length = 1 from rfl, UE, <- QS.out]
  exact one_setCell GN.out
 case done =>
  rintro D xs V hD hxs ⟨hI1, hI2⟩ hKD
  rw [hxs, List.take_length] at hI1
  have c0 := fK hI1
  have KD := hide hKD
  have BV := hide (BW.out.trans (hI2.below w.heap.size BW.out.size (fun k hk e => by have := HG.out; omega)))
  have HD := hide (show w.heap.size <= D from ltr BW.out.size hD)
  clear hI1 hI2 hKD hxs hD
  have hT := HTT.out
  subst hT
  go_wp2_with fail
  refine ⟨by simp, .inl ⟨_, _, rfl, run_takeDeferred KD.out, ?_⟩⟩
  exact ⟨.int .i64 (S.used es : Int), (results_tmp (t := 2) (fn := Tryz.f14) rfl _ _ _).trans (by simp), rfl, vT BV.out HD.out⟩
 case stop =>
  rintro D c pre V _ _ h _
  exact h.elim
end Go.Proofs.YteealihknndclabGreatDoor
namespace Go.Proofs.YteealihknndclabGreatDoor
open Go.RowKit
theorem Ct (x : KcV) : ∀ v ∈ bS x, v.oneCell' = true := by
 intro v hv
 simp [bS] at hv
 rcases hv with rfl | rfl | rfl | rfl <;> rfl
theorem zL : (Tryz.prog.info? 30).map (·.size) = some 4 := by kernel_rfl
theorem store67 {w : World} {g : Nat} {c0 : Array Value} (a : w.heap[g]? = some (.cells c0 30 (0, 0))) (h0 : c0.size = 4) (x : KcV) :
  ∃ w', (Instr.storeAt 30 (.pointer (some ⟨g, 0, none⟩)) (.agg (bS x).toArray)).run Tryz.prog w = .ok () w' /\ w'.heap[g]? = some (.cells (bS x).toArray 30 (0, 0)) /\ Chg (fun k => k = g) w w' := by
 have h1 : (bS x).toArray.all (·.oneCell') = true := all_oneCell_toArray (Ct x)
 have hr := run_storeVar_row (P := Tryz.prog) w g 30 30 _ (bS x).toArray a (by rw [zL, List.size_toArray, lW]) (by exact h0) h1
 refine ⟨w.setRow g (bS x).toArray, ?_, setRow_heap w g _ _ _ _ a, Chg.setRow (p := fun k => k = g) g _ rfl⟩
 simp only [Instr.storeAt, Instr.sureAddr, Sem.run_bind, Sem.run_pure, Result.andThen_ok, hr]
theorem var67 {w : World} {g : Nat} {x : KcV} (h : w.heap[g]? = some (.cells (bS x).toArray 30 (0, 0))) : (loadVar 30 ⟨g, 0, none⟩).run Tryz.prog w = .ok (.agg (bS x).toArray) w :=
 run_loadVar_row w g 30 30 _ (0, 0) _ h Tryz.underlying30 rfl (by rw [zL, List.size_toArray, lW])
set_option maxHeartbeats 8000000 in
set_option maxRecDepth 10000 in
theorem nL (a b : List UInt8) (ha : a.length <= 1000000) (hb : b.length <= 1000000) (s : UInt8) (A B : ByteArray) (hA : A = ⟨a.toArray⟩) (hB : B = ⟨b.toArray⟩) (w : World) :
  Calls Tryz.prog 11 #[.int .u8 (s.toNat : Int), .string A, .string B] w fun e w' => ∃ x : KcV, e = .returned (.agg (bS x).toArray) /\ lZ w' x (s, ⟨a, b, false⟩) /\ x.kn = a.length /\ x.vn = b.length /\ Below w.heap.size w w' := by
 go_enter Tryz.func11, Tryz.ntmps11
 go_upto_region 1 with fail
 generalize hW0 : w.alloc _ = W0
 have B0 : Below w.heap.size w W0 := by rw [<- hW0]; exact ba ..
 have R0 : W0.heap[w.heap.size]? = some (.cells #[.int .u8 0, .slice none 0 0, .slice none 0 0, .bool false] 30 (0, 0)) := by rw [<- hW0]; exact heap_alloc_new _ _
 obtain ⟨c1, W1, cv1, s1, b1⟩ := tL W0 a ha
 obtain ⟨c2, W2, cv2, s2, b2⟩ := tL W1 b hb
 rw [<- hA] at cv1
 rw [<- hB] at cv2
 have R2 : W2.heap[w.heap.size]? = some (.cells #[.int .u8 0, .slice none 0 0, .slice none 0 0, .bool false] 30 (0, 0)) := (b2.block _ (Nat.lt_of_lt_of_le (aa R0) b1.size)).trans ((b1.block _ (aa R0)).trans R0)
 obtain ⟨W3, hst, r3, k3⟩ := store67 R2 rfl ⟨s, some ⟨W0.heap.size, 0, none⟩, a.length, c1, some ⟨W1.heap.size, 0, none⟩, b.length, c2, false⟩
 have jd : (Instr.storeAt 30 (.pointer (some ⟨w.heap.size, 0, none⟩)) (.agg #[.int .u8 (s.toNat : Int), .slice (some ⟨W0.heap.size, 0, none⟩) a.length c1, .slice (some ⟨W1.heap.size, 0, none⟩) b.length c2, .bool false])).run Tryz.prog W2 = .ok () W3 := hst
 have n1 : w.heap.size < W0.heap.size := aa R0
 have RES : Hid (lZ W3 ⟨s, some ⟨W0.heap.size, 0, none⟩, a.length, c1, some ⟨W1.heap.size, 0, none⟩, b.length, c2, false⟩ (s, ⟨a, b, false⟩)) :=
  ⟨rfl, qI (s1.below b2 (lr _)) k3 (fun a n c e hk => by simp only [Value.slice.injEq, Option.some.injEq] at e; rw [<- e.1] at hk; have hk' : W0.heap.size = w.heap.size := hk; omega), qI s2 k3 (fun a n c e hk => by simp only [Value.slice.injEq, Option.some.injEq] at e; rw [<- e.1] at hk; have hk' : W1.heap.size = w.heap.size := hk; have := b1.size; omega), rfl⟩
 have B3 := hide (show Below w.heap.size w W3 from ((B0.trans (b1.mono B0.size)).trans (b2.mono (ltr B0.size b1.size))).trans (k3.base (ltr B0.size (ltr b1.size b2.size)) (lr _)))
 have R3 := hide r3
 clear hW0 B0 R0 s1 b1 s2 b2 R2 hst r3 k3 n1 hA hB
 go_wp2_with (with_reducible refine ak ⟨none, .store 30 (.tmp 6) (.tmp 12), 0, "law.go:111", #[{ on := 5, ground := Ground.data }, { on := 0, ground := Ground.phase }, { on := 1, ground := Ground.phase }, { on := 2, ground := Ground.phase }, { on := 3, ground := Ground.phase }, { on := 4, ground := Ground.phase }, { on := 5, ground := Ground.phase }], none⟩ ?_; refine ah rfl 30 (.tmp 6) (.tmp 12) rfl (.pointer (some ⟨w.heap.size, 0, none⟩)) (.agg #[.int .u8 (s.toNat : Int), .slice (some ⟨W0.heap.size, 0, none⟩) a.length c1, .slice (some ⟨W1.heap.size, 0, none⟩) b.length c2, .bool false]) rfl rfl _ jd ?_)
 exact bodyPost_ret (v := .agg (bS ⟨s, some ⟨W0.heap.size, 0, none⟩, a.length, c1, some ⟨W1.heap.size, 0, none⟩, b.length, c2, false⟩).toArray) (yB Tryz.results11 _ _ w.heap.size _ rfl (var67 R3.out)) rfl ⟨_, rfl, RES.out, rfl, rfl, B3.out⟩
end Go.Proofs.YteealihknndclabGreatDoor
namespace Go.Proofs.YteealihknndclabGreatDoor
open Go.RowKit Go.Maps
theorem xu : Keyed Tryz.prog 9 := string_keyed Tryz.underlying9
theorem zC (w : World) : (zeroValue 3).run Tryz.prog w = .ok (.int .i64 0) w := by kernel_rfl
theorem key9 (k : List UInt8) (hk : k.length <= 1000000) : keyOf Tryz.prog 9 (.string ⟨k.toArray⟩) = some (.string k) := by
 have h := Go.WideMaps.keyOf_string_mk (k := 9) (P := Tryz.prog) Tryz.underlying9 (s := ⟨k.toArray⟩) (by simp [ByteArray.size, maxLen]; omega)
 simpa using h
def S.szOf (es : List S.Ent) (key : List UInt8) : Nat := match es.find? (fun x => decide (x.key = key)) with
 | some x => x.key.length + x.val.length
 | none => 0
def S.now (c : S.Cg) : Nat := if c.dr then 0 else c.key.length + c.val.length
def S.was (es : List S.Ent) (D : DataW Unit) (c : S.Cg) : Int := if has D (.string c.key) then (match D.atKey (.string c.key) (.lit (.int .i64 0)) with
 | .lit (.int _ z) => z
 | _ => 0) else (S.szOf es c.key : Int)
def S.grStep (es : List S.Ent) (s : DataW Unit × Int) (c : S.Cg) : DataW Unit × Int := (s.1.put (.string c.key) (.lit (.int .i64 (S.now c : Int))), IntKind.i64.wrap (s.2 + IntKind.i64.wrap ((S.now c : Int) - S.was es s.1 c)))
def S.gr (es : List S.Ent) (cs : List S.Cg) : DataW Unit × Int := cs.foldl (S.grStep es) (.map [], 0)
theorem S.gr_next (es : List S.Ent) (cs : List S.Cg) (k : Nat) (c : S.Cg) (h : cs[k]? = some c) : S.gr es (cs.take (k + 1)) = S.grStep es (S.gr es (cs.take k)) c := by
 rw [List.take_add_one, h]
 simp [S.gr]
theorem zG (es : List S.Ent) (key : List UInt8) (n : Nat) (h1 : ∀ x ∈ es, x.key = key -> n = key.length + x.val.length) (h2 : key ∉ es.map (·.key) -> n = 0) : n = S.szOf es key := by
 unfold S.szOf
 cases h : es.find? (fun x => decide (x.key = key)) with
 | none =>
  refine h2 (fun hm => ?_)
  obtain ⟨x, hx, hk⟩ := List.mem_map.1 hm
  have := List.find?_eq_none.1 h x hx
  simp [hk] at this
 | some x =>
  have hm := List.mem_of_find?_eq_some h
  have hk := List.find?_some h
  simp at hk
  have := h1 x hm hk
  simp only [hk]
  exact this
theorem vk (n : Nat) (h : n <= 1000000) : (Lit.int .i64 (n : Int)).wf = true := by
 simp [Lit.wf, IntKind.min, IntKind.max, IntKind.signed, IntKind.bits]
 omega
theorem qQ {w W : World} {gm k : Nat} {D : DataW Unit} (h : w.ownsMap Tryz.prog 9 (plainElem (H := Unit) Tryz.prog 3) gm k D) (hb : Below w.heap.size w W) : W.ownsMap Tryz.prog 9 (plainElem (H := Unit) Tryz.prog 3) gm k D := by
 have hl := h.lt
 obtain ⟨a, c, h1, h2⟩ := h
 exact ⟨a, c, (hb.block gm hl).trans h1, h2⟩
set_option maxHeartbeats 16000000 in
set_option maxRecDepth 100000 in
theorem j4 (B gk gs gt b off cap : Nat) (bd : Int) (pg : Nat -> List UInt8) (es : List S.Ent) (d : List ChV) (cs : List S.Cg) (w : World) (hr : Rds B w gs pg) (hl : S.nW pg es) (ht : jL w gt gs) (hs : pu w gk gt bd) (h0 : ∀ j u, (d.flatMap aZ)[j]? = some u -> w.cell? ⟨b, off + j, none⟩ = some u) (hb : b < w.heap.size) (hn : d.length <= 100000) (hcap : d.length <= cap) (hc : dI w d cs) (hk : ∀ x ∈ d, x.kn <= 1000 /\ x.vn <= 1000) :
  Calls Tryz.prog 20 #[.pointer (some ⟨gk, 0, none⟩), .slice (some ⟨b, off, none⟩) d.length cap] w fun e w' => e = .returned (.int .i64 (S.gr es cs).2) /\ Below w.heap.size w w' := by
 have HR := hide hr
 have HL := hide hl
 have HT := hide ht
 have HS := hide hs
 have H0 := hide h0
 have HB := hide hb
 have HC := hide hc
 have HKK := hide hk
 obtain ⟨n, hn'⟩ : ∃ n, n = d.length := ⟨_, rfl⟩
 have HN := hide hn'
 rw [<- hn'] at hn hcap ⊢
 have HN2 : Hid (n <= 100000) := hn
 have hcap' : (n : Int) <= (cap : Int) := by omega
 have hmm := @run_makeMap Tryz.prog
 have M0 : Hid ((w.alloc (.map #[] 0)).ownsMap Tryz.prog 9 (plainElem (H := Unit) Tryz.prog 3) w.heap.size 0 (.map [])) := World.ownsMap_made _ _ _ _
 have B0 : Hid (Below w.heap.size w (w.alloc (.map #[] 0))) := ba ..
 obtain ⟨gm, hgm⟩ : ∃ g, g = w.heap.size := ⟨_, rfl⟩
 have HGM : Hid (w.heap.size <= gm) := Nat.le_of_eq hgm.symm
 rw [<- hgm] at M0
 clear hr hl ht hs h0 hb hc hk hn'
 go_enter Tryz.func20, Tryz.ntmps20
 go_wp2_with fail
 rw [<- hgm]
 clear hmm hgm
 generalize w.alloc (.map #[] 0) = w1 at M0 B0 ⊢
 go_loopw [5, 15] (fun z i wr => ∃ k : Nat, k <= n /\ i = .int .i64 (k : Int) /\ z = .int .i64 (S.gr es (cs.take k)).2 /\ Hid (wr.ownsMap Tryz.prog 9 (plainElem (H := Unit) Tryz.prog 3) gm k (S.gr es (cs.take k)).1) /\ Hid (Below w.heap.size w wr)) (fun z i _ => n - (intOf i).toNat)
 case atStart => exact ⟨0, by omega, rfl, rfl, M0, B0⟩
 case round =>
 obtain ⟨k, hkn, rfl, rfl, HM, BW⟩ := hrel
 by_cases hlt : k < n
 ·have hkd : k < d.length := by have := HN.out; omega
  have hkc : k < cs.length := by have := HC.out.1; omega
  have hkI : (k : Int) < (n : Int) := by omega
  have hk0 : (0 : Int) <= (k : Int) := by omega
  obtain ⟨x, hx⟩ : ∃ x, x = d[k] := ⟨_, rfl⟩
  obtain ⟨c, hcx⟩ : ∃ c, c = cs[k] := ⟨_, rfl⟩
  have XK : d[k]? = some x := by rw [hx]; exact List.getElem?_eq_getElem hkd
  have CK : Hid (cs[k]? = some c) := by rw [hcx]; exact List.getElem?_eq_getElem hkc
  have CI : Hid (zA w x c) := HC.out.2 k _ _ XK CK.out
  have KK := HKK.out x (List.mem_of_getElem? XK)
  have CL : ∀ (r : Nat) u, (aZ x)[r]? = some u -> w.cell? ⟨b, off + (k * 3 + r), none⟩ = some u := fun r u hu => H0.out _ u (by
   rw [flat_get gu d k r x XK (by have := (List.getElem?_eq_some_iff.1 hu).1; rw [gu] at this; exact this)]; exact hu)
  obtain ⟨t0, t1, t2⟩ := FH CL
  obtain ⟨ka, kn, kc, va, vn, vc, dr⟩ := x
  obtain ⟨key, val, dr'⟩ := c
  obtain rfl : dr = dr' := CI.out.dr
  have u0 := (BW.out.cell (p := ⟨b, off + k * 3, none⟩) HB.out).trans t0
  have u1 := (BW.out.cell (p := ⟨b, off + k * 3 + 1, none⟩) HB.out).trans t1
  have u2 := (BW.out.cell (p := ⟨b, off + k * 3 + 2, none⟩) HB.out).trans t2
  simp only at u0 u1 u2
  have KV : Hid (kn = key.length /\ vn = val.length /\ kn <= 1000 /\ vn <= 1000) := by
   obtain ⟨_, l1, _, e1, h1, _⟩ := CI.out.key.form
   obtain ⟨_, l2, _, e2, h2, _⟩ := CI.out.val.form
   simp only [Value.slice.injEq] at e1 e2
   exact ⟨e1.2.1.trans h1, e2.2.1.trans h2, KK.1, KK.2⟩
  clear t0 t1 t2 CL XK hx hcx KK
  go_upto_region 6 with fail
  obtain ⟨W, hW⟩ : ∃ W, W = wr.alloc (.cells #[.slice ka kn kc, .slice va vn vc, .bool dr] 77) := ⟨_, rfl⟩
  rw [<- hW]
  have bW : Below wr.heap.size wr W := by rw [hW]; exact ba ..
  have rW : W.heap[wr.heap.size]? = some (.cells #[.slice ka kn kc, .slice va vn vc, .bool dr] 77 (0, 0)) := by rw [hW]; exact heap_alloc_new _ _
  have HMW : Hid (W.ownsMap Tryz.prog 9 (plainElem (H := Unit) Tryz.prog 3) gm k (S.gr es (cs.take k)).1) := by rw [hW]; exact HM.out.alloc _
  obtain ⟨gb, hgb⟩ : ∃ gb, gb = wr.heap.size := ⟨_, rfl⟩
  rw [<- hgb] at rW ⊢
  obtain ⟨x0, x1, x2⟩ := iy rW
  have RWX := hide rW
  have BWX := hide (BW.out.trans (bW.mono BW.out.size))
  clear hW bW rW hgb u0 u1 u2 BW HM
  obtain ⟨KS, hKS⟩ : ∃ s, s = (⟨key.toArray⟩ : ByteArray) := ⟨_, rfl⟩
  have hkey : keyOf Tryz.prog 9 (.string KS) = some (.string key) := by rw [hKS]; exact key9 key (by have := KV.out; omega)
  have k1 : (convert 22 9 (.slice ka kn kc)).run Tryz.prog W = .ok (.string KS) W := by rw [hKS]; exact dZ (CI.out.key.below BWX.out (lr _))
  have HKS := hide hKS
  clear hKS
  cases hh : has (S.gr es (cs.take k)).1 (.string key)
  focus
   cases dr
   focus
    skip
    go_wp2_with (at_lookup; refine wpList_lookup_own_ok_int _ rfl _ _ 78 rfl 9 3 .i64 xu Tryz.underlying78 Tryz.underlying3 (zC _) gm k _ rfl HMW.out _ _ rfl hkey ?_; intro z9 hat hwz; rw [hh])
    have HWZ : Hid (S.was es (S.gr es (cs.take k)).1 ⟨key, val, false⟩ = (S.szOf es key : Int)) := by show S.was _ _ _ = _; simp [S.was, hh]
    refine (nK B gk gt gs bd pg es _ key W (HR.out.below BWX.out) ((BWX.out.block _ (aa HT.out)).trans HT.out) HL.out (HS.out.below BWX.out) (CI.out.key.below BWX.out (lr _)) (by have := KV.out; omega)).mono ?_
    rintro e WX ⟨m, rfl, e1, e2, bX⟩
    obtain rfl := zG es key m e1 e2
    have HMW := hide (qQ HMW.out bX)
    have RWX := hide ((bX.block gb (aa RWX.out)).trans RWX.out)
    obtain ⟨x0, x1, x2⟩ := iy RWX.out
    have BWX := hide (BWX.out.trans (bX.mono BWX.out.size))
    have k1 : (convert 22 9 (.slice ka kn kc)).run Tryz.prog WX = .ok (.string KS) WX := by rw [HKS.out]; exact dZ (CI.out.key.below BWX.out (lr _))
    clear e1 e2 bX
    go_wp2_with fail
    refine (jb ka va kn vn kc vc (by have := KV.out; omega) (by have := KV.out; omega) WX).mono ?_
    rintro e WV ⟨rfl, rfl⟩
    have NV : Hid (S.now ⟨key, val, false⟩ = kn + vn) := by have := KV.out; show S.now _ = _; simp [S.now]; omega
    have NW : Hid (kn + vn <= 1000000) := by have := KV.out; show _ <= _; omega
    have HMV := hide HMW.out
    go_wp2_with (at_mapUpdate; refine wpList_mapUpdate_own _ rfl _ _ _ 78 rfl 9 3 xu Tryz.underlying78 _ gm k _ rfl HMV.out (by have := HN2.out; unfold maxLen; omega) _ _ _ rfl rfl hkey _ [] (plainElem_int Tryz.underlying3 (vk _ NW.out)) ?_; intro w7 pV kU)
    have HM7 := hide pV
    have B7 : Hid (Below w.heap.size w w7) := BWX.out.trans (((Chg.refl (fun j => w.heap.size <= j) _).grown kU (fun j _ e => by simp only [Option.some.injEq] at e; have := HGM.out; omega)).below _ BWX.out.size (fun j hj e => by omega))
   rotate_left
   focus
    skip
    go_wp2_with (at_lookup; refine wpList_lookup_own_ok_int _ rfl _ _ 78 rfl 9 3 .i64 xu Tryz.underlying78 Tryz.underlying3 (zC _) gm k _ rfl HMW.out _ _ rfl hkey ?_; intro z9 hat hwz; rw [hh])
    have HWZ : Hid (S.was es (S.gr es (cs.take k)).1 ⟨key, val, true⟩ = (S.szOf es key : Int)) := by show S.was _ _ _ = _; simp [S.was, hh]
    refine (nK B gk gt gs bd pg es _ key W (HR.out.below BWX.out) ((BWX.out.block _ (aa HT.out)).trans HT.out) HL.out (HS.out.below BWX.out) (CI.out.key.below BWX.out (lr _)) (by have := KV.out; omega)).mono ?_
    rintro e WX ⟨m, rfl, e1, e2, bX⟩
    obtain rfl := zG es key m e1 e2
    have HMW := hide (qQ HMW.out bX)
    have RWX := hide ((bX.block gb (aa RWX.out)).trans RWX.out)
    obtain ⟨x0, x1, x2⟩ := iy RWX.out
    have BWX := hide (BWX.out.trans (bX.mono BWX.out.size))
    have k1 : (convert 22 9 (.slice ka kn kc)).run Tryz.prog WX = .ok (.string KS) WX := by rw [HKS.out]; exact dZ (CI.out.key.below BWX.out (lr _))
    clear e1 e2 bX
    have NV : Hid (S.now ⟨key, val, true⟩ = 0) := rfl
    have HMV := hide HMW.out
    go_wp2_with (at_mapUpdate; refine wpList_mapUpdate_own _ rfl _ _ _ 78 rfl 9 3 xu Tryz.underlying78 _ gm k _ rfl HMV.out (by have := HN2.out; unfold maxLen; omega) _ _ _ rfl rfl hkey _ [] (plainElem_int Tryz.underlying3 (vk 0 (by omega))) ?_; intro w7 pV kU)
    have HM7 := hide pV
    have B7 : Hid (Below w.heap.size w w7) := BWX.out.trans (((Chg.refl (fun j => w.heap.size <= j) _).grown kU (fun j _ e => by simp only [Option.some.injEq] at e; have := HGM.out; omega)).below _ BWX.out.size (fun j hj e => by omega))
  rotate_left 2
  focus
   cases dr
   focus
    skip
    go_wp2_with (at_lookup; refine wpList_lookup_own_ok_int _ rfl _ _ 78 rfl 9 3 .i64 xu Tryz.underlying78 Tryz.underlying3 (zC _) gm k _ rfl HMW.out _ _ rfl hkey ?_; intro z9 hat hwz; rw [hh])
    have HWZ : Hid (S.was es (S.gr es (cs.take k)).1 ⟨key, val, false⟩ = z9) := by show S.was _ _ _ = _; simp [S.was, hh, hat]
    refine (jb ka va kn vn kc vc (by have := KV.out; omega) (by have := KV.out; omega) W).mono ?_
    rintro e WV ⟨rfl, rfl⟩
    have NV : Hid (S.now ⟨key, val, false⟩ = kn + vn) := by have := KV.out; show S.now _ = _; simp [S.now]; omega
    have NW : Hid (kn + vn <= 1000000) := by have := KV.out; show _ <= _; omega
    have HMV := hide HMW.out
    go_wp2_with (at_mapUpdate; refine wpList_mapUpdate_own _ rfl _ _ _ 78 rfl 9 3 xu Tryz.underlying78 _ gm k _ rfl HMV.out (by have := HN2.out; unfold maxLen; omega) _ _ _ rfl rfl hkey _ [] (plainElem_int Tryz.underlying3 (vk _ NW.out)) ?_; intro w7 pV kU)
    have HM7 := hide pV
    have B7 : Hid (Below w.heap.size w w7) := BWX.out.trans (((Chg.refl (fun j => w.heap.size <= j) _).grown kU (fun j _ e => by simp only [Option.some.injEq] at e; have := HGM.out; omega)).below _ BWX.out.size (fun j hj e => by omega))
   rotate_left
   focus
    skip
    have HMV := hide HMW.out
    go_wp2_with (first | (at_lookup; refine wpList_lookup_own_ok_int _ rfl _ _ 78 rfl 9 3 .i64 xu Tryz.underlying78 Tryz.underlying3 (zC _) gm k _ rfl HMW.out _ _ rfl hkey ?_; intro z9 hat hwz; rw [hh]) | (at_mapUpdate; refine wpList_mapUpdate_own _ rfl _ _ _ 78 rfl 9 3 xu Tryz.underlying78 _ gm k _ rfl HMV.out (by have := HN2.out; unfold maxLen; omega) _ _ _ rfl rfl hkey _ [] (plainElem_int Tryz.underlying3 (vk 0 (by omega))) ?_; intro w7 pV kU))
    have HWZ : Hid (S.was es (S.gr es (cs.take k)).1 ⟨key, val, true⟩ = z9) := by show S.was _ _ _ = _; simp [S.was, hh, hat]
    have NV : Hid (S.now ⟨key, val, true⟩ = 0) := rfl
    have HM7 := hide pV
    have B7 : Hid (Below w.heap.size w w7) := BWX.out.trans (((Chg.refl (fun j => w.heap.size <= j) _).grown kU (fun j _ e => by simp only [Option.some.injEq] at e; have := HGM.out; omega)).below _ BWX.out.size (fun j hj e => by omega))
  all_goals
   clear pV kU
   have GRN := S.gr_next es cs k _ CK.out
   go_roundw
   case rel =>
    have hnow := NV.out
    have hwas := HWZ.out
    refine ⟨k + 1, by omega, by go_num, ?_, ?_, B7⟩
    ·rw [GRN]; simp [S.grStep, hnow, hwas, IntKind.wrap_i64, RowKit.wrap64]
    ·rw [GRN]; simp only [S.grStep, hnow]; exact HM7
   case measure => simp [intOf]; omega
 ·obtain rfl : k = n := by omega
  have e1 : cs.take k = cs := List.take_of_length_le (by have := HC.out.1; have := HN.out; omega)
  rw [e1] at HM ⊢
  go_wp2_with fail
  go_ret
  exact ⟨rfl, BW.out⟩
end Go.Proofs.YteealihknndclabGreatDoor
