/- Pairs of a leaf behind changes. -/
import Derived.Test.YteealihknndclaaGreatDoorBm
import Derived.Test.YteealihknndclaaGreatDoorWc
import Derived.Shelf.SlSortCmp.InsertionK
import Derived.Shelf.Lay
import Derived.Ground.SlsfProg
import Derived.Test.YteealihknndclaaGreatDoorBp
import Derived.Test.YteealihknndclaaGreatDoorRf
namespace Go.Proofs.YteealihknndclaaGreatDoor
open Go.RowKit

namespace S
structure Cg where
 key : List UInt8
 val : List UInt8
 dr : Bool
def mrg : List Ent -> List Cg -> List Ent
 | es, [] => es
 | es, c :: l => es.take (rank (es.map (·.key)) c.key) ++ ((if c.dr then [] else [⟨c.key, c.val, 0⟩]) ++ mrg (es.drop (rank (es.map (·.key)) c.key + if c.key ∈ es.map (·.key) then 1 else 0)) l)
theorem yO (ks : List (List UInt8)) (k : List UInt8) : rank ks k <= ks.length := List.countP_le_length
end S
structure yt (w : World) (x : ChV) (c : S.Cg) : Prop where
 key : SliceAt w (.slice x.ka x.kn x.kc) c.key
 val : SliceAt w (.slice x.va x.vn x.vc) c.val
 dr : x.dr = c.dr
def fP (w : World) (d : List ChV) (cs : List S.Cg) : Prop := d.length = cs.length /\ ∀ (i : Nat) x c, d[i]? = some x -> cs[i]? = some c -> yt w x c
theorem yt.below {w W : World} {x : ChV} {c : S.Cg} (h : yt w x c) (hb : Below w.heap.size w W) : yt W x c := ⟨h.key.below hb (lr _), h.val.below hb (lr _), h.dr⟩
theorem fP.below {w W : World} {d : List ChV} {cs : List S.Cg} (h : fP w d cs) (hb : Below w.heap.size w W) : fP W d cs := ⟨h.1, fun i x e hx he => (h.2 i x e hx he).below hb⟩
theorem EnsAre.app {w : World} {d d' : List EnV} {es es' : List S.Ent} (h : EnsAre w d es) (h' : EnsAre w d' es') : EnsAre w (d ++ d') (es ++ es') := by
 refine ⟨by rw [List.length_append, List.length_append, h.1, h'.1], fun i x e hx he => ?_⟩
 by_cases hi : i < d.length
 ·rw [List.getElem?_append_left hi] at hx
  rw [List.getElem?_append_left (by rw [<- h.1]; exact hi)] at he
  exact h.2 i x e hx he
 ·rw [List.getElem?_append_right (by omega)] at hx
  rw [List.getElem?_append_right (by have := h.1; omega), <- h.1] at he
  exact h'.2 _ x e hx he
theorem EnsAre.take {w : World} {d : List EnV} {es : List S.Ent} (h : EnsAre w d es) (n : Nat) : EnsAre w (d.take n) (es.take n) := by
 refine ⟨by rw [List.length_take, List.length_take, h.1], fun i x e hx he => ?_⟩
 rw [List.getElem?_take] at hx he
 split at hx
 ·rename_i hi; rw [if_pos hi] at he; exact h.2 i x e hx he
 ·cases hx
theorem EnsAre.drop {w : World} {d : List EnV} {es : List S.Ent} (h : EnsAre w d es) (n : Nat) : EnsAre w (d.drop n) (es.drop n) := by
 refine ⟨by rw [List.length_drop, List.length_drop, h.1], fun i x e hx he => ?_⟩
 rw [List.getElem?_drop] at hx he
 exact h.2 _ x e hx he
theorem EnsAre.one {w : World} {x : EnV} {e : S.Ent} (h : EnIs w x e) : EnsAre w [x] [e] := by
 refine ⟨rfl, fun i y f hy hf => ?_⟩
 match i, hy, hf with
 | 0, hy, hf => simp at hy hf; subst hy hf; exact h
 | i + 1, hy, hf => simp at hy
theorem Az (d : List EnV) (i j : Nat) (hi : i <= d.length) : ((d.drop i).flatMap cZ)[j]? = (d.flatMap cZ)[i * 4 + j]? := by
 conv => rhs; rw [<- List.take_append_drop i d]
 rw [List.flatMap_append, List.getElem?_append_right (by rw [iM, List.length_take]; omega), iM, List.length_take]
 congr 1
 omega
theorem Ay (d : List EnV) (i j : Nat) (u : Value) (h : ((d.take i).flatMap cZ)[j]? = some u) : (d.flatMap cZ)[j]? = some u := by
 rw [<- List.take_append_drop i d, List.flatMap_append]
 rw [List.getElem?_append_left (List.getElem?_eq_some_iff.1 h).1]
 exact h
theorem qz : Tryz.prog.underlying 122 = some (.slice (Tryz.prog.elem 122)) := by simp [Program.elem, Tryz.underlying122]
theorem sz126 (W : World) : (sizeOf 126).run Tryz.prog W = .ok 4 W := by
 obtain ⟨i, hi, hz0, hz1, hz2⟩ := info_parts yY
 go_simp

theorem uj (W : World) : (sizeOf (Tryz.prog.elem 122)).run Tryz.prog W = .ok 4 W := by
 have e : Tryz.prog.elem 122 = 126 := by simp [Program.elem, Tryz.underlying122]
 rw [e]
 exact sz126 W
theorem wD {w : World} {ao : Option Addr} {n cap : Nat} {d : List EnV} (h : Els cZ w (.slice ao n cap) d) (i : Nat) (hi : i <= n) :
  ∃ ao' cap', (∀ W, (Instr.slice 122 (.slice ao n cap) (some (.int .i64 (i : Int))) none none).run Tryz.prog W = .ok (.slice ao' (n - i) cap') W) /\ Els cZ w (.slice ao' (n - i) cap') (d.drop i) := by
 refine ⟨if cap = i then ao else ao.map (·.add (i * 4)), cap - i, fun W => ?_, ?_⟩
 ·rw [run_slice_l W 122 ao n cap qz .i64 _ (by omega) (by omega), uj]
  rfl
 ·rcases h with ⟨h, rfl⟩ | ⟨a, c, h, rfl⟩ | ⟨b, off, c, h, h1, h2, h3, h4⟩
  ·injection h with ha hb hc
   subst ha hb hc
   obtain rfl : i = 0 := by omega
   exact Or.inl ⟨rfl, rfl⟩
  ·injection h with ha hb hc
   subst ha hb hc
   obtain rfl : i = 0 := by omega
   rw [List.drop_nil]
   split
   ·exact Or.inr (Or.inl ⟨_, _, rfl, rfl⟩)
   ·exact Or.inr (Or.inl ⟨_, _, rfl, rfl⟩)
  ·injection h with ha hb hc
   subst ha hb hc
   by_cases hc : cap = i
   ·rw [if_pos hc]
    have e : d.drop i = [] := List.drop_eq_nil_of_le (by omega)
    rw [e, show d.length - i = 0 by omega]
    exact Or.inr (Or.inl ⟨_, _, rfl, rfl⟩)
   ·rw [if_neg hc]
    refine Or.inr (Or.inr ⟨b, off + i * 4, cap - i, ?_, ?_, ?_, h3, fun j u hu => ?_⟩)
    ·rw [List.length_drop]; simp [Addr.add_lit]
    ·rw [List.length_drop]; omega
    ·rw [List.length_drop]; omega
    ·rw [Az d i j hi] at hu
     rw [Nat.add_assoc]
     exact h4 _ u hu
theorem De {w : World} {ao : Option Addr} {n cap : Nat} {d : List EnV} (h : Els cZ w (.slice ao n cap) d) (i : Nat) (hi : i <= n) :
  ∃ ao' cap', (∀ W, (Instr.slice 122 (.slice ao n cap) none (some (.int .i64 (i : Int))) none).run Tryz.prog W = .ok (.slice ao' i cap') W) /\ Els cZ w (.slice ao' i cap') (d.take i) := by
 have hcap : n <= cap := by
  rcases h with ⟨h, rfl⟩ | ⟨a, c, h, rfl⟩ | ⟨b, off, c, h, h1, h2, h3, h4⟩ <;> injection h with ha hb hc <;> omega
 refine ⟨if cap = 0 then ao else ao.map (·.add (0 * 4)), cap, fun W => ?_, ?_⟩
 ·rw [run_slice_h W 122 ao n cap qz .i64 _ (by omega) (by omega), uj]
  rfl
 ·rcases h with ⟨h, rfl⟩ | ⟨a, c, h, rfl⟩ | ⟨b, off, c, h, h1, h2, h3, h4⟩
  ·injection h with ha hb hc
   subst ha hb hc
   obtain rfl : i = 0 := by omega
   exact Or.inl ⟨rfl, rfl⟩
  ·injection h with ha hb hc
   subst ha hb hc
   obtain rfl : i = 0 := by omega
   rw [List.take_nil]
   split
   ·exact Or.inr (Or.inl ⟨_, _, rfl, rfl⟩)
   ·exact Or.inr (Or.inl ⟨_, _, rfl, rfl⟩)
  ·injection h with ha hb hc
   subst ha hb hc
   by_cases hc : cap = 0
   ·obtain rfl : i = 0 := by omega
    rw [if_pos hc]
    exact Or.inr (Or.inl ⟨_, _, rfl, rfl⟩)
   ·rw [if_neg hc]
    have e : (d.take i).length = i := by rw [List.length_take]; omega
    refine Or.inr (Or.inr ⟨b, off, cap, ?_, ?_, ?_, h3, fun j u hu => h4 j u (Ay d i j u hu)⟩)
    ·rw [e]; simp [Addr.add_lit]
    ·omega
    ·omega
structure Mg (w wr : World) (d : List EnV) (dc : List ChV) (vp vo : Value) (k : Nat) (es : List S.Ent) (cs : List S.Cg) : Prop where
 is : ∃ dp ep dd eo, Els cZ w vp dp /\ (∀ W, EnsAre W d es -> fP W dc cs -> EnsAre W dp ep) /\ (∀ x ∈ dp, x.nd = none) /\ S.up (ep.map (·.key)) /\ dS w.heap.size wr vo dd /\ (∀ W, EnsAre W d es -> fP W dc cs -> EnsAre W dd eo) /\ (∀ x ∈ dd, x.nd = none) /\ eo.length + ep.length <= es.length + k /\ eo ++ S.mrg ep (cs.drop k) = S.mrg es cs
 base : Below w.heap.size w wr
set_option maxHeartbeats 4000000 in
set_option maxRecDepth 10000 in
theorem merged_any (v l : Value) (d : List EnV) (es : List S.Ent) (dc : List ChV) (cs : List S.Cg) (w : World) (hd : Els cZ w v d) (he : EnsAre w d es) (hnd : ∀ x ∈ d, x.nd = none) (hu : S.up (es.map (·.key)))
  (hl : Els encCh w l dc) (hc : fP w dc cs) (hlen : es.length + cs.length <= 10000) :
  Calls Tryz.prog 117 #[v, l] w fun e w' => ∃ u d', e = .returned u /\ dS w.heap.size w' u d' /\ (∀ W, EnsAre W d es -> fP W dc cs -> EnsAre W d' (S.mrg es cs)) /\ (∀ x ∈ d', x.nd = none) /\ Below w.heap.size w w' := by
 have M0 : Hid (Mg w w d dc v (.slice none 0 0) 0 es cs) := ⟨⟨d, es, [], [], hd, fun _ a _ => a, hnd, hu, dS.nil _ _, fun _ _ _ => ⟨rfl, fun i x e hx => by simp at hx⟩, by simp, by simp, by simp⟩, Below.refl _ _⟩
 have HL := hide hl
 have HEE := hide he
 have HC := hide hc
 obtain ⟨vo, vcap, rfl, _⟩ := hd.form
 obtain ⟨lo, lcap, rfl, hbig⟩ := hl.form
 obtain ⟨n, hn⟩ : ∃ n, n = dc.length := ⟨_, rfl⟩
 obtain ⟨vn, hvn⟩ : ∃ vn, vn = d.length := ⟨_, rfl⟩
 rw [<- hn] at hbig ⊢
 rw [<- hvn] at M0 ⊢
 have HN := hide hn
 have NC : Hid (n = cs.length) := by rw [hn]; exact hc.1
 have HLEN := hide hlen
 clear hd he hnd hu hl hc hlen hn hvn
 go_enter Tryz.func117, Tryz.ntmps117
 go_wp2_with fail
 go_loopw [0, 5, 13] (fun a b i wr => ∃ k : Nat, k <= n /\ i = .int .i64 (k : Int) /\ (∃ ao x y, a = .slice ao x y) /\ (∃ bo x y, b = .slice bo x y) /\ Hid (Mg w wr d dc a b k es cs)) (fun _ _ i _ => n - (intOf i).toNat)
 case atStart => exact ⟨0, by omega, rfl, ⟨_, _, _, rfl⟩, ⟨_, _, _, rfl⟩, M0⟩
 case round =>
 clear M0
 obtain ⟨k, hk, rfl, ⟨ao, pn, pc, rfl⟩, ⟨bo, on, oc, rfl⟩, M⟩ := hrel
 obtain ⟨dp, ep, dd, eo, m1, m2, m3, m4, m5, m6, m7, m8, m9⟩ := M.out.is
 have BW := hide M.out.base
 have M1 := hide m1
 have M2g := hide m2
 have M2 := hide (m2 w HEE.out HC.out)
 have M3 := hide m3
 have M4 := hide m4
 have M5 := hide m5
 have M6g := hide m6
 have M6 := hide (m6 w HEE.out HC.out)
 have M7 := hide m7
 have M8 := hide m8
 have M9 := hide m9
 have PN : Hid (pn = ep.length) := by
  obtain ⟨_, _, e, _⟩ := m1.form
  injection e with _ e _
  rw [e]; exact M2.out.1
 clear m1 m2 m3 m4 m5 m6 m7 m8 m9 M
 by_cases hlt : k < n
 ·have hkd : k < dc.length := by have := HN.out; omega
  have hkc : k < cs.length := by have := NC.out; omega
  obtain ⟨b, off, cap', hv, hcap, hb, hcl⟩ := HL.out.at encCh_len k dc[k] (List.getElem?_eq_getElem hkd)
  have CI := hide (HC.out.2 k dc[k] cs[k] (List.getElem?_eq_getElem hkd) (List.getElem?_eq_getElem hkc))
  injection hv with hv1 hv2 hv3
  subst hv1 hv3
  obtain ⟨t0, t1, t2⟩ := Dn hcl
  have u0 := (BW.out.cell (p := ⟨b, off + k * 3, none⟩) hb).trans t0
  have u1 := (BW.out.cell (p := ⟨b, off + k * 3 + 1, none⟩) hb).trans t1
  have u2 := (BW.out.cell (p := ⟨b, off + k * 3 + 2, none⟩) hb).trans t2
  have hkI : (k : Int) < (n : Int) := by omega
  have hk0 : (0 : Int) <= (k : Int) := by omega
  obtain ⟨x, hx⟩ : ∃ x, x = dc[k] := ⟨_, rfl⟩
  rw [<- hx] at u0 u1 u2 CI
  obtain ⟨c, hc⟩ : ∃ c, c = cs[k] := ⟨_, rfl⟩
  rw [<- hc] at CI
  have DR : Hid (cs.drop k = c :: cs.drop (k + 1)) := by rw [hc]; exact List.drop_eq_getElem_cons hkc
  have CIg : Hid (∀ W, fP W dc cs -> yt W x c) := fun W h => h.2 k x c (by rw [hx]; exact List.getElem?_eq_getElem hkd) (by rw [hc]; exact List.getElem?_eq_getElem hkc)
  obtain ⟨ka, kn, kc, va, vn', vc, dr⟩ := x
  simp only at u0 u1 u2
  have DRC : Hid (dr = c.dr) := CI.out.dr
  have CK : Hid (SliceAt w (.slice ka kn kc) c.key) := CI.out.key
  have CV : Hid (SliceAt w (.slice va vn' vc) c.val) := CI.out.val
  clear t0 t1 t2 hcl hx hc hv2 hcap CI
  go_upto_region 5 with fail
  obtain ⟨W, hW⟩ : ∃ W, W = wr.alloc (.cells #[.slice ka kn kc, .slice va vn' vc, .bool dr] 34) := ⟨_, rfl⟩
  rw [<- hW]
  have bW : Below wr.heap.size wr W := by rw [hW]; exact ba ..
  have rW : W.heap[wr.heap.size]? = some (.cells #[.slice ka kn kc, .slice va vn' vc, .bool dr] 34 (0, 0)) := by rw [hW]; exact heap_alloc_new _ _
  obtain ⟨gb, hgb⟩ : ∃ gb, gb = wr.heap.size := ⟨_, rfl⟩
  rw [<- hgb] at rW ⊢
  have RW := hide rW
  have M5W := hide (M5.out.below bW)
  have BWW := hide (BW.out.trans (bW.mono BW.out.size))
  clear hW bW rW hgb u0 u1 u2 BW M5
  go_upto_region 6 with fail
  obtain ⟨X, hX⟩ : ∃ X, X = W.alloc (.cells #[.int .i64 0, .slice ao pn pc] 124) := ⟨_, rfl⟩
  rw [<- hX]
  have bX : Below W.heap.size W X := by rw [hX]; exact ba ..
  have rX : X.heap[W.heap.size]? = some (.cells #[.int .i64 0, .slice ao pn pc] 124 (0, 0)) := by rw [hX]; exact heap_alloc_new _ _
  obtain ⟨gc, hgc⟩ : ∃ gc, gc = W.heap.size := ⟨_, rfl⟩
  rw [<- hgc] at rX ⊢
  have RX := hide ((bX.block gb (ae RW.out)).trans RW.out)
  have M5X := hide (M5W.out.below bX)
  have BWX := hide (BWW.out.trans (bX.mono BWW.out.size))
  have NX : Hid (NodeIs X gc 0 ep) := ⟨_, dp, rX, M1.out.below (BWX.out), M2.out.below BWX.out⟩
  obtain ⟨x0, x1, x2⟩ := cells3c RX.out
  clear hX bX rX hgc RW M5W BWW
  go_upto_region 7 with fail
  refine (find_any gc 0 _ ep c.key X NX.out (CK.out.below BWX.out (lr _)) M4.out).mono ?_
  rintro e Y ⟨rfl, b2⟩
  have RY := hide ((b2.block gb (ae RX.out)).trans RX.out)
  have M5Y := hide (M5X.out.below b2)
  have BWY := hide (BWX.out.trans (b2.mono BWX.out.size))
  obtain ⟨i, hi⟩ : ∃ i, i = S.rank (ep.map (·.key)) c.key := ⟨_, rfl⟩
  obtain ⟨fo, hfo⟩ : ∃ fo, fo = decide (c.key ∈ ep.map (·.key)) := ⟨_, rfl⟩
  rw [<- hi, <- hfo]
  have HI := hide hi
  have HFO := hide hfo
  have IL : Hid (i <= pn) := by rw [hi]; have := S.yO (ep.map (·.key)) c.key; rw [List.length_map] at this; have := PN.out; show S.rank _ _ <= pn; omega
  have FP : Hid (fo = true -> i < pn) := fun h => by
   rw [HFO.out] at h
   have hm := of_decide_eq_true h
   have h1 := IL.out
   have h2 : i ≠ pn := fun e => by
    have h3 : (ep.map (·.key)).countP (fun a => decide (S.kcmp a c.key < 0)) = (ep.map (·.key)).length := by rw [List.length_map, <- PN.out, <- e]; exact HI.out.symm
    have h4 := List.countP_eq_length.1 h3 _ hm
    rw [S.kcmp_self] at h4
    simp at h4
   omega
  clear b2 hi hfo x0 x1 x2 NX RX M5X BWX
  go_upto_region 7 with fail
  obtain ⟨ua, uc, SL1, EL1⟩ := De M1.out i IL.out
  obtain ⟨fa, fc, SL2, EL2⟩ := wD M1.out i IL.out
  have E1 := hide EL1
  have E2 := hide EL2
  clear EL1 EL2
  have APP := hide (dQ Y w.heap.size (.slice bo on oc) (.slice ua i uc) dd (dp.take i) 122 M5Y.out (E1.out.below BWY.out) (by have h1 := M8.out; have h2 := M6.out.1; have h3 := HLEN.out; have h4 := NC.out; have h5 := M2.out.1; rw [List.length_take]; omega) BWY.out.size)
  go_upto_region 8 with (at_builtin; (refine aU rfl (.tmp 25) (.tmp 28) 122 122 rfl _ _ rfl rfl APP.out ?_; rintro v4 Z2 ⟨e4, c4⟩; have E4 := hide e4; have C4 := hide c4; clear e4 c4))
  have RY2 : Hid (Z2.heap[gb]? = some (.cells #[.slice ka kn kc, .slice va vn' vc, .bool dr] 34 (0, 0))) := C4.out.row RY.out (M5Y.out.apart RY.out (by decide))
  have BW2 : Hid (Below w.heap.size w Z2) := BWY.out.trans (C4.out.below _ BWY.out.size (fun j hj e => by have := (M5Y.out.blk e).1; omega))
  clear C4 APP RY M5Y BWY SL1
  obtain ⟨x0, x1, x2⟩ := cells3c RY2.out
  obtain ⟨pn2, hpn2⟩ : ∃ pn2, pn2 = pn - i := ⟨_, rfl⟩
  rw [<- hpn2] at SL2 E2
  have HP2 := hide hpn2
  clear hpn2
  cases hfo : fo with
  | true =>
   subst hfo
   have hp1 : Hid (1 <= pn2) := by have := FP.out rfl; have := HP2.out; show 1 <= pn2; omega
   obtain ⟨ga, gcp, SL3', EL3⟩ := wD E2.out 1 hp1.out
   have SL3 : ∀ W, (Instr.slice 122 (.slice fa pn2 fc) (some (.int .i64 1)) none none).run Tryz.prog W = .ok (.slice ga (pn2 - 1) gcp) W := SL3'
   have E3 : Hid (Els cZ w (.slice ga (pn2 - 1) gcp) (dp.drop (i + 1))) := by rw [List.drop_drop] at EL3; exact EL3
   have MR : Hid (S.mrg ep (cs.drop k) = ep.take i ++ ((if c.dr then [] else [⟨c.key, c.val, 0⟩]) ++ S.mrg (ep.drop (i + 1)) (cs.drop (k + 1)))) := by
    show S.mrg ep (cs.drop k) = _
    rw [DR.out, S.mrg, <- HI.out, if_pos (of_decide_eq_true HFO.out.symm)]
   clear EL3 SL3'
   obtain ⟨pn3, hpn3⟩ : ∃ pn3, pn3 = pn2 - 1 := ⟨_, rfl⟩
   rw [<- hpn3] at SL3 E3
   clear hpn3 hp1
   cases hdr : dr with
   | false =>
    subst hdr
    obtain ⟨Y3, hY3⟩ : ∃ Y3 : EnV, Y3 = ⟨ka, kn, kc, va, vn', vc, 0, none⟩ := ⟨_, rfl⟩
    obtain ⟨Z3, hZ3⟩ : ∃ Z3, Z3 = Z2.alloc (.cells #[.slice ka kn kc, .slice va vn' vc, .int .i64 0, .pointer none] 126) := ⟨_, rfl⟩
    have HZ3 := hide hZ3
    have b3 : Below Z2.heap.size Z2 Z3 := by rw [hZ3]; exact ba ..
    have r3 : Z3.heap[Z2.heap.size]? = some (.cells (cZ Y3).toArray 126 (0, 0)) := by rw [hZ3, hY3]; exact heap_alloc_new _ _
    have BW3 := hide (BW2.out.trans (b3.mono BW2.out.size))
    have M53 := hide (E4.out.below b3)
    have EI : Hid (∀ W, fP W dc cs -> EnIs W Y3 ⟨c.key, c.val, 0⟩) := fun W h => by rw [hY3]; exact ⟨(CIg.out W h).key, (CIg.out W h).val, rfl⟩
    have YN : Hid (Y3.nd = none) := by rw [hY3]; rfl
    have APP := hide (dQ Z3 w.heap.size v4 (.slice (some ⟨Z2.heap.size, 0, none⟩) 1 1) (dd ++ dp.take i) [Y3] 122 M53.out (mW r3) (by have h1 := M8.out; have h2 := M6.out.1; have h3 := HLEN.out; have h4 := NC.out; have h5 := M2.out.1; rw [List.length_append, List.length_take]; simp; omega) BW3.out.size)
    clear b3 r3 hZ3 hY3
    go_wp2_with (at_builtin; (rw [<- HZ3.out]; refine aU rfl (.tmp 39) (.tmp 45) 122 122 rfl _ _ rfl rfl APP.out ?_; rintro v5 Z4 ⟨e5, c5⟩; have E5 := hide e5; have C5 := hide c5; clear e5 c5))
    have BW4 : Hid (Below w.heap.size w Z4) := BW3.out.trans (C5.out.below _ BW3.out.size (fun j hj e => by have := (M53.out.blk e).1; omega))
    have MM : Hid (Mg w Z4 d dc (.slice ga pn3 gcp) v5 (k + 1) es cs) := by
     refine ⟨⟨dp.drop (i + 1), ep.drop (i + 1), dd ++ dp.take i ++ [Y3], eo ++ ep.take i ++ [⟨c.key, c.val, 0⟩], E3.out, fun W a b => (M2g.out W a b).drop _, fun x hx => M3.out x (List.mem_of_mem_drop hx), ?_, E5.out, fun W a b => ((M6g.out W a b).app ((M2g.out W a b).take i)).app (EnsAre.one (EI.out W b)), ?_, ?_, ?_⟩, BW4.out⟩
     ·rw [List.map_drop]; exact List.Pairwise.sublist (List.drop_sublist _ _) M4.out
     ·intro x hx
      rcases List.mem_append.1 hx with hx | hx
      ·rcases List.mem_append.1 hx with hx | hx
       ·exact M7.out x hx
       ·exact M3.out x (List.mem_of_mem_take hx)
      ·simp at hx; rw [hx]; exact YN.out
     ·have h1 := M8.out; have h2 := IL.out; have h3 := PN.out
      simp only [List.length_append, List.length_take, List.length_drop, List.length_cons, List.length_nil]
      omega
     ·rw [<- M9.out, MR.out, <- DRC.out]
      simp [List.append_assoc]
    obtain ⟨o5, oc5, hv5⟩ := E5.out.form
    subst hv5
    obtain ⟨n5, hn5⟩ : ∃ n5, n5 = (dd ++ dp.take i ++ [Y3]).length := ⟨_, rfl⟩
    rw [<- hn5] at MM ⊢
    clear hn5 E5 C5 APP M53 BW3 E4
    go_wp2_with fail
    go_roundw
    case rel => exact ⟨k + 1, by omega, by go_num, ⟨_, _, _, rfl⟩, ⟨_, _, _, rfl⟩, MM⟩
    case measure => simp [intOf]; omega
   | true =>
    subst hdr
    have MM : Hid (Mg w Z2 d dc (.slice ga pn3 gcp) v4 (k + 1) es cs) := by
     refine ⟨⟨dp.drop (i + 1), ep.drop (i + 1), dd ++ dp.take i, eo ++ ep.take i, E3.out, fun W a b => (M2g.out W a b).drop _, fun x hx => M3.out x (List.mem_of_mem_drop hx), ?_, E4.out, fun W a b => (M6g.out W a b).app ((M2g.out W a b).take i), ?_, ?_, ?_⟩, BW2.out⟩
     ·rw [List.map_drop]; exact List.Pairwise.sublist (List.drop_sublist _ _) M4.out
     ·intro x hx
      rcases List.mem_append.1 hx with hx | hx
      ·exact M7.out x hx
      ·exact M3.out x (List.mem_of_mem_take hx)
     ·have h1 := M8.out; have h2 := IL.out; have h3 := PN.out
      simp only [List.length_append, List.length_take, List.length_drop]
      omega
     ·rw [<- M9.out, MR.out, <- DRC.out]
      simp [List.append_assoc]
    obtain ⟨o5, oc5, hv5⟩ := E4.out.form
    subst hv5
    obtain ⟨n5, hn5⟩ : ∃ n5, n5 = (dd ++ dp.take i).length := ⟨_, rfl⟩
    rw [<- hn5] at MM ⊢
    clear hn5 E4
    go_wp2_with fail
    go_roundw
    case rel => exact ⟨k + 1, by omega, by go_num, ⟨_, _, _, rfl⟩, ⟨_, _, _, rfl⟩, MM⟩
    case measure => simp [intOf]; omega
  | false =>
   subst hfo
   have MR : Hid (S.mrg ep (cs.drop k) = ep.take i ++ ((if c.dr then [] else [⟨c.key, c.val, 0⟩]) ++ S.mrg (ep.drop i) (cs.drop (k + 1)))) := by
    show S.mrg ep (cs.drop k) = _
    rw [DR.out, S.mrg, <- HI.out, if_neg (of_decide_eq_false HFO.out.symm)]
    rfl
   cases hdr : dr with
   | false =>
    subst hdr
    obtain ⟨Y3, hY3⟩ : ∃ Y3 : EnV, Y3 = ⟨ka, kn, kc, va, vn', vc, 0, none⟩ := ⟨_, rfl⟩
    obtain ⟨Z3, hZ3⟩ : ∃ Z3, Z3 = Z2.alloc (.cells #[.slice ka kn kc, .slice va vn' vc, .int .i64 0, .pointer none] 126) := ⟨_, rfl⟩
    have HZ3 := hide hZ3
    have b3 : Below Z2.heap.size Z2 Z3 := by rw [hZ3]; exact ba ..
    have r3 : Z3.heap[Z2.heap.size]? = some (.cells (cZ Y3).toArray 126 (0, 0)) := by rw [hZ3, hY3]; exact heap_alloc_new _ _
    have BW3 := hide (BW2.out.trans (b3.mono BW2.out.size))
    have M53 := hide (E4.out.below b3)
    have EI : Hid (∀ W, fP W dc cs -> EnIs W Y3 ⟨c.key, c.val, 0⟩) := fun W h => by rw [hY3]; exact ⟨(CIg.out W h).key, (CIg.out W h).val, rfl⟩
    have YN : Hid (Y3.nd = none) := by rw [hY3]; rfl
    have APP := hide (dQ Z3 w.heap.size v4 (.slice (some ⟨Z2.heap.size, 0, none⟩) 1 1) (dd ++ dp.take i) [Y3] 122 M53.out (mW r3) (by have h1 := M8.out; have h2 := M6.out.1; have h3 := HLEN.out; have h4 := NC.out; have h5 := M2.out.1; rw [List.length_append, List.length_take]; simp; omega) BW3.out.size)
    clear b3 r3 hZ3 hY3
    go_wp2_with (at_builtin; (rw [<- HZ3.out]; refine aU rfl (.tmp 39) (.tmp 45) 122 122 rfl _ _ rfl rfl APP.out ?_; rintro v5 Z4 ⟨e5, c5⟩; have E5 := hide e5; have C5 := hide c5; clear e5 c5))
    have BW4 : Hid (Below w.heap.size w Z4) := BW3.out.trans (C5.out.below _ BW3.out.size (fun j hj e => by have := (M53.out.blk e).1; omega))
    have MM : Hid (Mg w Z4 d dc (.slice fa pn2 fc) v5 (k + 1) es cs) := by
     refine ⟨⟨dp.drop (i), ep.drop (i), dd ++ dp.take i ++ [Y3], eo ++ ep.take i ++ [⟨c.key, c.val, 0⟩], E2.out, fun W a b => (M2g.out W a b).drop _, fun x hx => M3.out x (List.mem_of_mem_drop hx), ?_, E5.out, fun W a b => ((M6g.out W a b).app ((M2g.out W a b).take i)).app (EnsAre.one (EI.out W b)), ?_, ?_, ?_⟩, BW4.out⟩
     ·rw [List.map_drop]; exact List.Pairwise.sublist (List.drop_sublist _ _) M4.out
     ·intro x hx
      rcases List.mem_append.1 hx with hx | hx
      ·rcases List.mem_append.1 hx with hx | hx
       ·exact M7.out x hx
       ·exact M3.out x (List.mem_of_mem_take hx)
      ·simp at hx; rw [hx]; exact YN.out
     ·have h1 := M8.out; have h2 := IL.out; have h3 := PN.out
      simp only [List.length_append, List.length_take, List.length_drop, List.length_cons, List.length_nil]
      omega
     ·rw [<- M9.out, MR.out, <- DRC.out]
      simp [List.append_assoc]
    obtain ⟨o5, oc5, hv5⟩ := E5.out.form
    subst hv5
    obtain ⟨n5, hn5⟩ : ∃ n5, n5 = (dd ++ dp.take i ++ [Y3]).length := ⟨_, rfl⟩
    rw [<- hn5] at MM ⊢
    clear hn5 E5 C5 APP M53 BW3 E4
    go_wp2_with fail
    go_roundw
    case rel => exact ⟨k + 1, by omega, by go_num, ⟨_, _, _, rfl⟩, ⟨_, _, _, rfl⟩, MM⟩
    case measure => simp [intOf]; omega
   | true =>
    subst hdr
    have MM : Hid (Mg w Z2 d dc (.slice fa pn2 fc) v4 (k + 1) es cs) := by
     refine ⟨⟨dp.drop (i), ep.drop (i), dd ++ dp.take i, eo ++ ep.take i, E2.out, fun W a b => (M2g.out W a b).drop _, fun x hx => M3.out x (List.mem_of_mem_drop hx), ?_, E4.out, fun W a b => (M6g.out W a b).app ((M2g.out W a b).take i), ?_, ?_, ?_⟩, BW2.out⟩
     ·rw [List.map_drop]; exact List.Pairwise.sublist (List.drop_sublist _ _) M4.out
     ·intro x hx
      rcases List.mem_append.1 hx with hx | hx
      ·exact M7.out x hx
      ·exact M3.out x (List.mem_of_mem_take hx)
     ·have h1 := M8.out; have h2 := IL.out; have h3 := PN.out
      simp only [List.length_append, List.length_take, List.length_drop]
      omega
     ·rw [<- M9.out, MR.out, <- DRC.out]
      simp [List.append_assoc]
    obtain ⟨o5, oc5, hv5⟩ := E4.out.form
    subst hv5
    obtain ⟨n5, hn5⟩ : ∃ n5, n5 = (dd ++ dp.take i).length := ⟨_, rfl⟩
    rw [<- hn5] at MM ⊢
    clear hn5 E4
    go_wp2_with fail
    go_roundw
    case rel => exact ⟨k + 1, by omega, by go_num, ⟨_, _, _, rfl⟩, ⟨_, _, _, rfl⟩, MM⟩
    case measure => simp [intOf]; omega
 ·obtain rfl : k = n := by omega
  have APP := hide (dQ wr w.heap.size (.slice bo on oc) (.slice ao pn pc) dd dp 122 M5.out (M1.out.below BW.out) (by have h1 := M8.out; have h2 := M6.out.1; have h3 := HLEN.out; have h4 := NC.out; have h5 := M2.out.1; omega) BW.out.size)
  go_wp2_with (at_builtin; (refine aU rfl (.tmp 48) (.tmp 49) 122 122 rfl _ _ rfl rfl APP.out ?_; rintro v4 Z2 ⟨e4, c4⟩; have E4 := hide e4; have C4 := hide c4; clear e4 c4))
  have BW2 : Hid (Below w.heap.size w Z2) := BW.out.trans (C4.out.below _ BW.out.size (fun j hj e => by have := (M5.out.blk e).1; omega))
  have FIN : eo ++ ep = S.mrg es cs := by
   have h := M9.out
   rw [List.drop_of_length_le (by have := NC.out; omega)] at h
   simpa [S.mrg] using h
  have ND : ∀ x ∈ dd ++ dp, x.nd = none := fun x hx => (List.mem_append.1 hx).elim (M7.out x) (M3.out x)
  have EA : ∀ W, EnsAre W d es -> fP W dc cs -> EnsAre W (dd ++ dp) (S.mrg es cs) := fun W a b => by rw [<- FIN]; exact (M6g.out W a b).app (M2g.out W a b)
  obtain ⟨o4, oc4, hv4⟩ := E4.out.form
  subst hv4
  go_ret
  exact ⟨_, _, rfl, E4.out, EA, ND, BW2.out⟩
end Go.Proofs.YteealihknndclaaGreatDoor
namespace Go.Proofs
open Go.Shelf Go.RowKit Go.Lib Go.Sort
shelf_lay_g SlLaysF0.n20 Slsf 20 at Tryz 166 as Tryz.insCh
end Go.Proofs
namespace Go.Proofs.YteealihknndclaaGreatDoor
open Go.Shelf Go.RowKit Go.Lib
open Go.Sort (flatK size_flatK get_flatK HoldsK insertionSort insInner insOuter swp)

/-! Sorting goes through a map. -/
theorem qh {α β : Type} [Inhabited α] [Inhabited β] (f : α -> β) (d : Array α) (i : Nat) (h : i < d.size) : (d.map f)[i]! = f d[i]! := by
 rw [getElem!_pos d i h, getElem!_pos (d.map f) i (by simpa using h)]
 simp
theorem swp_size {α : Type} [Inhabited α] (d : Array α) (i j : Nat) : (swp d i j).size = d.size := by simp [swp]
theorem ug {α β : Type} [Inhabited α] [Inhabited β] (f : α -> β) (d : Array α) (i j : Nat) (hi : i < d.size) (hj : j < d.size) : (swp d i j).map f = swp (d.map f) i j := by
 unfold swp
 rw [qh f d i hi, qh f d j hj]
 simp [Array.map_setIfInBounds]
theorem qW {α : Type} [Inhabited α] (lt : α -> α -> Bool) (a j : Nat) (d : Array α) : (insInner lt a j d).size = d.size := by
 induction j generalizing d with
 | zero => rfl
 | succ j ih =>
  unfold insInner
  split
  ·rw [ih, swp_size]
  ·rfl
theorem Ab {α β : Type} [Inhabited α] [Inhabited β] (f : α -> β) (l1 : α -> α -> Bool) (l2 : β -> β -> Bool) (hl : ∀ x y, l2 (f x) (f y) = l1 x y) (a j : Nat) (d : Array α) (hj : j < d.size) : (insInner l1 a j d).map f = insInner l2 a j (d.map f) := by
 induction j generalizing d with
 | zero => rfl
 | succ j ih =>
  unfold insInner
  rw [qh f d (j + 1) hj, qh f d j (by omega), hl]
  by_cases h : (decide (j + 1 > a) && l1 d[j + 1]! d[j]!) = true
  ·rw [if_pos h, if_pos h, <- ug f d (j + 1) j hj (by omega)]
   exact ih _ (by rw [swp_size]; omega)
  ·rw [if_neg h, if_neg h]
theorem qK {α : Type} [Inhabited α] (lt : α -> α -> Bool) (a b i : Nat) (d : Array α) (h : i < b) : insOuter lt a b i d = insOuter lt a b (i + 1) (insInner lt a i d) := by rw [insOuter, if_pos h]
theorem mi {α : Type} [Inhabited α] (lt : α -> α -> Bool) (a b i : Nat) (d : Array α) (h : ¬ i < b) : insOuter lt a b i d = d := by rw [insOuter, if_neg h]
theorem zR {α β : Type} [Inhabited α] [Inhabited β] (f : α -> β) (l1 : α -> α -> Bool) (l2 : β -> β -> Bool) (hl : ∀ x y, l2 (f x) (f y) = l1 x y) (a b : Nat) : ∀ (n i : Nat) (d : Array α), b - i = n -> b <= d.size -> (insOuter l1 a b i d).map f = insOuter l2 a b i (d.map f) := by
 intro n
 induction n with
 | zero =>
  intro i d hn _
  rw [mi _ _ _ _ _ (by omega), mi _ _ _ _ _ (by omega)]
 | succ n ih =>
  intro i d hn hb
  rw [qK l1 a b i d (by omega), qK l2 a b i (d.map f) (by omega), ih (i + 1) _ (by omega) (by rw [qW]; exact hb), Ab f l1 l2 hl a i d (by omega)]
theorem BG {α β : Type} [Inhabited α] [Inhabited β] (f : α -> β) (l1 : α -> α -> Bool) (l2 : β -> β -> Bool) (hl : ∀ x y, l2 (f x) (f y) = l1 x y) (b : Nat) (d : Array α) (hb : b <= d.size) : (insertionSort l1 d 0 b).map f = insertionSort l2 (d.map f) 0 b := zR f l1 l2 hl 0 b _ 1 d rfl hb
theorem xw {α : Type} [Inhabited α] (lt : α -> α -> Bool) (a b : Nat) : ∀ (n i : Nat) (d : Array α), b - i = n -> (insOuter lt a b i d).size = d.size := by
 intro n
 induction n with
 | zero => intro i d hn; rw [mi _ _ _ _ _ (by omega)]
 | succ n ih => intro i d hn; rw [qK _ _ _ _ _ (by omega), ih (i + 1) _ (by omega), qW]
theorem zF {α : Type} [Inhabited α] (lt : α -> α -> Bool) (b : Nat) (d : Array α) : (insertionSort lt d 0 b).size = d.size := xw lt 0 b _ 1 d rfl

instance : Inhabited S.Cg := ⟨⟨[], [], false⟩⟩
namespace S
def srt (cs : List Cg) : List Cg := (insertionSort (fun a b : Cg => decide (compareBytes a.key b.key < 0)) cs.toArray 0 cs.length).toList
end S

set_option maxHeartbeats 1000000 in
theorem Bf (x y : ChV) (kx ky : List UInt8) (W : World) (hx : SliceAt W (.slice x.ka x.kn x.kc) kx) (hy : SliceAt W (.slice y.ka y.kn y.kc) ky) :
  Calls Tryz.prog 78 #[.agg (encCh x).toArray, .agg (encCh y).toArray] W fun e w' => e = .returned (.int .i64 (compareBytes kx ky)) /\ ∃ q os', w' = Sort.grow (W.drewN q) os' := by
 have HX := hide hx
 have HY := hide hy
 have e1 : (encCh x).toArray = #[.slice x.ka x.kn x.kc, .slice x.va x.vn x.vc, .bool x.dr] := rfl
 have e2 : (encCh y).toArray = #[.slice y.ka y.kn y.kc, .slice y.va y.vn y.vc, .bool y.dr] := rfl
 rw [e1, e2]
 clear hx hy e1 e2
 go_enter Tryz.func78, Tryz.ntmps78
 go_wp2_with fail
 refine (compare_any _ _ kx ky _ (HX.out.below ((ba ..).alloc (by simp) _) (lr _)) (HY.out.below ((ba ..).alloc (by simp) _) (lr _))).mono ?_
 rintro e w' ⟨rfl, rfl⟩
 go_wp2_with fail
 go_ret
 exact ⟨rfl, 0, _, by rw [Sort.alloc_eq_grow, Sort.alloc_eq_grow, Sort.grow_grow]; rfl⟩

theorem uN (w : World) : (isAgg 34).run Tryz.prog w = .ok true w := by kernel_rfl
theorem BM (w : World) : (Go.sizeOf 34).run Tryz.prog w = .ok 3 w := by kernel_rfl
theorem jJ (d : List ChV) : (d.flatMap encCh).length = d.length * 3 := by
 induction d with
 | nil => rfl
 | cons x d ih => rw [List.flatMap_cons, List.length_append, ih, encCh_len, List.length_cons]; omega
theorem xO (d : List ChV) : ∀ v ∈ d.flatMap encCh, v.oneCell' = true := by
 intro v hv
 rw [List.mem_flatMap] at hv
 obtain ⟨x, _, hv⟩ := hv
 simp only [encCh, List.mem_cons, List.not_mem_nil, or_false] at hv
 rcases hv with rfl | rfl | rfl <;> rfl
structure ChR (w : World) (g : Nat) (d : List ChV) : Prop where
 row : ∃ cur, w.heap[g]? = some (.cells cur 34 (0, 0)) /\ cur.toList.take (d.length * 3) = d.flatMap encCh
theorem ChR.lt {w : World} {g : Nat} {d : List ChV} (h : ChR w g d) : g < w.heap.size := by obtain ⟨cur, h1, _⟩ := h.row; exact ae h1
theorem ChR.below {w W : World} {g : Nat} {d : List ChV} (h : ChR w g d) (hb : Below w.heap.size w W) : ChR W g d := by
 obtain ⟨cur, h1, h2⟩ := h.row
 exact ⟨cur, (hb.block g (ae h1)).trans h1, h2⟩
abbrev Cp (W : World) := {p : ChV × S.Cg // yt W p.1 p.2}
instance (W : World) : Inhabited (Cp W) := ⟨⟨(⟨none, 0, 0, none, 0, 0, false⟩, ⟨[], [], false⟩), ⟨Or.inl ⟨rfl, rfl⟩, Or.inl ⟨rfl, rfl⟩, rfl⟩⟩⟩
def fQ {W : World} (p : Cp W) : List Value := encCh p.1.1
def xY {W : World} (p q : Cp W) : Int := compareBytes p.1.2.key q.1.2.key
theorem zh {W : World} (d : List (Cp W)) : d.flatMap fQ = (d.map (·.1.1)).flatMap encCh := by
 induction d with
 | nil => rfl
 | cons x d ih => rw [List.flatMap_cons, List.map_cons, List.flatMap_cons, ih]; rfl
theorem ww {W : World} (d : List (Cp W)) : (flatK fQ 3 d.toArray).toList = (d.map (·.1.1)).flatMap encCh := by
 rw [<- zh]
 apply List.ext_getElem?
 intro t
 have hl : (d.flatMap fQ).length = d.length * 3 := by rw [zh, jJ, List.length_map]
 by_cases ht : t < d.length * 3
 ·obtain ⟨i, r, hr, rfl⟩ : ∃ i r, r < 3 /\ t = i * 3 + r := ⟨t / 3, t % 3, by omega, by omega⟩
  have hi : i < d.length := by omega
  have e0 := flat_get (enc := fQ) (k := 3) (fun _ => rfl) d i r d[i] (List.getElem?_eq_getElem hi) hr
  have hz : i * 3 + r < (flatK fQ 3 d.toArray).size := by simpa using ht
  have e := get_flatK fQ 3 d.toArray (i * 3 + r) (by simpa using ht)
  rw [show (i * 3 + r) / 3 = i by omega, show (i * 3 + r) % 3 = r by omega, getElem!_pos d.toArray i (by simpa using hi), List.getElem_toArray] at e
  have e3 : (flatK fQ 3 d.toArray).toList[i * 3 + r]? = some ((fQ d[i])[r]!) := by
   rw [Array.getElem?_toList, Array.getElem?_eq_getElem hz, <- getElem!_pos (flatK fQ 3 d.toArray) (i * 3 + r) hz, e]
  rw [e3, e0]
  match r, hr with
  | 0, _ => rfl
  | 1, _ => rfl
  | 2, _ => rfl
 ·rw [List.getElem?_eq_none (by simp; omega), List.getElem?_eq_none (by omega)]
theorem oU {W w : World} {g n : Nat} {d' : Array (Cp W)} {os : Array Obj} (B : Nat) (hB : B <= g) (hg : g < w.heap.size) : Below B w (sortWorldK fQ 3 w g 0 n d' os) := by
 refine ⟨rfl, rfl, rfl, by simp [sortWorldK, Sort.putRowK, Sort.ahead], fun k hk => ?_⟩
 rw [show sortWorldK fQ 3 w g 0 n d' os = Sort.grow (Sort.putRow id (Sort.ahead w n) g 0 (flatK fQ 3 d')) os from rfl]
 have hks : k < w.heap.size := by omega
 rw [Sort.heap_grow_old _ _ (by simpa using hks)]
 have : g ≠ k := by omega
 simp [Sort.putRow, Sort.mapBlock, Sort.ahead, Array.getElem?_modify, this]
theorem yV {W0 w : World} (g c : Nat) (d : List (Cp W0)) (h : ChR w g (d.map (·.1.1))) (hW : Below W0.heap.size W0 w) (hg0 : W0.heap.size <= g) (hl : d.length <= 100000) :
  Calls Tryz.prog 166 #[.slice (some ⟨g, 0, none⟩) d.length c, .int .i64 0, .int .i64 (d.length : Int), .func (.func 78) #[] #[]] w fun e w' => e = .returned (.tuple #[]) /\ ∃ d' : List (Cp W0), d'.map (·.1.2) = S.srt (d.map (·.1.2)) /\ d'.length = d.length /\ ChR w' g (d'.map (·.1.1)) /\ Below g w w' := by
 obtain ⟨cur, h1, h2⟩ := h.row
 rw [List.length_map] at h2
 have hgs := ae h1
 have hcs : d.length * 3 <= cur.size := by
  have := congrArg List.length h2
  rw [jJ, List.length_take, List.length_map] at this
  have e : cur.toList.length = cur.size := Array.length_toList
  omega
 have hH : HoldsK fQ 3 w g 0 d.toArray := by
  intro j hj
  have hj2 := hj
  rw [size_flatK, List.size_toArray] at hj
  refine ⟨?_, frozen_of_row w g _ cur 34 h1⟩
  rw [cell_of_row w g _ _ 34 _ h1, Nat.zero_add]
  have e : (cur.toList.take (d.length * 3))[j]? = (flatK fQ 3 d.toArray).toList[j]? := by rw [h2, ww]
  rw [List.getElem?_take_of_lt hj, Array.getElem?_toList, Array.getElem?_toList] at e
  rw [e, Array.getElem?_eq_getElem hj2, getElem!_pos _ j hj2]
  rfl
 have eg : ∀ args w, (callFunc 78 args).run Tryz.prog w = .ok (.enter 78 args) w := enters_of Tryz.func78 (by kernel_rfl) rfl
 have hs := AnyQ.insertionSortCmpFunc Tryz.insCh 3 uN BM (fQ (W := W0)) (fun _ => rfl) (fun x v hv => by
   simp only [fQ, encCh, List.mem_cons, List.not_mem_nil, or_false] at hv
   rcases hv with rfl | rfl | rfl <;> rfl) xY 78 #[] g 0 c 0 d.length d.toArray w eg (fun m os dk _ x y => by
    have hb : Below W0.heap.size W0 (sortWorldK fQ 3 w g 0 m dk os) := hW.trans (oU _ hg0 hgs)
    exact Bf x.1.1 y.1.1 x.1.2.key y.1.2.key _ (x.2.key.below hb (lr _)) (y.2.key.below hb (lr _))) hH hgs (Nat.zero_le _) (by simp) (by rw [List.size_toArray]; omega)
 rw [List.size_toArray] at hs
 refine Calls.mono hs ?_
 rintro e w' ⟨rfl, n, os, rfl⟩
 obtain ⟨d', hd0⟩ : ∃ d', d' = insertionSort (ltOf xY) d.toArray 0 d.length := ⟨_, rfl⟩
 have hp1 : d'.size = d.length := by rw [hd0, zF, List.size_toArray]
 have hp3 : d'.toList.length = d.length := hp1
 have hd' : d' = d'.toList.toArray := by simp
 rw [<- hd0]
 refine ⟨rfl, d'.toList, ?_, hp3, ⟨Sort.putCells id 0 (flatK fQ 3 d') cur, ?_, ?_⟩, oU _ (lr _) hgs⟩
 ·have := BG (fun p : Cp W0 => p.1.2) (ltOf xY) (fun a b : S.Cg => decide (compareBytes a.key b.key < 0)) (fun _ _ => rfl) d.length d.toArray (by simp)
  rw [<- hd0] at this
  unfold S.srt
  rw [List.length_map]
  have e := congrArg Array.toList this
  simpa using e
 ·rw [show sortWorldK fQ 3 w g 0 n d' os = Sort.grow (Sort.putRow id (Sort.ahead w n) g 0 (flatK fQ 3 d')) os from rfl, Sort.heap_grow_old _ _ (by simpa using hgs)]
  simp [Sort.putRow, Sort.mapBlock, Sort.ahead, Array.getElem?_modify, h1, Sort.onCells]
 ·rw [<- ww, <- hd', List.length_map]
  apply List.ext_getElem?
  intro j
  have hz : (flatK fQ 3 d').size = d.length * 3 := by rw [size_flatK, hp1]
  by_cases hj : j < d'.toList.length * 3
  ·have hj1 : j < d.length * 3 := by rw [hp3] at hj; exact hj
   rw [List.getElem?_take_of_lt hj, Array.getElem?_toList, Array.getElem?_toList]
   have hq : j < (flatK fQ 3 d').size := by omega
   rw [Array.getElem?_eq_getElem hq]
   simp only [Sort.putCells, Array.getElem?_mapIdx, Array.getElem?_eq_getElem (show j < cur.size by omega), Option.map_some]
   rw [if_pos ⟨Nat.zero_le _, by omega⟩, Nat.sub_zero, getElem!_pos _ j hq]
   rfl
  ·rw [hp3] at hj
   have e : (flatK fQ 3 d').toList.length = (flatK fQ 3 d').size := Array.length_toList
   rw [List.getElem?_take_eq_none (by rw [hp3]; omega), List.getElem?_eq_none (by omega)]
end Go.Proofs.YteealihknndclaaGreatDoor
namespace Go.Proofs.YteealihknndclaaGreatDoor
open Go.RowKit
attribute [local go_sem] Oper.semAt_some
def S.tr (c : UInt8 × S.Cg) : S.Cg := ⟨c.1 :: c.2.key, c.2.val, c.2.dr⟩
structure yj (w : World) (x : KcV) (c : UInt8 × S.Cg) : Prop where
 sp : x.sp = c.1
 key : SliceAt w (.slice x.ka x.kn x.kc) c.2.key
 val : SliceAt w (.slice x.va x.vn x.vc) c.2.val
 dr : x.dr = c.2.dr
def kF (w : World) (d : List KcV) (cs : List (UInt8 × S.Cg)) : Prop := d.length = cs.length /\ ∀ (i : Nat) x c, d[i]? = some x -> cs[i]? = some c -> yj w x c
def lH (w : World) (g n : Nat) (l : List ChV) : Prop := ∃ cur, w.heap[g]? = some (.cells cur 34 (0, 0)) /\ l.length <= n /\ cur.size = n * 3 /\ ∀ j x, l[j]? = some x -> ∀ (r : Nat) u, (encCh x)[r]? = some u -> cur[j * 3 + r]? = some u
theorem lH.lt {w : World} {g n : Nat} {l : List ChV} (h : lH w g n l) : g < w.heap.size := by
 obtain ⟨cur, hr, _⟩ := h
 exact ae hr
theorem lH.below {w W : World} {g n : Nat} {l : List ChV} (h : lH w g n l) (hb : Below w.heap.size w W) : lH W g n l := by
 obtain ⟨cur, hr, q⟩ := h
 exact ⟨cur, (hb.block g (ae hr)).trans hr, q⟩
theorem lH.store {w : World} {g n : Nat} {l : List ChV} (h : lH w g n l) (k : Nat) (hk : k < n) (x : ChV) (hl : l.length = k) :
  ∃ w', (Instr.storeAt 34 (.pointer (some ⟨g, k * 3, none⟩)) (.agg (encCh x).toArray)).run Tryz.prog w = .ok () w' /\ lH w' g n (l ++ [x]) /\ Chg (fun k => k = g) w w' := by
 obtain ⟨cur, hr, q0, q3, q4⟩ := h
 have hth : w.there g (k * 3) (encCh x).toArray.size := fun i hi => by
  have hi : i < 3 := hi
  refine ⟨?_, frozen_of_row _ _ _ _ _ hr⟩
  rw [cell_of_row _ _ _ _ _ _ hr, Array.getElem?_eq_getElem (by omega)]
  rfl
 have hrun := run_storeAt_mid (P := Tryz.prog) w g (k * 3) 34 (encCh x).toArray hth (by rw [size34', List.size_toArray, encCh_len]) (all_oneCell_toArray (fun v hv => xO [x] v (by simpa using hv)))
 have e : w.setCells g (k * 3) (encCh x).toArray.toList = ((w.setCell ⟨g, k * 3, none⟩ (.slice x.ka x.kn x.kc)).setCell ⟨g, k * 3 + 1, none⟩ (.slice x.va x.vn x.vc)).setCell ⟨g, k * 3 + 1 + 1, none⟩ (.bool x.dr) := rfl
 rw [e] at hrun
 have r1 := heap_setCell_same w g (k * 3) _ _ (.slice x.ka x.kn x.kc) hr
 have r2 := heap_setCell_same _ g (k * 3 + 1) _ _ (.slice x.va x.vn x.vc) r1
 have r3 := heap_setCell_same _ g (k * 3 + 1 + 1) _ _ (.bool x.dr) r2
 refine ⟨_, hrun, ⟨_, r3, by rw [List.length_append]; simp; omega, by simpa using q3, fun j y hy r u hu => ?_⟩, (((Chg.refl (fun k => k = g) w).setCell g _ _ (fun _ => rfl)).setCell g _ _ (fun _ => rfl)).setCell g _ _ (fun _ => rfl)⟩
 have hr3 : r < 3 := by have := (List.getElem?_eq_some_iff.1 hu).1; rw [encCh_len] at this; exact this
 by_cases hj : j < l.length
 ·rw [List.getElem?_append_left hj] at hy
  have h0 := q4 j y hy r u hu
  rw [Array.getElem?_setIfInBounds_ne (by omega), Array.getElem?_setIfInBounds_ne (by omega), Array.getElem?_setIfInBounds_ne (by omega)]
  exact h0
 ·have hj2 : j = k := by
   have := (List.getElem?_eq_some_iff.1 hy).1
   rw [List.length_append] at this
   simp at this
   omega
  subst hj2
  rw [List.getElem?_append_right (by omega)] at hy
  rw [show j - l.length = 0 by omega] at hy
  simp at hy
  subst hy
  match r, hu with
  | 0, hu =>
   cases hu
   rw [show j * 3 + 0 = j * 3 from rfl, Array.getElem?_setIfInBounds_ne (by omega), Array.getElem?_setIfInBounds_ne (by omega), Array.getElem?_setIfInBounds_self_of_lt (by omega)]
  | 1, hu =>
   cases hu
   rw [Array.getElem?_setIfInBounds_ne (by omega), Array.getElem?_setIfInBounds_self_of_lt (by rw [Array.size_setIfInBounds]; omega)]
  | 2, hu =>
   cases hu
   rw [Array.getElem?_setIfInBounds_self_of_lt (by rw [Array.size_setIfInBounds, Array.size_setIfInBounds]; omega)]
def gN (w0 w : World) (g : Nat) (d : List ChV) (cs : List S.Cg) : Prop := d.length = cs.length /\ ∀ (i : Nat) x c, d[i]? = some x -> cs[i]? = some c -> SliceAt w0 (.slice x.va x.vn x.vc) c.val /\ x.dr = c.dr /\ ∃ gk, gk ≠ g /\ gk < w.heap.size /\ ∀ W : World, W.heap[gk]? = w.heap[gk]? -> SliceAt W (.slice x.ka x.kn x.kc) c.key
theorem gN.chg {w0 w W : World} {g : Nat} {d : List ChV} {cs : List S.Cg} (h : gN w0 w g d cs) (hc : ∀ k, k < w.heap.size -> k ≠ g -> W.heap[k]? = w.heap[k]?) (hs : w.heap.size <= W.heap.size) : gN w0 W g d cs :=
 ⟨h.1, fun i x c hx hcx => by
  obtain ⟨h1, h2, gk, h3, h4, h5⟩ := h.2 i x c hx hcx
  exact ⟨h1, h2, gk, h3, Nat.lt_of_lt_of_le h4 hs, fun V hV => h5 V (hV.trans (hc gk h4 h3))⟩⟩
theorem gN.below {w0 w W : World} {g : Nat} {d : List ChV} {cs : List S.Cg} (h : gN w0 w g d cs) (hb : Below w.heap.size w W) : gN w0 W g d cs := h.chg (fun k hk _ => hb.block k hk) hb.size
theorem gN.snoc {w0 w : World} {g : Nat} {d : List ChV} {cs : List S.Cg} {x : ChV} {c : S.Cg} (h : gN w0 w g d cs) (h1 : SliceAt w0 (.slice x.va x.vn x.vc) c.val) (h2 : x.dr = c.dr) (h3 : ∃ gk, gk ≠ g /\ gk < w.heap.size /\ ∀ W : World, W.heap[gk]? = w.heap[gk]? -> SliceAt W (.slice x.ka x.kn x.kc) c.key) : gN w0 w g (d ++ [x]) (cs ++ [c]) := by
 refine ⟨by simp [h.1], fun i y c' hy hc' => ?_⟩
 by_cases hi : i < d.length
 ·rw [List.getElem?_append_left hi] at hy
  rw [List.getElem?_append_left (by have := h.1; omega)] at hc'
  exact h.2 i y c' hy hc'
 ·have hl := h.1
  have hi2 : i = d.length := by
   have := (List.getElem?_eq_some_iff.1 hy).1
   simp at this; omega
  subst hi2
  rw [List.getElem?_append_right (lr _)] at hy
  rw [List.getElem?_append_right (by omega), hl] at hc'
  simp at hy hc'
  subst hy hc'
  exact ⟨h1, h2, h3⟩
theorem gN.are {w0 w : World} {g : Nat} {d : List ChV} {cs : List S.Cg} (h : gN w0 w g d cs) (hb : Below w0.heap.size w0 w) : fP w d cs :=
 ⟨h.1, fun i x c hx hc => by
  obtain ⟨h1, h2, gk, _, _, h5⟩ := h.2 i x c hx hc
  exact ⟨h5 w rfl, h1.below hb (lr _), h2⟩⟩
theorem lH.els {w : World} {g n : Nat} {l : List ChV} (h : lH w g n l) (hl : l.length = n) : ∀ j u, (l.flatMap encCh)[j]? = some u -> w.cell? ⟨g, 0 + j, none⟩ = some u := by
 obtain ⟨cur, hr, q0, q3, q4⟩ := h
 intro j u hj
 have hlt : j < l.length * 3 := by have := (List.getElem?_eq_some_iff.1 hj).1; rw [jJ] at this; exact this
 have hx : l[j / 3]? = some (l[j / 3]'(by omega)) := List.getElem?_eq_getElem (by omega)
 have h2 := flat_get encCh_len l (j / 3) (j % 3) _ hx (by omega)
 rw [show j / 3 * 3 + j % 3 = j by omega, hj] at h2
 rw [Nat.zero_add, cell_of_row _ _ _ _ _ _ hr]
 have h3 := q4 _ _ hx (j % 3) u h2.symm
 rwa [show j / 3 * 3 + j % 3 = j by omega] at h3
set_option maxHeartbeats 16000000 in
set_option maxRecDepth 100000 in
theorem il (v : Value) (d : List KcV) (cs : List (UInt8 × S.Cg)) (w : World) (hd : Els dD w v d) (hc : kF w d cs) (hl : d.length <= 100000) (hkl : ∀ c ∈ cs, c.2.key.length <= 1000000) :
  Calls Tryz.prog 59 #[v] w fun e w' => ∃ g d', e = .returned (.slice (some ⟨g, 0, none⟩) d.length d.length) /\ w.heap.size <= g /\ d'.length = d.length /\ lH w' g d.length d' /\ fP w' d' (cs.map S.tr) /\ Below w.heap.size w w' := by
 have HD := hide hd
 obtain ⟨ao, cap, rfl, hbig⟩ := hd.form
 obtain ⟨n, hn⟩ : ∃ n, n = d.length := ⟨_, rfl⟩
 rw [<- hn] at hbig hl ⊢
 have HN := hide hn
 have HC := hide hc
 have HKL := hide hkl
 have HL := hide hl
 obtain ⟨i0, hi, hz, hs, hb⟩ := info_parts info34
 obtain ⟨w1, hmk, hown, hgr⟩ := run_makeSlice_full (P := Tryz.prog) (w := w) w.heap.size 36 34 i0 _ 3 Tryz.underlying36 hi hz hs .i64 .i64 n (by omega) (by rw [hb]; omega) (by simp [maxLen]; omega) (lr _)
 have B1 : Hid (Below w.heap.size w w1) := ((Chg.refl (fun k => w.heap.size <= k) w).grown hgr (fun k _ e => by simp at e)).below _ (lr _) (fun k hk e => by omega)
 have CI1 : Hid (lH w1 w.heap.size n []) := by
  rcases hown.2 with ⟨e, _⟩ | ⟨g', c', cur, e, _, h3, h4, _, h6, _⟩
  ·simp at e
  ·simp only [Value.slice.injEq, Option.some.injEq, Addr.mk.injEq] at e
   obtain ⟨⟨rfl, _, _⟩, _, rfl⟩ := e
   exact ⟨cur, h3, Nat.zero_le _, h6, fun j x hx => by simp at hx⟩
 obtain ⟨g, hg⟩ : ∃ g, g = w.heap.size := ⟨_, rfl⟩
 have AR1 : Hid (gN w w1 g [] ((cs.take 0).map S.tr)) := ⟨by simp, fun i x c hx => by simp at hx⟩
 have HG : Hid (w.heap.size <= g) := Nat.le_of_eq hg.symm
 rw [<- hg] at hmk CI1
 clear hd hc hn hi hz hs hb hown hgr hkl hl hg
 clear i0
 go_enter Tryz.func59, Tryz.ntmps59
 go_wp2_with (first | (with_reducible refine aD ⟨some 8, .makeSlice 36 (.tmp 7) (.tmp 7), 36, "kv.go:98", #[{ on := 1, ground := Ground.data }, { on := 1, ground := Ground.data }], none⟩ ?_; refine lW rfl 36 _ _ rfl _ _ rfl rfl _ _ hmk ?_))
 clear hmk
 go_loopw [11] (fun i wr => ∃ k : Nat, k <= n /\ i = .int .i64 (k : Int) /\ Hid (Below w.heap.size w wr) /\ ∃ d1 : List ChV, d1.length = k /\ Hid (lH wr g n d1) /\ Hid (gN w wr g d1 ((cs.take k).map S.tr))) (fun i _ => n - (intOf i).toNat)
 case atStart => exact ⟨0, by omega, rfl, B1, [], rfl, CI1, AR1⟩
 case round =>
 obtain ⟨k, hk, rfl, BW, d1, hd1, CI, AR⟩ := hrel
 by_cases hlt : k < n
 ·have hkd : k < d.length := by have := HN.out; omega
  have hkc : k < cs.length := by have := HC.out.1; omega
  obtain ⟨b, off, cap', hv, hcap, hb, hc⟩ := HD.out.at lU k d[k] (List.getElem?_eq_getElem hkd)
  injection hv with hv1 hv2 hv3
  subst hv1 hv3
  obtain ⟨t0, t1, t2, t3⟩ := Cx hc
  have u0 := (BW.out.cell (p := ⟨b, off + k * 4, none⟩) hb).trans t0
  have u1 := (BW.out.cell (p := ⟨b, off + k * 4 + 1, none⟩) hb).trans t1
  have u2 := (BW.out.cell (p := ⟨b, off + k * 4 + 2, none⟩) hb).trans t2
  have u3 := (BW.out.cell (p := ⟨b, off + k * 4 + 3, none⟩) hb).trans t3
  have hkI : (k : Int) < (n : Int) := by omega
  have hk0 : (0 : Int) <= (k : Int) := by omega
  obtain ⟨x, hx⟩ : ∃ x, x = d[k] := ⟨_, rfl⟩
  obtain ⟨c, hcx⟩ : ∃ c, c = cs[k] := ⟨_, rfl⟩
  have KI : Hid (yj w x c) := by rw [hx, hcx]; exact HC.out.2 k _ _ (List.getElem?_eq_getElem hkd) (List.getElem?_eq_getElem hkc)
  have CK : Hid (cs[k]? = some c) := by rw [hcx]; exact List.getElem?_eq_getElem hkc
  rw [<- hx] at u0 u1 u2 u3
  obtain ⟨sp, ka, kn, kc, va, vn, vc, dr⟩ := x
  obtain ⟨sp', key, val, dr'⟩ := c
  obtain rfl : sp = sp' := KI.out.sp
  obtain rfl : dr = dr' := KI.out.dr
  simp only at u0 u1 u2 u3
  have KLN : Hid (key.length <= 1000000) := HKL.out _ (List.mem_of_getElem? CK.out)
  have HK1 := hide hd1
  clear t0 t1 t2 t3 hc hx hcx hv2 hcap
  go_upto_region 5 with fail
  obtain ⟨W, hW⟩ : ∃ W, W = wr.alloc (.cells #[.int .u8 (sp.toNat : Int), .slice ka kn kc, .slice va vn vc, .bool dr] 67) := ⟨_, rfl⟩
  rw [<- hW]
  have bW : Below wr.heap.size wr W := by rw [hW]; exact ba ..
  have rW : W.heap[wr.heap.size]? = some (.cells #[.int .u8 (sp.toNat : Int), .slice ka kn kc, .slice va vn vc, .bool dr] 67 (0, 0)) := by rw [hW]; exact heap_alloc_new _ _
  obtain ⟨gb, hgb⟩ : ∃ gb, gb = wr.heap.size := ⟨_, rfl⟩
  have NG : Hid (gb ≠ g) := by have := CI.out.lt; show gb ≠ g; omega
  rw [<- hgb] at rW ⊢
  have CW := hide (CI.out.below bW)
  have AW := hide (AR.out.below bW)
  have BWW := hide (BW.out.trans (bW.mono BW.out.size))
  have KX : Hid (SliceAt W (.slice ka kn kc) key) := KI.out.key.below BWW.out (lr _)
  have VX : Hid (SliceAt W (.slice va vn vc) val) := KI.out.val.below BWW.out (lr _)
  have RW := hide rW
  clear hW bW rW hgb u0 u1 u2 u3 BW CI AR
  refine wp_region_noPanic ?_
  refine wp_region_held_drew (S := (fun Z => Z.heap[gb]? = some (.cells #[.int .u8 (sp.toNat : Int), .slice ka kn kc, .slice va vn vc, .bool dr] 67 (0, 0)))) follows RW.out (fun hHeld => ?_)
  have CZ : Hid (lH W.drew g n d1) := CW.out
  have AZ : Hid (gN w W.drew g d1 ((cs.take k).map S.tr)) := AW.out
  have BZ : Hid (Below w.heap.size w W.drew) := BWW.out.drew
  have KZ : Hid (SliceAt W.drew (.slice ka kn kc) key) := KX.out
  have VZ : Hid (SliceAt W.drew (.slice va vn vc) val) := VX.out
  clear CW AW BWW KX VX RW
  generalize W.drew = Z0 at CZ AZ BZ KZ VZ hHeld ⊢
  refine tq 0 ?_
  simp only [uA]
  refine tq 1 ?_
  simp only [uA]
  refine tq 2 ?_
  simp only [uA]
  refine tk 3 ?_ rfl (Or.inl ⟨by rfl, ?_⟩) ?_
  rotate_left
  ·intro w hSw
   obtain ⟨x0, x1, x2, x3⟩ := nI hSw
   clear hSw
   go_simp
   all_goals with_reducible rfl
  simp only [uA]
  refine tq 4 ?_
  simp only [uA]
  refine tk 5 ?_ rfl (Or.inl ⟨by rfl, ?_⟩) ?_
  rotate_left
  ·intro w hSw
   obtain ⟨x0, x1, x2, x3⟩ := nI hSw
   clear hSw
   go_simp
   all_goals with_reducible rfl
  simp only [uA]
  refine tq 7 ?_
  simp only [uA]
  refine tk 8 ?_ rfl (Or.inl ⟨by rfl, ?_⟩) ?_
  rotate_left
  ·intro w hSw
   obtain ⟨x0, x1, x2, x3⟩ := nI hSw
   clear hSw
   go_simp
   all_goals with_reducible rfl
  simp only [uA]
  refine tq 9 ?_
  simp only [uA]
  refine tk 10 ?_ rfl (Or.inl ⟨by rfl, ?_⟩) ?_
  rotate_left
  ·intro w hSw
   obtain ⟨x0, x1, x2, x3⟩ := nI hSw
   clear hSw
   go_simp
   all_goals with_reducible rfl
  simp only [uA]
  refine r1 6 fun K hK => ?_
  go_simp
  refine (ni sp _ key Z0 KZ.out KLN.out).mono ?_
  rintro e Z1 ⟨gn, cn, rfl, hgn, hrow, hsn, b1⟩
  have C1 := hide (CZ.out.below b1)
  have A1 := hide (AZ.out.below b1)
  have B1 := hide (BZ.out.trans (b1.mono BZ.out.size))
  have V1 := hide (VZ.out.below b1 (lr _))
  have K1 : Hid (gn ≠ g /\ gn < Z1.heap.size /\ ∀ W, W.heap[gn]? = Z1.heap[gn]? -> SliceAt W (.slice (some ⟨gn, 0, none⟩) (sp :: key).length cn) (sp :: key)) := ⟨by have := CZ.out.lt; omega, hrow, hsn⟩
  have h1 : Z1.heap[gb]? = _ := (b1.block gb (ae hHeld)).trans hHeld
  clear hgn hrow hsn b1 CZ AZ BZ KZ VZ hHeld
  refine hK.out _ _ h1 (fun hHeld => ?_)
  clear hK K h1
  try simp only [uA]
  refine tq 11 ?_
  simp only [uA]
  refine tq 12 ?_
  simp only [uA]
  refine rdy [13] ?_
  obtain ⟨W3, hst, hci, hcg⟩ := C1.out.store k hlt ⟨some ⟨gn, 0, none⟩, key.length + 1, cn, va, vn, vc, dr⟩ HK1.out
  have W3H : W3.heap[gb]? = _ := (hcg.block gb (ae hHeld) NG.out).trans hHeld
  have A2 := hide ((A1.out.snoc (x := ⟨some ⟨gn, 0, none⟩, key.length + 1, cn, va, vn, vc, dr⟩) (c := ⟨sp :: key, val, dr⟩) KI.out.val rfl ⟨gn, K1.out⟩).chg (fun j hj hne => hcg.block j hj hne) hcg.size)
  have B2 := hide (B1.out.trans (hcg.below _ B1.out.size (fun j hj e => by have := HG.out; omega)))
  have C2 := hide hci
  refine eQ (o := ⟨_, _, _, _, _, _⟩) rfl rfl 34 (.tmp 28) (.tmp 27) rfl W3 hst AllReadyH.nil ⟨W3H, fun hHeld => ?_⟩
  simp only [Act.put]
  refine wpAnyH_done (by kernel_rfl) ?_ _
  refine NoPanic.normal ?_
  clear hHeld
  have A3 : Hid (gN w W3 g (d1 ++ [⟨some ⟨gn, 0, none⟩, key.length + 1, cn, va, vn, vc, dr⟩]) ((cs.take (k + 1)).map S.tr)) := by
   have e1 : (cs.take (k + 1)).map S.tr = (cs.take k).map S.tr ++ [⟨sp :: key, val, dr⟩] := by rw [List.take_add_one, CK.out]; simp [S.tr]
   rw [e1]
   exact A2.out
  go_wp2_with fail
  go_roundw
  case rel => exact ⟨k + 1, by omega, by go_num, B2, _, by simp [HK1.out], C2, A3⟩
  case measure => simp [intOf]; omega
 ·obtain rfl : k = n := by omega
  have e1 : cs.take k = cs := List.take_of_length_le (by have := HC.out.1; have := HN.out; omega)
  rw [e1] at AR
  have HD1 := hide hd1
  go_wp2_with fail
  go_ret
  exact ⟨g, d1, rfl, HG.out, HD1.out, CI.out, AR.out.are BW.out, BW.out⟩
end Go.Proofs.YteealihknndclaaGreatDoor
