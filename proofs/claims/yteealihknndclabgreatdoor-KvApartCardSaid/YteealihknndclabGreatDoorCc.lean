/- Changes are done in a tree of one leaf: the edit behind them. -/
import Derived.Test.YteealihknndclabGreatDoorEc
import Derived.Test.YteealihknndclabGreatDoorBk
import Derived.Test.YteealihknndclabGreatDoorBf
import Derived.Test.YteealihknndclabGreatDoorJa
import Derived.Test.YteealihknndclabGreatDoorUd
namespace Go.Proofs.YteealihknndclabGreatDoor
open Go.RowKit

theorem p8 {w : World} {ao : Option Addr} {n c : Nat} {bs : List UInt8} (h : SliceAt w (.slice ao n c) bs) : n = bs.length := by
 obtain ⟨a, l, c', e, h1, _⟩ := h.form
 injection e with _ e _
 rw [e, h1]
theorem vsz_ess {w : World} {d : List EnV} {es : List S.Ent} (h : aX w d es) : vsz d = S.fI es := by
 induction d generalizing es with
 | nil =>
  have := h.1
  cases es with
  | nil => rfl
  | cons a r => simp at this
 | cons x r ih =>
  cases es with
  | nil => have := h.1; simp at this
  | cons e l =>
   have h0 := h.2 0 x e rfl rfl
   have hr : aX w r l := ⟨by have := h.1; simpa using this, fun i y f hy hf => h.2 (i + 1) y f (by simpa using hy) (by simpa using hf)⟩
   have e1 : vsz (x :: r) = (4 + x.kn + x.vn) + vsz r := by simp [vsz]
   have e2 : S.fI (e :: l) = S.esz e + S.fI l := by simp [S.fI]
   rw [e1, e2, ih hr, p8 h0.key, p8 h0.val]
   rfl
structure Chd (w w' : World) (g gs g1 g2 : Nat) (kv : Value) (h : S.Hh) (vs : Value) (es : List S.Ent) : Prop where
 node : ∃ vo d, w'.heap[g1]? = some (.cells #[.int .i64 0, vo] 98 (0, 0)) /\ bG w.heap.size w' vo d /\ ∀ W, Chg (fun k => k = g) w' W -> aX W d es
 out : w'.heap[g2]? = some (.cells #[kv, .slice none 0 0, .int .i64 0, .pointer (some ⟨g1, 0, none⟩)] 95 (0, 0))
 edit : aP w' g gs { h with used := S.fK h.used 1, cnt := es.length } vs
 chg : Chg (fun k => k = g) w w'
 up : w.heap.size <= g1 /\ w.heap.size <= g2
set_option maxHeartbeats 4000000 in
set_option maxRecDepth 10000 in
theorem Gc (B g gs : Nat) (h : S.Hh) (vs l : Value) (ko : Option Addr) (kn kc : Nat) (pg : Nat -> List UInt8) (es : List S.Ent) (dc : List ChV) (cs : List S.Cg) (w0 w : World) (hr : Rds B w gs pg) (he : aP w g gs h vs) (hu : h.used.length = 64) (hcn : h.cnt = es.length)
  (hp : pg 1 = S.aO (S.aN 0 es)) (ho : S.bC 0 es) (hl : Els bg w0 l dc) (hc : dL w0 dc cs) (hb : Below w0.heap.size w0 w) (hg : w0.heap.size <= g) (hlen : es.length + cs.length <= 10000) (hm : S.fI (S.mrg es cs) <= 1019) :
  Calls Tryz.prog 47 #[.pointer (some ⟨g, 0, none⟩), .agg #[.slice ko kn kc, .slice none 0 0, .int .i64 1, .pointer none], .int .i64 0, l] w fun e w' => ∃ g1 g2, e = .returned (.tuple #[.slice (some ⟨g2, 0, none⟩) 1 1, .int .i64 0]) /\ Chd w w' g gs g1 g2 (.slice ko kn kc) h vs (S.mrg es cs) := by
 have TK := hide (fun W (hw : Below w.heap.size w W) => CP B g gs 1 0 h vs ⟨ko, kn, kc, none, 0, 0, 1, none⟩ pg es W (hr.below hw) ((hw.block g (aa he)).trans he) hu rfl (by omega) hp ho)
 simp only at TK
 have HE := hide he
 have HL := hide hl
 have HC := hide hc
 have HB := hide hb
 have HG := hide hg
 have HLEN := hide hlen
 have HM := hide hm
 have HU := hide hu
 have HCN := hide hcn
 have HO := hide ho
 obtain ⟨lo, lcap, rfl, _⟩ := hl.form
 clear he hr hu hcn hp ho hl hc hb hg hlen hm
 go_enter Tryz.func47, Tryz.ntmps47
 go_wp2_with fail
 obtain ⟨W, hW⟩ : ∃ W, W = w.alloc (.cells #[.slice ko kn kc, .slice none 0 0, .int .i64 1, .pointer none] 95) := ⟨_, rfl⟩
 rw [<- hW]
 have bW : Below w.heap.size w W := by rw [hW]; exact ba ..
 have rW : W.heap[w.heap.size]? = some (.cells #[.slice ko kn kc, .slice none 0 0, .int .i64 1, .pointer none] 95 (0, 0)) := by rw [hW]; exact heap_alloc_new _ _
 have TK2 := hide (TK.out W bW)
 have RW := hide rW
 have BW := hide bW
 clear hW bW rW TK
 refine TK2.out.mono ?_
 rintro e X ⟨gn, rfl, n1, e1, k1⟩
 have N1 := hide (n1.mono BW.out.size)
 have GNX : Hid (W.heap.size <= gn) := n1.at_
 have E1 := hide e1
 have GLT : Hid (g < w.heap.size) := aa HE.out
 have C1 : Hid (Chg (fun k => k = g) w X) := (Chg.ofBelow' BW.out).trans k1 (fun _ _ e => e)
 have RX : Hid (X.heap[w.heap.size]? = some (.cells #[.slice ko kn kc, .slice none 0 0, .int .i64 1, .pointer none] 95 (0, 0))) := k1.row RW.out (by have := GLT.out; omega)
 have BX : Hid (Below w0.heap.size w0 X) := HB.out.trans (C1.out.below _ HB.out.size (fun k hk e => by have := HG.out; omega))
 have WW : Hid (w.heap.size < W.heap.size) := aa RW.out
 clear n1 e1 k1 RW BW TK2
 obtain ⟨vx, d, h1, h2, h3, h4⟩ := N1.out.is
 obtain ⟨ao, cap, hv⟩ := h2.form
 subst hv
 obtain ⟨n, hn⟩ : ∃ n, n = d.length := ⟨_, rfl⟩
 rw [<- hn] at h1
 obtain ⟨g0, g1⟩ := aK h1
 have R1 := hide h1
 have ER := hide h2
 have DL : Hid (d.length = es.length) := h3
 have EN := hide h4
 have HN := hide hn
 clear h1 h2 h3 h4 N1 hn
 go_wp2_with fail
 have EAX : Hid (aX X d es) := ⟨DL.out, fun i x e hx hf => (EN.out i x e hx hf).1.is (by have := (HO.out.ent e (List.mem_of_getElem? hf)).key; omega) (by have := (HO.out.ent e (List.mem_of_getElem? hf)).val; omega)⟩
 have LX : Hid (Els bg X (.slice lo dc.length lcap) dc) := HL.out.below BX.out
 have NDX : Hid (∀ x ∈ d, x.nd = none) := fun x hx => by
  obtain ⟨i, hi, rfl⟩ := List.getElem_of_mem hx
  have hi2 : i < es.length := by have := DL.out; omega
  exact (EN.out i d[i] es[i] (List.getElem?_eq_getElem hi) (List.getElem?_eq_getElem hi2)).2
 have ERX : Hid (bG w.heap.size X (.slice ao n cap) d) := by rw [HN.out]; exact ER.out
 have hn254 : n <= 254 := by have := HO.out.len; have := DL.out; have := HN.out; omega
 clear g0 g1
 refine (zl _ _ d es dc cs X (ERX.out.els (by have := HN.out; omega)) EAX.out NDX.out HO.out.up LX.out (HC.out.below BX.out) HLEN.out).mono ?_
 rintro e Y ⟨u, d', rfl, r2, eg, nd2, b2⟩
 have EG := hide eg
 have R2 := hide r2
 have E2 : Hid (aP Y g gs { h with used := S.fK h.used 1 } vs) := (b2.block g (aa E1.out)).trans E1.out
 have RN : Hid (Y.heap[gn]? = some (.cells #[.int .i64 0, .slice ao n cap] 98 (0, 0))) := (b2.block gn (aa R1.out)).trans R1.out
 have RY : Hid (Y.heap[w.heap.size]? = some (.cells #[.slice ko kn kc, .slice none 0 0, .int .i64 1, .pointer none] 95 (0, 0))) := (b2.block w.heap.size (aa RX.out)).trans RX.out
 have BY : Hid (Below w0.heap.size w0 Y) := BX.out.trans (b2.mono BX.out.size)
 have C2 : Hid (Chg (fun k => k = g) w Y) := C1.out.trans (Chg.ofBelow' (p := fun k => k = g) b2) (fun _ _ e => e)
 have ENY : Hid (∀ (i : Nat) x e, d[i]? = some x -> es[i]? = some e -> dw w.heap.size Y x e /\ x.nd = none) := fun i x e hx hf => ⟨(EN.out i x e hx hf).1.below b2, (EN.out i x e hx hf).2⟩
 have SX : Hid (w.heap.size <= X.heap.size) := C1.out.size
 have R2w : Hid (bG w.heap.size Y u d') := R2.out.mono SX.out
 have EL : Hid (d'.length = (S.mrg es cs).length) := (eg X EAX.out (HC.out.below BX.out)).1
 have VZ : Hid (vsz d' <= 1019) := by
  show vsz d' <= 1019
  rw [vsz_ess (eg X EAX.out (HC.out.below BX.out))]; exact HM.out
 obtain ⟨uo, uc, hu'⟩ := r2.form
 subst hu'
 obtain ⟨m, hm⟩ : ∃ m, m = d'.length := ⟨_, rfl⟩
 have HMM := hide hm
 have hm254 : m <= 254 := by have := vw d'; have := VZ.out; omega
 rw [<- hm] at R2w ⊢
 clear eg r2 nd2 b2 hm E1 R1 RX BX C1 EN EAX LX NDX ERX ER R2
 obtain ⟨g0, g1⟩ := aK RN.out
 have f1 := frozen_of_row _ _ 1 _ _ RN.out
 go_upto_region 7 with fail
 obtain ⟨Y1, hY1⟩ : ∃ Y1, Y1 = Y.setCell ⟨gn, 1, none⟩ (.slice uo m uc) := ⟨_, rfl⟩
 rw [<- hY1]
 have k3 : Chg (fun k => k = gn) Y Y1 := by rw [hY1]; exact (Chg.refl (fun k => k = gn) _).setCell gn 1 _ (fun _ => rfl)
 have r3 : Y1.heap[gn]? = some (.cells #[.int .i64 0, .slice uo m uc] 98 (0, 0)) := by rw [hY1, heap_setCell_same Y gn 1 _ _ _ RN.out]; rfl
 have GW : Hid (w.heap.size < gn /\ g < gn) := by have := GNX.out; have := WW.out; have := GLT.out; exact ⟨by omega, by omega⟩
 have E3 : Hid (aP Y1 g gs { h with used := S.fK h.used 1 } vs) := k3.row E2.out (by have := GW.out; omega)
 have RY3 : Hid (Y1.heap[w.heap.size]? = some (.cells #[.slice ko kn kc, .slice none 0 0, .int .i64 1, .pointer none] 95 (0, 0))) := k3.row RY.out (by have := GW.out; omega)
 have BY3 : Hid (Below w0.heap.size w0 Y1) := BY.out.trans (k3.base BY.out.size (by have := GW.out; have := HB.out.size; omega))
 have C3 : Hid (Chg (fun k => k = g) w Y1) := C2.out.trans k3 (fun j hj e => by have := GW.out; omega)
 have EN3 : Hid (∀ (i : Nat) x e, d[i]? = some x -> es[i]? = some e -> dw w.heap.size Y1 x e /\ x.nd = none) := fun i x e hx hf => ⟨(ENY.out i x e hx hf).1.chg k3 (fun k c hk e => bq hk RN.out (by decide) e), (ENY.out i x e hx hf).2⟩
 have R3w : Hid (bG w.heap.size Y1 (.slice uo m uc) d') := R2w.out.chg k3 (fun k hk e => R2w.out.apart RN.out (by decide) (by rw [<- e]; exact hk))
 have R3 := hide r3
 obtain ⟨q0, q1⟩ := aK r3
 have cn : Y1.cell? ⟨g, 1, none⟩ = some (.int .i64 (n : Int)) := by
  have := E3.out.cnt
  rw [show n = h.cnt by have := HCN.out; have := HN.out; have := DL.out; omega]
  exact this
 have fn := frozen_of_row _ _ 1 _ _ E3.out
 clear hY1 k3 r3 g0 g1 f1 E2 RN RY BY C2 ENY R2w
 go_wp2_with fail
 go_region
 have ew : (n : Int) + ((m : Int) - (n : Int)) = (m : Int) := by omega
 rw [ew]
 obtain ⟨Y2, hY2⟩ : ∃ Y2, Y2 = (Y1.setCell ⟨g, 1, none⟩ (.int .i64 (m : Int))).drew := ⟨_, rfl⟩
 rw [<- hY2]
 have k4 : Chg (fun k => k = g) Y1 Y2 := by rw [hY2]; exact ((Chg.refl (fun k => k = g) _).setCell g 1 _ (fun _ => rfl)).drew
 have E4 : Hid (aP Y2 g gs { h with used := S.fK h.used 1, cnt := m } vs) := by rw [hY2]; exact E3.out.setCnt m
 have R4 : Hid (Y2.heap[gn]? = some (.cells #[.int .i64 0, .slice uo m uc] 98 (0, 0))) := k4.row R3.out (by have := GW.out; omega)
 have RY4 : Y2.heap[w.heap.size]? = some (.cells #[.slice ko kn kc, .slice none 0 0, .int .i64 1, .pointer none] 95 (0, 0)) := k4.row RY3.out (by have := GLT.out; omega)
 have BY4 : Hid (Below w0.heap.size w0 Y2) := BY3.out.trans (k4.base BY3.out.size HG.out)
 have C4 : Hid (Chg (fun k => k = g) w Y2) := C3.out.trans k4 (fun j hj e => e)
 have EN4 : Hid (∀ W, Chg (fun k => k = g) Y2 W -> aX W d es) := fun W kw => ⟨DL.out, fun i x e hx hf => ((EN3.out i x e hx hf).1.chg (k4.trans kw (fun _ _ e => e)) (fun k c hk e => bq hk E3.out (by decide) e)).is (by have := (HO.out.ent e (List.mem_of_getElem? hf)).key; omega) (by have := (HO.out.ent e (List.mem_of_getElem? hf)).val; omega)⟩
 have R4w : Hid (bG w.heap.size Y2 (.slice uo m uc) d') := R3w.out.chg k4 (fun k hk e => R3w.out.apart E3.out (by decide) (by rw [<- e]; exact hk))
 have EF : Hid (∀ W, Chg (fun k => k = g) Y2 W -> aX W d' (S.mrg es cs)) := fun W kw => EG.out W (EN4.out W kw) (HC.out.below (BY4.out.trans (kw.base BY4.out.size HG.out)))
 obtain ⟨z0, z1, z2, z3⟩ := aQ RY4
 clear ew hY2 k4 E3 R3 RY3 RY4 BY3 C3 EN3 R3w cn fn q0 q1
 go_wp2_with fail
 refine (split_0 gn (.slice ko kn kc) _ d' Y2 ⟨_, _, _, rfl⟩ R4.out (R4w.out.els (by have := HMM.out; omega)) VZ.out).mono ?_
 rintro e Z ⟨g1, g2, vo, rfl, sp, hg1, hg2⟩
 have SZ : w.heap.size <= Y2.heap.size := C4.out.size
 have CH : Chd w Z g gs g1 g2 (.slice ko kn kc) h vs (S.mrg es cs) := by
  refine ⟨⟨vo, d', sp.node, ?_, fun W kw => EF.out W ((Chg.ofBelow' (p := fun k => k = g) sp.base).trans kw (fun _ _ e => e))⟩, sp.out, ?_, C4.out.trans (Chg.ofBelow' (p := fun k => k = g) sp.base) (fun _ _ e => e), by omega, by omega⟩
  ·have := sp.row
   rw [List.take_length] at this
   exact this.mono (by omega)
  ·have := (sp.base.block g (aa E4.out)).trans E4.out
   rw [<- EL.out, <- HMM.out]
   exact this
 have CHH := hide CH
 clear CH sp hg1 hg2 SZ z0 z1 z2 z3
 go_wp2_with fail
 go_ret2
 exact ⟨g1, g2, rfl, CHH.out⟩
theorem um (B g : Nat) (u : Value) (bs xs : List UInt8) (w : World) (h : Wi B w g bs) (hu : ∀ W, Below B w W -> SliceAt W u xs) (hb : bs.length <= 1000000) :
  Calls Tryz.prog 74 #[.pointer (some ⟨g, 0, none⟩), u] w fun e w' => e = .returned (.tuple #[]) /\ Wi B w' g (bs ++ S.text xs) /\ Below B w w' /\ ∀ (k : Nat) (c : Array Value) (p : Nat × Nat), w.heap[k]? = some (Obj.cells c 95 p) -> w'.heap[k]? = some (Obj.cells c 95 p) := by
 obtain ⟨v, h1, h2⟩ := h.is
 refine (mM g v u bs xs w h1 (fun W hW => hu W (hW.below B h.base (fun k hk e => by
  rcases e with e | e
  ·have := h.at_; omega
  ·have := h2 k e; omega))) (by omega)).mono ?_
 rintro e w1 ⟨rfl, v', h3, h4⟩
 obtain ⟨b1, b2⟩ := h4.base h.base h.at_ h2
 refine ⟨rfl, ⟨⟨v', h3, b2⟩, h.at_, ltr h.base b1.size⟩, b1, fun k c p hk => h4.chg.row hk (fun e => ?_)⟩
 rcases e with e | e
 ·exact bq hk h1.row (by decide) e
 ·rcases h1.text.2 with ⟨e0, _⟩ | ⟨g', cap, cur, e0, _, hr, _⟩
  ·rw [e0] at e; simp [Value.ownBlock] at e
  ·rw [e0] at e
   simp only [Value.ownBlock, Option.some.injEq] at e
   exact bq hk hr (by decide) e.symm
namespace S
def iL (es : List Ent) (k : Nat) : List UInt8 := num 0 1 ++ (num es.length 2 ++ dJ 0 (es.take k))
theorem xI (es : List Ent) : iL es 0 = ([] ++ num 0 1) ++ num es.length 2 := by simp [iL, dJ]
theorem zi (es : List Ent) : iL es es.length = aN 0 es := by unfold iL aN; rw [List.take_length]
theorem xJ {es : List Ent} {k : Nat} {x : Ent} (hx : es[k]? = some x) : (iL es k ++ text x.key) ++ text x.val = iL es (k + 1) := by
 unfold iL dJ
 rw [List.take_add_one, hx]
 simp [wC]
theorem BN {es : List Ent} (h : bC 0 es) (k : Nat) : (iL es k).length <= 1022 := by
 unfold iL
 rw [List.length_append, List.length_append, ak, ak, ol (fun x hx => h.ent x (List.mem_of_mem_take hx))]
 have := kH es k
 have := h.size
 omega
end S
set_option maxHeartbeats 4000000 in
set_option maxRecDepth 10000 in
theorem lh (g n : Nat) (es : List S.Ent) (w : World) (hn : gT w g 0 es) (ho : S.bC 0 es) :
  Calls Tryz.prog 44 #[.pointer (some ⟨g, 0, none⟩), .int .i64 (n : Int)] w fun e w' => ∃ q, e = .returned (.agg #[.int .i64 (n : Int), .slice (some ⟨q, 0, none⟩) 1024 1024]) /\ w.heap.size <= q /\ w'.heap[q]? = some (.cells (S.v8 (S.aO (S.aN 0 es))) 5 (0, 0)) /\ Below w.heap.size w w' := by
 have ND := hide hn
 have HO := hide ho
 clear hn ho
 go_enter Tryz.func44, Tryz.ntmps44
 go_wp2_with fail
 obtain ⟨w1, hw1⟩ : ∃ w1, w1 = w.alloc (.cells #[.int .i64 0, .slice none 0 0] 109) := ⟨_, rfl⟩
 rw [<- hw1]
 have b1 : Below w.heap.size w w1 := by rw [hw1]; exact ba ..
 have R1 : Hid (w1.heap[w.heap.size]? = some (.cells #[.int .i64 0, .slice none 0 0] 109 (0, 0))) := by rw [hw1]; exact heap_alloc_new _ _
 obtain ⟨gr, hgr⟩ : ∃ gr, gr = w.heap.size := ⟨_, rfl⟩
 rw [<- hgr] at R1 ⊢
 have HGR := hide hgr
 have B1 := hide b1
 have ND1 := hide (ND.out.below b1)
 clear hw1 b1 hgr ND
 refine (yD w1).mono ?_
 rintro e w2 ⟨gw, rfl, i2, b2⟩
 have I2 := hide i2
 have B2 := hide b2
 obtain ⟨v, d, h1, h2, h3⟩ := ND1.out.is
 obtain ⟨ao, cap, rfl, _⟩ := h2.form
 have hL := h3.1
 rw [hL] at h1 h2
 have AT : Hid (∀ W, Below w1.heap.size w1 W -> Els aR W (.slice ao es.length cap) d /\ aX W d es) := fun W hb => ⟨h2.below hb, h3.below hb⟩
 have RN : Hid (∀ W, Below w1.heap.size w1 W -> W.heap[g]? = some (.cells #[.int .i64 0, .slice ao es.length cap] 98 (0, 0))) := fun W hb => (hb.block g (aa h1)).trans h1
 obtain ⟨m, hm⟩ : ∃ m, m = es.length := ⟨_, rfl⟩
 have hlen : m <= 254 := by rw [hm]; exact HO.out.len
 have HM := hide hm
 rw [<- hm] at AT RN
 clear i2 b2 h1 h2 h3 hL ND1 hm
 have c2 := (aK (RN.out w2 B2.out)).1
 have hz : ((0 : Nat) : Int) = 0 := rfl
 go_wp2_with fail
 clear c2
 rw [<- hz]
 refine (qW w1.heap.size gw 0 1 [] w2 I2.out (by simp)).mono ?_
 rintro e w3 ⟨rfl, i3, b3⟩
 have I3 := hide i3
 have B3 := hide (B2.out.trans b3)
 clear i3 b3 I2 B2
 have c3 := (aK (RN.out w3 B3.out)).2
 have k1 : IntKind.u64.wrap (m : Int) = (m : Int) := by rw [IntKind.wrap_u64]; omega
 have k2 : (m : Int) % 18446744073709551616 = (m : Int) := by omega
 go_wp2_with fail
 clear c3
 refine (qW w1.heap.size gw m 2 _ w3 I3.out (by simp [S.ak]; decide)).mono ?_
 rintro e w4 ⟨rfl, i4, b4⟩
 have I4 : Hid (Wi w1.heap.size w4 gw (S.iL es 0)) := by
  rw [S.xI, <- HM.out]
  exact i4
 have B4 := hide (B3.out.trans b4)
 clear i4 b4 I3 B3 k1 k2 hz
 have c4 := (aK (RN.out w4 B4.out)).2
 go_wp2_with fail
 clear c4
 go_loopw [29] (fun i wr => ∃ k : Nat, k <= m /\ i = .int .i64 (k : Int) /\ Hid (Wi w1.heap.size wr gw (S.iL es k)) /\ Hid (Below w1.heap.size w1 wr)) (fun i _ => m - (intOf i).toNat)
 case atStart => exact ⟨0, by omega, rfl, I4, B4⟩
 case round =>
 clear I4 B4
 obtain ⟨k, hk, rfl, IW, BW⟩ := hrel
 by_cases hlt : k < m
 ·have hke : k < es.length := by have := HM.out; omega
  obtain ⟨hE, hA⟩ := AT.out wr BW.out
  rw [HM.out] at hE
  obtain ⟨b, off, cap', x, hv, hcap, hx, hb, hi, t0, t1, t2, t3⟩ := vT hE hA k hke
  injection hv with hv1 hv2 hv3
  subst hv1 hv3
  have KEY : Hid (∀ W, Below wr.heap.size wr W -> SliceAt W (.slice x.ka x.kn x.kc) es[k].key /\ SliceAt W (.slice x.va x.vn x.vc) es[k].val) := fun W hb => ⟨hi.key.below hb (lr _), hi.val.below hb (lr _)⟩
  have KEYB : Hid (∀ W, Below w1.heap.size w1 W -> SliceAt W (.slice x.ka x.kn x.kc) es[k].key /\ SliceAt W (.slice x.va x.vn x.vc) es[k].val) := fun W hb => by
   obtain ⟨_, hA'⟩ := AT.out W hb
   have := hA'.2 k x es[k] hx (List.getElem?_eq_getElem hke)
   exact ⟨this.key, this.val⟩
  have SUC := hide (S.xJ (List.getElem?_eq_getElem hke))
  have LE := hide (S.BN HO.out k)
  have KL := hide (HO.out.ent _ (List.getElem_mem hke)).key
  obtain ⟨ka, kn, kc, va, vn, vc, pg, nd⟩ := x
  simp only at t0 t1 t2 t3
  have hkI : (k : Int) < (m : Int) := by omega
  have hk0 : (0 : Int) <= (k : Int) := by omega
  clear hv2 hi hx hE hA hcap KEY
  go_upto_region 7 with fail
  obtain ⟨W, hW⟩ : ∃ W, W = wr.alloc (.cells #[.slice ka kn kc, .slice va vn vc, .int .i64 pg, .pointer nd] 95) := ⟨_, rfl⟩
  rw [<- hW]
  have bW : Below wr.heap.size wr W := by rw [hW]; exact ba ..
  have rW : W.heap[wr.heap.size]? = some (.cells #[.slice ka kn kc, .slice va vn vc, .int .i64 pg, .pointer nd] 95 (0, 0)) := by rw [hW]; exact heap_alloc_new _ _
  obtain ⟨gb, hgb⟩ : ∃ gb, gb = wr.heap.size := ⟨_, rfl⟩
  rw [<- hgb] at rW ⊢
  obtain ⟨x0, x1, x2, x3⟩ := aQ rW
  have RW := hide rW
  have BWW := hide (BW.out.trans (bW.mono BW.out.size))
  have IWW := hide (IW.out.below bW)
  have GB : Hid (wr.heap.size <= gb) := by rw [hgb]; exact lr _
  have b01 := hide bW
  clear hW bW rW hgb t0 t1 t2 t3 IW
  go_wp2_with fail
  refine (um w1.heap.size gw _ _ es[k].key W IWW.out (fun V hV => (KEYB.out V (BWW.out.trans hV)).1) (by have := LE.out; omega)).mono ?_
  rintro e W2 ⟨rfl, i2, b2, p2⟩
  have I2 := hide i2
  have B2 := hide (BWW.out.trans b2)
  obtain ⟨y0, y1, y2, y3⟩ := aQ (p2 gb _ _ RW.out)
  have cn := (aK (RN.out W2 B2.out)).1
  clear i2 b2 p2 IWW BWW RW x0 x1 x2 x3 b01
  go_wp2_with fail
  refine (um w1.heap.size gw _ _ es[k].val W2 I2.out (fun V hV => (KEYB.out V (B2.out.trans hV)).2) (by have := LE.out; have := KL.out; rw [List.length_append, S.text_length, Nat.mod_eq_of_lt (by omega)]; omega)).mono ?_
  rintro e W3 ⟨rfl, i3, b3, _⟩
  rw [SUC.out] at i3
  have I3 := hide i3
  have B3 := hide (B2.out.trans b3)
  clear i3 b3 I2 B2 y0 y1 y2 y3 cn SUC KEYB
  go_wp2_with fail
  go_roundw
  case rel => exact ⟨k + 1, by omega, by go_num, I3, B3⟩
  case measure => simp [intOf]; omega
 ·obtain rfl : k = m := by omega
  have eT : S.iL es k = S.aN 0 es := by rw [HM.out]; exact S.zi es
  rw [eT] at IW
  have tl := HO.out.text
  obtain ⟨T, hT⟩ : ∃ T, T = S.aN 0 es := ⟨_, rfl⟩
  rw [<- hT] at IW tl
  have HT := hide hT
  have HTL := hide tl
  clear eT hT tl
  go_wp2_with fail
  refine (vv w1.heap.size gw T wr IW.out (by have := HTL.out; omega)).mono ?_
  rintro e w10 ⟨gt, rfl, g10, r10, b10⟩
  have SL : Hid (SliceAt w10 (.slice (some ⟨gt, 0, none⟩) T.length T.length) T) := az r10 rfl (by have := HTL.out; omega)
  have B10 := hide (BW.out.trans (b10.mono BW.out.size))
  clear r10 b10 g10 IW BW
  obtain ⟨tn, htn⟩ : ∃ tn, tn = T.length := ⟨_, rfl⟩
  rw [<- htn] at SL ⊢
  clear htn
  go_wp2_with fail
  refine (p9 _ n T w10 SL.out (by have := HTL.out; omega)).mono ?_
  rintro e w11 ⟨gb, rfl, g11, r11, b11⟩
  have R11 := hide r11
  have B11 := hide (B10.out.trans (b11.mono B10.out.size))
  have hr : w11.heap[gr]? = some (.cells #[.int .i64 0, .slice none 0 0] 109 (0, 0)) := (B11.out.block gr (aa R1.out)).trans R1.out
  have HRR := hide hr
  have GB : Hid (w1.heap.size <= gb) := ltr B10.out.size g11
  obtain ⟨c0, c1⟩ := aK hr
  have f0 := frozen_of_row _ _ 0 _ _ hr
  have f1 := frozen_of_row _ _ 1 _ _ hr
  clear r11 b11 g11 SL B10 hr
  go_wp2_with fail
  have hr7 := set2 (Value.int .i64 (n : Int)) (.slice (some ⟨gb, 0, none⟩) 1024 1024) HRR.out
  have hc7 := chg2 w11 gr (Value.int .i64 (n : Int)) (.slice (some ⟨gb, 0, none⟩) 1024 1024)
  refine bodyPost_ret (bi Tryz.results44 _ _ gr _ rfl (mY hr7)) rfl ?_
  have hb : Below w.heap.size w w11 := B1.out.trans (B11.out.mono B1.out.size)
  refine ⟨gb, rfl, by have := GB.out; have := B1.out.size; omega, by rw [<- HT.out]; exact hc7.row R11.out (by have := GB.out; have := aa R1.out; omega), hb.trans (hc7.base hb.size (by have := HGR.out; omega))⟩
namespace S
def ckc (gs : Nat) (s : List UInt8) (n : Nat) : List Value := .pointer (some ⟨gs, 0, none⟩) :: (v8l s ++ [.int .i64 (n : Int)])
end S
def gX (w : World) (gc gs : Nat) (s : List UInt8) (n : Nat) : Prop := w.heap[gc]? = some (.cells (S.ckc gs s n).toArray 158 (0, 0))
theorem gX.store {w : World} {gc gs n : Nat} {s : List UInt8} (h : gX w gc gs s n) : w.cell? ⟨gc, 0, none⟩ = some (.pointer (some ⟨gs, 0, none⟩)) := by rw [cell_of_row w gc 0 _ _ _ h]; rfl
theorem gX.byte {w : World} {gc gs n : Nat} {s : List UInt8} (h : gX w gc gs s n) (j : Nat) (hj : j < s.length) : w.cell? ⟨gc, 1 + j, none⟩ = some (.int .u8 ((s.getD j 0).toNat : Int)) := by
 rw [cell_of_row w gc _ _ _ _ h, Nat.add_comm 1 j]
 simp [S.ckc, S.v8l, List.getElem?_append_left, hj]
theorem gX.cnt {w : World} {gc gs n : Nat} {s : List UInt8} (h : gX w gc gs s n) (hs : s.length = 64) : w.cell? ⟨gc, 65, none⟩ = some (.int .i64 (n : Int)) := by
 rw [cell_of_row w gc _ _ _ _ h]
 simp [S.ckc, S.ae, hs]
theorem gX.setByte {w : World} {gc gs n : Nat} {s : List UInt8} (h : gX w gc gs s n) (j : Nat) (hj : j < s.length) (x : UInt8) : gX (w.setCell ⟨gc, 1 + j, none⟩ (.int .u8 (x.toNat : Int))) gc gs (s.set j x) n := by
 unfold gX
 rw [heap_setCell_same w gc (1 + j) _ _ _ h]
 congr 2
 apply Array.ext'
 simp [S.ckc, S.v8l, List.map_set, Nat.add_comm 1 j, hj]
theorem gX.setCnt {w : World} {gc gs n : Nat} {s : List UInt8} (h : gX w gc gs s n) (hs : s.length = 64) (m : Nat) : gX (w.setCell ⟨gc, 65, none⟩ (.int .i64 (m : Int))) gc gs s m := by
 unfold gX
 rw [heap_setCell_same w gc 65 _ _ _ h]
 congr 2
 apply Array.ext'
 simp [S.ckc, S.ae, hs]
theorem gX.range {w : World} {gc gs n : Nat} {s : List UInt8} (h : gX w gc gs s n) : w.rangeAt gc 1 (S.v8l s) := fun j v hv => by
 rw [cell_of_row w gc _ _ _ _ h, Nat.add_comm]
 have hj := (List.getElem?_eq_some_iff.1 hv).1
 simp only [S.ckc, List.getElem?_toArray, List.getElem?_cons_succ]
 rw [List.getElem?_append_left hj]
 exact hv
theorem uU (gc gs c n : Nat) (s : List UInt8) (w : World) (h : gX w gc gs s c) (hs : s.length = 64) (hn : n < 512) :
  Calls Tryz.prog 72 #[.pointer (some ⟨gc, 1, none⟩), .int .i64 (n : Int)] w fun e w' => e = .returned (.tuple #[]) /\ gX w' gc gs (S.bF s n) c /\ Chg (fun k => k = gc) w w' := by
 have hj : n / 8 < s.length := by omega
 refine (wI gc 1 n (s.getD (n / 8) 0) w (h.byte _ hj) (frozen_of_row _ _ _ _ _ h) hn).mono ?_
 rintro e w' ⟨rfl, q, rfl⟩
 exact ⟨rfl, h.setByte (n / 8) hj _, ((Chg.refl (fun k => k = gc) w).setCell gc _ _ (fun _ => rfl)).drewN q⟩
set_option maxHeartbeats 4000000 in
set_option maxRecDepth 10000 in
theorem cnode_0 (B gc gs c : Nat) (s : List UInt8) (pg : Nat -> List UInt8) (es : List S.Ent) (w : World) (hr : Rds B w gs pg) (hk : gX w gc gs s c) (hs : s.length = 64) (_hB : B <= gc) (hl : S.nE pg es) (hc : c <= 1000000) :
  Calls Tryz.prog 78 #[.pointer (some ⟨gc, 0, none⟩), .int .i64 1, .int .i64 0, .slice none 0 0, .slice none 0 0] w fun e w' => e = .returned (.tuple #[.int .i64 (es.length : Int), .int .i64 (S.fI es : Int), .int .i64 0]) /\ gX w' gc gs (S.bF s 1) (c + es.length) /\ Chg (fun k => k = gc) w w' := by
 have H := hide hr
 have HK := hide hk
 have HL := hide hl
 have HS := hide hs
 have c0 := hk.store
 obtain ⟨n, hn⟩ : ∃ n, n = es.length := ⟨_, rfl⟩
 obtain ⟨sz, hsz⟩ : ∃ sz, sz = S.fI es := ⟨_, rfl⟩
 rw [<- hn, <- hsz]
 have HN := hide hn
 have HSZ := hide hsz
 have hlen : n <= 254 := by rw [hn]; exact hl.ok.len
 clear hr hk hl hs hn hsz
 go_enter Tryz.func78, Tryz.ntmps78
 go_wp2_with fail
 refine (jY B gs 1 0 pg es w H.out (by omega) HL.out.node HL.out.ok).mono ?_
 rintro e w1 ⟨gn, rfl, n1, b1⟩
 have N1 := hide n1
 have B1 := hide b1
 have ND := hide (n1.node HL.out.ok.ent (by have := HL.out.ok.len; omega))
 have GN : Hid (gc < gn) := Nat.lt_of_lt_of_le (aa HK.out) n1.at_
 have K1 : Hid (gX w1 gc gs s c) := (b1.block gc (aa HK.out)).trans HK.out
 clear n1 b1 c0 HK
 go_wp2_with fail
 refine (xX gn es w1 ND.out HL.out.ok).mono ?_
 rintro e w2 ⟨rfl, b2⟩
 have N2 := hide (N1.out.below b2)
 have B2 := hide (B1.out.trans (b2.mono B1.out.size))
 have K2 : Hid (gX w2 gc gs s c) := (b2.block gc (aa K1.out)).trans K1.out
 clear b2 N1 B1 K1 ND
 go_wp2_with fail
 refine (uU gc gs c 1 s w2 K2.out HS.out (by omega)).mono ?_
 rintro e w3 ⟨rfl, k3, c3⟩
 have K3 := hide k3
 have C3 : Hid (Chg (fun k => k = gc) w w3) := (Chg.ofBelow' (p := fun k => k = gc) B2.out).trans c3 (fun _ _ e => e)
 have N3 : Hid (dW w.heap.size w3 gn 0 es) := by
  obtain ⟨⟨v, d, h1, h2, h3, h4⟩, h5⟩ := N2.out
  exact ⟨⟨v, d, c3.row h1 (by have := GN.out; omega), h2.chg c3 (fun k hk e => h2.apart K2.out (by decide) (by rw [<- e]; exact hk)), h3, fun i x e hx he => ⟨(h4 i x e hx he).1.chg c3 (fun k c hk e => bq hk K2.out (by decide) e), (h4 i x e hx he).2⟩⟩, h5⟩
 clear k3 c3 N2 B2 K2
 obtain ⟨v, d, h1, h2, h3, h4⟩ := N3.out.is
 obtain ⟨ao, cap, hv⟩ := h2.form
 subst hv
 obtain ⟨g0, g1⟩ := aK h1
 rw [h3, <- HN.out] at g1
 have R1 := hide h1
 have k1 := K3.out.cnt (by rw [S.dF]; exact HS.out)
 have f1 := frozen_of_row _ _ 65 _ _ K3.out
 clear h1 h2 h3 h4
 go_wp2_with fail
 go_region
 have K4 := hide (K3.out.setCnt (by rw [S.dF]; exact HS.out) (c + n))
 have ew : (c : Int) + (n : Int) = ((c + n : Nat) : Int) := by omega
 rw [ew]
 obtain ⟨w4, hw4⟩ : ∃ w4, w4 = (w3.setCell ⟨gc, 65, none⟩ (.int .i64 ((c + n : Nat) : Int))).drew := ⟨_, rfl⟩
 rw [<- hw4]
 have c4 : Chg (fun k => k = gc) w3 w4 := by rw [hw4]; exact ((Chg.refl (fun k => k = gc) w3).setCell gc _ _ (fun _ => rfl)).drew
 have K5 : Hid (gX w4 gc gs (S.bF s 1) (c + n)) := by rw [hw4]; exact K4.out
 have C4 : Hid (Chg (fun k => k = gc) w w4) := C3.out.trans c4 (fun _ _ e => e)
 have N4 : Hid (dW w.heap.size w4 gn 0 es) := by
  obtain ⟨⟨v, d, h1, h2, h3, h4⟩, h5⟩ := N3.out
  exact ⟨⟨v, d, c4.row h1 (by have := GN.out; omega), h2.chg c4 (fun k hk e => h2.apart K3.out (by decide) (by rw [<- e]; exact hk)), h3, fun i x e hx he => ⟨(h4 i x e hx he).1.chg c4 (fun k c hk e => bq hk K3.out (by decide) e), (h4 i x e hx he).2⟩⟩, h5⟩
 have g4 := (aK (c4.row R1.out (by have := GN.out; omega))).2
 have hln : d.length = n := by
  have e1 := (aK R1.out).2
  rw [g1] at e1
  injection e1 with e1
  injection e1 with _ e1 _
  exact e1.symm
 rw [hln] at g4
 have NS := hide (fun W (hb : Below w4.heap.size w4 W) => BL gn 0 es W ((N4.out.below hb).node HL.out.ok.ent (by have := HL.out.ok.len; omega)) HL.out.ok.ent (by have := HL.out.ok.size; omega) (by have := HL.out.ok.len; omega))
 rw [<- HSZ.out] at NS
 have GL : gn < w4.heap.size := by obtain ⟨v, d, h1, _⟩ := N4.out.is; exact aa h1
 clear K4 ew hw4 c4 K3 C3 N3 g0 g1 k1 f1 hln R1
 go_wp2_with fail
 refine wp_region_noPanic ?_
 refine wp_region_held_drew (S := (fun W => W.cell? ⟨gn, 1, none⟩ = some (.slice ao n cap))) follows g4 (fun hHeld => ?_)
 have BD : Hid (Below w4.heap.size w4 w4.drew) := (Below.refl _ _).drew
 clear g4
 generalize w4.drew = Z1 at BD hHeld ⊢
 refine tq 0 ?_
 simp only [uA]
 refine tq 1 ?_
 simp only [uA]
 refine tq 2 ?_
 simp only [uA]
 refine tk 3 ?_ rfl (Or.inl ⟨by rfl, ?_⟩) ?_
 rotate_left
 ·intro w hSw
  have c4 := hSw
  clear hSw
  go_simp
  all_goals with_reducible rfl
 simp only [uA]
 refine tq 4 ?_
 simp only [uA]
 refine tq 5 ?_
 simp only [uA]
 refine r1 6 fun K hK => ?_
 go_simp
 refine (NS.out Z1 BD.out).mono ?_
 rintro e Z2 ⟨rfl, b2⟩
 have a2 := (b2.cell (p := ⟨gn, 1, none⟩) (Nat.lt_of_lt_of_le GL BD.out.size)).trans hHeld
 have B2 := hide (BD.out.trans (b2.mono BD.out.size))
 clear hHeld
 refine hK.out _ _ a2 (fun hHeld => ?_)
 clear hK K
 try simp only [uA]
 clear a2 b2 BD
 refine tq 7 ?_
 simp only [uA]
 refine tq 8 ?_
 simp only [uA]
 refine tq 9 ?_
 simp only [uA]
 refine wpAnyH_done (by kernel_rfl) ?_ _
 refine NoPanic.normal ?_
 clear hHeld
 go_wp2_with fail
 go_ret3
 exact ⟨rfl, (B2.out.block gc (aa K5.out)).trans K5.out, C4.out.trans (Chg.ofBelow' (p := fun k => k = gc) B2.out) (fun _ _ e => e)⟩
theorem FV (xs ys : List UInt8) (hx : xs.length = 64) (hy : ys.length = 64) (w : World) : (Op.equalIn 10000 104 (.agg (S.v8 xs)) (.agg (S.v8 ys))).run Tryz.prog w = .ok (xs == ys) w :=
 run_equalIn_bytes (P := Tryz.prog) w 9998 104 5 64 Tryz.underlying104 Tryz.underlying5 (fun _ => by kernel_rfl) xs ys hx hy
theorem oG {ops : Array Oper} {S' : World -> Prop} {op : Oper} {a : Act} (hw : Region.wanted op (yielded ops a.tmps) = true) (x y : Operand) (ho : op.op = .binOp .neq 104 x y 104) (xs ys : List UInt8) (C D : Array Value) (hC : C = S.v8 xs) (hD : D = S.v8 ys) (hx : a.eval x = .agg C) (hy : a.eval y = .agg D) (hxl : xs.length = 64) (hyl : ys.length = 64) (b : Bool) (hb : (!(xs == ys)) = b) : YieldsIf Tryz.prog ops S' op (.bool b) a :=
 .inl ⟨hw, fun w _ => by
  subst hC hD hb
  have hm : Tryz.prog.eqGuardType Tryz.prog.depth 104 = false := by kernel_rfl
  have hr := FV xs ys hxl hyl w
  unfold execOp
  simp only [ho, hx, hy, Sem.run_bind, run_eqGuard_agg w _ _ _ _ _ _ hm, run_neq_struct, hr, Result.andThen_ok, Sem.run_pure]⟩
theorem info112 : (Tryz.prog.info? 158).map (fun i => (i.size, i.bytes)) = some (66, 80) := by kernel_rfl
theorem zero112 : (Tryz.prog.info? 158).bind (·.zero) = some (.agg (.pointer none :: (S.v8l (S.zeros 64) ++ [.int .i64 0])).toArray) := by kernel_rfl
set_option maxRecDepth 100000 in
theorem Gh (parts : List (Nat × Value)) : Tryz.prog.built 158 parts = Instr.fill ((#[(0, 1), (1, 64), (65, 1)] : Array (Nat × Nat))[·]?) (.pointer none :: (S.v8l (S.zeros 64) ++ [.int .i64 0])).toArray parts := by
 obtain ⟨i, hi, hz, _, _⟩ := bZ info112 zero112
 unfold Program.built
 rw [hi, Tryz.underlying158]
 simp only [hz]
 rfl
theorem Gn (gs : Nat) (w : World) : (Instr.build 158 #[(0, .pointer (some ⟨gs, 0, none⟩))]).run Tryz.prog w = .ok (.agg (S.ckc gs (S.zeros 64) 0).toArray) w :=
 run_build w 158 _ _ (by
  rw [Gh]
  unfold Instr.fill
  simp only [show (#[(0, 1), (1, 64), (65, 1)] : Array (Nat × Nat))[0]? = some (0, 1) from rfl]
  rw [if_neg (by simp [Value.cells])]
  unfold Instr.fill
  rfl)
theorem El : S.bF (S.bF (S.zeros 64) 0) 1 = S.u01 := by decide
set_option maxHeartbeats 4000000 in
set_option maxRecDepth 10000 in
theorem check_0 (B gt gs : Nat) (pg : Nat -> List UInt8) (es : List S.Ent) (w : World) (hr : Rds B w gs pg) (ht : jr w gt gs) (hl : S.nE pg es) :
  Calls Tryz.prog 45 #[.pointer (some ⟨gt, 0, none⟩)] w fun e w' => e = .returned (.int .i64 0) /\ Below w.heap.size w w' := by
 have H := hide hr
 have HL := hide hl
 have HT := hide ht
 have c0 := lV ht
 clear hr hl ht
 obtain ⟨n, hn⟩ : ∃ n, n = es.length := ⟨_, rfl⟩
 have HN := hide hn
 have hlen : n <= 254 := by rw [hn]; exact HL.out.ok.len
 clear hn
 go_enter Tryz.func45, Tryz.ntmps45
 go_wp2_with fail
 refine (mQ B gs pg es w H.out HL.out).mono ?_
 rintro e w1 ⟨rfl, b1⟩
 have hal := iJ w1
 obtain ⟨w2, hst, a2, b2⟩ := lZ w1 (S.lhd es.length) rfl
 have B2 := hide (b1.trans (b2.mono b1.size))
 have H2 := hide ((H.out.below b1).below b2)
 have T2 : jr w2 gt gs := (B2.out.block gt (aa HT.out)).trans HT.out
 have A2 := hide a2
 obtain ⟨gh, hgh⟩ : ∃ gh, gh = w1.heap.size := ⟨_, rfl⟩
 rw [<- hgh] at hal hst A2
 obtain ⟨HC0, fV⟩ : ∃ X, X = (S.hhc S.Hh.none).toArray := ⟨_, rfl⟩
 rw [<- fV] at hal hst
 obtain ⟨HV, hHV⟩ : ∃ X, X = hhv (S.lhd es.length) := ⟨_, rfl⟩
 rw [<- hHV] at hst ⊢
 have c2 := lV T2
 have hbd := Gn gs w2
 obtain ⟨CK, hCK⟩ : ∃ X, X = (S.ckc gs (S.zeros 64) 0).toArray := ⟨_, rfl⟩
 rw [<- hCK] at hbd
 have HCK := hide hCK
 clear b1 b2 a2 hgh fV hHV H T2 hCK
 go_wp2_with (first | (with_reducible refine au ⟨some 3, .alloc 106, 0, "check.go:12", #[], none⟩ ?_; refine ah rfl 106 rfl (.pointer (some ⟨gh, 0, none⟩)) (w1.alloc (.cells HC0 106)) hal ?_) | (with_reducible refine au ⟨none, .store 106 (.tmp 3) (.tmp 14), 0, "check.go:12", #[{ on := 8, ground := Ground.data }, { on := 6, ground := Ground.data }, { on := 4, ground := Ground.chain }, { on := 0, ground := Ground.phase }, { on := 1, ground := Ground.phase }, { on := 2, ground := Ground.phase }, { on := 3, ground := Ground.phase }, { on := 4, ground := Ground.phase }, { on := 5, ground := Ground.phase }, { on := 6, ground := Ground.phase }, { on := 7, ground := Ground.textOnly Departure.lateStores }, { on := 8, ground := Ground.phase }], none⟩ ?_; refine ai rfl 106 (.tmp 3) (.tmp 14) rfl (.pointer (some ⟨gh, 0, none⟩)) HV rfl rfl w2 hst ?_) | (with_reducible refine au ⟨some 23, .build 158 #[(0, .tmp 22)], 158, "check.go:16", #[{ on := 3, ground := Ground.data }], none⟩ ?_; refine aG rfl 158 [(0, .tmp 22)] rfl [(0, .pointer (some ⟨gs, 0, none⟩))] rfl (.agg CK) hbd ?_))
 clear hal hst c2 hbd c0
 obtain ⟨w3, hw3⟩ : ∃ w3, w3 = w2.alloc (.cells CK 158) := ⟨_, rfl⟩
 rw [<- hw3]
 have b3 : Below w2.heap.size w2 w3 := by rw [hw3]; exact ba ..
 have k3 : gX w3 w2.heap.size gs (S.zeros 64) 0 := by unfold gX; rw [hw3, HCK.out]; exact heap_alloc_new _ _
 have A3 := hide (A2.out.below b3)
 have H3 := hide (H2.out.below b3)
 have B3 := hide (B2.out.trans (b3.mono B2.out.size))
 have HB : Hid (B <= w2.heap.size) := H2.out.base
 have GH : Hid (gh < w2.heap.size) := aa A2.out
 have WC : Hid (w.heap.size <= w2.heap.size) := B2.out.size
 obtain ⟨gc, hgc⟩ : ∃ gc, gc = w2.heap.size := ⟨_, rfl⟩
 rw [<- hgc] at k3 HB GH WC ⊢
 have K3 := hide k3
 clear hw3 b3 k3 hgc A2 H2 B2 HCK
 refine (uU gc gs 0 0 (S.zeros 64) w3 K3.out (S.zeros_length _) (by omega)).mono ?_
 rintro e w4 ⟨rfl, k4, c4⟩
 have K4 := hide k4
 have H4 := hide (H3.out.chg c4 (fun k hk e => by have := HB.out; omega))
 have A4 : Hid (bS w4 gh (S.lhd es.length)) := c4.row A3.out (by have := GH.out; omega)
 have B4 : Hid (Below w.heap.size w w4) := B3.out.trans (c4.base B3.out.size WC.out)
 have r4 : w4.cell? ⟨gh, 1, none⟩ = some (.int .i64 1) := A4.out.root
 have l4 : w4.cell? ⟨gh, 2, none⟩ = some (.int .i64 0) := A4.out.lv
 clear k4 c4 K3 H3 A3 B3
 go_wp2_with fail
 clear r4 l4
 refine (cnode_0 B gc gs 0 (S.bF (S.zeros 64) 0) pg es w4 H4.out K4.out (by rw [S.dF]; exact S.zeros_length _) HB.out HL.out (by omega)).mono ?_
 rw [El, Nat.zero_add]
 rintro e w5 ⟨rfl, k5, c5⟩
 have K5 := hide k5
 have A5 : Hid (bS w5 gh (S.lhd es.length)) := c5.row A4.out (by have := GH.out; omega)
 have B5 : Hid (Below w.heap.size w w5) := B4.out.trans (c5.base B4.out.size WC.out)
 rw [<- HN.out] at K5 A5 ⊢
 have l5 : w5.cell? ⟨gh, 2, none⟩ = some (.int .i64 0) := A5.out.lv
 generalize S.fI es = sz
 clear k5 c5 K4 H4 A4 B4
 go_wp2_with fail
 refine wp_region_noPanic ?_
 refine wp_region_held_drew (S := (fun W => gX W gc gs S.u01 n /\ bS W gh (S.lhd n))) follows ⟨K5.out, A5.out⟩ (fun hHeld => ?_)
 have B6 : Hid (Below w.heap.size w w5.drew) := B5.out.drew
 have K6 : Hid (gX w5.drew gc gs S.u01 n) := K5.out
 have A6 : Hid (bS w5.drew gh (S.lhd n)) := A5.out
 obtain ⟨V, hV⟩ : ∃ V, V = (S.v8l S.u01).toArray := ⟨_, rfl⟩
 have HVV : Hid (V = S.v8 S.u01) := by rw [hV]; rfl
 clear K5 A5 B5 l5
 generalize w5.drew = Z1 at B6 K6 A6 hHeld ⊢
 refine tq 0 ?_
 simp only [uA]
 refine tq 1 ?_
 simp only [uA]
 refine tq 2 ?_
 simp only [uA]
 refine wpAnyH_take (i := 3) (oi := ⟨_, _, _, _, _, _⟩) (v := .agg V) rfl (by kernel_rfl) (by kernel_rfl) (by kernel_rfl) (fun _ _ _ h => h) (by rw [hV]; exact yieldsIf_load_mid (by kernel_rfl) 104 (.tmp 53) rfl gc 1 rfl (S.v8l S.u01) _ (fun W hW => gX.range hW.1) Tryz.underlying104 rfl (by rw [Aj, S.ae]; rfl)) (by assumption) ?_
 simp only [uA]
 refine tq 4 ?_
 simp only [uA]
 refine wpAnyH_take (i := 5) (oi := ⟨_, _, _, _, _, _⟩) (v := .agg V) rfl (by kernel_rfl) (by kernel_rfl) (by kernel_rfl) (fun _ _ _ h => h) (by rw [hV]; exact yieldsIf_load_mid (by kernel_rfl) 104 (.tmp 55) rfl gh 3 rfl (S.v8l S.u01) _ (fun W hW => bS.range hW.2) Tryz.underlying104 rfl (by rw [Aj, S.ae]; rfl)) (by assumption) ?_
 simp only [uA]
 refine wpAnyH_take (i := 6) (oi := ⟨_, _, _, _, _, _⟩) (v := .bool false) rfl (by kernel_rfl) (by kernel_rfl) (by kernel_rfl) (fun _ _ _ h => h) (oG (by kernel_rfl) (.tmp 54) (.tmp 56) rfl S.u01 S.u01 V V HVV.out HVV.out rfl rfl rfl rfl false (by simp)) (by assumption) ?_
 simp only [uA]
 refine tq 7 ?_
 simp only [uA]
 refine wpAnyH_done (by kernel_rfl) ?_ _
 refine NoPanic.normal ?_
 clear hHeld
 go_wp2_with fail
 have kc := K6.out.cnt rfl
 have hc : Z1.cell? ⟨gh, 0, none⟩ = some (.int .i64 (n : Int)) := A6.out.cnt
 go_region
 have B7 : Hid (Below w.heap.size w Z1.drew) := B6.out.drew
 clear kc hc K6 A6 B6
 go_wp2_with fail
 go_ret
 exact ⟨rfl, B7.out⟩
theorem uL (gh n : Nat) (h : S.Hh) (w : World) (a : bS w gh h) (hs : h.used.length = 64) (hn : n < 512) :
  Calls Tryz.prog 72 #[.pointer (some ⟨gh, 3, none⟩), .int .i64 (n : Int)] w fun e w' => e = .returned (.tuple #[]) /\ bS w' gh { h with used := S.bF h.used n } /\ Chg (fun k => k = gh) w w' := by
 have hj : n / 8 < h.used.length := by omega
 refine (wI gh 3 n (h.used.getD (n / 8) 0) w (a.byte _ hj) (frozen_of_row _ _ _ _ _ a) hn).mono ?_
 rintro e w' ⟨rfl, q, rfl⟩
 exact ⟨rfl, a.setByte (n / 8) _, ((Chg.refl (fun k => k = gh) w).setCell gh _ _ (fun _ => rfl)).drewN q⟩
set_option maxHeartbeats 2000000 in
set_option maxRecDepth 10000 in
theorem tX (w : World) : Calls Tryz.prog 42 #[] w fun e w' => e = .returned (hhv (S.lhd 0)) /\ Below w.heap.size w w' := by
 have hal := iJ w
 obtain ⟨w1, hw1⟩ : ∃ w1, w1 = w.alloc (.cells (S.hhc S.Hh.none).toArray 106) := ⟨_, rfl⟩
 have b1 : Below w.heap.size w w1 := by rw [hw1]; exact ba ..
 have a1 : bS w1 w.heap.size S.Hh.none := by unfold bS; rw [hw1]; exact heap_alloc_new _ _
 have hbd := Dm 1 w1
 have fF := iJ w1
 obtain ⟨w2, hst, a2, b2⟩ := lZ w1 ⟨0, 1, 0, S.zeros 64⟩ (S.zeros_length _)
 rw [<- hw1] at hal
 have B2 := hide (b1.trans (b2.mono b1.size))
 have A1 : Hid (bS w2 w.heap.size S.Hh.none) := a1.below b2
 have A2 := hide a2
 have GL : Hid (w.heap.size < w1.heap.size) := aa a1
 obtain ⟨gr, hgr⟩ : ∃ gr, gr = w.heap.size := ⟨_, rfl⟩
 obtain ⟨gh, hgh⟩ : ∃ gh, gh = w1.heap.size := ⟨_, rfl⟩
 rw [<- hgr] at hal A1 GL
 rw [<- hgh] at fF hst A2 GL
 have HGR := hide hgr
 obtain ⟨HC0, fV⟩ : ∃ X, X = (S.hhc S.Hh.none).toArray := ⟨_, rfl⟩
 rw [<- fV] at fF hst
 obtain ⟨HV, hHV⟩ : ∃ X, X = hhv ⟨0, 1, 0, S.zeros 64⟩ := ⟨_, rfl⟩
 rw [<- hHV] at hst hbd
 clear hw1 b1 a1 a2 b2 hgr hgh fV hHV
 have hbd : (Instr.build 106 #[(1, .int .i64 1)]).run Tryz.prog w1 = .ok HV w1 := hbd
 go_enter Tryz.func42, Tryz.ntmps42
 go_wp2_with (first | (with_reducible refine au ⟨some 0, .alloc 106, 0, "head.go:25", #[], none⟩ ?_; refine ah rfl 106 rfl (.pointer (some ⟨gr, 0, none⟩)) w1 hal ?_) | (with_reducible refine au ⟨some 2, .build 106 #[(1, .const (Value.int IntKind.i64 1))], 106, "head.go:26", #[], none⟩ ?_; refine aG rfl 106 [(1, .const (.int .i64 1))] rfl [(1, .int .i64 1)] rfl HV hbd ?_) | (with_reducible refine au ⟨some 1, .alloc 106, 0, "head.go:26", #[], none⟩ ?_; refine ah rfl 106 rfl (.pointer (some ⟨gh, 0, none⟩)) (w1.alloc (.cells HC0 106)) fF ?_) | (with_reducible refine au ⟨none, .store 106 (.tmp 1) (.tmp 2), 0, "head.go:26", #[{ on := 1, ground := Ground.data }, { on := 0, ground := Ground.data }, { on := 0, ground := Ground.phase }, { on := 1, ground := Ground.phase }], none⟩ ?_; refine ai rfl 106 (.tmp 1) (.tmp 2) rfl (.pointer (some ⟨gh, 0, none⟩)) HV rfl rfl w2 hst ?_))
 clear hal fF hbd hst
 refine (uL gh 0 ⟨0, 1, 0, S.zeros 64⟩ w2 A2.out (S.zeros_length _) (by omega)).mono ?_
 rintro e w3 ⟨rfl, a3, c3⟩
 have A3 := hide a3
 have B3 : Hid (Below w.heap.size w w3) := B2.out.trans (c3.base B2.out.size (by have := GL.out; have := HGR.out; omega))
 have A13 : Hid (bS w3 gr S.Hh.none) := c3.row A1.out (by have := GL.out; omega)
 have c1 : w3.cell? ⟨gh, 1, none⟩ = some (.int .i64 1) := a3.root
 clear a3 c3 A1 A2 B2
 go_wp2_with fail
 clear c1
 refine (uL gh 1 ⟨0, 1, 0, S.bF (S.zeros 64) 0⟩ w3 A3.out (by rw [S.dF]; exact S.zeros_length _) (by omega)).mono ?_
 rintro e w4 ⟨rfl, a4, c4⟩
 have A4 : Hid (bS w4 gh (S.lhd 0)) := by
  show bS w4 gh ⟨0, 1, 0, S.u01⟩
  rw [<- El]
  exact a4
 have B4 : Below w.heap.size w w4 := B3.out.trans (c4.base B3.out.size (by have := GL.out; have := HGR.out; omega))
 have a14 : bS w4 gr S.Hh.none := c4.row A13.out (by have := GL.out; omega)
 have hld := A4.out.load rfl
 obtain ⟨w5, hst, a5, c5⟩ := ru (h := S.lhd 0) a14 (S.zeros_length _) rfl
 have A5 := hide a5
 have B5 : Hid (Below w.heap.size w w5) := B4.trans (c5.base B4.size (by have := HGR.out; omega))
 obtain ⟨HV2, lw⟩ : ∃ X, X = hhv (S.lhd 0) := ⟨_, rfl⟩
 rw [<- lw] at hld hst
 clear a4 c4 a14 a5 c5 B4 A3 B3 A13 A4 lw
 go_wp2_with (first | (with_reducible refine au ⟨some 9, .load 106 (.tmp 1), 106, "head.go:29", #[], none⟩ ?_; refine ay rfl 106 (.tmp 1) rfl (.pointer (some ⟨gh, 0, none⟩)) rfl HV2 hld ?_) | (with_reducible refine au ⟨none, .store 106 (.tmp 0) (.tmp 9), 0, "head.go:29", #[{ on := 0, ground := Ground.data }, { on := 0, ground := Ground.phase }], none⟩ ?_; refine ai rfl 106 (.tmp 0) (.tmp 9) rfl (.pointer (some ⟨gr, 0, none⟩)) HV2 rfl rfl w5 hst ?_))
 exact bodyPost_ret (bi Tryz.results42 _ _ gr _ rfl (A5.out.loadVar rfl)) rfl ⟨rfl, B5.out⟩
theorem Pg.pgs {w0 w : World} {o : Ow} {d : S.Dk} {p t : Nat} {pg : Nat -> List UInt8} (h : Pg w0 w o d p t pg) (hs : ∀ n, n < 512 -> (pg n).length = 1024) : S.Pgs d.safe p t [] pg :=
 ⟨h.len, h.mark, h.log, fun i hi => by simp at hi, fun m hm _ => h.home m hm, fun n hn => by simp at hn, List.Pairwise.nil, by simp, hs⟩
structure Bt1 (w0 w : World) (o : Ow) (d : S.Dk) (p t : Nat) (pg : Nat -> List UInt8) (es : List S.Ent) : Prop where
 pgs : Pg w0 w o d p t pg
 size : ∀ n, n < 512 -> (pg n).length = 1024
 leaf : S.nE pg es
theorem Bt1.then {w0 w W : World} {o : Ow} {d : S.Dk} {p t : Nat} {pg : Nat -> List UInt8} {es : List S.Ent} (h : Bt1 w0 w o d p t pg es) (hb : Below w.heap.size w W) : Bt1 w0 W o d p t pg es := ⟨h.pgs.then hb, h.size, h.leaf⟩
theorem Pg.rds {w0 w : World} {o : Ow} {d : S.Dk} {p t gs : Nat} {pg : Nat -> List UInt8} (h : Pg w0 w o d p t pg) (hz : ∀ n, n < 512 -> (pg n).length = 1024) (hs : eD w gs o) : Rds w.heap.size w gs pg :=
 ⟨⟨w0, o, d, p, t, [], ⟨h.dk, h.pend, h.pgs hz, h.ob, h.below, h.pos⟩, hs, fun k hk => h.dk.dk.lt k hk, aa hs, h.below.size⟩, lr _⟩
theorem Bt1.rds {w0 w : World} {o : Ow} {d : S.Dk} {p t gs : Nat} {pg : Nat -> List UInt8} {es : List S.Ent} (h : Bt1 w0 w o d p t pg es) (hs : eD w gs o) : Rds w.heap.size w gs pg := h.pgs.rds h.size hs
set_option maxRecDepth 10000 in
theorem Ew (w0 w : World) (o : Ow) (d : S.Dk) (p t gs b cap n1 n2 q1 q2 : Nat) (pg X : Nat -> List UInt8) (h : Pg w0 w o d p t pg) (hs : eD w gs o) (hrow : w.heap[b]? = some (.cells #[.int .i64 (n1 : Int), .slice (some ⟨q1, 0, none⟩) 1024 1024, .int .i64 (n2 : Int), .slice (some ⟨q2, 0, none⟩) 1024 1024] 109 (0, 0)))
  (h1 : w.heap[q1]? = some (.cells (S.v8 (X n1)) 5 (0, 0))) (h2 : w.heap[q2]? = some (.cells (S.v8 (X n2)) 5 (0, 0))) (l1 : (X n1).length = 1024) (l2 : (X n2).length = 1024) (o1 : ¬ o.has q1) (o2 : ¬ o.has q2) (hn1 : n1 < 512) (hn2 : n2 < 512) (hne : n1 ≠ n2) (hgs : ¬ o.has gs) (ht : t + 2 < 18446744073709551616) :
  Calls Tryz.prog 34 #[.pointer (some ⟨gs, 0, none⟩), .slice (some ⟨b, 0, none⟩) 2 cap] w fun e w' => e = .returned (.int .i64 0) /\ ∃ o' d', o'.g = o.g /\ Pg w0 w' o' d' p (t + 2) (fun m => if m = n1 \/ m = n2 then X m else pg m) /\ eD w' gs o' /\ Chg o.has w w' /\ ∀ k, o'.has k -> o.has k \/ w.heap.size <= k := by
 refine (Ap w0 w o d p t gs b 0 cap [((n1 : Int), some ⟨q1, 0, none⟩, 1024, 1024), ((n2 : Int), some ⟨q2, 0, none⟩, 1024, 1024)] pg X h hs ?_ (by simp) (by simp) ?_ ?_ hgs ht).mono ?_
 ·intro j u hu
  rw [Nat.zero_add, cell_of_row w b j _ _ _ hrow]
  simpa [dm, ShV.list] using hu
 ·intro x hx
  simp only [List.mem_cons, List.mem_nil_iff, or_false] at hx
  rcases hx with rfl | rfl
  ·exact ⟨by show (0 : Int) <= (n1 : Int); omega, by show (n1 : Int) < 512; omega, rfl, ⟨q1, 0, rfl, o1, aa h1⟩, az (xs := X n1) h1 l1.symm (by rw [l1]; omega)⟩
  ·exact ⟨by show (0 : Int) <= (n2 : Int); omega, by show (n2 : Int) < 512; omega, rfl, ⟨q2, 0, rfl, o2, aa h2⟩, az (xs := X n2) h2 l2.symm (by rw [l2]; omega)⟩
 ·simp
  omega
 ·rintro e w' ⟨rfl, o', d', e1, h3, h4, h5, h6⟩
  refine ⟨rfl, o', d', e1, ?_, h4, h5, h6⟩
  have e : (fun m => if m ∈ S.pgs [((n1 : Int), some (⟨q1, 0, none⟩ : Addr), 1024, 1024), ((n2 : Int), some (⟨q2, 0, none⟩ : Addr), 1024, 1024)] then X m else pg m) = (fun m => if m = n1 \/ m = n2 then X m else pg m) := by
   funext m
   simp [S.pgs]
  rw [e] at h3
  exact h3
set_option maxHeartbeats 2000000 in
set_option maxRecDepth 10000 in
theorem open_0 (w0 w : World) (o : Ow) (d : S.Dk) (p t : Nat) (pg : Nat -> List UInt8) (es : List S.Ent) (h : Bt1 w0 w o d p t pg es) :
  Calls Tryz.prog 29 #[o.ptr] w fun e w' => ∃ gt gs, e = .returned (.tuple #[.pointer (some ⟨gt, 0, none⟩), .int .i64 0]) /\ jr w' gt gs /\ eD w' gs o /\ w.heap.size <= gt /\ w.heap.size <= gs /\ Below w.heap.size w w' := by
 have H := hide h
 have hp : o.ptr = .pointer (some ⟨o.g, 0, none⟩) := rfl
 clear h
 rw [hp]
 go_enter Tryz.func29, Tryz.ntmps29
 go_wp2_with fail
 rw [<- hp]
 refine (xA w0 w o d p t pg H.out.pgs).mono ?_
 rintro e w1 ⟨gs, rfl, s1, g1, p1, b1⟩
 have S1 := hide s1
 have B1 := hide b1
 have G1 := hide g1
 rw [hp]
 clear s1 g1 p1 b1
 go_wp2_with fail
 obtain ⟨w2, hw2⟩ : ∃ w2, w2 = w1.alloc (.cells #[.pointer (some ⟨gs, 0, none⟩)] 87) := ⟨_, rfl⟩
 rw [<- hw2]
 have b2 : Below w1.heap.size w1 w2 := by rw [hw2]; exact ba ..
 have t2 : jr w2 w1.heap.size gs := by unfold jr; rw [hw2]; exact heap_alloc_new _ _
 have GT : Hid (w.heap.size <= w1.heap.size) := B1.out.size
 obtain ⟨gt, hgt⟩ : ∃ gt, gt = w1.heap.size := ⟨_, rfl⟩
 rw [<- hgt] at t2 GT ⊢
 have T2 := hide t2
 have S2 : Hid (eD w2 gs o) := (b2.block gs (aa S1.out)).trans S1.out
 have B2 := hide (B1.out.trans (b2.mono B1.out.size))
 have R2 := hide ((H.out.then B2.out).rds S2.out)
 clear hw2 b2 t2 hgt S1 B1
 refine (check_0 w2.heap.size gt gs pg es w2 R2.out T2.out H.out.leaf).mono ?_
 rintro e w3 ⟨rfl, b3⟩
 have B3 := hide (B2.out.trans (b3.mono B2.out.size))
 have T3 : Hid (jr w3 gt gs) := (b3.block gt (aa T2.out)).trans T2.out
 have S3 : Hid (eD w3 gs o) := (b3.block gs (aa S2.out)).trans S2.out
 clear b3 B2 T2 S2 R2
 go_wp2_with fail
 go_ret2
 exact ⟨gt, gs, rfl, T3.out, S3.out, GT.out, G1.out, B3.out⟩
end Go.Proofs.YteealihknndclabGreatDoor
