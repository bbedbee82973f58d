/- BtreeKept. -/
import Derived.Test.YteealihknndclaaGreatDoorKa
namespace Go.Proofs.YteealihknndclaaGreatDoor
open Go.RowKit
theorem bu.some_ {w : World} {u : Value} {bs : List UInt8} (h : bu w u bs) : ∃ a c, u = .slice a bs.length c := by
 rcases h.2 with h2 | ⟨g, cap, cur, h3, _⟩
 ·exact ⟨none, 0, by rw [h2.2]; rw [h2.1]⟩
 ·exact ⟨_, _, h3⟩
theorem bu.lies {w : World} {u : Value} {bs : List UInt8} (h : bu w u bs) (hb : bs ≠ []) : ∃ g c cur, u = .slice (some ⟨g, 0, none⟩) bs.length c /\ w.heap[g]? = some (.cells cur 5 (0, 0)) /\ bs.length <= cur.size /\ bs.length <= c := by
 have hp := List.length_pos_iff.2 hb
 obtain ⟨h1, h2⟩ := h
 rcases h2 with ⟨h3, h4⟩ | ⟨g', cap', cur, h3, h4, h5, h6, h7, h8, h9⟩
 ·omega
 ·exact ⟨g', cap', cur, h3, h5, by omega, h6⟩
structure Wrote (g n : Nat) (w W : World) : Prop where
 row : ∃ cur, W.heap[g]? = some (.cells cur 5 (0, 0)) /\ n <= cur.size
 chg : Chg (fun k => k = g) w W
theorem Wrote.cell {g n : Nat} {w W : World} (h : Wrote g n w W) (j : Nat) (hj : j < n) : ∃ v, W.cell? ⟨g, j, none⟩ = some v := by
 obtain ⟨cur, h1, h2⟩ := h.row
 exact ⟨cur[j]'(by omega), by rw [cell_of_row W g j _ 5 _ h1]; simp [show j < cur.size by omega]⟩
theorem Wrote.frozen {g n : Nat} {w W : World} (h : Wrote g n w W) (j : Nat) : W.frozen? ⟨g, j, none⟩ = false := by
 obtain ⟨cur, h1, h2⟩ := h.row
 exact frozen_of_row _ _ j _ _ h1
theorem Wrote.put {g n : Nat} {w W : World} (h : Wrote g n w W) (j : Nat) (v : Value) : Wrote g n w (W.setCell ⟨g, j, none⟩ v) := by
 obtain ⟨cur, h1, h2⟩ := h.row
 exact ⟨⟨_, heap_setCell_same _ _ _ _ _ _ h1, by rw [Array.size_setIfInBounds]; exact h2⟩, h.chg.setCell g j v (fun _ => rfl)⟩
theorem step34 {w w1 w2 w3 : World} {o : Ow} {gt gs gi n ci l3 c3 : Nat} {a3 : Option Addr} {xW : Array Value} {ys : List UInt8} (h1 : BtO w w1 o gt gs 2 []) (h2 : BtO w w2 o gt gs 2 []) (s12 : w1.heap.size <= w2.heap.size) (g3 : w2.grownBy w3 (Value.slice (some ⟨w1.heap.size, 0, none⟩) 1 1).ownBlock) (o3 : ∀ k, (Value.slice (some ⟨gi, 0, none⟩) n ci).ownBlock = some k -> (Value.slice (some ⟨w1.heap.size, 0, none⟩) 1 1).ownBlock = some k \/ w2.heap.size <= k) (r3 : w3.heap[gi]? = some (.cells xW 5 (0, 0))) (sw : SliceAt w (.slice a3 l3 c3) ys) (ly : ys.length <= 100) :
  ∃ w4, Hid (w4 = w3.alloc (.cells #[] 5)) /\ Hid (w1.heap.size <= gi /\ gi < w3.heap.size /\ w3.heap.size < w4.heap.size) /\ Hid (BtO w w4 o gt gs 2 []) /\ Hid (w4.heap[gi]? = some (.cells xW 5 (0, 0))) /\ Hid (∃ v' w', (Builtin.append_ #[32, 32] 32 #[.slice (some ⟨w3.heap.size, 0, none⟩) 0 0, .slice a3 l3 c3]).run Tryz.prog w4 = .ok v' w' /\ (bu w' v' ys /\ w4.grownBy w' (Value.slice (some ⟨w3.heap.size, 0, none⟩) 0 0).ownBlock /\ ∀ k, v'.ownBlock = some k -> (Value.slice (some ⟨w3.heap.size, 0, none⟩) 0 0).ownBlock = some k \/ w4.heap.size <= k)) := by
 have gl := h1.lt
 have hgi : w1.heap.size <= gi := by
  rcases o3 gi rfl with e | e
  ·simp only [Value.ownBlock, Option.some.injEq] at e; omega
  ·exact ltr s12 e
 have c3' : Chg (fun k => k = w1.heap.size) w2 w3 := (Chg.refl _ _).grown g3 (fun k _ e => by simp only [Value.ownBlock, Option.some.injEq] at e; exact e.symm)
 have b3 : BtO w w3 o gt gs 2 [] := h2.chgd c3' (fun k hk e => by
  rcases hk with hk | hk
  ·have := gl.2.2 k hk; omega
  ·have := h1.below.size; omega) (by have := gl.1; omega) (by have := gl.2.1; omega)
 have b4 : Below w3.heap.size w3 (w3.alloc (.cells #[] 5)) := ba ..
 have r4 : (w3.alloc (.cells #[] 5)).heap[w3.heap.size]? = some (.cells #[] 5 (0, 0)) := heap_alloc_new _ _
 have B4 := b3.then b4
 have u4 : bu (w3.alloc (.cells #[] 5)) (.slice (some ⟨w3.heap.size, 0, none⟩) 0 0) [] := ⟨rfl, Or.inr ⟨w3.heap.size, 0, _, rfl, Nat.zero_le _, r4, lr _, by simp [maxLen], rfl, rfl⟩⟩
 have A := aY _ (.slice (some ⟨w3.heap.size, 0, none⟩) 0 0) (.slice a3 l3 c3) [] ys 32 u4 (sw.below B4.below (lr _)) (by simp; omega)
 rw [List.nil_append] at A
 exact ⟨_, rfl, ⟨hgi, aa r3, aa r4⟩, B4, (b4.block gi (aa r3)).trans r3, A⟩
def Gd (lo : Nat) (W : World) (a : Option Addr) (n : Nat) : Prop := (a = none /\ n = 0) \/ ∃ g cur, a = some ⟨g, 0, none⟩ /\ lo <= g /\ W.heap[g]? = some (.cells cur 5 (0, 0)) /\ n <= cur.size
theorem Gd.kept {lo : Nat} {w W : World} {a : Option Addr} {n : Nat} (h : Gd lo w a n) (hb : ∀ g, a = some ⟨g, 0, none⟩ -> g < w.heap.size -> W.heap[g]? = w.heap[g]?) : Gd lo W a n := by
 rcases h with h | ⟨g, cur, h1, h2, h3, h4⟩
 ·exact Or.inl h
 ·exact Or.inr ⟨g, cur, h1, h2, (hb g h1 (aa h3)).trans h3, h4⟩
theorem step56 {w w1 w3 w4 w5 : World} {o : Ow} {gt gs gi c5 : Nat} {a5 : Option Addr} {xW : Array Value} {ys : List UInt8} (h1 : BtO w w1 o gt gs 2 []) (b4 : BtO w w4 o gt gs 2 []) (hgi : w1.heap.size <= gi /\ gi < w3.heap.size /\ w3.heap.size < w4.heap.size) (r4 : w4.heap[gi]? = some (.cells xW 5 (0, 0))) (g5 : w4.grownBy w5 (Value.slice (some ⟨w3.heap.size, 0, none⟩) 0 0).ownBlock) (o5 : ∀ k, (Value.slice a5 ys.length c5).ownBlock = some k -> (Value.slice (some ⟨w3.heap.size, 0, none⟩) 0 0).ownBlock = some k \/ w4.heap.size <= k) (u5 : bu w5 (.slice a5 ys.length c5) ys) (hlt : w1.heap.size <= w3.heap.size) :
  Hid (BtO w w5 o gt gs 2 []) /\ Hid (w5.heap[gi]? = some (.cells xW 5 (0, 0))) /\ Hid (Gd w3.heap.size w5 a5 ys.length) := by
 have gl := h1.lt
 have c5' : Chg (fun k => k = w3.heap.size) w4 w5 := (Chg.refl _ _).grown g5 (fun k _ e => by simp only [Value.ownBlock, Option.some.injEq] at e; exact e.symm)
 refine ⟨b4.chgd c5' (fun k hk e => by
  rcases hk with hk | hk
  ·have := gl.2.2 k hk; omega
  ·have := h1.below.size; omega) (by have := gl.1; omega) (by have := gl.2.1; omega), (c5'.block gi (aa r4) (by omega)).trans r4, ?_⟩
 rcases u5.2 with ⟨e, h⟩ | ⟨g, cap, cur, e, _, h3, h4, _, h6, _⟩
 ·simp only [Value.slice.injEq] at e
  exact Or.inl ⟨e.1, h⟩
 ·simp only [Value.slice.injEq] at e
  refine Or.inr ⟨g, cur, e.1, ?_, h3, by omega⟩
  have e1 := e.1
  rcases o5 g (by rw [e1]; rfl) with h | h
  ·simp only [Value.ownBlock, Option.some.injEq] at h; omega
  ·omega
def VWr (lo : Nat) (a : Option Addr) (n : Nat) (w W : World) : Prop := Gd lo W a n /\ Chg (fun k => a = some ⟨k, 0, none⟩) w W
theorem VWr.put {lo : Nat} {a : Option Addr} {n : Nat} {w W : World} (h : VWr lo a n w W) (j : Nat) (hj : j < n) : ∃ g v, a = some ⟨g, 0, none⟩ /\ W.cell? ⟨g, j, none⟩ = some v /\ W.frozen? ⟨g, j, none⟩ = false /\ ∀ v', VWr lo a n w (W.setCell ⟨g, j, none⟩ v') := by
 rcases h.1 with h1 | ⟨g, cur, h1, h2, h3, h4⟩
 ·omega
 ·exact ⟨g, cur[j]'(by omega), h1, by rw [cell_of_row W g j _ 5 _ h3]; simp [show j < cur.size by omega], frozen_of_row _ _ j _ _ h3, fun v' => ⟨Or.inr ⟨g, _, h1, h2, heap_setCell_same _ _ _ _ _ _ h3, by rw [Array.size_setIfInBounds]; exact h4⟩, h.2.setCell g j v' (fun _ => h1)⟩⟩
theorem VWr.lt {lo : Nat} {a : Option Addr} {n : Nat} {w W : World} (h : VWr lo a n w W) {g : Nat} (hg : a = some ⟨g, 0, none⟩) : lo <= g /\ g < W.heap.size := by
 rcases h.1 with h1 | ⟨g', cur, h1, h2, h3, h4⟩
 ·rw [h1.1] at hg; cases hg
 ·rw [h1] at hg
  simp at hg
  rw [<- hg]
  exact ⟨h2, aa h3⟩
theorem step70 {w W : World} {o : Ow} {gt gs n l2 c2 : Nat} {a2 : Option Addr} {xs : List UInt8} {es : List S.Ent} (h : BtO w W o gt gs n es) (sv : SliceAt w (.slice a2 l2 c2) xs) (hx : xs.length <= 30) :
  ∃ W2, Hid (W2 = (W.alloc (.cells #[.slice none 0 0, .slice none 0 0, .int .i64 0, .bool false] 55)).alloc (.cells #[.int .u8 1] 5)) /\ Hid (BtO w W2 o gt gs n es) /\ Hid (W.heap.size + 2 <= W2.heap.size) /\ Hid (W2.heap[W.heap.size]? = some (.cells #[.slice none 0 0, .slice none 0 0, .int .i64 0, .bool false] 55 (0, 0))) /\ Hid (∃ v' w', (Builtin.append_ #[32, 32] 32 #[.slice (some ⟨W.heap.size + 1, 0, none⟩) 1 1, .slice a2 l2 c2]).run Tryz.prog W2 = .ok v' w' /\ (bu w' v' ([1] ++ xs) /\ W2.grownBy w' (Value.slice (some ⟨W.heap.size + 1, 0, none⟩) 1 1).ownBlock /\ ∀ k, v'.ownBlock = some k -> (Value.slice (some ⟨W.heap.size + 1, 0, none⟩) 1 1).ownBlock = some k \/ W2.heap.size <= k)) := by
 have b1 : Below W.heap.size W (W.alloc (.cells #[.slice none 0 0, .slice none 0 0, .int .i64 0, .bool false] 55)) := ba ..
 have r1 : (W.alloc (.cells #[.slice none 0 0, .slice none 0 0, .int .i64 0, .bool false] 55)).heap[W.heap.size]? = some (.cells #[.slice none 0 0, .slice none 0 0, .int .i64 0, .bool false] 55 (0, 0)) := heap_alloc_new _ _
 have s1 : (W.alloc (.cells #[.slice none 0 0, .slice none 0 0, .int .i64 0, .bool false] 55)).heap.size = W.heap.size + 1 := by simp
 have B1 := h.then b1
 generalize W.alloc (.cells #[.slice none 0 0, .slice none 0 0, .int .i64 0, .bool false] 55) = W1 at r1 s1 B1 ⊢
 have b2 : Below W1.heap.size W1 (W1.alloc (.cells #[.int .u8 1] 5)) := ba ..
 have r2 : (W1.alloc (.cells #[.int .u8 1] 5)).heap[W1.heap.size]? = some (.cells #[.int .u8 1] 5 (0, 0)) := heap_alloc_new _ _
 rw [s1] at r2
 have B2 := B1.then b2
 have u2 : bu (W1.alloc (.cells #[.int .u8 1] 5)) (.slice (some ⟨W.heap.size + 1, 0, none⟩) 1 1) [1] := ⟨rfl, Or.inr ⟨W.heap.size + 1, 1, _, rfl, Nat.zero_le _, r2, lr _, by simp [maxLen], rfl, rfl⟩⟩
 exact ⟨_, rfl, B2, aa r2, (b2.block _ (aa r1)).trans r1, aY _ (.slice (some ⟨W.heap.size + 1, 0, none⟩) 1 1) (.slice a2 l2 c2) [1] xs 32 u2 (sv.below B2.below (lr _)) (by simp; omega)⟩
theorem step72 {w W W2 W3 : World} {o : Ow} {gt gs n gw cw : Nat} {Y : List UInt8} {es : List S.Ent} (h : BtO w W o gt gs n es) (h2 : BtO w W2 o gt gs n es) (hs : W.heap.size + 2 <= W2.heap.size) (hb : W2.heap[W.heap.size]? = some (.cells #[.slice none 0 0, .slice none 0 0, .int .i64 0, .bool false] 55 (0, 0))) (g3 : W2.grownBy W3 (Value.slice (some ⟨W.heap.size + 1, 0, none⟩) 1 1).ownBlock) (o3 : ∀ k, (Value.slice (some ⟨gw, 0, none⟩) Y.length cw).ownBlock = some k -> (Value.slice (some ⟨W.heap.size + 1, 0, none⟩) 1 1).ownBlock = some k \/ W2.heap.size <= k) :
  Hid (BtO w W3 o gt gs n es) /\ Hid (aO W3 W.heap.size W.heap.size (W.heap.size + 1) (.slice none 0 0) (.slice none 0 0) []) /\ Hid (W.heap.size < gw) := by
 have gl := h.lt
 have c3' : Chg (fun k => k = W.heap.size + 1) W2 W3 := (Chg.refl _ _).grown g3 (fun k _ e => by simp only [Value.ownBlock, Option.some.injEq] at e; exact e.symm)
 refine ⟨h2.chgd c3' (fun k hk e => by
  rcases hk with hk | hk
  ·have := gl.2.2 k hk; omega
  ·have := h.below.size; omega) (by have := gl.1; omega) (by have := gl.2.1; omega), zL (c3'.row hb (by omega)), ?_⟩
 rcases o3 gw rfl with e | e
 ·simp only [Value.ownBlock, Option.some.injEq] at e; show _ < _; omega
 ·show _ < _; omega
theorem Fs {gB top : Nat} {vl vw vl' vw' : Value} {es : List Entry} {w W : World} (hb : aO w gB gB top vl vw es) (hk : lL gB vl vw w vl' vw' W) : Chg (fun k => gB <= k) w W :=
 ⟨hk.fr.os, hk.fr.tape, hk.fr.output, hk.fr.size, fun k hk1 hn => hk.fr.block k hk1 (fun e => hn (by omega)) (fun e => hn (hb.vlSep k e).1) (fun e => hn (hb.vwSep k e).1)⟩
theorem uG {gB top : Nat} {vl vw : Value} {es : List Entry} {w W : World} (hb : aO w gB gB top vl vw es) (hc : Chg (fun k => k = gB \/ vl.ownBlock = some k \/ vw.ownBlock = some k) w W) : Chg (fun k => gB <= k) w W :=
 hc.mono fun k _ h => by
  rcases h with h | h | h
  ·omega
  ·exact (hb.vlSep k h).1
  ·exact (hb.vwSep k h).1
theorem BtO.high {w0 w W : World} {o : Ow} {gt gs n gB : Nat} {es : List S.Ent} (h : BtO w0 w o gt gs n es) (hc : Chg (fun k => gB <= k) w W) (ho : ∀ k, o.has k -> k < gB) (hg : gt < gB /\ gs < gB /\ w0.heap.size <= gB) : BtO w0 W o gt gs n es :=
 h.chgd hc (fun k hk e => by
  rcases hk with hk | hk
  ·have := ho k hk; omega
  ·omega) (by omega) (by omega)
theorem xC {w W V : World} {o : Ow} {gt gs n gB gw top : Nat} {vl vw vl' vw' : Value} {es : List Entry} {ens : List S.Ent} {curw : Array Value} (hb : BtO w W o gt gs n ens) (hbk : aO W gB gB top vl vw es) (hk : lL gB vl vw W vl' vw' V) (hno : jf (fun k => k = gw) vl vw es) (hrw : W.heap[gw]? = some (.cells curw 5 (0, 0))) (hgw : gB < gw) (ho : ∀ k, o.has k -> k < gB) (hg : gt < gB /\ gs < gB /\ w.heap.size <= gB) : BtO w V o gt gs n ens /\ V.heap[gw]? = some (.cells curw 5 (0, 0)) :=
 ⟨hb.high (Fs hbk hk) ho hg, (hk.fr.block gw (aa hrw) (by omega) (fun c => hno.vl _ c rfl) (fun c => hno.vw _ c rfl)).trans hrw⟩
theorem aO.noDef {w : World} {gB base top D : Nat} {vl vw : Value} {es : List Entry} {x : Option (List Deferred)} (h : aO w gB base top vl vw es) (hd : w.heap[D]? = some (.deferred x)) : D ≠ gB /\ vl.ownBlock ≠ some D /\ vw.ownBlock ≠ some D /\ ∀ e ∈ es, e.g ≠ some D := by
 refine ⟨fun c => by (rw [c, h.row] at hd; cases hd), fun c => ?_, fun c => ?_, fun e he c => ?_⟩
 ·rcases h.lists with ⟨rfl, _⟩ | ⟨g, of', c', cur, rfl, r1, _⟩
  ·simp [Value.ownBlock] at c
  ·simp [Value.ownBlock] at c
   rw [<- c, r1] at hd; cases hd
 ·rcases h.was with ⟨rfl, _⟩ | ⟨g, of', c', cur, rfl, r1, _⟩
  ·simp [Value.ownBlock] at c
  ·simp [Value.ownBlock] at c
   rw [<- c, r1] at hd; cases hd
 ·obtain ⟨cur, r, _⟩ := (h.ents e he).ed.1 D c
  rw [r] at hd; cases hd
theorem zD {w : World} {D : Nat} {x : Option (List Deferred)} (h : w.heap[D]? = some (.deferred x)) : D < w.heap.size := by
 by_cases hb : D < w.heap.size
 ·exact hb
 ·rw [Array.getElem?_eq_none (by omega)] at h; cases h
theorem iW {w W : World} {D : Nat} {x : Option (List Deferred)} (hb : Below w.heap.size w W) (h : w.heap[D]? = some (.deferred x)) : W.heap[D]? = some (.deferred x) := (hb.block D (zD h)).trans h
theorem lL.def {gB base top D : Nat} {vl vw vl' vw' : Value} {es : List Entry} {w W : World} {x : Option (List Deferred)} (hk : lL gB vl vw w vl' vw' W) (hb : aO w gB base top vl vw es) (h : w.heap[D]? = some (.deferred x)) : W.heap[D]? = some (.deferred x) :=
 (hk.fr.block D (zD h) (hb.noDef h).1 (hb.noDef h).2.1 (hb.noDef h).2.2.1).trans h
theorem Chg.def {gB base top D : Nat} {vl vw : Value} {es : List Entry} {w W : World} {x : Option (List Deferred)} (hc : Chg (fun k => k = gB \/ vl.ownBlock = some k \/ vw.ownBlock = some k) w W) (hb : aO w gB base top vl vw es) (h : w.heap[D]? = some (.deferred x)) : W.heap[D]? = some (.deferred x) :=
 hc.row h (fun c => by
  rcases c with c | c | c
  ·exact (hb.noDef h).1 c
  ·exact (hb.noDef h).2.1 c
  ·exact (hb.noDef h).2.2.1 c)
theorem Got.high {w W : World} {base top lo : Nat} {u : Value} {bs : List UInt8} (h : Got w lo u bs) (hk : ym base top w W) (hlo : top <= lo) : Got W lo u bs := by
 rcases h with h | ⟨q, h1, h2, h3⟩
 ·exact Or.inl h
 ·exact Or.inr ⟨q, h1, h2, (hk.2 q (by omega) (aa h3)).trans h3⟩
theorem Got.form {w : World} {lo : Nat} {u : Value} {bs : List UInt8} (h : Got w lo u bs) : ∃ a c, u = .slice a bs.length c := by
 rcases h with ⟨rfl, rfl⟩ | ⟨q, rfl, _⟩
 ·exact ⟨none, 0, rfl⟩
 ·exact ⟨_, _, rfl⟩
set_option maxHeartbeats 32000000 in
set_option maxRecDepth 100000 in
theorem rU (v0 v1 : Value) (bs0 bs1 : List UInt8) (w : World) (hv0 : SliceAt w v0 bs0) (hv1 : SliceAt w v1 bs1) (hK : KAt w) (h1 : 1 < w.heap.size) :
  Calls Tryz.prog 6 #[v0, v1] w fun e w' => e = .returned (.bool true) /\ Below w.heap.size w w' := by
 obtain ⟨a0, l0, c0, rfl, hl0, hm0⟩ := hv0.form
 have p0 := hv0.le_cap
 obtain ⟨a1, l1, c1, rfl, hl1, hm1⟩ := hv1.form
 have p1 := hide hv1.le_cap
 have HM1 := hide hm1
 have HV0 := hide hv0
 have HL0 := hide hl0
 have HV1 := hide hv1
 have HL1 := hide hl1
 have HK := hide hK
 have HP : Hid (1 < w.heap.size) := h1
 clear hv0 hl0 hv1 hl1 hm1 hK h1
 refine (callsIn_wide (n := 3)).1 ?_
 refine callsIn_of_wp_marks Tryz.func6 rfl trivial ?_ rfl
 refine wpIn_wide.2 ?_
 simp only [Tryz.ntmps6, List.size_toArray, List.length_cons, List.length_nil, Nat.reduceAdd, Nat.reduceSub, Array.replicate_succ, Array.replicate_zero, List.push_toArray, List.append_toArray, List.nil_append, List.cons_append]
 go_wp2_with fail
 refine (uJ w HK.out HP.out).mono ?_
 rintro e w1 ⟨o, gt, gs, rfl, hbt, lgt, lgs⟩
 have BT1 := hide hbt
 have LG := hide (And.intro lgt lgs)
 clear hbt lgt lgs
 go_upto_if 28 with fail
 go_cut [0] from 26 to 30 (fun x wc => w1 = wc /\ ∃ (a : Option Addr) (l c : Nat) (bs : List UInt8), x = .slice a l c /\ l = bs.length /\ l <= 30 /\ SliceAt w (.slice a l c) bs)
 case first =>
  by_cases h : 30 < l0
  ·have q1 : (30 : Int) < (l0 : Int) := by omega
   have q2 : (30 : Int) <= (c0 : Int) := by omega
   have Z := hide (jW HV0.out 30 (by omega))
   have ZL : Hid (30 = (bs0.take 30).length) := by show 30 = (bs0.take 30).length; rw [List.length_take, <- HL0.out]; omega
   go_wp2_with fail
   go_meet
   exact ⟨rfl, a0, 30, c0, bs0.take 30, rfl, ZL.out, lr _, Z.out⟩
  ·have q1 : ¬ ((30 : Int) < (l0 : Int)) := by omega
   go_wp2_with fail
   go_meet
   exact ⟨rfl, a0, l0, c0, bs0, rfl, HL0.out, by omega, HV0.out⟩
 case rest =>
 obtain ⟨rfl, a2, l2, c2, xs, rfl, hxl, hx30, hvx⟩ := hcut
 have SV := hide hvx
 have LX := hide (And.intro hxl hx30)
 clear hvx hxl hx30 HV0 HL0 hm0 p0
 clear a0 l0 c0 bs0
 have hm1 := HM1.out
 have p1' := p1.out
 go_upto_if 33 with fail
 go_cut [1] from 31 to 35 (fun x wc => w1 = wc /\ ∃ (a : Option Addr) (l c : Nat) (bs : List UInt8), x = .slice a l c /\ l = bs.length /\ l <= 100 /\ SliceAt w (.slice a l c) bs)
 case first =>
  by_cases h : 100 < l1
  ·have q1 : (100 : Int) < (l1 : Int) := by omega
   have q2 : (100 : Int) <= (c1 : Int) := by omega
   have Z := hide (jW HV1.out 100 (by omega))
   have ZL : Hid (100 = (bs1.take 100).length) := by show 100 = (bs1.take 100).length; rw [List.length_take, <- HL1.out]; omega
   go_wp2_with fail
   go_meet
   exact ⟨rfl, a1, 100, c1, bs1.take 100, rfl, ZL.out, lr _, Z.out⟩
  ·have q1 : ¬ ((100 : Int) < (l1 : Int)) := by omega
   go_wp2_with fail
   go_meet
   exact ⟨rfl, a1, l1, c1, bs1, rfl, HL1.out, by omega, HV1.out⟩
 case rest =>
 obtain ⟨rfl, a3, l3, c3, ys, rfl, hyl, hy100, hvy⟩ := hcut
 have SW := hide hvy
 have LY := hide (And.intro hyl hy100)
 clear hvy hyl hy100 HV1 HL1 hm1 p1 p1' HM1
 clear a1 l1 c1 bs1
 obtain ⟨w2, hw2⟩ : ∃ w2, w2 = w1.alloc (.cells #[.int .u8 1] 5) := ⟨_, rfl⟩
 have b2 : Below w1.heap.size w1 w2 := by rw [hw2]; exact ba ..
 have r2 : w2.heap[w1.heap.size]? = some (.cells #[.int .u8 1] 5 (0, 0)) := by rw [hw2]; exact heap_alloc_new _ _
 have BT2 := hide (BT1.out.then b2)
 have GT1 := hide BT1.out.lt
 have S12 : Hid (w1.heap.size <= w2.heap.size) := b2.size
 have U2 : Hid (bu w2 (.slice (some ⟨w1.heap.size, 0, none⟩) 1 1) [1]) := ⟨rfl, Or.inr ⟨w1.heap.size, 1, _, rfl, Nat.zero_le _, r2, lr _, by simp [maxLen], rfl, rfl⟩⟩
 have SV2 := hide (SV.out.below BT2.out.below (lr _))
 have APP := hide (aY w2 (.slice (some ⟨w1.heap.size, 0, none⟩) 1 1) (.slice a2 l2 c2) [1] xs 32 U2.out SV2.out (by have := LX.out; simp; omega))
 obtain ⟨Y, hY⟩ : ∃ Y, Y = ([1] : List UInt8) ++ xs := ⟨_, rfl⟩
 have HY := hide hY
 have YN : Hid (Y ≠ []) := by show Y ≠ []; rw [hY]; simp
 have YL : Hid (Y.length <= 31) := by show Y.length <= 31; rw [hY]; simp; have := LX.out; omega
 rw [<- hY] at APP
 have HW2 := hide hw2
 clear b2 r2 hw2 hY
 go_wp2_with (first | (at_builtin; (rw [<- HW2.out]; refine av rfl (.tmp 36) (.tmp 37) 32 32 rfl _ _ rfl rfl APP.out ?_; rintro v3 w3 ⟨hu3, hg3, ho3⟩; have U3 := hide hu3; have G3 := hide hg3; have O3 := hide ho3; clear hu3 hg3 ho3; obtain ⟨gi, ci, xW, hv3, hr3, hn3, hc3⟩ := U3.out.lies YN.out; subst hv3; have R3 := hide hr3; clear hr3; obtain ⟨w4, HW4, GI, BT4, R4, APP2⟩ := step34 BT1.out BT2.out S12.out G3.out O3.out R3.out SW.out (by have := LY.out; omega); have CUR := hide hn3; have KROW : Hid (∀ W, W.heap[gi]? = some (.cells xW 5 (0, 0)) -> SliceAt W (.slice (some ⟨gi, 0, none⟩) Y.length ci) Y) := (fun W hW => (U3.out.kept (w' := W) (fun k hk => by (simp only [Value.ownBlock, Option.some.injEq] at hk; subst hk; exact hW.trans R3.out.symm))).sliceAt (by have := YL.out; omega)); clear R3 G3 O3 U3 APP hn3 BT2 SV2 U2)) | (at_builtin; (rw [<- HW4.out]; refine av rfl (.tmp 39) (.tmp 40) 32 32 rfl _ _ rfl rfl APP2.out ?_; rintro v5 w5 ⟨hu5, hg5, ho5⟩; have U5 := hide hu5; have G5 := hide hg5; have O5 := hide ho5; clear hu5 hg5 ho5; obtain ⟨a5, c5, hv5⟩ := U5.out.some_; subst hv5; clear APP2)))
 obtain ⟨BT5, R5, VR5⟩ := step56 BT1.out BT4.out GI.out R4.out G5.out O5.out U5.out (by have := GI.out; have := BT4.out; omega)
 have UL := hide (U5.out.sliceAt (by have := LY.out; omega))
 have KL := hide (KROW.out _ R5.out)
 have SG5 : Hid (w4.heap.size <= w5.heap.size) := G5.out.size
 clear G5 O5 U5 BT4 R4
 generalize hW6 : w5.alloc _ = w6
 generalize hW7 : w6.alloc _ = w7
 have b6 : Below w5.heap.size w5 w6 := by rw [<- hW6]; exact ba ..
 have b7 : Below w6.heap.size w6 w7 := by rw [<- hW7]; exact ba ..
 have s6 : w6.heap.size = w5.heap.size + 1 := by rw [<- hW6]; simp
 have b57 : Below w5.heap.size w5 w7 := b6.trans (b7.mono b6.size)
 have r7 : w7.heap[w5.heap.size + 1]? = some (.cells (([⟨some ⟨gi, 0, none⟩, Y.length, ci, a5, ys.length, c5, false⟩] : List ChV).flatMap aQ).toArray 34 (0, 0)) := by rw [<- hW7, <- s6]; exact heap_alloc_new _ _
 have RC := hide ((b7.block _ (by omega)).trans (show w6.heap[w5.heap.size]? = some (.cells #[.slice (some ⟨gi, 0, none⟩) Y.length ci, .slice a5 ys.length c5, .bool false] 34 (0, 0)) by rw [<- hW6]; exact heap_alloc_new _ _))
 have R7 := hide ((b57.block gi (aa R5.out)).trans R5.out)
 have VR7 := hide (VR5.out.kept (W := w7) (fun g _ hg => b57.block g hg))
 have SZ7 : Hid (w5.heap.size + 1 < w7.heap.size) := aa r7
 have hd := do_ok w o gt gs 2 (w5.heap.size + 1) 0 1 [⟨some ⟨gi, 0, none⟩, Y.length, ci, a5, ys.length, c5, false⟩] [⟨Y, ys, false⟩] [] w7 (BT5.out.then b57) (fun j u h => by rw [Nat.zero_add, cell_of_row w7 _ j _ _ _ r7]; simpa using h) (by simp) (by simp) (by simp)
  (by have := YL.out; have := LY.out; have := List.length_pos_iff.2 YN.out; simp [ChV.good]; omega) ⟨rfl, fun i x c hx hc => by
   match i, hx, hc with
   | 0, hx, hc => cases hx; cases hc; exact ⟨KL.out.below b57 (lr _), UL.out.below b57 (lr _), rfl⟩⟩ (by simp) (one_ok Y ys YN.out (by have := YL.out; omega) (by have := LY.out; omega)) (by omega)
 rw [EB] at hd
 obtain ⟨gc, hgc⟩ : ∃ gc, gc = w5.heap.size := ⟨_, rfl⟩
 rw [<- hgc] at RC SZ7 hd ⊢
 have GC := hide hgc
 refine hd.mono ?_
 clear hd hW6 hW7 b6 b7 s6 b57 r7 hgc
 rintro e w8 ⟨rfl, o', ho', hbt, hch, hown⟩
 have HI : Hid (gi < gc /\ w1.heap.size <= gi /\ w1.heap.size <= w3.heap.size /\ gi < w3.heap.size /\ w3.heap.size < gc /\ w1.heap.size < gc) := by
  have := aa R5.out
  have := GC.out
  have := GI.out
  have := SG5.out
  show _ /\ _
  omega
 have NH : Hid (∀ k, w1.heap.size <= k -> k < w7.heap.size -> ¬ o'.has k) := fun k hk hk7 c => by
  rcases hown k c with c | c
  ·have := GT1.out.2.2 k c; omega
  ·omega
 have GTL : Hid (gt < w1.heap.size /\ gs < w1.heap.size /\ w.heap.size <= w1.heap.size) := ⟨GT1.out.1, GT1.out.2.1, BT1.out.below.size⟩
 have BT8 := hide hbt
 have R8 := hide ((hch.block gi (aa R7.out) (fun c => by have := GT1.out.2.2 _ c; have := GI.out; omega)).trans R7.out)
 have RC8 := hide ((hch.block gc (aa RC.out) (fun c => by have := GT1.out.2.2 _ c; have := HI.out; omega)).trans RC.out)
 have VLT : Hid (∀ g, a5 = some ⟨g, 0, none⟩ -> g < gc) := fun g hg => by
  rcases VR5.out with e | ⟨g', cur, e, _, h3, _⟩
  ·rw [e.1] at hg; cases hg
  ·rw [e] at hg; simp at hg; have := aa h3; have := GC.out; omega
 have VNE : Hid (¬ a5 = some ⟨gc, 0, none⟩) := fun c => by have := VLT.out _ c; omega
 have VR8 := hide (VR7.out.kept (W := w8) (fun g hg hl => hch.block g hl (fun c => by
  have := GT1.out.2.2 _ c
  have := HI.out
  rcases VR7.out with e | ⟨g', cur, e, hlo, _⟩
  ·rw [e.1] at hg; cases hg
  ·rw [e] at hg; simp at hg; try omega)))
 have WR8 : Hid (Wrote gi Y.length w8 w8) := ⟨⟨xW, R8.out, CUR.out⟩, Chg.refl _ _⟩
 have SZ8 : Hid (w7.heap.size <= w8.heap.size) := hch.size
 clear hbt hch hown ho' BT1 BT5 GT1 S12 R5 R7 VR5 VR7 RC UL KL KROW R8 HK HW2 HW4
 go_wp2_with fail
 go_loopw [9] (fun i wr => ∃ k : Nat, k <= Y.length /\ i = .int .i64 (k : Int) /\ Wrote gi Y.length w8 wr) (fun i _ => Y.length - (intOf i).toNat)
 case atStart => exact ⟨0, Nat.zero_le _, rfl, WR8.out⟩
 case round =>
 obtain ⟨k, hk, rfl, hwr⟩ := hrel
 have rc := hwr.chg.row RC8.out (by have := HI.out; omega)
 have cf0 : wr.cell? ⟨gc, 0, none⟩ = some (.slice (some ⟨gi, 0, none⟩) Y.length ci) := by rw [cell_of_row wr gc 0 _ _ _ rc]; rfl
 by_cases hlt : k < Y.length
 ·obtain ⟨v, cv⟩ := hwr.cell k hlt
  have f1 := hwr.frozen k
  have WR := hide (hwr.put k (.int .u8 9))
  have q1 : (0 : Int) <= (k : Int) := by omega
  have q2 : (k : Int) < (Y.length : Int) := by omega
  have q4 : IntKind.i64.wrap ((k : Int) + 1) = (k : Int) + 1 := by rw [IntKind.wrap_i64]; have := YL.out; omega
  clear hwr rc
  go_wp2
  go_roundw
  case rel => exact ⟨k + 1, by omega, by go_num, WR.out⟩
  case measure => simp [intOf]; omega
 have q2 : ¬ ((k : Int) < (Y.length : Int)) := by omega
 have BT9 : Hid (BtO w wr o' gt gs (2 + 2) [⟨Y, ys, 0⟩]) := BT8.out.chgd hwr.chg (fun j hj e => by
  subst e
  rcases hj with hj | hj
  ·exact NH.out _ HI.out.2.1 (by have := HI.out; have := SZ7.out; omega) hj
  ·have := HI.out; have := GTL.out; omega) (by have := HI.out; have := GTL.out; omega) (by have := HI.out; have := GTL.out; omega)
 have RC9 := hide rc
 have VW9 : Hid (VWr w3.heap.size a5 ys.length wr wr) := ⟨VR8.out.kept (fun g hg hl => hwr.chg.block g hl (fun e => by
  have := HI.out
  rcases VR8.out with e2 | ⟨g', cur, e2, hlo, _⟩
  ·rw [e2.1] at hg; cases hg
  ·rw [e2] at hg; simp at hg; try omega)), Chg.refl _ _⟩
 have SZ9 := hide (ltr SZ8.out hwr.chg.size)
 clear hwr rc BT8 VR8 WR8 RC8 SZ8
 go_wp2_with fail
 clear cf0 q2 hk hlt
 obtain ⟨wo, rfl⟩ : ∃ wo, wo = wr := ⟨_, rfl⟩
 go_loopw [10] (fun i wr => ∃ k : Nat, k <= ys.length /\ i = .int .i64 (k : Int) /\ VWr w3.heap.size a5 ys.length wo wr) (fun i _ => ys.length - (intOf i).toNat)
 case atStart => exact ⟨0, Nat.zero_le _, rfl, VW9.out⟩
 case round =>
 obtain ⟨m, hm, rfl, hwq⟩ := hrel
 have rc := hwq.2.row RC9.out VNE.out
 have cf1 : wr.cell? ⟨gc, 1, none⟩ = some (.slice a5 ys.length c5) := by rw [cell_of_row wr gc 1 _ _ _ rc]; rfl
 by_cases hlt : m < ys.length
 ·obtain ⟨ga, v, rfl, cv, f1, hput⟩ := hwq.put m hlt
  have WR := hide (hput (.int .u8 9))
  have q1 : (0 : Int) <= (m : Int) := by omega
  have q2 : (m : Int) < (ys.length : Int) := by omega
  have q4 : IntKind.i64.wrap ((m : Int) + 1) = (m : Int) + 1 := by rw [IntKind.wrap_i64]; have := LY.out; omega
  clear hwq rc hput
  go_wp2
  go_roundw
  case rel => exact ⟨m + 1, by omega, by go_num, WR.out⟩
  case measure => simp [intOf]; omega
 have q2 : ¬ ((m : Int) < (ys.length : Int)) := by omega
 have Dl := hide (BT9.out.chgd hwq.2 (fun j hj e => by
  have hl := (VW9.out.lt e)
  have := HI.out
  have := VLT.out j e
  have := SZ7.out
  have := SZ9.out
  rcases hj with hj | hj
  ·exact NH.out _ (by omega) (by omega) hj
  ·have := GTL.out; omega) (fun e => by have := (VW9.out.lt e).1; have := HI.out; have := GTL.out; omega) (fun e => by have := (VW9.out.lt e).1; have := HI.out; have := GTL.out; omega))
 clear hwq rc BT9 VW9 RC9
 obtain ⟨w12, HW12, BT12, SZ12, RB12, APP⟩ := step70 Dl.out SV.out (by have := LX.out; omega)
 rw [<- HY.out] at APP
 go_wp2_with (at_builtin; (rw [<- HW12.out]; refine av rfl (.tmp 70) (.tmp 71) 32 32 rfl _ _ rfl rfl APP.out ?_; rintro v3 w13 ⟨hu3, hg3, ho3⟩; have U3 := hide hu3; have G3 := hide hg3; have O3 := hide ho3; clear hu3 hg3 ho3; obtain ⟨gw, cw, curw, hv3, hr3, hn3, hc3⟩ := U3.out.lies YN.out; subst hv3; have RW := hide hr3; clear hr3))
 obtain ⟨BT13, BK13, HGW⟩ := step72 Dl.out BT12.out SZ12.out RB12.out G3.out O3.out
 have KW : Hid (∀ W, W.heap[gw]? = some (.cells curw 5 (0, 0)) -> SliceAt W (.slice (some ⟨gw, 0, none⟩) Y.length cw) Y) := (fun W hW => (U3.out.kept (w' := W) (fun k hk => by (simp only [Value.ownBlock, Option.some.injEq] at hk; subst hk; exact hW.trans RW.out.symm))).sliceAt (by have := YL.out; omega))
 obtain ⟨gB, hgB⟩ : ∃ g, g = wr.heap.size := ⟨_, rfl⟩
 rw [<- hgB] at BK13 HGW ⊢
 have OH : Hid (∀ k, o'.has k -> k < gB) := fun k hk => by have := Dl.out.lt.2.2 k hk; omega
 have GTB : Hid (gt < gB /\ gs < gB /\ w.heap.size <= gB) := by have := Dl.out.lt; have := Dl.out.below.size; show _ /\ _; omega
 have Gj : Hid (([] : List Entry).length <= 0) := lr _
 have Gn : Hid (jf (fun k => k = gw) (.slice none 0 0) (.slice none 0 0) []) := ⟨fun k hk => by simp [Value.ownBlock] at hk, fun k hk => by simp [Value.ownBlock] at hk, fun e he => by simp at he⟩
 clear hgB APP U3 G3 O3 BT12 Dl RB12 SZ12 HW12
 refine wp_loop_rounds 3 ?_
 rw [rounds_succ]
 go_wp2_with fail
 obtain ⟨pg0, hr, ht, hl⟩ := BT13.out.rds
 refine (xM _ gt gs pg0 _ _ Y w13 hr ht hl (KW.out _ RW.out)).mono ?_
 clear hr ht hl
 rintro e x0 ⟨v0, ok0, rfl, mO, hb⟩
 obtain ⟨rfl, hv⟩ := mO.yes ⟨Y, ys, 0⟩ (by simp) rfl
 have GV0 : Hid (Got x0 w13.heap.size v0 ys) := hv
 have BT0x := hide (BT13.out.then hb)
 have yw := hide (BK13.out.below hb)
 have RW0x := hide ((hb.block gw (aa RW.out)).trans RW.out)
 have SX0 : Hid (w13.heap.size <= x0.heap.size) := hb.size
 have TW0 := hide (And.intro BK13.out.top_le (aa RW.out))
 clear mO hb hv
 go_wp2_with fail
 refine (nK (fun k => k = gw) gB gB _ w13.heap.size _ _ v0 ys _ x0 yw.out GV0.out (by have := TW0.out; have := yw.out.hi; omega) (by have := LY.out; omega) (by have := Gj.out; omega) Gn.out (fun k hk c => by have := RW0x.out; have := aa RW0x.out; omega) (fun q hq => by
  have hlo : w13.heap.size <= q := by
   rcases GV0.out with ⟨h, _⟩ | ⟨q', h, h2, _⟩
   ·rw [h] at hq; simp [Value.ownBlock] at hq
   ·rw [h] at hq; simp only [Value.ownBlock, Option.some.injEq] at hq; omega
  have := TW0.out
  refine ⟨by omega, by have := yw.out.hi; omega, fun c => by have := (yw.out.vlSep q c).2.1; omega, fun c => by have := (yw.out.vwSep q c).2.1; omega, fun e he c => by have := ((yw.out.ents e he).at_ q c).2.1; omega⟩)).mono ?_
 rintro e y0 ⟨rfl, vl0, vw0, es0, hb1, hl1, hn1, hk1⟩
 have KG := xC BT0x.out yw.out hk1 Gn.out RW0x.out HGW.out OH.out GTB.out
 have BT0y := hide KG.1
 have RW0y := hide KG.2
 have BK0y := hide hb1
 have Gl : Hid (es0.length <= 1) := ltr hl1 (by have := Gj.out; omega)
 have Az := hide hn1
 clear KG hb1 hl1 hn1 hk1
 go_wp2_with fail
 refine (oJ gt y0).mono ?_
 rintro e z0 ⟨g30, g40, g50, rfl, hs, l3, l4, l5⟩
 have BT0z := hide (BT0y.out.then hs.1)
 have Gt := hide (BK0y.out.below hs.1)
 have RW0z := hide ((hs.1.block gw (aa RW0y.out)).trans RW0y.out)
 have RS0 := hide hs
 have L50 := hide l5
 clear hs l3 l4 l5
 have hnil := rO
 go_wp2_with fail
 clear hnil
 obtain ⟨qg0, hr, ht, hl⟩ := BT0z.out.rds
 refine qO _ _ _ _ _ _ _ _ _ _ _ _ _ _ _ _ _ _ _ _ _ _ _ _ _ _ _ _ _ _ _ _ _ _ _ _ _ _ _ _ _ _ _ _ _ _ _ _ _ _ _ _ _ _ _ _ _ _ _ _ _ _ _ _ _ _ _ _ _ _ _ _ _ _ _ _ _ _ _ _ _ _ _ _ _ _ _ _ _ _ _ _ _ _ _ _ _ _ _ _ _ _ _ _ _ _ _ _ _ _ _ _ _ _ _ _ _ gs gt g30 g40 g50 gB gw _ qg0 Y ys vl0 vw0 es0 z0 _ hr hl ht RS0.out.2.1 RS0.out.2.2.1 RS0.out.2.2.2 Gt.out L50.out (by have := Gl.out; omega) Az.out (aa RW0z.out) (by have := YL.out; omega) (by have := LY.out; omega) ?_
 clear hr ht hl
 rintro D0 t0 hD hDr hch ⟨top0, vl0t, vw0t, es0t, hb1, hl1, hn1⟩
 have BT1 := hide (BT0z.out.high (uG Gt.out hch) OH.out GTB.out)
 have RW1 := hide (hch.row RW0z.out (fun c => by
  rcases c with c | c | c
  ·have := HGW.out; omega
  ·exact Az.out.vl _ c rfl
  ·exact Az.out.vw _ c rfl))
 have BK1 := hide hb1
 have LEN1 : Hid (es0t.length <= 3) := ltr hl1 (by have := Gl.out; omega)
 have HNO1 := hide hn1
 have DR0 := hide hDr
 have HD0 : Hid (w.heap.size <= D0) := by have h1 := Gt.out.top_le; have h2 := Gt.out.hi; have h3 := GTB.out; show w.heap.size <= D0; omega
 clear hb1 hl1 hn1 hD hDr hch
 clear BT0x yw RW0x SX0 TW0 GV0 BT0y RW0y BK0y Gl Az BT0z Gt RW0z RS0 L50 BT13 BK13 Gj Gn RW
 go_wp2_with fail
 rw [rounds_succ]
 go_wp2_with fail
 obtain ⟨pg1, hr, ht, hl⟩ := BT1.out.rds
 refine (xM _ gt gs pg1 _ _ Y t0 hr ht hl (KW.out _ RW1.out)).mono ?_
 clear hr ht hl
 rintro e x1 ⟨v1, ok1, rfl, mO, hb⟩
 obtain ⟨rfl, hv⟩ := mO.yes ⟨Y, ys, 0⟩ (by simp) rfl
 have GV1 : Hid (Got x1 t0.heap.size v1 ys) := hv
 have BT1x := hide (BT1.out.then hb)
 have wh := hide (BK1.out.below hb)
 have RW1x := hide ((hb.block gw (aa RW1.out)).trans RW1.out)
 have SX1 : Hid (t0.heap.size <= x1.heap.size) := hb.size
 have TW1 := hide (And.intro BK1.out.top_le (aa RW1.out))
 have DX := hide (iW hb DR0.out)
 clear mO hb hv
 go_wp2_with fail
 refine (nK (fun k => k = gw) gB gB _ t0.heap.size _ _ v1 ys _ x1 wh.out GV1.out (by have := TW1.out; have := wh.out.hi; omega) (by have := LY.out; omega) (by have := LEN1.out; omega) HNO1.out (fun k hk c => by have := RW1x.out; have := aa RW1x.out; omega) (fun q hq => by
  have hlo : t0.heap.size <= q := by
   rcases GV1.out with ⟨h, _⟩ | ⟨q', h, h2, _⟩
   ·rw [h] at hq; simp [Value.ownBlock] at hq
   ·rw [h] at hq; simp only [Value.ownBlock, Option.some.injEq] at hq; omega
  have := TW1.out
  refine ⟨by omega, by have := wh.out.hi; omega, fun c => by have := (wh.out.vlSep q c).2.1; omega, fun c => by have := (wh.out.vwSep q c).2.1; omega, fun e he c => by have := ((wh.out.ents e he).at_ q c).2.1; omega⟩)).mono ?_
 rintro e y1 ⟨rfl, vl1, vw1, es1, hb1, hl1, hn1, hk1⟩
 have KG := xC BT1x.out wh.out hk1 HNO1.out RW1x.out HGW.out OH.out GTB.out
 have BT1y := hide KG.1
 have RW1y := hide KG.2
 have BK1y := hide hb1
 have Gi : Hid (es1.length <= 4) := ltr hl1 (by have := LEN1.out; omega)
 have Ay := hide hn1
 have DY := hide (hk1.def wh.out DX.out)
 clear KG hb1 hl1 hn1 hk1
 go_wp2_with fail
 refine (oJ gt y1).mono ?_
 rintro e z1 ⟨g31, g41, g51, rfl, hs, l3, l4, l5⟩
 have BT1z := hide (BT1y.out.then hs.1)
 have Dm := hide (BK1y.out.below hs.1)
 have RW1z := hide ((hs.1.block gw (aa RW1y.out)).trans RW1y.out)
 have RS1 := hide hs
 have L51 := hide l5
 have DZ := hide (iW hs.1 DY.out)
 clear hs l3 l4 l5
 have hnil := rO
 go_wp2_with fail
 clear hnil
 obtain ⟨qg1, hr, ht, hl⟩ := BT1z.out.rds
 refine qO _ _ _ _ _ _ _ _ _ _ _ _ _ _ _ _ _ _ _ _ _ _ _ _ _ _ _ _ _ _ _ _ _ _ _ _ _ _ _ _ _ _ _ _ _ _ _ _ _ _ _ _ _ _ _ _ _ _ _ _ _ _ _ _ _ _ _ _ _ _ _ _ _ _ _ _ _ _ _ _ _ _ _ _ _ _ _ _ _ _ _ _ _ _ _ _ _ _ _ _ _ _ _ _ _ _ _ _ _ _ _ _ _ _ _ _ _ gs gt g31 g41 g51 gB gw _ qg1 Y ys vl1 vw1 es1 z1 _ hr hl ht RS1.out.2.1 RS1.out.2.2.1 RS1.out.2.2.2 Dm.out L51.out (by have := Gi.out; omega) Ay.out (aa RW1z.out) (by have := YL.out; omega) (by have := LY.out; omega) ?_
 clear hr ht hl
 rintro D1 t1 hD hDr hch ⟨top1, vl1t, vw1t, es1t, hb1, hl1, hn1⟩
 have BT2 := hide (BT1z.out.high (uG Dm.out hch) OH.out GTB.out)
 have RW2 := hide (hch.row RW1z.out (fun c => by
  rcases c with c | c | c
  ·have := HGW.out; omega
  ·exact Ay.out.vl _ c rfl
  ·exact Ay.out.vw _ c rfl))
 have BK2 := hide hb1
 have LEN2 : Hid (es1t.length <= 6) := ltr hl1 (by have := Gi.out; omega)
 have HNO2 := hide hn1
 have DR1 := hide hDr
 have HD1 : Hid (w.heap.size <= D1 /\ D0 ≠ D1) := by have h1 := Dm.out.top_le; have h2 := Dm.out.hi; have h3 := GTB.out; have h4 := zD DZ.out; show _ /\ _; omega
 have DE := hide (hch.def Dm.out DZ.out)
 clear hb1 hl1 hn1 hD hDr hch DX DY DZ DR0
 clear BT1x wh RW1x SX1 TW1 GV1 BT1y RW1y BK1y Gi Ay BT1z Dm RW1z RS1 L51 BT1 BK1 LEN1 HNO1 RW1
 go_wp2_with fail
 rw [rounds_succ]
 go_wp2_with fail
 obtain ⟨pg2, hr, ht, hl⟩ := BT2.out.rds
 refine (xM _ gt gs pg2 _ _ Y t1 hr ht hl (KW.out _ RW2.out)).mono ?_
 clear hr ht hl
 rintro e x2 ⟨vE, okE, rfl, mO, hb⟩
 obtain ⟨rfl, hv⟩ := mO.yes ⟨Y, ys, 0⟩ (by simp) rfl
 have GE0 : Got x2 t1.heap.size vE ys := hv
 obtain ⟨aE, cE, hE⟩ := GE0.form
 subst hE
 have HTOP := hide BK2.out.top_le
 have BTd := hide (BT2.out.then hb)
 have BKd := hide (BK2.out.below hb)
 have GEd := hide GE0
 have D0d := hide (iW hb DE.out)
 have D1d := hide (iW hb DR1.out)
 clear mO hb hv GE0 BT2 BK2 RW2 LEN2 HNO2 DE DR1
 go_wp2_with fail
 refine (Dg gB gB _ _ _ _ x2 BKd.out).mono ?_
 rintro e Z2 ⟨rfl, hkp, hrs⟩
 have BT3 : Hid (BtO w Z2 o' gt gs (2 + 2) [⟨Y, ys, 0⟩]) := BTd.out.high (Chg.ofBelow hkp.1 (fun _ _ h => h)) OH.out GTB.out
 have D0e : Hid (Z2.heap[D0]? = some (.deferred (some []))) := (hrs D0 (BKd.out.noDef D0d.out).1 (BKd.out.noDef D0d.out).2.2.2).trans D0d.out
 have D1e : Hid (Z2.heap[D1]? = some (.deferred (some []))) := (hrs D1 (BKd.out.noDef D1d.out).1 (BKd.out.noDef D1d.out).2.2.2).trans D1d.out
 obtain ⟨YS, hYS⟩ : ∃ s, s = (⟨ys.toArray⟩ : ByteArray) := ⟨_, rfl⟩
 have k1 : (convert 32 9 (.slice aE ys.length cE)).run Tryz.prog Z2 = .ok (.string YS) Z2 := by rw [hYS]; exact aP ((GEd.out.high hkp HTOP.out).sliceAt (by have := LY.out; omega))
 have k2 : (convert 32 9 (.slice a3 l3 c3)).run Tryz.prog Z2 = .ok (.string YS) Z2 := by rw [hYS]; exact aP (SW.out.below BT3.out.below (lr _))
 clear hkp hrs BKd BTd D0d D1d GEd hYS
 go_wp2_with fail
 refine (BP Z2 BT3.out.k (Nat.lt_of_lt_of_le HP.out BT3.out.below.size)).mono ?_
 rintro e Z3 ⟨rfl, b3⟩
 have BF : Hid (Below w.heap.size w Z3) := BT3.out.below.trans (b3.mono BT3.out.below.size)
 have D0f := hide (iW b3 D0e.out)
 have D1f := hide (iW b3 D1e.out)
 clear b3 BT3 D0e D1e k1 k2
 go_wp2_with fail
 refine ⟨by simp, .inl ⟨_, _, rfl, run_takeDeferred D1f.out, ?_⟩⟩
 refine ⟨by simp, .inl ⟨_, _, rfl, run_takeDeferred ((World.putObj_heap_other HD1.out.2).trans D0f.out), ?_⟩⟩
 exact ⟨.bool true, (results_tmp (t := 4) (fn := Tryz.f6) rfl _ _ _).trans (by simp), rfl, kF (kF BF.out HD1.out.1) HD0.out⟩

end Go.Proofs.YteealihknndclaaGreatDoor
