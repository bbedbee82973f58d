/- An entry that is read. -/
import Derived.Test.YteealihknndclaaGreatDoorWc
namespace Go.Proofs.YteealihknndclaaGreatDoor
open Go.RowKit

theorem size126 : (Tryz.prog.info? 126).map (·.size) = some 4 := by kernel_rfl
theorem loadVar126 {w : World} {g : Nat} {a b c d : Value} (h : w.heap[g]? = some (.cells #[a, b, c, d] 126 (0, 0))) : (loadVar 126 ⟨g, 0, none⟩).run Tryz.prog w = .ok (.agg #[a, b, c, d]) w :=
 run_loadVar_mid (P := Tryz.prog) w g 0 126 [a, b, c, d] _ (rangeAt_row h) Tryz.underlying126 rfl (by rw [size126]; rfl)
theorem set4 {w : World} {g : Nat} {a b c d : Value} {t : TypeId} (a' b' c' d' : Value) (h : w.heap[g]? = some (.cells #[a, b, c, d] t (0, 0))) : ((((w.setCell ⟨g, 0, none⟩ a').setCell ⟨g, 1, none⟩ b').setCell ⟨g, 2, none⟩ c').setCell ⟨g, 3, none⟩ d').heap[g]? = some (.cells #[a', b', c', d'] t (0, 0)) := by
 have h1 := heap_setCell_same w g 0 _ _ a' h
 have h2 := heap_setCell_same _ g 1 _ _ b' h1
 have h3 := heap_setCell_same _ g 2 _ _ c' h2
 rw [heap_setCell_same _ g 3 _ _ d' h3]
 rfl
theorem chg4 (w : World) (g : Nat) (a b c d : Value) : Chg (fun k => k = g) w ((((w.setCell ⟨g, 0, none⟩ a).setCell ⟨g, 1, none⟩ b).setCell ⟨g, 2, none⟩ c).setCell ⟨g, 3, none⟩ d) := ((((Chg.refl (fun k => k = g) _).setCell g 0 a (fun _ => rfl)).setCell g 1 b (fun _ => rfl)).setCell g 2 c (fun _ => rfl)).setCell g 3 d (fun _ => rfl)
structure EnNew (B : Nat) (w : World) (x : EnV) (e : S.Ent) : Prop where
 key : ∃ q, x.ka = some ⟨q, 0, none⟩ ∧ x.kn = e.key.length ∧ x.kc = e.key.length ∧ B ≤ q ∧ w.heap[q]? = some (.cells (S.v8 e.key) 5 (0, 0))
 val : (x.va = none ∧ x.vn = 0 ∧ x.vc = 0 ∧ e.val = []) ∨ ∃ q, x.va = some ⟨q, 0, none⟩ ∧ x.vn = e.val.length ∧ x.vc = e.val.length ∧ B ≤ q ∧ w.heap[q]? = some (.cells (S.v8 e.val) 5 (0, 0)) ∧ x.ka ≠ some ⟨q, 0, none⟩
 page : x.pg = (e.page : Int)
theorem EnNew.is {B : Nat} {w : World} {x : EnV} {e : S.Ent} (h : EnNew B w x e) (hk : e.key.length ≤ 1000000) (hv : e.val.length ≤ 1000000) : EnIs w x e := by
 obtain ⟨q, h1, h2, h3, _, h5⟩ := h.key
 refine ⟨?_, ?_, h.page⟩
 ·unfold EnV.key
  rw [h1, h2, h3]
  exact slice_row h5 rfl (by omega)
 ·unfold EnV.val
  rcases h.val with ⟨a, b, c, d⟩ | ⟨q2, a, b, c, _, d, _⟩
  ·rw [a, b, c, d]; exact Or.inl ⟨rfl, rfl⟩
  ·rw [a, b, c]; exact slice_row d rfl (by omega)
theorem EnNew.chg {p : Nat → Prop} {B : Nat} {w W : World} {x : EnV} {e : S.Ent} (h : EnNew B w x e) (hc : Chg p w W) (hp : ∀ k c, w.heap[k]? = some (.cells c 5 (0, 0)) → ¬ p k) : EnNew B W x e := by
 obtain ⟨q, h1, h2, h3, h4, h5⟩ := h.key
 refine ⟨⟨q, h1, h2, h3, h4, hc.row h5 (hp q _ h5)⟩, ?_, h.page⟩
 rcases h.val with a | ⟨q2, a, b, c, b4, d, ne⟩
 ·exact Or.inl a
 ·exact Or.inr ⟨q2, a, b, c, b4, hc.row d (hp q2 _ d), ne⟩
theorem EnNew.below {B : Nat} {w W : World} {x : EnV} {e : S.Ent} (h : EnNew B w x e) (hb : Below w.heap.size w W) : EnNew B W x e := h.chg (p := fun _ => False) (Chg.ofBelow' hb) (fun _ _ _ e => e)
theorem ne_of_type {w : World} {a b : Nat} {c c' : Array Value} {t t' : TypeId} {p p' : Nat × Nat} (h : w.heap[a]? = some (.cells c t p)) (h' : w.heap[b]? = some (.cells c' t' p')) (ht : t ≠ t') : a ≠ b := fun e => by
 subst e
 rw [h] at h'
 injection h' with h'
 injection h' with _ h2 _
 exact ht h2
theorem EnNew.mono {B B' : Nat} {w : World} {x : EnV} {e : S.Ent} (h : EnNew B w x e) (hB : B' ≤ B) : EnNew B' w x e := by
 obtain ⟨q, h1, h2, h3, h4, h5⟩ := h.key
 refine ⟨⟨q, h1, h2, h3, by omega, h5⟩, ?_, h.page⟩
 rcases h.val with a | ⟨q2, a, b, c, b4, d, ne⟩
 ·exact Or.inl a
 ·exact Or.inr ⟨q2, a, b, c, by omega, d, ne⟩

set_option maxHeartbeats 2000000 in
set_option maxRecDepth 10000 in
theorem readEntry_0 (g t k : Nat) (es : List S.Ent) (x : S.Ent) (w : World) (hx : es[k]? = some x) (hok : S.EntOk 0 x) (hr : RdIs w g t ⟨S.nodeB 0 es, S.npl 0 es k, 0, 0⟩) :
  Calls Tryz.prog 147 #[.pointer (some ⟨g, 0, none⟩), .int .i64 (0 : Nat)] w fun e w' => ∃ y, e = .returned (.agg (encEn y).toArray) ∧ EnNew w.heap.size w' y x ∧ y.nd = none ∧ RdIs w' g t ⟨S.nodeB 0 es, S.npl 0 es (k + 1), 0, 0⟩ ∧ Chg (fun k => k = g) w w' := by
 have E1 := hide (S.node_key hx hok)
 have E2 := hide (S.node_val hx hok)
 have GL := hr.lt
 have TLt := hr.tlt
 have HOK := hide hok
 have vl := hok.val
 obtain ⟨T, hT⟩ : ∃ T, T = S.nodeB 0 es := ⟨_, rfl⟩
 obtain ⟨p0, hp0⟩ : ∃ p0, p0 = S.npl 0 es k := ⟨_, rfl⟩
 obtain ⟨p1, hp1⟩ : ∃ p1, p1 = S.npl 0 es k + 2 + x.key.length := ⟨_, rfl⟩
 obtain ⟨p2, hp2⟩ : ∃ p2, p2 = S.npl 0 es (k + 1) := ⟨_, rfl⟩
 rw [← hT, ← hp1, ← hp2] at E2
 rw [← hT, ← hp0] at hr
 rw [← hT, ← hp1, ← hp0] at E1
 rw [← hT, ← hp2]
 have R0 := hide hr
 clear hr hT hp0 hp1 hp2 hx hok
 go_enter Tryz.func147, Tryz.ntmps147
 go_wp2_with fail
 obtain ⟨w1, hw1⟩ : ∃ w1, w1 = w.alloc (.cells #[.slice none 0 0, .slice none 0 0, .int .i64 0, .pointer none] 126) := ⟨_, rfl⟩
 rw [← hw1]
 have b1 : Below w.heap.size w w1 := by rw [hw1]; exact (Below.refl _ _).alloc (Nat.le_refl _) _
 have A1 : Hid (w1.heap[w.heap.size]? = some (.cells #[.slice none 0 0, .slice none 0 0, .int .i64 0, .pointer none] 126 (0, 0))) := by rw [hw1]; exact heap_alloc_new _ _
 have R1 := hide (R0.out.below b1)
 obtain ⟨gr, hgr⟩ : ∃ gr, gr = w.heap.size := ⟨_, rfl⟩
 rw [← hgr] at A1 ⊢
 have HGR := hide hgr
 have GRL : Hid (gr < w1.heap.size) := block_lt_of_row A1.out
 have B1 := hide b1
 clear hw1 hgr b1 R0
 refine (rbytes_is g t w1 E1.out R1.out).mono ?_
 rintro e w2 ⟨q1, rfl, g2, r2, d2, c2⟩
 have C2 := hide c2
 have K2 := hide r2
 have R2 := hide d2
 have A2 : Hid (w2.heap[gr]? = some (.cells #[.slice none 0 0, .slice none 0 0, .int .i64 0, .pointer none] 126 (0, 0))) := c2.row A1.out (by have := HGR.out; omega)
 have GQ : Hid (w1.heap.size ≤ q1) := g2
 obtain ⟨kn, hkn⟩ : ∃ kn, kn = x.key.length := ⟨_, rfl⟩
 rw [← hkn]
 have HKN := hide hkn
 clear r2 d2 c2 g2 A1 R1 hkn
 go_wp2_with fail
 obtain ⟨w3, hw3⟩ : ∃ w3, w3 = w2.alloc (.cells #[.slice (some ⟨q1, 0, none⟩) kn kn, .slice none 0 0, .int .i64 0, .pointer none] 126) := ⟨_, rfl⟩
 rw [← hw3]
 have b3 : Below w2.heap.size w2 w3 := by rw [hw3]; exact (Below.refl _ _).alloc (Nat.le_refl _) _
 have D3 : Hid (w3.heap[w2.heap.size]? = some (.cells #[.slice (some ⟨q1, 0, none⟩) kn kn, .slice none 0 0, .int .i64 0, .pointer none] 126 (0, 0))) := by rw [hw3]; exact heap_alloc_new _ _
 have R3 := hide (R2.out.below b3)
 have A3 : Hid (w3.heap[gr]? = some (.cells #[.slice none 0 0, .slice none 0 0, .int .i64 0, .pointer none] 126 (0, 0))) := (b3.block gr (block_lt_of_row A2.out)).trans A2.out
 have K3 : Hid (w3.heap[q1]? = some (.cells (S.v8 x.key) 5 (0, 0))) := (b3.block q1 (block_lt_of_row K2.out)).trans K2.out
 have C3 : Hid (Chg (fun k => k = g) w1 w3) := C2.out.trans (Chg.ofBelow' (p := fun k => k = g) b3) (fun _ _ e => e)
 have QL : Hid (q1 < w2.heap.size ∧ gr < w2.heap.size ∧ g < w2.heap.size ∧ t < w2.heap.size) := ⟨block_lt_of_row K2.out, block_lt_of_row A2.out, R2.out.lt, R2.out.tlt⟩
 obtain ⟨gv, hgv⟩ : ∃ gv, gv = w2.heap.size := ⟨_, rfl⟩
 rw [← hgv] at D3 QL ⊢
 clear hw3 hgv b3 A2 R2 K2 C2
 refine (rbytes_is g t w3 E2.out R3.out).mono ?_
 rintro e w4 ⟨q2, rfl, g4, r4, d4, c4⟩
 have C4 : Hid (Chg (fun k => k = g) w1 w4) := C3.out.trans c4 (fun _ _ e => e)
 have D4 : Hid (w4.heap[gv]? = some (.cells #[.slice (some ⟨q1, 0, none⟩) kn kn, .slice none 0 0, .int .i64 0, .pointer none] 126 (0, 0))) := c4.row D3.out (by have := QL.out; omega)
 have A4 : Hid (w4.heap[gr]? = some (.cells #[.slice none 0 0, .slice none 0 0, .int .i64 0, .pointer none] 126 (0, 0))) := c4.row A3.out (by have := HGR.out; omega)
 have K4 : Hid (w4.heap[q1]? = some (.cells (S.v8 x.key) 5 (0, 0))) := c4.row K3.out (by have := GQ.out; have := B1.out.size; omega)
 have R4 := hide d4
 have GQ2 : Hid (gv < q2) := Nat.lt_of_lt_of_le (block_lt_of_row D3.out) g4
 have V4 := hide r4
 obtain ⟨vn, hvn⟩ : ∃ vn, vn = x.val.length := ⟨_, rfl⟩
 rw [← hvn]
 have HVN := hide hvn
 clear g4 r4 hvn
 obtain ⟨d0, d1, d2, d3⟩ := cells4 D4.out
 have f0 := frozen_of_row _ _ 0 _ _ D4.out
 have f1 := frozen_of_row _ _ 1 _ _ D4.out
 clear d4 c4 R3 A3 K3 D3 C3
 have a4 := A4.out
 obtain ⟨a0, a1, a2, a3⟩ := cells4 a4
 have fa0 := frozen_of_row _ _ 0 _ _ a4
 have fa1 := frozen_of_row _ _ 1 _ _ a4
 have fa2 := frozen_of_row _ _ 2 _ _ a4
 have fa3 := frozen_of_row _ _ 3 _ _ a4
 have ne : ¬ gv = gr := by have := QL.out; omega
 have ne2 : ¬ gr = gv := by have := QL.out; omega
 clear a4
 go_wp2_with fail
 obtain ⟨w5, hw5⟩ : ∃ w5, w5 = w4.setCell ⟨gv, 1, none⟩ (.slice (some ⟨q2, 0, none⟩) vn vn) := ⟨_, rfl⟩
 rw [← hw5]
 have c5 : Chg (fun k => k = gv) w4 w5 := by rw [hw5]; exact (Chg.refl (fun k => k = gv) _).setCell gv 1 _ (fun _ => rfl)
 have a5 := c5.row A4.out ne2
 have hr := set4 (Value.slice (some ⟨q1, 0, none⟩) kn kn) (.slice (some ⟨q2, 0, none⟩) vn vn) (.int .i64 0) (.pointer none) a5
 have hc := chg4 w5 gr (Value.slice (some ⟨q1, 0, none⟩) kn kn) (.slice (some ⟨q2, 0, none⟩) vn vn) (.int .i64 0) (.pointer none)
 refine bodyPost_ret (results_row_one Tryz.results147 _ _ gr _ rfl (loadVar126 hr)) rfl ?_
 have hz := HGR.out
 have hz1 := GRL.out
 have hql := QL.out
 have hgq := GQ.out
 have hb1 := B1.out.size
 have hgrl := block_lt_of_row A4.out
 have C14 : Chg (fun k => k = g) w w4 := (Chg.ofBelow' (p := fun k => k = g) B1.out).trans C4.out (fun _ _ e => e)
 have C15 : Chg (fun k => k = g) w w5 := C14.trans c5 (fun j hj e => by omega)
 have C16 := C15.trans hc (fun j hj e => by omega)
 refine ⟨⟨some ⟨q1, 0, none⟩, kn, kn, some ⟨q2, 0, none⟩, vn, vn, 0, none⟩, rfl, ⟨⟨q1, rfl, HKN.out, HKN.out, by omega, hc.row (c5.row K4.out (by omega)) (by omega)⟩, Or.inr ⟨q2, rfl, HVN.out, HVN.out, by have := GQ2.out; omega, hc.row (c5.row V4.out (by have := GQ2.out; omega)) (by have := GQ2.out; omega), fun e => by injection e with e; injection e with e; have := GQ2.out; omega⟩, by have := HOK.out.no; rw [if_pos rfl] at this; rw [this]; rfl⟩, rfl, ?_, C16⟩
 exact (R4.out.chg c5 (by omega) (by omega)).chg hc (by omega) (by omega)

set_option maxHeartbeats 2000000 in
set_option maxRecDepth 10000 in
theorem readEntry_n (g t k lv : Nat) (es : List S.Ent) (x : S.Ent) (w : World) (hlv : lv ≠ 0) (_h256 : lv < 256) (hx : es[k]? = some x) (hok : S.EntOk lv x) (hr : RdIs w g t ⟨S.nodeB lv es, S.npl lv es k, 0, 0⟩) :
  Calls Tryz.prog 147 #[.pointer (some ⟨g, 0, none⟩), .int .i64 (lv : Nat)] w fun e w' => ∃ y, e = .returned (.agg (encEn y).toArray) ∧ EnNew w.heap.size w' y x ∧ y.nd = none ∧ RdIs w' g t ⟨S.nodeB lv es, S.npl lv es (k + 1), 0, 0⟩ ∧ Chg (fun k => k = g) w w' := by
 have E1 := hide (S.node_key hx hok)
 have E2 := hide (S.node_page hx hok hlv)
 have GL := hr.lt
 have TLt := hr.tlt
 have HOK := hide hok
 have pl := hok.page
 have hl0 : ¬ (lv : Int) = 0 := by omega
 have hl1 : ((lv : Int) == 0) = false := beq_false_of_ne hl0
 have NO : Hid (x.val = []) := by have := hok.no; rw [if_neg hlv] at this; exact this
 obtain ⟨T, hT⟩ : ∃ T, T = S.nodeB lv es := ⟨_, rfl⟩
 obtain ⟨p0, hp0⟩ : ∃ p0, p0 = S.npl lv es k := ⟨_, rfl⟩
 obtain ⟨p1, hp1⟩ : ∃ p1, p1 = S.npl lv es k + 2 + x.key.length := ⟨_, rfl⟩
 obtain ⟨p2, hp2⟩ : ∃ p2, p2 = S.npl lv es (k + 1) := ⟨_, rfl⟩
 rw [← hT, ← hp1, ← hp2] at E2
 rw [← hT, ← hp0] at hr
 rw [← hT, ← hp1, ← hp0] at E1
 rw [← hT, ← hp2]
 have R0 := hide hr
 clear hr hT hp0 hp1 hp2 hx hok
 go_enter Tryz.func147, Tryz.ntmps147
 go_wp2_with fail
 obtain ⟨w1, hw1⟩ : ∃ w1, w1 = w.alloc (.cells #[.slice none 0 0, .slice none 0 0, .int .i64 0, .pointer none] 126) := ⟨_, rfl⟩
 rw [← hw1]
 have b1 : Below w.heap.size w w1 := by rw [hw1]; exact (Below.refl _ _).alloc (Nat.le_refl _) _
 have A1 : Hid (w1.heap[w.heap.size]? = some (.cells #[.slice none 0 0, .slice none 0 0, .int .i64 0, .pointer none] 126 (0, 0))) := by rw [hw1]; exact heap_alloc_new _ _
 have R1 := hide (R0.out.below b1)
 obtain ⟨gr, hgr⟩ : ∃ gr, gr = w.heap.size := ⟨_, rfl⟩
 rw [← hgr] at A1 ⊢
 have HGR := hide hgr
 have GRL : Hid (gr < w1.heap.size) := block_lt_of_row A1.out
 have B1 := hide b1
 clear hw1 hgr b1 R0
 refine (rbytes_is g t w1 E1.out R1.out).mono ?_
 rintro e w2 ⟨q1, rfl, g2, r2, d2, c2⟩
 have C2 := hide c2
 have K2 := hide r2
 have R2 := hide d2
 have A2 : Hid (w2.heap[gr]? = some (.cells #[.slice none 0 0, .slice none 0 0, .int .i64 0, .pointer none] 126 (0, 0))) := c2.row A1.out (by have := HGR.out; omega)
 have GQ : Hid (w1.heap.size ≤ q1) := g2
 obtain ⟨kn, hkn⟩ : ∃ kn, kn = x.key.length := ⟨_, rfl⟩
 rw [← hkn]
 have HKN := hide hkn
 clear r2 d2 c2 g2 A1 R1 hkn
 go_wp2_with fail
 obtain ⟨w3, hw3⟩ : ∃ w3, w3 = w2.alloc (.cells #[.slice (some ⟨q1, 0, none⟩) kn kn, .slice none 0 0, .int .i64 0, .pointer none] 126) := ⟨_, rfl⟩
 rw [← hw3]
 have b3 : Below w2.heap.size w2 w3 := by rw [hw3]; exact (Below.refl _ _).alloc (Nat.le_refl _) _
 have D3 : Hid (w3.heap[w2.heap.size]? = some (.cells #[.slice (some ⟨q1, 0, none⟩) kn kn, .slice none 0 0, .int .i64 0, .pointer none] 126 (0, 0))) := by rw [hw3]; exact heap_alloc_new _ _
 have R3 := hide (R2.out.below b3)
 have A3 : Hid (w3.heap[gr]? = some (.cells #[.slice none 0 0, .slice none 0 0, .int .i64 0, .pointer none] 126 (0, 0))) := (b3.block gr (block_lt_of_row A2.out)).trans A2.out
 have K3 : Hid (w3.heap[q1]? = some (.cells (S.v8 x.key) 5 (0, 0))) := (b3.block q1 (block_lt_of_row K2.out)).trans K2.out
 have C3 : Hid (Chg (fun k => k = g) w1 w3) := C2.out.trans (Chg.ofBelow' (p := fun k => k = g) b3) (fun _ _ e => e)
 have QL : Hid (q1 < w2.heap.size ∧ gr < w2.heap.size ∧ g < w2.heap.size ∧ t < w2.heap.size) := ⟨block_lt_of_row K2.out, block_lt_of_row A2.out, R2.out.lt, R2.out.tlt⟩
 obtain ⟨gv, hgv⟩ : ∃ gv, gv = w2.heap.size := ⟨_, rfl⟩
 rw [← hgv] at D3 QL ⊢
 clear hw3 hgv b3 A2 R2 K2 C2
 refine (rnumber_is g t w3 E2.out R3.out).mono ?_
 rintro e w4 ⟨rfl, d4, c4⟩
 have C4 : Hid (Chg (fun k => k = g) w1 w4) := C3.out.trans c4 (fun _ _ e => e)
 have D4 : Hid (w4.heap[gv]? = some (.cells #[.slice (some ⟨q1, 0, none⟩) kn kn, .slice none 0 0, .int .i64 0, .pointer none] 126 (0, 0))) := c4.row D3.out (by have := QL.out; omega)
 have A4 : Hid (w4.heap[gr]? = some (.cells #[.slice none 0 0, .slice none 0 0, .int .i64 0, .pointer none] 126 (0, 0))) := c4.row A3.out (by have := HGR.out; omega)
 have K4 : Hid (w4.heap[q1]? = some (.cells (S.v8 x.key) 5 (0, 0))) := c4.row K3.out (by have := GQ.out; have := B1.out.size; omega)
 have R4 := hide d4
 have k1 : IntKind.i64.wrap (x.page : Int) = (x.page : Int) := by rw [IntKind.wrap_i64]; omega
 obtain ⟨d0, d1, d2, d3⟩ := cells4 D4.out
 have f0 := frozen_of_row _ _ 0 _ _ D4.out
 have f1 := frozen_of_row _ _ 2 _ _ D4.out
 clear d4 c4 R3 A3 K3 D3 C3
 have a4 := A4.out
 obtain ⟨a0, a1, a2, a3⟩ := cells4 a4
 have fa0 := frozen_of_row _ _ 0 _ _ a4
 have fa1 := frozen_of_row _ _ 1 _ _ a4
 have fa2 := frozen_of_row _ _ 2 _ _ a4
 have fa3 := frozen_of_row _ _ 3 _ _ a4
 have ne : ¬ gv = gr := by have := QL.out; omega
 have ne2 : ¬ gr = gv := by have := QL.out; omega
 clear a4
 go_wp2_with fail
 obtain ⟨w5, hw5⟩ : ∃ w5, w5 = w4.setCell ⟨gv, 2, none⟩ (.int .i64 (x.page : Int)) := ⟨_, rfl⟩
 rw [← hw5]
 have c5 : Chg (fun k => k = gv) w4 w5 := by rw [hw5]; exact (Chg.refl (fun k => k = gv) _).setCell gv 2 _ (fun _ => rfl)
 have a5 := c5.row A4.out ne2
 have hr := set4 (Value.slice (some ⟨q1, 0, none⟩) kn kn) (.slice none 0 0) (.int .i64 (x.page : Int)) (.pointer none) a5
 have hc := chg4 w5 gr (Value.slice (some ⟨q1, 0, none⟩) kn kn) (.slice none 0 0) (.int .i64 (x.page : Int)) (.pointer none)
 refine bodyPost_ret (results_row_one Tryz.results147 _ _ gr _ rfl (loadVar126 hr)) rfl ?_
 have hz := HGR.out
 have hz1 := GRL.out
 have hql := QL.out
 have hgq := GQ.out
 have hb1 := B1.out.size
 have hgrl := block_lt_of_row A4.out
 have C14 : Chg (fun k => k = g) w w4 := (Chg.ofBelow' (p := fun k => k = g) B1.out).trans C4.out (fun _ _ e => e)
 have C15 : Chg (fun k => k = g) w w5 := C14.trans c5 (fun j hj e => by omega)
 have C16 := C15.trans hc (fun j hj e => by omega)
 refine ⟨⟨some ⟨q1, 0, none⟩, kn, kn, none, 0, 0, (x.page : Int), none⟩, rfl, ⟨⟨q1, rfl, HKN.out, HKN.out, by omega, hc.row (c5.row K4.out (by omega)) (by omega)⟩, Or.inl ⟨rfl, rfl, rfl, NO.out⟩, rfl⟩, rfl, ?_, C16⟩
 exact (R4.out.chg c5 (by omega) (by omega)).chg hc (by omega) (by omega)

theorem readEntry_any (g t k lv : Nat) (es : List S.Ent) (x : S.Ent) (w : World) (h256 : lv < 256) (hx : es[k]? = some x) (hok : S.EntOk lv x) (hr : RdIs w g t ⟨S.nodeB lv es, S.npl lv es k, 0, 0⟩) :
  Calls Tryz.prog 147 #[.pointer (some ⟨g, 0, none⟩), .int .i64 (lv : Int)] w fun e w' => ∃ y, e = .returned (.agg (encEn y).toArray) ∧ EnNew w.heap.size w' y x ∧ y.nd = none ∧ RdIs w' g t ⟨S.nodeB lv es, S.npl lv es (k + 1), 0, 0⟩ ∧ Chg (fun k => k = g) w w' := by
 by_cases e : lv = 0
 ·subst e
  exact readEntry_0 g t k es x w hx hok hr
 ·exact readEntry_n g t k lv es x w e h256 hx hok hr
namespace S
structure NodeOk (lv : Nat) (es : List Ent) : Prop where
 ent : ∀ x ∈ es, EntOk lv x
 up : S.up (es.map (·.key))
 lvl : lv < 256
 size : essz es ≤ 1019
 leaf : lv = 0 → ∀ x ∈ es, x.key ≠ []
 node : lv ≠ 0 → ∃ x r, es = x :: r ∧ x.key = [] ∧ ∀ y ∈ es, y.page ≠ 0 ∧ y.page < 512
theorem NodeOk.len {lv : Nat} {es : List Ent} (h : NodeOk lv es) : es.length ≤ 254 := by have := essz_ge es; have := h.size; omega
theorem NodeOk.text {lv : Nat} {es : List Ent} (h : NodeOk lv es) : (nodeB lv es).length ≤ 1022 := by rw [nodeB_length h.ent]; have := h.size; omega
theorem NodeOk.lt {lv : Nat} {es : List Ent} (h : NodeOk lv es) {i j : Nat} (hj : j < es.length) (hij : i < j) : kcmp es[i].key es[j].key < 0 := by
 have := up_lt h.up (i := i) (j := j) (by rw [List.length_map]; exact hj) hij
 simpa using this
theorem NodeOk.first {lv : Nat} {es : List Ent} (h : NodeOk lv es) {i : Nat} (hi : i < es.length) : (es[i].key = []) ↔ (lv ≠ 0 ∧ i = 0) := by
 by_cases hl : lv = 0
 ·exact ⟨fun e => absurd e (h.leaf hl _ (List.getElem_mem hi)), fun e => absurd hl e.1⟩
 ·obtain ⟨x, r, e, hx, _⟩ := h.node hl
  constructor
  ·intro hk
   refine ⟨hl, ?_⟩
   rcases Nat.eq_zero_or_pos i with e0 | e0
   ·exact e0
   ·have h1 := h.lt hi e0
    rw [hk] at h1
    subst e
    simp only [List.getElem_cons_zero, hx] at h1
    rw [kcmp_nil] at h1
    omega
  ·rintro ⟨_, rfl⟩
   subst e
   exact hx
end S
theorem compare_q {v u : Value} {xs ys : List UInt8} {w : World} (n : Nat) (h1 : SliceAt w v xs) (h2 : SliceAt w u ys) : Calls Tryz.prog 79 #[v, u] (w.drewN n) fun e w' => e = .returned (.int .i64 (S.kcmp xs ys)) ∧ w' = w.drewN n :=
 (compare_any v u xs ys (w.drewN n) (h1.below (belowN (Below.refl _ _) n) (Nat.le_refl _)) (h2.below (belowN (Below.refl _ _) n) (Nat.le_refl _))).mono fun _ _ ⟨e, h⟩ => ⟨e, h.symm⟩
set_option maxHeartbeats 8000000 in
set_option maxRecDepth 10000 in
theorem isWhole_any (g lv : Nat) (es : List S.Ent) (w : World) (hn : NodeIs w g lv es) (ho : S.NodeOk lv es) :
  Calls Tryz.prog 148 #[.pointer (some ⟨g, 0, none⟩)] w fun e w' => e = .returned (.bool true) ∧ Below w.heap.size w w' := by
 obtain ⟨v, d, h1, h2, h3⟩ := hn.is
 have HO := hide ho
 have hlen := ho.len
 have hlv := ho.lvl
 have hL : d.length = es.length := h3.1
 obtain ⟨n, hnn⟩ : ∃ n, n = es.length := ⟨_, rfl⟩
 rw [← hnn] at hlen hL
 have HN := hide hnn
 have hl6 := block_lt_of_row h1
 obtain ⟨ao, cap, rfl, _⟩ := h2.form
 rw [hL] at h1
 obtain ⟨c0, c1⟩ := cells2 h1
 have AT : Hid (∀ i (hi : i < es.length), ∃ b off x, ao = some ⟨b, off, none⟩ ∧ n ≤ cap ∧ d[i]? = some x ∧ b < w.heap.size ∧ EnIs w x es[i] ∧ (w.cell? ⟨b, off + i * 4, none⟩ = some (.slice x.ka x.kn x.kc) ∧ w.cell? ⟨b, off + i * 4 + 1, none⟩ = some (.slice x.va x.vn x.vc) ∧ w.cell? ⟨b, off + i * 4 + 2, none⟩ = some (.int .i64 x.pg) ∧ w.cell? ⟨b, off + i * 4 + 3, none⟩ = some (.pointer x.nd))) := fun i hi => by
  have hd1 : i < d.length := by omega
  obtain ⟨b, off, cap', e, q1, q2, q3⟩ := h2.at encEn_len i d[i] (List.getElem?_eq_getElem hd1)
  injection e with e1 e2 e3
  exact ⟨b, off, d[i], e1, by omega, List.getElem?_eq_getElem hd1, q2, h3.2 i _ _ (List.getElem?_eq_getElem hd1) (List.getElem?_eq_getElem hi), bcell q3⟩
 have C0 := hide c0
 have C1 := hide c1
 clear hn ho h1 h2 h3 hL hnn
 go_enter Tryz.func148, Tryz.ntmps148
 go_wp2_with fail
 clear c0 c1
 go_loopw [11] (fun i wr => ∃ k : Nat, k ≤ n ∧ i = .int .i64 (k : Int) ∧ Hid (Below w.heap.size w wr)) (fun i _ => n - (intOf i).toNat)
 case atStart => exact ⟨0, by omega, rfl, Below.refl _ _⟩
 case round =>
 obtain ⟨k, hk, rfl, BW⟩ := hrel
 by_cases hlt : k < n
 ·have hke : k < es.length := by have := HN.out; omega
  obtain ⟨b, off, x, rfl, hcap, hx, hb, hi, t0, t1, t2, t3⟩ := AT.out k hke
  have u0 := (BW.out.cell (p := ⟨b, off + k * 4, none⟩) hb).trans t0
  have u1 := (BW.out.cell (p := ⟨b, off + k * 4 + 1, none⟩) hb).trans t1
  have u2 := (BW.out.cell (p := ⟨b, off + k * 4 + 2, none⟩) hb).trans t2
  have u3 := (BW.out.cell (p := ⟨b, off + k * 4 + 3, none⟩) hb).trans t3
  have v0 := (BW.out.cell (p := ⟨g, 0, none⟩) hl6).trans C0.out
  have v1 := (BW.out.cell (p := ⟨g, 1, none⟩) hl6).trans C1.out
  obtain ⟨ka, kn, kc, va, vn, vc, pg, nd⟩ := x
  simp only at u0 u1 u2 u3
  have hkI : (k : Int) < (n : Int) := by omega
  have hk0 : (0 : Int) ≤ (k : Int) := by omega
  have hnI : (n : Int) ≤ 254 := by omega
  have HPG : Hid (pg = (es[k].page : Int)) := hi.page
  have HKN : Hid (kn = es[k].key.length) := by obtain ⟨_, _, _, e, e2, _⟩ := hi.key.form; injection e with _ e' _; exact e'.trans e2
  have KEY := hide (hi.key.below BW.out (Nat.le_refl _))
  have FST := hide (HO.out.first hke)
  clear t0 t1 t2 t3 hi hx
  go_upto_region 4 with fail
  obtain ⟨W, hW⟩ : ∃ W, W = wr.alloc (.cells #[.slice ka kn kc, .slice va vn vc, .int .i64 pg, .pointer nd] 126) := ⟨_, rfl⟩
  rw [← hW]
  have bW : Below wr.heap.size wr W := by rw [hW]; exact (Below.refl _ _).alloc (Nat.le_refl _) _
  have rW : W.heap[wr.heap.size]? = some (.cells #[.slice ka kn kc, .slice va vn vc, .int .i64 pg, .pointer nd] 126 (0, 0)) := by rw [hW]; exact heap_alloc_new _ _
  obtain ⟨gb, hgb⟩ : ∃ gb, gb = wr.heap.size := ⟨_, rfl⟩
  rw [← hgb] at rW ⊢
  obtain ⟨x0, x1, x2, x3⟩ := cells4 rW
  have y0 := (bW.cell (p := ⟨g, 0, none⟩) (Nat.lt_of_lt_of_le hl6 BW.out.size)).trans v0
  have y1 := (bW.cell (p := ⟨g, 1, none⟩) (Nat.lt_of_lt_of_le hl6 BW.out.size)).trans v1
  have BWW := hide (BW.out.trans (bW.mono BW.out.size))
  have KEYW := hide (KEY.out.below bW (Nat.le_refl _))
  clear hW bW rW hgb u0 u1 u2 u3 v0 v1 x1 x3
  rcases Nat.eq_zero_or_pos lv with hl0 | hl0
  ·subst hl0
   have kne : ¬ (kn : Int) = 0 := fun e => by
    have : es[k].key = [] := List.length_eq_zero_iff.1 (by have := HKN.out; omega)
    exact absurd (FST.out.1 this).1 (by simp)
   have kne2 : ((kn : Int) == 0) = false := beq_false_of_ne kne
   rcases Nat.eq_zero_or_pos k with e0 | e0
   ·have hq2 : decide ((0 : Int) < (k : Int)) = false := decide_eq_false (by omega)
    have hq3 : decide (0 < k) = false := decide_eq_false (by omega)
    go_wp2_with fail
    go_quiet (fail)
    go_wp2_with fail
    go_roundw
    case rel => exact ⟨k + 1, by omega, by go_num, (belowN BWW.out _)⟩
    case measure => simp [intOf]; omega
   ·have hq2 : decide ((0 : Int) < (k : Int)) = true := decide_eq_true (by omega)
    have hq3 : decide (0 < k) = true := decide_eq_true (by omega)
    have hk1e : k - 1 < es.length := by omega
    obtain ⟨b', off', x', hbo, _, hx', hb', hi', t0, t1, t2, t3⟩ := AT.out (k - 1) hk1e
    obtain ⟨rfl, rfl⟩ : b = b' ∧ off = off' := by injection hbo with hbo; injection hbo with e1 e2; exact ⟨e1, e2⟩
    obtain ⟨ka', kn', kc', va', vn', vc', pg', nd'⟩ := x'
    have z0 := (BWW.out.cell (p := ⟨b, off + (k - 1) * 4, none⟩) hb).trans t0
    have KEY2 := hide (hi'.key.below BWW.out (Nat.le_refl _))
    have hneg := HO.out.lt hke (show k - 1 < k by omega)
    obtain ⟨c, hc⟩ : ∃ c, c = S.kcmp es[k - 1].key es[k].key := ⟨_, rfl⟩
    rw [← hc] at hneg
    have CQ : Hid (∀ m, Calls Tryz.prog 79 #[.slice ka' kn' kc', .slice ka kn kc] (W.drewN m) fun e w' => e = .returned (.int .i64 c) ∧ w' = W.drewN m) := fun m => by rw [hc]; exact compare_q m KEY2.out KEYW.out
    have hc2 : decide (0 ≤ c) = false := decide_eq_false (by omega)
    have hc3 : ¬ (0 ≤ c) := by omega
    have qk1 : (k : Int) - 1 = ((k - 1 : Nat) : Int) := by omega
    obtain ⟨k1, hk1⟩ : ∃ k1, k1 = k - 1 := ⟨_, rfl⟩
    rw [← hk1] at z0 qk1
    have qk2 : (0 : Int) ≤ (k1 : Int) := by omega
    have qk3 : (k1 : Int) < (n : Int) := by omega
    have qk4 : IntKind.i64.wrap (k1 : Int) = (k1 : Int) := by rw [IntKind.wrap_i64]; omega
    clear t0 t1 t2 t3 hi' hx' hb' hbo hc hk1
    go_wp2_with fail
    go_quiet ((go_at_call 79; exact Calls.quiet_of_same (CQ.out _)))
    go_wp2_with fail
    go_roundw
    case rel => exact ⟨k + 1, by omega, by go_num, (belowN BWW.out _)⟩
    case measure => simp [intOf]; omega
  ·have hlp : decide ((0 : Int) < (lv : Int)) = true := decide_eq_true (by omega)
   have hlp2 : decide (0 < lv) = true := decide_eq_true (by omega)
   have hlp3 : (0 : Int) < (lv : Int) := by omega
   have pgn : ¬ pg = 0 := by
    obtain ⟨_, _, _, _, h⟩ := HO.out.node (by omega)
    have := (h _ (List.getElem_mem hke)).1
    have := HPG.out
    omega
   have pgn2 : (pg == 0) = false := beq_false_of_ne pgn
   rcases Nat.eq_zero_or_pos k with e0 | e0
   ·have hkn0 : kn = 0 := by rw [HKN.out, FST.out.2 ⟨by omega, e0⟩]; rfl
    have hkz : (k : Int) = 0 := by omega
    have hkz2 : ((k : Int) == 0) = true := by rw [hkz]; rfl
    have hkz3 : (k == 0) = true := by rw [e0]; rfl
    have kn1 : ((kn : Int) == 0) = true := by rw [hkn0]; rfl
    have kn2 : (kn == 0) = true := by rw [hkn0]; rfl
    clear hkz hkn0
    have hq2 : decide ((0 : Int) < (k : Int)) = false := decide_eq_false (by omega)
    have hq3 : decide (0 < k) = false := decide_eq_false (by omega)
    go_wp2_with fail
    go_quiet (fail)
    go_wp2_with fail
    go_roundw
    case rel => exact ⟨k + 1, by omega, by go_num, (belowN BWW.out _)⟩
    case measure => simp [intOf]; omega
   ·have kne : ¬ (kn : Int) = 0 := fun e => by
     have : es[k].key = [] := List.length_eq_zero_iff.1 (by have := HKN.out; omega)
     have := (FST.out.1 this).2
     omega
    have kne2 : ((kn : Int) == 0) = false := beq_false_of_ne kne
    have hkz : ¬ (k : Int) = 0 := by omega
    have hkz2 : ((k : Int) == 0) = false := beq_false_of_ne hkz
    have hkz3 : (k == 0) = false := beq_false_of_ne (by omega)
    have hq2 : decide ((0 : Int) < (k : Int)) = true := decide_eq_true (by omega)
    have hq3 : decide (0 < k) = true := decide_eq_true (by omega)
    have hk1e : k - 1 < es.length := by omega
    obtain ⟨b', off', x', hbo, _, hx', hb', hi', t0, t1, t2, t3⟩ := AT.out (k - 1) hk1e
    obtain ⟨rfl, rfl⟩ : b = b' ∧ off = off' := by injection hbo with hbo; injection hbo with e1 e2; exact ⟨e1, e2⟩
    obtain ⟨ka', kn', kc', va', vn', vc', pg', nd'⟩ := x'
    have z0 := (BWW.out.cell (p := ⟨b, off + (k - 1) * 4, none⟩) hb).trans t0
    have KEY2 := hide (hi'.key.below BWW.out (Nat.le_refl _))
    have hneg := HO.out.lt hke (show k - 1 < k by omega)
    obtain ⟨c, hc⟩ : ∃ c, c = S.kcmp es[k - 1].key es[k].key := ⟨_, rfl⟩
    rw [← hc] at hneg
    have CQ : Hid (∀ m, Calls Tryz.prog 79 #[.slice ka' kn' kc', .slice ka kn kc] (W.drewN m) fun e w' => e = .returned (.int .i64 c) ∧ w' = W.drewN m) := fun m => by rw [hc]; exact compare_q m KEY2.out KEYW.out
    have hc2 : decide (0 ≤ c) = false := decide_eq_false (by omega)
    have hc3 : ¬ (0 ≤ c) := by omega
    have qk1 : (k : Int) - 1 = ((k - 1 : Nat) : Int) := by omega
    obtain ⟨k1, hk1⟩ : ∃ k1, k1 = k - 1 := ⟨_, rfl⟩
    rw [← hk1] at z0 qk1
    have qk2 : (0 : Int) ≤ (k1 : Int) := by omega
    have qk3 : (k1 : Int) < (n : Int) := by omega
    have qk4 : IntKind.i64.wrap (k1 : Int) = (k1 : Int) := by rw [IntKind.wrap_i64]; omega
    clear t0 t1 t2 t3 hi' hx' hb' hbo hc hk1
    go_wp2_with fail
    go_quiet ((go_at_call 79; exact Calls.quiet_of_same (CQ.out _)))
    go_wp2_with fail
    go_roundw
    case rel => exact ⟨k + 1, by omega, by go_num, (belowN BWW.out _)⟩
    case measure => simp [intOf]; omega
 ·obtain rfl : k = n := by omega
  have v0 := (BW.out.cell (p := ⟨g, 0, none⟩) hl6).trans C0.out
  have v1 := (BW.out.cell (p := ⟨g, 1, none⟩) hl6).trans C1.out
  rcases Nat.eq_zero_or_pos lv with hl0 | hl0
  ·subst hl0
   go_wp2_with fail
   go_ret
   exact ⟨rfl, BW.out⟩
  ·have hl1 : ¬ (lv : Int) = 0 := by omega
   have hl2 : ((lv : Int) == 0) = false := beq_false_of_ne hl1
   have hk0 : (0 : Int) < (k : Int) := by
    obtain ⟨x, r, e, _⟩ := HO.out.node (by omega)
    have := HN.out
    rw [e] at this
    simp at this
    omega
   have hk1 : decide ((0 : Int) < (k : Int)) = true := decide_eq_true hk0
   go_wp2_with fail
   go_ret
   refine ⟨?_, BW.out⟩
   simp
   omega
theorem info126 : (Tryz.prog.info? 126).map (fun i => (i.zero, i.size, i.bytes)) = some (some (.agg #[.slice none 0 0, .slice none 0 0, .int .i64 0, .pointer none]), 4, 64) := by kernel_rfl
theorem flatEn_length (d : List EnV) : (d.flatMap encEn).length = d.length * 4 := by
 induction d with
 | nil => rfl
 | cons x r ih => rw [List.flatMap_cons, List.length_append, ih, encEn_len, List.length_cons]; omega
theorem encEn_one (x : EnV) : ∀ v ∈ encEn x, v.oneCell' = true := by
 intro v hv
 simp [encEn] at hv
 rcases hv with rfl | rfl | rfl | rfl <;> rfl
theorem flatEn_one (d : List EnV) : ∀ v ∈ d.flatMap encEn, v.oneCell' = true := by
 intro v hv
 rw [List.mem_flatMap] at hv
 obtain ⟨x, _, hv⟩ := hv
 exact encEn_one x v hv
def EnRow (B : Nat) (w : World) (v : Value) (d : List EnV) : Prop := w.ownsRow B 126 4 v d.length (d.flatMap encEn)
theorem EnRow.nil (B : Nat) (w : World) : EnRow B w (.slice none 0 0) [] := ⟨rfl, Or.inl ⟨rfl, rfl⟩⟩
theorem EnRow.els {B : Nat} {w : World} {v : Value} {d : List EnV} (h : EnRow B w v d) (hl : d.length ≤ 1000000) : Els encEn w v d := by
 rcases h.2 with ⟨rfl, h0⟩ | ⟨g, cap, cur, rfl, hB, hr, h1, h2, h3, h4⟩
 ·exact Or.inl ⟨rfl, List.length_eq_zero_iff.1 h0⟩
 ·refine Or.inr (Or.inr ⟨g, 0, cap, rfl, h1, hl, block_lt_of_row hr, fun j u hu => ?_⟩)
  have hj : j < d.length * 4 := by have := (List.getElem?_eq_some_iff.1 hu).1; rw [flatEn_length] at this; exact this
  rw [Nat.zero_add, cell_of_row w g j _ _ _ hr]
  rw [← h4, List.getElem?_take, if_pos hj] at hu
  simpa using hu
theorem EnRow.form {B : Nat} {w : World} {v : Value} {d : List EnV} (h : EnRow B w v d) : ∃ ao cap, v = .slice ao d.length cap := by
 rcases h.2 with ⟨rfl, h0⟩ | ⟨g, cap, cur, rfl, _⟩
 ·exact ⟨none, 0, by rw [h0]⟩
 ·exact ⟨_, _, rfl⟩
theorem EnRow.blk {B : Nat} {w : World} {v : Value} {d : List EnV} (h : EnRow B w v d) {k : Nat} (hk : v.ownBlock = some k) : B ≤ k ∧ k < w.heap.size ∧ ∃ cur, w.heap[k]? = some (.cells cur 126 (0, 0)) := by
 rcases h.2 with ⟨rfl, h0⟩ | ⟨g, cap, cur, rfl, hB, hr, _⟩
 ·simp [Value.ownBlock] at hk
 ·simp only [Value.ownBlock, Option.some.injEq] at hk
  subst hk
  exact ⟨hB, block_lt_of_row hr, cur, hr⟩
theorem EnRow.apart {B : Nat} {w : World} {v : Value} {d : List EnV} (h : EnRow B w v d) {k : Nat} {c : Array Value} {t : TypeId} {p : Nat × Nat} (hk : w.heap[k]? = some (.cells c t p)) (ht : t ≠ 126) : v.ownBlock ≠ some k := fun e => by
 obtain ⟨_, _, cur, hr⟩ := h.blk e
 rw [hk] at hr
 injection hr with hr
 injection hr with _ h2 _
 exact ht h2
theorem EnRow.chg {p : Nat → Prop} {B : Nat} {w W : World} {v : Value} {d : List EnV} (h : EnRow B w v d) (hc : Chg p w W) (hp : ∀ k, v.ownBlock = some k → ¬ p k) : EnRow B W v d := by
 refine ⟨h.1, ?_⟩
 rcases h.2 with h0 | ⟨g, cap, cur, rfl, hB, hr, h1⟩
 ·exact Or.inl h0
 ·exact Or.inr ⟨g, cap, cur, rfl, hB, hc.row hr (hp g rfl), h1⟩
theorem EnRow.below {B : Nat} {w W : World} {v : Value} {d : List EnV} (h : EnRow B w v d) (hb : Below w.heap.size w W) : EnRow B W v d := h.chg (p := fun _ => False) (Chg.ofBelow' hb) (fun _ _ e => e)
theorem run_append_ens (w : World) (B : Nat) (v u : Value) (d y : List EnV) (ty : TypeId) (hown : EnRow B w v d) (hu : Els encEn w u y) (hl : d.length + y.length ≤ 100000) (hB : B ≤ w.heap.size) :
  ∃ v' w', (Builtin.append_ #[122, 122] ty #[v, u]).run Tryz.prog w = .ok v' w' ∧ (EnRow B w' v' (d ++ y) ∧ Chg (fun k => v.ownBlock = some k) w w') := by
 obtain ⟨i, hi, hz0, hz1, hz2⟩ := info_parts info126
 have key : ∀ (a : Addr) (c : Nat), (∀ j x, (y.flatMap encEn)[j]? = some x → w.cell? (a.add j) = some x) → u = .slice (some a) y.length c → ∃ v' w', (Builtin.append_ #[122, 122] ty #[v, u]).run Tryz.prog w = .ok v' w' ∧ (EnRow B w' v' (d ++ y) ∧ Chg (fun k => v.ownBlock = some k) w w') := fun a c hc hu => by
  obtain ⟨v', w', h1, h2, h3, h4⟩ := run_append_own (P := Tryz.prog) w B 122 ty 126 i (.agg #[.slice none 0 0, .slice none 0 0, .int .i64 0, .pointer none]) 4 64 Tryz.underlying122 hi hz0 hz1 hz2 rfl (by omega) v d.length (d.flatMap encEn) hown a y.length c (y.flatMap encEn) (flatEn_length y) hc (flatEn_one y) (by simp [maxLen]; omega) (by omega) hB
  have h2b : EnRow B w' v' (d ++ y) := by unfold EnRow; rw [List.length_append, List.flatMap_append]; exact h2
  exact ⟨v', w', by rw [hu]; exact h1, h2b, (Chg.refl _ w).grown h3 (fun k _ e => e)⟩
 rcases hu with ⟨rfl, rfl⟩ | ⟨a, cap, rfl, rfl⟩ | ⟨b, off, cap, rfl, h1, h2, h3, h4⟩
 ·exact ⟨v, w, run_append_owned_none (P := Tryz.prog) (w := w) B 122 ty 126 i 4 Tryz.underlying122 hi v d.length (d.flatMap encEn) hown, by rw [List.append_nil]; exact hown, Chg.refl _ _⟩
 ·exact key a cap (fun j x h => by simp at h) rfl
 ·exact key ⟨b, off, none⟩ cap (fun j x h => by rw [Addr.add_lit]; exact h4 j x h) rfl
theorem one_els {w : World} {g : Nat} {y : EnV} (h : w.heap[g]? = some (.cells (encEn y).toArray 126 (0, 0))) : Els encEn w (.slice (some ⟨g, 0, none⟩) 1 1) [y] :=
 Or.inr (Or.inr ⟨g, 0, 1, rfl, Nat.le_refl _, by simp, block_lt_of_row h, fun j u hu => by
  rw [Nat.zero_add, cell_of_row w g j _ _ _ h]
  simpa using hu⟩)
structure NodeNew (B : Nat) (w : World) (g lv : Nat) (es : List S.Ent) : Prop where
 is : ∃ v d, w.heap[g]? = some (.cells #[.int .i64 (lv : Int), v] 124 (0, 0)) ∧ EnRow B w v d ∧ d.length = es.length ∧ ∀ (i : Nat) x e, d[i]? = some x → es[i]? = some e → EnNew B w x e ∧ x.nd = none
 at_ : B ≤ g
theorem NodeNew.node {B : Nat} {w : World} {g lv : Nat} {es : List S.Ent} (h : NodeNew B w g lv es) (ho : ∀ x ∈ es, S.EntOk lv x) (hl : es.length ≤ 1000000) : NodeIs w g lv es := by
 obtain ⟨v, d, h1, h2, h3, h4⟩ := h.is
 exact ⟨v, d, h1, h2.els (by omega), h3, fun i x e hx he => (h4 i x e hx he).1.is (by have := (ho e (List.mem_of_getElem? he)).key; omega) (by have := (ho e (List.mem_of_getElem? he)).val; omega)⟩
theorem NodeNew.below {B : Nat} {w W : World} {g lv : Nat} {es : List S.Ent} (h : NodeNew B w g lv es) (hb : Below w.heap.size w W) : NodeNew B W g lv es := by
 obtain ⟨v, d, h1, h2, h3, h4⟩ := h.is
 exact ⟨⟨v, d, (hb.block g (block_lt_of_row h1)).trans h1, h2.below hb, h3, fun i x e hx he => ⟨(h4 i x e hx he).1.below hb, (h4 i x e hx he).2⟩⟩, h.at_⟩
theorem bs122 (W : World) (y : EnV) : (Instr.buildSlice 122 1 #[(0, .agg #[.slice y.ka y.kn y.kc, .slice y.va y.vn y.vc, .int .i64 y.pg, .pointer y.nd])]).run Tryz.prog W = .ok (.slice (some ⟨W.heap.size, 0, none⟩) 1 1) (W.alloc (.cells (encEn y).toArray 126)) := by
 go_simp
 rfl
structure NodeMid (w w' : World) (gn gd gx lv k : Nat) (es : List S.Ent) : Prop where
 row : ∃ v d, w'.heap[gn]? = some (.cells #[.int .i64 (lv : Int), v] 124 (0, 0)) ∧ EnRow w.heap.size w' v d ∧ d.length = k ∧ ∀ (i : Nat) x e, d[i]? = some x → es[i]? = some e → EnNew w.heap.size w' x e ∧ x.nd = none
 rd : RdIs w' gd gx ⟨S.nodeB lv es, S.npl lv es k, 0, 0⟩
 base : Below w.heap.size w w'
set_option maxHeartbeats 8000000 in
set_option maxRecDepth 10000 in
theorem readNode_any (B gs n lv : Nat) (pg : Nat → List UInt8) (es : List S.Ent) (w : World) (hr : Rds B w gs pg) (hn : n < 512) (hp : pg n = S.sheetB (S.nodeB lv es)) (ho : S.NodeOk lv es) :
  Calls Tryz.prog 91 #[.pointer (some ⟨gs, 0, none⟩), .int .i64 (n : Int), .int .i64 (lv : Int)] w fun e w' => ∃ g, e = .returned (.tuple #[.pointer (some ⟨g, 0, none⟩), .int .i64 0]) ∧ NodeNew w.heap.size w' g lv es ∧ Below w.heap.size w w' := by
 have H := hide hr
 have HN := hide hn
 have HP := hide hp
 have HO := hide ho
 have hlv := ho.lvl
 have hlen := ho.len
 have E1 := hide (S.node_level lv es hlv)
 have E2 := hide (S.node_count lv es (by omega))
 have TL := hide ho.text
 obtain ⟨N, hN⟩ : ∃ N, N = es.length := ⟨_, rfl⟩
 rw [← hN] at hlen E2
 have HNN := hide hN
 clear hr hn hp ho hN
 go_enter Tryz.func91, Tryz.ntmps91
 go_wp2_with fail
 refine (readSheet_any B gs n pg _ w H.out HN.out HP.out TL.out).mono ?_
 rintro e w1 ⟨gd, gx, rfl, g1, x1, r1, b1⟩
 have R1 := hide r1
 have B1 := hide b1
 have GD : Hid (w.heap.size ≤ gd ∧ w.heap.size ≤ gx) := ⟨g1, x1⟩
 clear g1 x1 r1 b1 H
 go_wp2_with fail
 refine (rnumber_is gd gx w1 E1.out R1.out).mono ?_
 rintro e w2 ⟨rfl, d2, c2⟩
 have B2 : Hid (Below w.heap.size w w2) := B1.out.trans (c2.base B1.out.size GD.out.1)
 have R2 := hide d2
 have k1 : IntKind.i64.wrap (lv : Int) = (lv : Int) := by rw [IntKind.wrap_i64]; omega
 clear d2 c2 R1 B1
 go_wp2_with fail
 obtain ⟨w3, hw3⟩ : ∃ w3, w3 = w2.alloc (.cells #[.int .i64 (lv : Int), .slice none 0 0] 124) := ⟨_, rfl⟩
 rw [← hw3]
 have b3 : Below w2.heap.size w2 w3 := by rw [hw3]; exact (Below.refl _ _).alloc (Nat.le_refl _) _
 have r3 : w3.heap[w2.heap.size]? = some (.cells #[.int .i64 (lv : Int), .slice none 0 0] 124 (0, 0)) := by rw [hw3]; exact heap_alloc_new _ _
 obtain ⟨gn, hgn⟩ : ∃ gn, gn = w2.heap.size := ⟨_, rfl⟩
 rw [← hgn] at r3 ⊢
 have R3 := hide (R2.out.below b3)
 have A3 := hide r3
 have B3 := hide (B2.out.trans (b3.mono B2.out.size))
 have GN : Hid (w.heap.size ≤ gn ∧ gd ≠ gn ∧ gx ≠ gn) := ⟨by rw [hgn]; exact B2.out.size, by have := R2.out.lt; omega, by have := R2.out.tlt; omega⟩
 clear hw3 b3 r3 hgn R2 B2
 refine (rnumber_is gd gx w3 E2.out R3.out).mono ?_
 rintro e w4 ⟨rfl, d4, c4⟩
 have M0 : Hid (NodeMid w w4 gn gd gx lv 0 es) := ⟨⟨_, [], c4.row A3.out (fun e => GN.out.2.1 e.symm), EnRow.nil _ _, rfl, fun i x e hx => by simp at hx⟩, d4, B3.out.trans (c4.base B3.out.size GD.out.1)⟩
 clear d4 c4 R3 A3 B3
 go_wp2_with fail
 go_loopw [27] (fun i wr => ∃ k : Nat, k ≤ N ∧ i = .int .u64 (k : Int) ∧ Hid (NodeMid w wr gn gd gx lv k es)) (fun i _ => N - (intOf i).toNat)
 case atStart => exact ⟨0, by omega, rfl, M0⟩
 case round =>
 clear M0
 obtain ⟨k, hk, rfl, M⟩ := hrel
 by_cases hlt : k < N
 ·have hke : k < es.length := by have := HNN.out; omega
  obtain ⟨v, d, rn, er, dl, en⟩ := M.out.row
  have RN := hide rn
  have ER := hide er
  have DL := hide dl
  have EN := hide en
  have RD := hide M.out.rd
  have BW := hide M.out.base
  have XOK := hide (HO.out.ent _ (List.getElem_mem hke))
  have XAT : Hid (es[k]? = some es[k]) := List.getElem?_eq_getElem hke
  obtain ⟨ao, cap, hv⟩ := er.form
  subst hv
  obtain ⟨dn, hdn⟩ : ∃ dn, dn = d.length := ⟨_, rfl⟩
  rw [← hdn] at RN ER
  have HDN := hide hdn
  have hkI : (k : Int) < (N : Int) := by omega
  clear rn er dl en M hdn
  go_wp2_with fail
  refine wp_region_noPanic ?_
  refine wp_region_held_drew (S := (fun W => W.cell? ⟨gn, 0, none⟩ = some (.int .i64 (lv : Int)))) follows (cells2 RN.out).1 (fun hHeld => ?_)
  have RNd : Hid (wr.drew.heap[gn]? = some (.cells #[.int .i64 (lv : Int), .slice ao dn cap] 124 (0, 0))) := RN.out
  have ERd : Hid (EnRow w.heap.size wr.drew (.slice ao dn cap) d) := ER.out
  have ENd : Hid (∀ (i : Nat) x e, d[i]? = some x → es[i]? = some e → EnNew w.heap.size wr.drew x e ∧ x.nd = none) := fun i x e hx he => ⟨(EN.out i x e hx he).1.below (Below.refl _ _).drew, (EN.out i x e hx he).2⟩
  have RDd : Hid (RdIs wr.drew gd gx ⟨S.nodeB lv es, S.npl lv es k, 0, 0⟩) := RD.out.drewN 1
  have BWd : Hid (Below w.heap.size w wr.drew) := BW.out.drew
  clear RN ER EN RD BW
  generalize wr.drew = Z1 at RNd ERd ENd RDd BWd hHeld ⊢
  refine tq 0 ?_
  simp only [Act.put, uB, uC, uD]
  refine tq 1 ?_
  simp only [Act.put, uB, uC, uD]
  refine tq 2 ?_
  simp only [Act.put, uB, uC, uD]
  refine tq 3 ?_
  simp only [Act.put, uB, uC, uD]
  refine tq 5 ?_
  simp only [Act.put, uB, uC, uD]
  refine tq 6 ?_
  simp only [Act.put, uB, uC, uD]
  refine tq 7 ?_
  simp only [Act.put, uB, uC, uD]
  refine tq 8 ?_
  simp only [Act.put, uB, uC, uD]
  refine tk 9 ?_ rfl (Or.inl ⟨by rfl, ?_⟩) ?_
  rotate_left
  ·intro w hSw
   have c4 := hSw
   clear hSw
   go_simp
   all_goals with_reducible rfl
  simp only [Act.put, uB, uC, uD]
  refine rdy [4, 10] ?_
  refine AllReadyH.cons (o := ⟨_, _, _, _, _, _⟩) rfl (fun K hK => ?_) ?_
  focus
   have c1 := (cells2 RNd.out).2
   go_simp
   refine hK.out _ _ (by assumption) (fun hHeld => ?_)
   clear hK K c1
   try simp only [Act.put, uB, uC, uD]
   refine r1 10 fun K hK => ?_
   go_simp
   refine (readEntry_any gd gx k lv es es[k] Z1 hlv XAT.out XOK.out RDd.out).mono ?_
   rintro e Z2 ⟨y, rfl, ey, yn, rd2, c2⟩
   have RN2 : Hid (Z2.heap[gn]? = some (.cells #[.int .i64 (lv : Int), .slice ao dn cap] 124 (0, 0))) := c2.row RNd.out (fun e => GN.out.2.1 e.symm)
   have ER2 : Hid (EnRow w.heap.size Z2 (.slice ao dn cap) d) := ERd.out.chg c2 (fun k hk e => ERd.out.apart RDd.out.row (by decide) (by rw [← e]; exact hk))
   have EN2 : Hid (∀ (i : Nat) x e, d[i]? = some x → es[i]? = some e → EnNew w.heap.size Z2 x e ∧ x.nd = none) := fun i x e hx he => ⟨(ENd.out i x e hx he).1.chg c2 (fun k c hk e => ne_of_type hk RDd.out.row (by decide) e), (ENd.out i x e hx he).2⟩
   have EY : Hid (EnNew w.heap.size Z2 y es[k] ∧ y.nd = none) := ⟨ey.mono BWd.out.size, yn⟩
   have BW2 : Hid (Below w.heap.size w Z2) := BWd.out.trans (c2.base BWd.out.size GD.out.1)
   have RD2 := hide rd2
   have S2 := (cells2 RN2.out).1
   clear ey yn rd2 c2 RNd ERd ENd RDd BWd
   refine hK.out _ _ S2 (fun hHeld => ?_)
   clear hK K S2
   try simp only [Act.put, uB, uC, uD]
   obtain ⟨ka, kn, kc, va, vn, vc, pgy, nd⟩ := y
   simp only [encEn]
   refine rdy [11] ?_
   refine step_buildSlice (o := ⟨_, _, _, _, _, _⟩) rfl rfl 122 1 [(0, Operand.tmp 39)] rfl _ _ (bs122 Z2 ⟨ka, kn, kc, va, vn, vc, pgy, nd⟩) AllReadyH.nil ⟨(cells2 ((heap_alloc_old _ _ (block_lt_of_row RN2.out)).trans RN2.out)).1, fun hHeld => ?_⟩
   try simp only [Act.put, uB, uC, uD]
   obtain ⟨Y, hY⟩ : ∃ Y : EnV, Y = ⟨ka, kn, kc, va, vn, vc, pgy, nd⟩ := ⟨_, rfl⟩
   rw [← hY] at EY hHeld ⊢
   obtain ⟨Z3, hZ3⟩ : ∃ Z3, Z3 = Z2.alloc (.cells (encEn Y).toArray 126) := ⟨_, rfl⟩
   rw [← hZ3] at hHeld ⊢
   have b3 : Below Z2.heap.size Z2 Z3 := by rw [hZ3]; exact (Below.refl _ _).alloc (Nat.le_refl _) _
   have r3 : Z3.heap[Z2.heap.size]? = some (.cells (encEn Y).toArray 126 (0, 0)) := by rw [hZ3]; exact heap_alloc_new _ _
   have RN3 : Hid (Z3.heap[gn]? = some (.cells #[.int .i64 (lv : Int), .slice ao dn cap] 124 (0, 0))) := (b3.block gn (block_lt_of_row RN2.out)).trans RN2.out
   have ER3 := hide (ER2.out.below b3)
   have EN3 : Hid (∀ (i : Nat) x e, d[i]? = some x → es[i]? = some e → EnNew w.heap.size Z3 x e ∧ x.nd = none) := fun i x e hx he => ⟨(EN2.out i x e hx he).1.below b3, (EN2.out i x e hx he).2⟩
   have EY3 : Hid (EnNew w.heap.size Z3 Y es[k] ∧ Y.nd = none) := ⟨EY.out.1.below b3, EY.out.2⟩
   have BW3 := hide (BW2.out.trans (b3.mono BW2.out.size))
   have RD3 := hide (RD2.out.below b3)
   have APP := run_append_ens Z3 w.heap.size (.slice ao dn cap) (.slice (some ⟨Z2.heap.size, 0, none⟩) 1 1) d [Y] 122 ER3.out (one_els r3) (by have := DL.out; simp; omega) BW3.out.size
   clear b3 r3 hZ3 RN2 ER2 EN2 EY BW2 RD2 hY
  rotate_left
  focus
   refine c1 fun K hK => ?_
   go_simp
   refine (readEntry_any gd gx k lv es es[k] Z1 hlv XAT.out XOK.out RDd.out).mono ?_
   rintro e Z2 ⟨y, rfl, ey, yn, rd2, c2⟩
   have RN2 : Hid (Z2.heap[gn]? = some (.cells #[.int .i64 (lv : Int), .slice ao dn cap] 124 (0, 0))) := c2.row RNd.out (fun e => GN.out.2.1 e.symm)
   have ER2 : Hid (EnRow w.heap.size Z2 (.slice ao dn cap) d) := ERd.out.chg c2 (fun k hk e => ERd.out.apart RDd.out.row (by decide) (by rw [← e]; exact hk))
   have EN2 : Hid (∀ (i : Nat) x e, d[i]? = some x → es[i]? = some e → EnNew w.heap.size Z2 x e ∧ x.nd = none) := fun i x e hx he => ⟨(ENd.out i x e hx he).1.chg c2 (fun k c hk e => ne_of_type hk RDd.out.row (by decide) e), (ENd.out i x e hx he).2⟩
   have EY : Hid (EnNew w.heap.size Z2 y es[k] ∧ y.nd = none) := ⟨ey.mono BWd.out.size, yn⟩
   have BW2 : Hid (Below w.heap.size w Z2) := BWd.out.trans (c2.base BWd.out.size GD.out.1)
   have RD2 := hide rd2
   have S2 := (cells2 RN2.out).1
   clear ey yn rd2 c2 RNd ERd ENd RDd BWd
   refine hK.out _ _ S2 (fun hHeld => ?_)
   clear hK K S2
   try simp only [Act.put, uB, uC, uD]
   obtain ⟨ka, kn, kc, va, vn, vc, pgy, nd⟩ := y
   simp only [encEn]
   refine rdy [4, 11] ?_
   refine AllReadyH.cons (o := ⟨_, _, _, _, _, _⟩) rfl (fun K hK => ?_) ?_
   focus
    have c1 := (cells2 RN2.out).2
    go_simp
    refine hK.out _ _ (by assumption) (fun hHeld => ?_)
    clear hK K c1
    try simp only [Act.put, uB, uC, uD]
    refine rdy [11] ?_
    refine step_buildSlice (o := ⟨_, _, _, _, _, _⟩) rfl rfl 122 1 [(0, Operand.tmp 39)] rfl _ _ (bs122 Z2 ⟨ka, kn, kc, va, vn, vc, pgy, nd⟩) AllReadyH.nil ⟨(cells2 ((heap_alloc_old _ _ (block_lt_of_row RN2.out)).trans RN2.out)).1, fun hHeld => ?_⟩
    try simp only [Act.put, uB, uC, uD]
    obtain ⟨Y, hY⟩ : ∃ Y : EnV, Y = ⟨ka, kn, kc, va, vn, vc, pgy, nd⟩ := ⟨_, rfl⟩
    rw [← hY] at EY hHeld ⊢
    obtain ⟨Z3, hZ3⟩ : ∃ Z3, Z3 = Z2.alloc (.cells (encEn Y).toArray 126) := ⟨_, rfl⟩
    rw [← hZ3] at hHeld ⊢
    have b3 : Below Z2.heap.size Z2 Z3 := by rw [hZ3]; exact (Below.refl _ _).alloc (Nat.le_refl _) _
    have r3 : Z3.heap[Z2.heap.size]? = some (.cells (encEn Y).toArray 126 (0, 0)) := by rw [hZ3]; exact heap_alloc_new _ _
    have RN3 : Hid (Z3.heap[gn]? = some (.cells #[.int .i64 (lv : Int), .slice ao dn cap] 124 (0, 0))) := (b3.block gn (block_lt_of_row RN2.out)).trans RN2.out
    have ER3 := hide (ER2.out.below b3)
    have EN3 : Hid (∀ (i : Nat) x e, d[i]? = some x → es[i]? = some e → EnNew w.heap.size Z3 x e ∧ x.nd = none) := fun i x e hx he => ⟨(EN2.out i x e hx he).1.below b3, (EN2.out i x e hx he).2⟩
    have EY3 : Hid (EnNew w.heap.size Z3 Y es[k] ∧ Y.nd = none) := ⟨EY.out.1.below b3, EY.out.2⟩
    have BW3 := hide (BW2.out.trans (b3.mono BW2.out.size))
    have RD3 := hide (RD2.out.below b3)
    have APP := run_append_ens Z3 w.heap.size (.slice ao dn cap) (.slice (some ⟨Z2.heap.size, 0, none⟩) 1 1) d [Y] 122 ER3.out (one_els r3) (by have := DL.out; simp; omega) BW3.out.size
    clear b3 r3 hZ3 RN2 ER2 EN2 EY BW2 RD2 hY
   rotate_left
   focus
    refine step_buildSlice (o := ⟨_, _, _, _, _, _⟩) rfl rfl 122 1 [(0, Operand.tmp 39)] rfl _ _ (bs122 Z2 ⟨ka, kn, kc, va, vn, vc, pgy, nd⟩) AllReadyH.nil ⟨(cells2 ((heap_alloc_old _ _ (block_lt_of_row RN2.out)).trans RN2.out)).1, fun hHeld => ?_⟩
    try simp only [Act.put, uB, uC, uD]
    obtain ⟨Y, hY⟩ : ∃ Y : EnV, Y = ⟨ka, kn, kc, va, vn, vc, pgy, nd⟩ := ⟨_, rfl⟩
    rw [← hY] at EY hHeld ⊢
    obtain ⟨Z3, hZ3⟩ : ∃ Z3, Z3 = Z2.alloc (.cells (encEn Y).toArray 126) := ⟨_, rfl⟩
    rw [← hZ3] at hHeld ⊢
    have b3 : Below Z2.heap.size Z2 Z3 := by rw [hZ3]; exact (Below.refl _ _).alloc (Nat.le_refl _) _
    have r3 : Z3.heap[Z2.heap.size]? = some (.cells (encEn Y).toArray 126 (0, 0)) := by rw [hZ3]; exact heap_alloc_new _ _
    have RN3 : Hid (Z3.heap[gn]? = some (.cells #[.int .i64 (lv : Int), .slice ao dn cap] 124 (0, 0))) := (b3.block gn (block_lt_of_row RN2.out)).trans RN2.out
    have ER3 := hide (ER2.out.below b3)
    have EN3 : Hid (∀ (i : Nat) x e, d[i]? = some x → es[i]? = some e → EnNew w.heap.size Z3 x e ∧ x.nd = none) := fun i x e hx he => ⟨(EN2.out i x e hx he).1.below b3, (EN2.out i x e hx he).2⟩
    have EY3 : Hid (EnNew w.heap.size Z3 Y es[k] ∧ Y.nd = none) := ⟨EY.out.1.below b3, EY.out.2⟩
    have BW3 := hide (BW2.out.trans (b3.mono BW2.out.size))
    have RD3 := hide (RD2.out.below b3)
    have APP := run_append_ens Z3 w.heap.size (.slice ao dn cap) (.slice (some ⟨Z2.heap.size, 0, none⟩) 1 1) d [Y] 122 ER3.out (one_els r3) (by have := DL.out; simp; omega) BW3.out.size
    clear b3 r3 hZ3 RN2 ER2 EN2 EY BW2 RD2 hY
    refine r1 4 fun K hK => ?_
    have c1 := (cells2 RN3.out).2
    go_simp
    refine hK.out _ _ (by assumption) (fun hHeld => ?_)
    clear hK K c1
    try simp only [Act.put, uB, uC, uD]
  all_goals
   refine rdy [12] ?_
   refine step_append (o := ⟨_, _, _, _, _, _⟩) rfl rfl _ _ 122 122 rfl _ _ rfl rfl APP AllReadyH.nil ?_
   rintro v4 Z4 ⟨e4, c4⟩
   have RN4 : Z4.heap[gn]? = some (.cells #[.int .i64 (lv : Int), .slice ao dn cap] 124 (0, 0)) := c4.row RN3.out (ER3.out.apart RN3.out (by decide))
   have EN4 : ∀ (i : Nat) x e, (d ++ [Y])[i]? = some x → es[i]? = some e → EnNew w.heap.size Z4 x e ∧ x.nd = none := fun i x e hx he => by
    have ap : ∀ k c, Z3.heap[k]? = some (.cells c 5 (0, 0)) → ¬ (Value.slice ao dn cap).ownBlock = some k := fun k c hk => ER3.out.apart hk (by decide)
    by_cases hi : i < d.length
    ·rw [List.getElem?_append_left hi] at hx
     exact ⟨(EN3.out i x e hx he).1.chg c4 ap, (EN3.out i x e hx he).2⟩
    ·rw [List.getElem?_append_right (by omega)] at hx
     obtain ⟨hi2, hx2⟩ := List.getElem?_eq_some_iff.1 hx
     have hik : i = k := by have := DL.out; simp at hi2; omega
     subst hik
     simp at hx2
     rw [XAT.out] at he
     injection he with he
     subst hx2 he
     exact ⟨EY3.out.1.chg c4 ap, EY3.out.2⟩
   have RD4 : RdIs Z4 gd gx ⟨S.nodeB lv es, S.npl lv es (k + 1), 0, 0⟩ := RD3.out.chg c4 (ER3.out.apart RD3.out.row (by decide)) (ER3.out.apart RD3.out.text (by decide))
   have BW4 : Below w.heap.size w Z4 := BW3.out.trans (c4.below _ BW3.out.size (fun j hj e => by have := (ER3.out.blk e).1; omega))
   obtain ⟨ao4, cap4, hv4⟩ := e4.form
   subst hv4
   obtain ⟨dn4, hdn4⟩ : ∃ dn4, dn4 = (d ++ [Y]).length := ⟨_, rfl⟩
   have HD4 : Hid ((d ++ [Y]).length = k + 1) := by show (d ++ [Y]).length = k + 1; rw [List.length_append, DL.out]; rfl
   rw [← hdn4] at e4 ⊢
   have E4 := hide e4
   have RNH := hide RN4
   have ENH := hide EN4
   have RDH := hide RD4
   have BWH := hide BW4
   refine ⟨(cells2 RN4).1, fun hHeld => ?_⟩
   clear e4 c4 RN4 EN4 RD4 BW4 hdn4 RN3 ER3 EN3 EY3 BW3 RD3 APP
   try simp only [Act.put, uB, uC, uD]
   refine tq 13 ?_
   simp only [Act.put, uB, uC, uD]
   refine tq 14 ?_
   simp only [Act.put, uB, uC, uD]
   refine r1 15 fun K hK => ?_
   have c1 := (cells2 RNH.out).2
   have f1 := frozen_of_row _ _ 1 _ _ RNH.out
   go_simp
   obtain ⟨Z5, hZ5⟩ : ∃ Z5, Z5 = Z4.setCell ⟨gn, 1, none⟩ (.slice ao4 dn4 cap4) := ⟨_, rfl⟩
   have c5 : Chg (fun k => k = gn) Z4 (Z4.setCell ⟨gn, 1, none⟩ (.slice ao4 dn4 cap4)) := (Chg.refl (fun k => k = gn) _).setCell gn 1 _ (fun _ => rfl)
   have r5 : (Z4.setCell ⟨gn, 1, none⟩ (.slice ao4 dn4 cap4)).heap[gn]? = some (.cells #[.int .i64 (lv : Int), .slice ao4 dn4 cap4] 124 (0, 0)) := by rw [heap_setCell_same Z4 gn 1 _ _ _ RNH.out]; rfl
   have MM : Hid (NodeMid w (Z4.setCell ⟨gn, 1, none⟩ (.slice ao4 dn4 cap4)) gn gd gx lv (k + 1) es) := ⟨⟨_, d ++ [Y], r5, E4.out.chg c5 (fun j hj e => E4.out.apart RNH.out (by decide) (by rw [← e]; exact hj)), HD4.out, fun i x e hx he => ⟨(ENH.out i x e hx he).1.chg c5 (fun j c hj e => ne_of_type hj RNH.out (by decide) e), (ENH.out i x e hx he).2⟩⟩, RDH.out.chg c5 GN.out.2.1 GN.out.2.2, BWH.out.trans (c5.base BWH.out.size GN.out.1)⟩
   refine hK.out _ _ (cells2 r5).1 (fun hHeld => ?_)
   clear hK K c1 f1 c5 r5 E4 RNH ENH RDH BWH HD4
   try simp only [Act.put, uB, uC, uD]
   refine wpAnyH_done (by kernel_rfl) ?_ _
   refine NoPanic.normal ?_
   clear hHeld
   go_wp2_with fail
   go_roundw
   case rel => exact ⟨k + 1, by omega, by go_num, MM⟩
   case measure => simp [intOf]; omega
 ·obtain rfl : k = N := by omega
  have EF : Hid ((S.Rd.mk (S.nodeB lv es) (S.npl lv es k) 0 0).fin = (0, 0)) := by
   show (S.Rd.mk (S.nodeB lv es) (S.npl lv es k) 0 0).fin = (0, 0)
   rw [HNN.out]
   exact S.node_fin lv es
  go_wp2_with fail
  refine (rend_no gd gx wr EF.out M.out.rd).mono ?_
  rintro e W1 ⟨rfl, b1⟩
  obtain ⟨v, d, rn, er, dl, en⟩ := M.out.row
  have NN : NodeNew w.heap.size wr gn lv es := ⟨⟨v, d, rn, er, by rw [dl]; exact HNN.out, en⟩, GN.out.1⟩
  have N1 := hide (NN.below b1)
  have BB := hide (M.out.base.trans (b1.mono M.out.base.size))
  have c0 := (cells2 ((b1.block gn (block_lt_of_row rn)).trans rn)).1
  have IW := hide (isWhole_any gn lv es W1 (N1.out.node HO.out.ent (by have := HO.out.len; omega)) HO.out)
  clear rn er dl en NN b1 M
  clear v d
  go_wp2_with fail
  refine IW.out.mono ?_
  rintro e W2 ⟨rfl, b2⟩
  have N2 := hide (N1.out.below b2)
  have B2 := hide (BB.out.trans (b2.mono BB.out.size))
  clear b2 N1 BB IW c0
  go_wp2_with fail
  go_ret2
  exact ⟨gn, rfl, N2.out, B2.out⟩
end Go.Proofs.YteealihknndclaaGreatDoor
