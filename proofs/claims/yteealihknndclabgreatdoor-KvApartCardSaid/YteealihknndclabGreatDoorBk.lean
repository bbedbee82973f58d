/- Whether a node is whole. -/
import Derived.Test.YteealihknndclabGreatDoorWc
namespace Go.Proofs.YteealihknndclabGreatDoor
open Go.RowKit

namespace S
structure bC (lv : Nat) (es : List Ent) : Prop where
 ent : ∀ x ∈ es, jT lv x
 up : S.up (es.map (·.key))
 lvl : lv < 256
 size : fI es <= 1019
 leaf : lv = 0 -> ∀ x ∈ es, x.key ≠ []
 node : lv ≠ 0 -> ∃ x r, es = x :: r /\ x.key = [] /\ ∀ y ∈ es, y.page ≠ 0 /\ y.page < 512
theorem bC.len {lv : Nat} {es : List Ent} (h : bC lv es) : es.length <= 254 := by have := essz_ge es; have := h.size; omega
theorem bC.text {lv : Nat} {es : List Ent} (h : bC lv es) : (aN lv es).length <= 1022 := by rw [vU h.ent]; have := h.size; omega
theorem bC.lt {lv : Nat} {es : List Ent} (h : bC lv es) {i j : Nat} (hj : j < es.length) (hij : i < j) : bU es[i].key es[j].key < 0 := by
 have := uq h.up (i := i) (j := j) (by rw [List.length_map]; exact hj) hij
 simpa using this
theorem bC.first {lv : Nat} {es : List Ent} (h : bC lv es) {i : Nat} (hi : i < es.length) : (es[i].key = []) ↔ (lv ≠ 0 /\ i = 0) := by
 by_cases hl : lv = 0
 ·exact ⟨fun e => absurd e (h.leaf hl _ (List.getElem_mem hi)), fun e => absurd hl e.1⟩
 ·obtain ⟨x, r, e, hx, _⟩ := h.node hl
  constructor
  ·intro hk
   refine ⟨hl, ?_⟩
   rcases Nat.eq_zero_or_pos i with e0 | e0
   ·exact e0
   ·have h1 := h.lt hi e0
    rw [hk] at h1
    subst e
    simp only [List.getElem_cons_zero, hx] at h1
    rw [xV] at h1
    omega
  ·rintro ⟨_, rfl⟩
   subst e
   exact hx
end S
theorem uS {v u : Value} {xs ys : List UInt8} {w : World} (n : Nat) (h1 : SliceAt w v xs) (h2 : SliceAt w u ys) : Calls Tryz.prog 54 #[v, u] (w.drewN n) fun e w' => e = .returned (.int .i64 (S.bU xs ys)) /\ w' = w.drewN n :=
 (iH v u xs ys (w.drewN n) (h1.below (lK (Below.refl _ _) n) (lr _)) (h2.below (lK (Below.refl _ _) n) (lr _))).mono fun _ _ ⟨e, h⟩ => ⟨e, h.symm⟩
set_option maxHeartbeats 8000000 in
set_option maxRecDepth 10000 in
theorem xW (g lv : Nat) (es : List S.Ent) (w : World) (hn : gT w g lv es) (ho : S.bC lv es) :
  Calls Tryz.prog 109 #[.pointer (some ⟨g, 0, none⟩)] w fun e w' => e = .returned (.bool true) /\ Below w.heap.size w w' := by
 obtain ⟨v, d, h1, h2, h3⟩ := hn.is
 have HO := hide ho
 have hlen := ho.len
 have hlv := ho.lvl
 have hL : d.length = es.length := h3.1
 obtain ⟨n, hnn⟩ : ∃ n, n = es.length := ⟨_, rfl⟩
 rw [<- hnn] at hlen hL
 have HN := hide hnn
 have hl6 := aa h1
 obtain ⟨ao, cap, rfl, _⟩ := h2.form
 rw [hL] at h1
 obtain ⟨c0, c1⟩ := aK h1
 have AT : Hid (∀ i (hi : i < es.length), ∃ b off x, ao = some ⟨b, off, none⟩ /\ n <= cap /\ d[i]? = some x /\ b < w.heap.size /\ nG w x es[i] /\ (w.cell? ⟨b, off + i * 4, none⟩ = some (.slice x.ka x.kn x.kc) /\ w.cell? ⟨b, off + i * 4 + 1, none⟩ = some (.slice x.va x.vn x.vc) /\ w.cell? ⟨b, off + i * 4 + 2, none⟩ = some (.int .i64 x.pg) /\ w.cell? ⟨b, off + i * 4 + 3, none⟩ = some (.pointer x.nd))) := fun i hi => by
  have hd1 : i < d.length := by omega
  obtain ⟨b, off, cap', e, q1, q2, q3⟩ := h2.at gB i d[i] (List.getElem?_eq_getElem hd1)
  injection e with e1 e2 e3
  exact ⟨b, off, d[i], e1, by omega, List.getElem?_eq_getElem hd1, q2, h3.2 i _ _ (List.getElem?_eq_getElem hd1) (List.getElem?_eq_getElem hi), yz q3⟩
 have C0 := hide c0
 have C1 := hide c1
 clear hn ho h1 h2 h3 hL hnn
 go_enter Tryz.func109, Tryz.ntmps109
 go_wp2_with fail
 clear c0 c1
 go_loopw [11] (fun i wr => ∃ k : Nat, k <= n /\ i = .int .i64 (k : Int) /\ Hid (Below w.heap.size w wr)) (fun i _ => n - (intOf i).toNat)
 case atStart => exact ⟨0, by omega, rfl, Below.refl _ _⟩
 case round =>
 obtain ⟨k, hk, rfl, BW⟩ := hrel
 by_cases hlt : k < n
 ·have hke : k < es.length := by have := HN.out; omega
  obtain ⟨b, off, x, rfl, hcap, hx, hb, hi, t0, t1, t2, t3⟩ := AT.out k hke
  have u0 := (BW.out.cell (p := ⟨b, off + k * 4, none⟩) hb).trans t0
  have u1 := (BW.out.cell (p := ⟨b, off + k * 4 + 1, none⟩) hb).trans t1
  have u2 := (BW.out.cell (p := ⟨b, off + k * 4 + 2, none⟩) hb).trans t2
  have u3 := (BW.out.cell (p := ⟨b, off + k * 4 + 3, none⟩) hb).trans t3
  have v0 := (BW.out.cell (p := ⟨g, 0, none⟩) hl6).trans C0.out
  have v1 := (BW.out.cell (p := ⟨g, 1, none⟩) hl6).trans C1.out
  obtain ⟨ka, kn, kc, va, vn, vc, pg, nd⟩ := x
  simp only at u0 u1 u2 u3
  have hkI : (k : Int) < (n : Int) := by omega
  have hk0 : (0 : Int) <= (k : Int) := by omega
  have hnI : (n : Int) <= 254 := by omega
  have HPG : Hid (pg = (es[k].page : Int)) := hi.page
  have HKN : Hid (kn = es[k].key.length) := by obtain ⟨_, _, _, e, e2, _⟩ := hi.key.form; injection e with _ e' _; exact e'.trans e2
  have KEY := hide (hi.key.below BW.out (lr _))
  have FST := hide (HO.out.first hke)
  clear t0 t1 t2 t3 hi hx
  go_upto_region 4 with fail
  obtain ⟨W, hW⟩ : ∃ W, W = wr.alloc (.cells #[.slice ka kn kc, .slice va vn vc, .int .i64 pg, .pointer nd] 95) := ⟨_, rfl⟩
  rw [<- hW]
  have bW : Below wr.heap.size wr W := by rw [hW]; exact ba ..
  have rW : W.heap[wr.heap.size]? = some (.cells #[.slice ka kn kc, .slice va vn vc, .int .i64 pg, .pointer nd] 95 (0, 0)) := by rw [hW]; exact heap_alloc_new _ _
  obtain ⟨gb, hgb⟩ : ∃ gb, gb = wr.heap.size := ⟨_, rfl⟩
  rw [<- hgb] at rW ⊢
  obtain ⟨x0, x1, x2, x3⟩ := aQ rW
  have y0 := (bW.cell (p := ⟨g, 0, none⟩) (Nat.lt_of_lt_of_le hl6 BW.out.size)).trans v0
  have y1 := (bW.cell (p := ⟨g, 1, none⟩) (Nat.lt_of_lt_of_le hl6 BW.out.size)).trans v1
  have BWW := hide (BW.out.trans (bW.mono BW.out.size))
  have KEYW := hide (KEY.out.below bW (lr _))
  clear hW bW rW hgb u0 u1 u2 u3 v0 v1 x1 x3
  rcases Nat.eq_zero_or_pos lv with hl0 | hl0
  ·subst hl0
   have kne : ¬ (kn : Int) = 0 := fun e => by
    have : es[k].key = [] := List.length_eq_zero_iff.1 (by have := HKN.out; omega)
    exact absurd (FST.out.1 this).1 (by simp)
   have kne2 : ((kn : Int) == 0) = false := beq_false_of_ne kne
   rcases Nat.eq_zero_or_pos k with e0 | e0
   ·have hq2 : decide ((0 : Int) < (k : Int)) = false := decide_eq_false (by omega)
    have hq3 : decide (0 < k) = false := decide_eq_false (by omega)
    go_wp2_with fail
    go_quiet (fail)
    go_wp2_with fail
    go_roundw
    case rel => exact ⟨k + 1, by omega, by go_num, (lK BWW.out _)⟩
    case measure => simp [intOf]; omega
   ·have hq2 : decide ((0 : Int) < (k : Int)) = true := decide_eq_true (by omega)
    have hq3 : decide (0 < k) = true := decide_eq_true (by omega)
    have hk1e : k - 1 < es.length := by omega
    obtain ⟨b', off', x', hbo, _, hx', hb', hi', t0, t1, t2, t3⟩ := AT.out (k - 1) hk1e
    obtain ⟨rfl, rfl⟩ : b = b' /\ off = off' := by injection hbo with hbo; injection hbo with e1 e2; exact ⟨e1, e2⟩
    obtain ⟨ka', kn', kc', va', vn', vc', pg', nd'⟩ := x'
    have z0 := (BWW.out.cell (p := ⟨b, off + (k - 1) * 4, none⟩) hb).trans t0
    have KEY2 := hide (hi'.key.below BWW.out (lr _))
    have hneg := HO.out.lt hke (show k - 1 < k by omega)
    obtain ⟨c, hc⟩ : ∃ c, c = S.bU es[k - 1].key es[k].key := ⟨_, rfl⟩
    rw [<- hc] at hneg
    have CQ : Hid (∀ m, Calls Tryz.prog 54 #[.slice ka' kn' kc', .slice ka kn kc] (W.drewN m) fun e w' => e = .returned (.int .i64 c) /\ w' = W.drewN m) := fun m => by rw [hc]; exact uS m KEY2.out KEYW.out
    have hc2 : decide (0 <= c) = false := decide_eq_false (by omega)
    have hc3 : ¬ (0 <= c) := by omega
    have qk1 : (k : Int) - 1 = ((k - 1 : Nat) : Int) := by omega
    obtain ⟨k1, hk1⟩ : ∃ k1, k1 = k - 1 := ⟨_, rfl⟩
    rw [<- hk1] at z0 qk1
    have qk2 : (0 : Int) <= (k1 : Int) := by omega
    have qk3 : (k1 : Int) < (n : Int) := by omega
    have qk4 : IntKind.i64.wrap (k1 : Int) = (k1 : Int) := by rw [IntKind.wrap_i64]; omega
    clear t0 t1 t2 t3 hi' hx' hb' hbo hc hk1
    go_wp2_with fail
    go_quiet ((go_at_call 54; exact Calls.quiet_of_same (CQ.out _)))
    go_wp2_with fail
    go_roundw
    case rel => exact ⟨k + 1, by omega, by go_num, (lK BWW.out _)⟩
    case measure => simp [intOf]; omega
  ·have hlp : decide ((0 : Int) < (lv : Int)) = true := decide_eq_true (by omega)
   have hlp2 : decide (0 < lv) = true := decide_eq_true (by omega)
   have hlp3 : (0 : Int) < (lv : Int) := by omega
   have pgn : ¬ pg = 0 := by
    obtain ⟨_, _, _, _, h⟩ := HO.out.node (by omega)
    have := (h _ (List.getElem_mem hke)).1
    have := HPG.out
    omega
   have pgn2 : (pg == 0) = false := beq_false_of_ne pgn
   rcases Nat.eq_zero_or_pos k with e0 | e0
   ·have hkn0 : kn = 0 := by rw [HKN.out, FST.out.2 ⟨by omega, e0⟩]; rfl
    have hkz : (k : Int) = 0 := by omega
    have hkz2 : ((k : Int) == 0) = true := by rw [hkz]; rfl
    have hkz3 : (k == 0) = true := by rw [e0]; rfl
    have kn1 : ((kn : Int) == 0) = true := by rw [hkn0]; rfl
    have kn2 : (kn == 0) = true := by rw [hkn0]; rfl
    clear hkz hkn0
    have hq2 : decide ((0 : Int) < (k : Int)) = false := decide_eq_false (by omega)
    have hq3 : decide (0 < k) = false := decide_eq_false (by omega)
    go_wp2_with fail
    go_quiet (fail)
    go_wp2_with fail
    go_roundw
    case rel => exact ⟨k + 1, by omega, by go_num, (lK BWW.out _)⟩
    case measure => simp [intOf]; omega
   ·have kne : ¬ (kn : Int) = 0 := fun e => by
     have : es[k].key = [] := List.length_eq_zero_iff.1 (by have := HKN.out; omega)
     have := (FST.out.1 this).2
     omega
    have kne2 : ((kn : Int) == 0) = false := beq_false_of_ne kne
    have hkz : ¬ (k : Int) = 0 := by omega
    have hkz2 : ((k : Int) == 0) = false := beq_false_of_ne hkz
    have hkz3 : (k == 0) = false := beq_false_of_ne (by omega)
    have hq2 : decide ((0 : Int) < (k : Int)) = true := decide_eq_true (by omega)
    have hq3 : decide (0 < k) = true := decide_eq_true (by omega)
    have hk1e : k - 1 < es.length := by omega
    obtain ⟨b', off', x', hbo, _, hx', hb', hi', t0, t1, t2, t3⟩ := AT.out (k - 1) hk1e
    obtain ⟨rfl, rfl⟩ : b = b' /\ off = off' := by injection hbo with hbo; injection hbo with e1 e2; exact ⟨e1, e2⟩
    obtain ⟨ka', kn', kc', va', vn', vc', pg', nd'⟩ := x'
    have z0 := (BWW.out.cell (p := ⟨b, off + (k - 1) * 4, none⟩) hb).trans t0
    have KEY2 := hide (hi'.key.below BWW.out (lr _))
    have hneg := HO.out.lt hke (show k - 1 < k by omega)
    obtain ⟨c, hc⟩ : ∃ c, c = S.bU es[k - 1].key es[k].key := ⟨_, rfl⟩
    rw [<- hc] at hneg
    have CQ : Hid (∀ m, Calls Tryz.prog 54 #[.slice ka' kn' kc', .slice ka kn kc] (W.drewN m) fun e w' => e = .returned (.int .i64 c) /\ w' = W.drewN m) := fun m => by rw [hc]; exact uS m KEY2.out KEYW.out
    have hc2 : decide (0 <= c) = false := decide_eq_false (by omega)
    have hc3 : ¬ (0 <= c) := by omega
    have qk1 : (k : Int) - 1 = ((k - 1 : Nat) : Int) := by omega
    obtain ⟨k1, hk1⟩ : ∃ k1, k1 = k - 1 := ⟨_, rfl⟩
    rw [<- hk1] at z0 qk1
    have qk2 : (0 : Int) <= (k1 : Int) := by omega
    have qk3 : (k1 : Int) < (n : Int) := by omega
    have qk4 : IntKind.i64.wrap (k1 : Int) = (k1 : Int) := by rw [IntKind.wrap_i64]; omega
    clear t0 t1 t2 t3 hi' hx' hb' hbo hc hk1
    go_wp2_with fail
    go_quiet ((go_at_call 54; exact Calls.quiet_of_same (CQ.out _)))
    go_wp2_with fail
    go_roundw
    case rel => exact ⟨k + 1, by omega, by go_num, (lK BWW.out _)⟩
    case measure => simp [intOf]; omega
 ·obtain rfl : k = n := by omega
  have v0 := (BW.out.cell (p := ⟨g, 0, none⟩) hl6).trans C0.out
  have v1 := (BW.out.cell (p := ⟨g, 1, none⟩) hl6).trans C1.out
  rcases Nat.eq_zero_or_pos lv with hl0 | hl0
  ·subst hl0
   go_wp2_with fail
   go_ret
   exact ⟨rfl, BW.out⟩
  ·have hl1 : ¬ (lv : Int) = 0 := by omega
   have hl2 : ((lv : Int) == 0) = false := beq_false_of_ne hl1
   have hk0 : (0 : Int) < (k : Int) := by
    obtain ⟨x, r, e, _⟩ := HO.out.node (by omega)
    have := HN.out
    rw [e] at this
    simp at this
    omega
   have hk1 : decide ((0 : Int) < (k : Int)) = true := decide_eq_true hk0
   go_wp2_with fail
   go_ret
   refine ⟨?_, BW.out⟩
   simp
   omega
theorem Av : (Tryz.prog.info? 95).map (fun i => (i.zero, i.size, i.bytes)) = some (some (.agg #[.slice none 0 0, .slice none 0 0, .int .i64 0, .pointer none]), 4, 64) := by kernel_rfl
theorem iC (d : List EnV) : (d.flatMap aR).length = d.length * 4 := by
 induction d with
 | nil => rfl
 | cons x r ih => rw [List.flatMap_cons, List.length_append, ih, gB, List.length_cons]; omega
theorem uR (x : EnV) : ∀ v ∈ aR x, v.oneCell' = true := by
 intro v hv
 simp [aR] at hv
 rcases hv with rfl | rfl | rfl | rfl <;> rfl
theorem zH (d : List EnV) : ∀ v ∈ d.flatMap aR, v.oneCell' = true := by
 intro v hv
 rw [List.mem_flatMap] at hv
 obtain ⟨x, _, hv⟩ := hv
 exact uR x v hv
def bG (B : Nat) (w : World) (v : Value) (d : List EnV) : Prop := w.ownsRow B 95 4 v d.length (d.flatMap aR)
theorem bG.nil (B : Nat) (w : World) : bG B w (.slice none 0 0) [] := ⟨rfl, Or.inl ⟨rfl, rfl⟩⟩
theorem bG.els {B : Nat} {w : World} {v : Value} {d : List EnV} (h : bG B w v d) (hl : d.length <= 1000000) : Els aR w v d := by
 rcases h.2 with ⟨rfl, h0⟩ | ⟨g, cap, cur, rfl, hB, hr, h1, h2, h3, h4⟩
 ·exact Or.inl ⟨rfl, List.length_eq_zero_iff.1 h0⟩
 ·refine Or.inr (Or.inr ⟨g, 0, cap, rfl, h1, hl, aa hr, fun j u hu => ?_⟩)
  have hj : j < d.length * 4 := by have := (List.getElem?_eq_some_iff.1 hu).1; rw [iC] at this; exact this
  rw [Nat.zero_add, cell_of_row w g j _ _ _ hr]
  rw [<- h4, List.getElem?_take, if_pos hj] at hu
  simpa using hu
theorem bG.form {B : Nat} {w : World} {v : Value} {d : List EnV} (h : bG B w v d) : ∃ ao cap, v = .slice ao d.length cap := by
 rcases h.2 with ⟨rfl, h0⟩ | ⟨g, cap, cur, rfl, _⟩
 ·exact ⟨none, 0, by rw [h0]⟩
 ·exact ⟨_, _, rfl⟩
theorem bG.blk {B : Nat} {w : World} {v : Value} {d : List EnV} (h : bG B w v d) {k : Nat} (hk : v.ownBlock = some k) : B <= k /\ k < w.heap.size /\ ∃ cur, w.heap[k]? = some (.cells cur 95 (0, 0)) := by
 rcases h.2 with ⟨rfl, h0⟩ | ⟨g, cap, cur, rfl, hB, hr, _⟩
 ·simp [Value.ownBlock] at hk
 ·simp only [Value.ownBlock, Option.some.injEq] at hk
  subst hk
  exact ⟨hB, aa hr, cur, hr⟩
theorem bG.apart {B : Nat} {w : World} {v : Value} {d : List EnV} (h : bG B w v d) {k : Nat} {c : Array Value} {t : TypeId} {p : Nat × Nat} (hk : w.heap[k]? = some (.cells c t p)) (ht : t ≠ 95) : v.ownBlock ≠ some k := fun e => by
 obtain ⟨_, _, cur, hr⟩ := h.blk e
 rw [hk] at hr
 injection hr with hr
 injection hr with _ h2 _
 exact ht h2
theorem bG.chg {p : Nat -> Prop} {B : Nat} {w W : World} {v : Value} {d : List EnV} (h : bG B w v d) (hc : Chg p w W) (hp : ∀ k, v.ownBlock = some k -> ¬ p k) : bG B W v d := by
 refine ⟨h.1, ?_⟩
 rcases h.2 with h0 | ⟨g, cap, cur, rfl, hB, hr, h1⟩
 ·exact Or.inl h0
 ·exact Or.inr ⟨g, cap, cur, rfl, hB, hc.row hr (hp g rfl), h1⟩
theorem bG.below {B : Nat} {w W : World} {v : Value} {d : List EnV} (h : bG B w v d) (hb : Below w.heap.size w W) : bG B W v d := h.chg (p := fun _ => False) (Chg.ofBelow' hb) (fun _ _ e => e)
theorem bM (w : World) (B : Nat) (v u : Value) (d y : List EnV) (ty : TypeId) (hown : bG B w v d) (hu : Els aR w u y) (hl : d.length + y.length <= 100000) (hB : B <= w.heap.size) :
  ∃ v' w', (Builtin.append_ #[96, 96] ty #[v, u]).run Tryz.prog w = .ok v' w' /\ (bG B w' v' (d ++ y) /\ Chg (fun k => v.ownBlock = some k) w w') := by
 obtain ⟨i, hi, hz0, hz1, hz2⟩ := info_parts Av
 have key : ∀ (a : Addr) (c : Nat), (∀ j x, (y.flatMap aR)[j]? = some x -> w.cell? (a.add j) = some x) -> u = .slice (some a) y.length c -> ∃ v' w', (Builtin.append_ #[96, 96] ty #[v, u]).run Tryz.prog w = .ok v' w' /\ (bG B w' v' (d ++ y) /\ Chg (fun k => v.ownBlock = some k) w w') := fun a c hc hu => by
  obtain ⟨v', w', h1, h2, h3, h4⟩ := run_append_own (P := Tryz.prog) w B 96 ty 95 i (.agg #[.slice none 0 0, .slice none 0 0, .int .i64 0, .pointer none]) 4 64 Tryz.underlying96 hi hz0 hz1 hz2 rfl (by omega) v d.length (d.flatMap aR) hown a y.length c (y.flatMap aR) (iC y) hc (zH y) (by simp [maxLen]; omega) (by omega) hB
  have h2b : bG B w' v' (d ++ y) := by unfold bG; rw [List.length_append, List.flatMap_append]; exact h2
  exact ⟨v', w', by rw [hu]; exact h1, h2b, (Chg.refl _ w).grown h3 (fun k _ e => e)⟩
 rcases hu with ⟨rfl, rfl⟩ | ⟨a, cap, rfl, rfl⟩ | ⟨b, off, cap, rfl, h1, h2, h3, h4⟩
 ·exact ⟨v, w, run_append_owned_none (P := Tryz.prog) (w := w) B 96 ty 95 i 4 Tryz.underlying96 hi v d.length (d.flatMap aR) hown, by rw [List.append_nil]; exact hown, Chg.refl _ _⟩
 ·exact key a cap (fun j x h => by simp at h) rfl
 ·exact key ⟨b, off, none⟩ cap (fun j x h => by rw [Addr.add_lit]; exact h4 j x h) rfl
theorem kr {w : World} {g : Nat} {y : EnV} (h : w.heap[g]? = some (.cells (aR y).toArray 95 (0, 0))) : Els aR w (.slice (some ⟨g, 0, none⟩) 1 1) [y] :=
 Or.inr (Or.inr ⟨g, 0, 1, rfl, lr _, by simp, aa h, fun j u hu => by
  rw [Nat.zero_add, cell_of_row w g j _ _ _ h]
  simpa using hu⟩)
structure dW (B : Nat) (w : World) (g lv : Nat) (es : List S.Ent) : Prop where
 is : ∃ v d, w.heap[g]? = some (.cells #[.int .i64 (lv : Int), v] 98 (0, 0)) /\ bG B w v d /\ d.length = es.length /\ ∀ (i : Nat) x e, d[i]? = some x -> es[i]? = some e -> dw B w x e /\ x.nd = none
 at_ : B <= g
theorem dW.node {B : Nat} {w : World} {g lv : Nat} {es : List S.Ent} (h : dW B w g lv es) (ho : ∀ x ∈ es, S.jT lv x) (hl : es.length <= 1000000) : gT w g lv es := by
 obtain ⟨v, d, h1, h2, h3, h4⟩ := h.is
 exact ⟨v, d, h1, h2.els (by omega), h3, fun i x e hx he => (h4 i x e hx he).1.is (by have := (ho e (List.mem_of_getElem? he)).key; omega) (by have := (ho e (List.mem_of_getElem? he)).val; omega)⟩
theorem dW.below {B : Nat} {w W : World} {g lv : Nat} {es : List S.Ent} (h : dW B w g lv es) (hb : Below w.heap.size w W) : dW B W g lv es := by
 obtain ⟨v, d, h1, h2, h3, h4⟩ := h.is
 exact ⟨⟨v, d, (hb.block g (aa h1)).trans h1, h2.below hb, h3, fun i x e hx he => ⟨(h4 i x e hx he).1.below hb, (h4 i x e hx he).2⟩⟩, h.at_⟩
theorem yx (W : World) (y : EnV) : (Instr.buildSlice 96 1 #[(0, .agg #[.slice y.ka y.kn y.kc, .slice y.va y.vn y.vc, .int .i64 y.pg, .pointer y.nd])]).run Tryz.prog W = .ok (.slice (some ⟨W.heap.size, 0, none⟩) 1 1) (W.alloc (.cells (aR y).toArray 95)) := by
 go_simp
 rfl
structure wK (w w' : World) (gn gd gx lv k : Nat) (es : List S.Ent) : Prop where
 row : ∃ v d, w'.heap[gn]? = some (.cells #[.int .i64 (lv : Int), v] 98 (0, 0)) /\ bG w.heap.size w' v d /\ d.length = k /\ ∀ (i : Nat) x e, d[i]? = some x -> es[i]? = some e -> dw w.heap.size w' x e /\ x.nd = none
 rd : dh w' gd gx ⟨S.aN lv es, S.npl lv es k, 0, 0⟩
 base : Below w.heap.size w w'
set_option maxHeartbeats 8000000 in
set_option maxRecDepth 10000 in
theorem jY (B gs n lv : Nat) (pg : Nat -> List UInt8) (es : List S.Ent) (w : World) (hr : Rds B w gs pg) (hn : n < 512) (hp : pg n = S.aO (S.aN lv es)) (ho : S.bC lv es) :
  Calls Tryz.prog 62 #[.pointer (some ⟨gs, 0, none⟩), .int .i64 (n : Int), .int .i64 (lv : Int)] w fun e w' => ∃ g, e = .returned (.tuple #[.pointer (some ⟨g, 0, none⟩), .int .i64 0]) /\ dW w.heap.size w' g lv es /\ Below w.heap.size w w' := by
 have H := hide hr
 have HN := hide hn
 have HP := hide hp
 have HO := hide ho
 have hlv := ho.lvl
 have hlen := ho.len
 have E1 := hide (S.zg lv es hlv)
 have E2 := hide (S.zh lv es (by omega))
 have TL := hide ho.text
 obtain ⟨N, hN⟩ : ∃ N, N = es.length := ⟨_, rfl⟩
 rw [<- hN] at hlen E2
 have HNN := hide hN
 clear hr hn hp ho hN
 go_enter Tryz.func62, Tryz.ntmps62
 go_wp2_with fail
 refine (mI B gs n pg _ w H.out HN.out HP.out TL.out).mono ?_
 rintro e w1 ⟨gd, gx, rfl, g1, x1, r1, b1⟩
 have R1 := hide r1
 have B1 := hide b1
 have GD : Hid (w.heap.size <= gd /\ w.heap.size <= gx) := ⟨g1, x1⟩
 clear g1 x1 r1 b1 H
 go_wp2_with fail
 refine (eO gd gx w1 E1.out R1.out).mono ?_
 rintro e w2 ⟨rfl, d2, c2⟩
 have B2 : Hid (Below w.heap.size w w2) := B1.out.trans (c2.base B1.out.size GD.out.1)
 have R2 := hide d2
 have k1 : IntKind.i64.wrap (lv : Int) = (lv : Int) := by rw [IntKind.wrap_i64]; omega
 clear d2 c2 R1 B1
 go_wp2_with fail
 obtain ⟨w3, hw3⟩ : ∃ w3, w3 = w2.alloc (.cells #[.int .i64 (lv : Int), .slice none 0 0] 98) := ⟨_, rfl⟩
 rw [<- hw3]
 have b3 : Below w2.heap.size w2 w3 := by rw [hw3]; exact ba ..
 have r3 : w3.heap[w2.heap.size]? = some (.cells #[.int .i64 (lv : Int), .slice none 0 0] 98 (0, 0)) := by rw [hw3]; exact heap_alloc_new _ _
 obtain ⟨gn, hgn⟩ : ∃ gn, gn = w2.heap.size := ⟨_, rfl⟩
 rw [<- hgn] at r3 ⊢
 have R3 := hide (R2.out.below b3)
 have A3 := hide r3
 have B3 := hide (B2.out.trans (b3.mono B2.out.size))
 have GN : Hid (w.heap.size <= gn /\ gd ≠ gn /\ gx ≠ gn) := ⟨by rw [hgn]; exact B2.out.size, by have := R2.out.lt; omega, by have := R2.out.tlt; omega⟩
 clear hw3 b3 r3 hgn R2 B2
 refine (eO gd gx w3 E2.out R3.out).mono ?_
 rintro e w4 ⟨rfl, d4, c4⟩
 have M0 : Hid (wK w w4 gn gd gx lv 0 es) := ⟨⟨_, [], c4.row A3.out (fun e => GN.out.2.1 e.symm), bG.nil _ _, rfl, fun i x e hx => by simp at hx⟩, d4, B3.out.trans (c4.base B3.out.size GD.out.1)⟩
 clear d4 c4 R3 A3 B3
 go_wp2_with fail
 go_loopw [27] (fun i wr => ∃ k : Nat, k <= N /\ i = .int .u64 (k : Int) /\ Hid (wK w wr gn gd gx lv k es)) (fun i _ => N - (intOf i).toNat)
 case atStart => exact ⟨0, by omega, rfl, M0⟩
 case round =>
 clear M0
 obtain ⟨k, hk, rfl, M⟩ := hrel
 by_cases hlt : k < N
 ·have hke : k < es.length := by have := HNN.out; omega
  obtain ⟨v, d, rn, er, dl, en⟩ := M.out.row
  have RN := hide rn
  have ER := hide er
  have DL := hide dl
  have EN := hide en
  have RD := hide M.out.rd
  have BW := hide M.out.base
  have XOK := hide (HO.out.ent _ (List.getElem_mem hke))
  have XAT : Hid (es[k]? = some es[k]) := List.getElem?_eq_getElem hke
  obtain ⟨ao, cap, hv⟩ := er.form
  subst hv
  obtain ⟨dn, hdn⟩ : ∃ dn, dn = d.length := ⟨_, rfl⟩
  rw [<- hdn] at RN ER
  have HDN := hide hdn
  have hkI : (k : Int) < (N : Int) := by omega
  clear rn er dl en M hdn
  go_wp2_with fail
  refine wp_region_noPanic ?_
  refine wp_region_held_drew (S := (fun W => W.cell? ⟨gn, 0, none⟩ = some (.int .i64 (lv : Int)))) follows (aK RN.out).1 (fun hHeld => ?_)
  have RNd : Hid (wr.drew.heap[gn]? = some (.cells #[.int .i64 (lv : Int), .slice ao dn cap] 98 (0, 0))) := RN.out
  have ERd : Hid (bG w.heap.size wr.drew (.slice ao dn cap) d) := ER.out
  have ENd : Hid (∀ (i : Nat) x e, d[i]? = some x -> es[i]? = some e -> dw w.heap.size wr.drew x e /\ x.nd = none) := fun i x e hx he => ⟨(EN.out i x e hx he).1.below (Below.refl _ _).drew, (EN.out i x e hx he).2⟩
  have RDd : Hid (dh wr.drew gd gx ⟨S.aN lv es, S.npl lv es k, 0, 0⟩) := RD.out.drewN 1
  have BWd : Hid (Below w.heap.size w wr.drew) := BW.out.drew
  clear RN ER EN RD BW
  generalize wr.drew = Z1 at RNd ERd ENd RDd BWd hHeld ⊢
  refine tq 0 ?_
  simp only [uA]
  refine tq 1 ?_
  simp only [uA]
  refine tq 2 ?_
  simp only [uA]
  refine tq 3 ?_
  simp only [uA]
  refine tq 5 ?_
  simp only [uA]
  refine tq 6 ?_
  simp only [uA]
  refine tq 7 ?_
  simp only [uA]
  refine tq 8 ?_
  simp only [uA]
  refine tk 9 ?_ rfl (Or.inl ⟨by rfl, ?_⟩) ?_
  rotate_left
  ·intro w hSw
   have c4 := hSw
   clear hSw
   go_simp
   all_goals with_reducible rfl
  simp only [uA]
  refine rdy [4, 10] ?_
  refine AllReadyH.cons (o := ⟨_, _, _, _, _, _⟩) rfl (fun K hK => ?_) ?_
  focus
   have c1 := (aK RNd.out).2
   go_simp
   refine hK.out _ _ (by assumption) (fun hHeld => ?_)
   clear hK K c1
   try simp only [uA]
   refine r1 10 fun K hK => ?_
   go_simp
   refine (mJ gd gx k lv es es[k] Z1 hlv XAT.out XOK.out RDd.out).mono ?_
   rintro e Z2 ⟨y, rfl, ey, yn, rd2, c2⟩
   have RN2 : Hid (Z2.heap[gn]? = some (.cells #[.int .i64 (lv : Int), .slice ao dn cap] 98 (0, 0))) := c2.row RNd.out (fun e => GN.out.2.1 e.symm)
   have ER2 : Hid (bG w.heap.size Z2 (.slice ao dn cap) d) := ERd.out.chg c2 (fun k hk e => ERd.out.apart RDd.out.row (by decide) (by rw [<- e]; exact hk))
   have EN2 : Hid (∀ (i : Nat) x e, d[i]? = some x -> es[i]? = some e -> dw w.heap.size Z2 x e /\ x.nd = none) := fun i x e hx he => ⟨(ENd.out i x e hx he).1.chg c2 (fun k c hk e => bq hk RDd.out.row (by decide) e), (ENd.out i x e hx he).2⟩
   have EY : Hid (dw w.heap.size Z2 y es[k] /\ y.nd = none) := ⟨ey.mono BWd.out.size, yn⟩
   have BW2 : Hid (Below w.heap.size w Z2) := BWd.out.trans (c2.base BWd.out.size GD.out.1)
   have RD2 := hide rd2
   have S2 := (aK RN2.out).1
   clear ey yn rd2 c2 RNd ERd ENd RDd BWd
   refine hK.out _ _ S2 (fun hHeld => ?_)
   clear hK K S2
   try simp only [uA]
   obtain ⟨ka, kn, kc, va, vn, vc, pgy, nd⟩ := y
   simp only [aR]
   refine rdy [11] ?_
   refine aJ (o := ⟨_, _, _, _, _, _⟩) rfl rfl 96 1 [(0, Operand.tmp 39)] rfl _ _ (yx Z2 ⟨ka, kn, kc, va, vn, vc, pgy, nd⟩) AllReadyH.nil ⟨(aK ((heap_alloc_old _ _ (aa RN2.out)).trans RN2.out)).1, fun hHeld => ?_⟩
   try simp only [uA]
   obtain ⟨Y, hY⟩ : ∃ Y : EnV, Y = ⟨ka, kn, kc, va, vn, vc, pgy, nd⟩ := ⟨_, rfl⟩
   rw [<- hY] at EY hHeld ⊢
   obtain ⟨Z3, hZ3⟩ : ∃ Z3, Z3 = Z2.alloc (.cells (aR Y).toArray 95) := ⟨_, rfl⟩
   rw [<- hZ3] at hHeld ⊢
   have b3 : Below Z2.heap.size Z2 Z3 := by rw [hZ3]; exact ba ..
   have r3 : Z3.heap[Z2.heap.size]? = some (.cells (aR Y).toArray 95 (0, 0)) := by rw [hZ3]; exact heap_alloc_new _ _
   have RN3 : Hid (Z3.heap[gn]? = some (.cells #[.int .i64 (lv : Int), .slice ao dn cap] 98 (0, 0))) := (b3.block gn (aa RN2.out)).trans RN2.out
   have ER3 := hide (ER2.out.below b3)
   have EN3 : Hid (∀ (i : Nat) x e, d[i]? = some x -> es[i]? = some e -> dw w.heap.size Z3 x e /\ x.nd = none) := fun i x e hx he => ⟨(EN2.out i x e hx he).1.below b3, (EN2.out i x e hx he).2⟩
   have EY3 : Hid (dw w.heap.size Z3 Y es[k] /\ Y.nd = none) := ⟨EY.out.1.below b3, EY.out.2⟩
   have BW3 := hide (BW2.out.trans (b3.mono BW2.out.size))
   have RD3 := hide (RD2.out.below b3)
   have APP := bM Z3 w.heap.size (.slice ao dn cap) (.slice (some ⟨Z2.heap.size, 0, none⟩) 1 1) d [Y] 96 ER3.out (kr r3) (by have := DL.out; simp; omega) BW3.out.size
   clear b3 r3 hZ3 RN2 ER2 EN2 EY BW2 RD2 hY
  rotate_left
  focus
   refine c1 fun K hK => ?_
   go_simp
   refine (mJ gd gx k lv es es[k] Z1 hlv XAT.out XOK.out RDd.out).mono ?_
   rintro e Z2 ⟨y, rfl, ey, yn, rd2, c2⟩
   have RN2 : Hid (Z2.heap[gn]? = some (.cells #[.int .i64 (lv : Int), .slice ao dn cap] 98 (0, 0))) := c2.row RNd.out (fun e => GN.out.2.1 e.symm)
   have ER2 : Hid (bG w.heap.size Z2 (.slice ao dn cap) d) := ERd.out.chg c2 (fun k hk e => ERd.out.apart RDd.out.row (by decide) (by rw [<- e]; exact hk))
   have EN2 : Hid (∀ (i : Nat) x e, d[i]? = some x -> es[i]? = some e -> dw w.heap.size Z2 x e /\ x.nd = none) := fun i x e hx he => ⟨(ENd.out i x e hx he).1.chg c2 (fun k c hk e => bq hk RDd.out.row (by decide) e), (ENd.out i x e hx he).2⟩
   have EY : Hid (dw w.heap.size Z2 y es[k] /\ y.nd = none) := ⟨ey.mono BWd.out.size, yn⟩
   have BW2 : Hid (Below w.heap.size w Z2) := BWd.out.trans (c2.base BWd.out.size GD.out.1)
   have RD2 := hide rd2
   have S2 := (aK RN2.out).1
   clear ey yn rd2 c2 RNd ERd ENd RDd BWd
   refine hK.out _ _ S2 (fun hHeld => ?_)
   clear hK K S2
   try simp only [uA]
   obtain ⟨ka, kn, kc, va, vn, vc, pgy, nd⟩ := y
   simp only [aR]
   refine rdy [4, 11] ?_
   refine AllReadyH.cons (o := ⟨_, _, _, _, _, _⟩) rfl (fun K hK => ?_) ?_
   focus
    have c1 := (aK RN2.out).2
    go_simp
    refine hK.out _ _ (by assumption) (fun hHeld => ?_)
    clear hK K c1
    try simp only [uA]
    refine rdy [11] ?_
    refine aJ (o := ⟨_, _, _, _, _, _⟩) rfl rfl 96 1 [(0, Operand.tmp 39)] rfl _ _ (yx Z2 ⟨ka, kn, kc, va, vn, vc, pgy, nd⟩) AllReadyH.nil ⟨(aK ((heap_alloc_old _ _ (aa RN2.out)).trans RN2.out)).1, fun hHeld => ?_⟩
    try simp only [uA]
    obtain ⟨Y, hY⟩ : ∃ Y : EnV, Y = ⟨ka, kn, kc, va, vn, vc, pgy, nd⟩ := ⟨_, rfl⟩
    rw [<- hY] at EY hHeld ⊢
    obtain ⟨Z3, hZ3⟩ : ∃ Z3, Z3 = Z2.alloc (.cells (aR Y).toArray 95) := ⟨_, rfl⟩
    rw [<- hZ3] at hHeld ⊢
    have b3 : Below Z2.heap.size Z2 Z3 := by rw [hZ3]; exact ba ..
    have r3 : Z3.heap[Z2.heap.size]? = some (.cells (aR Y).toArray 95 (0, 0)) := by rw [hZ3]; exact heap_alloc_new _ _
    have RN3 : Hid (Z3.heap[gn]? = some (.cells #[.int .i64 (lv : Int), .slice ao dn cap] 98 (0, 0))) := (b3.block gn (aa RN2.out)).trans RN2.out
    have ER3 := hide (ER2.out.below b3)
    have EN3 : Hid (∀ (i : Nat) x e, d[i]? = some x -> es[i]? = some e -> dw w.heap.size Z3 x e /\ x.nd = none) := fun i x e hx he => ⟨(EN2.out i x e hx he).1.below b3, (EN2.out i x e hx he).2⟩
    have EY3 : Hid (dw w.heap.size Z3 Y es[k] /\ Y.nd = none) := ⟨EY.out.1.below b3, EY.out.2⟩
    have BW3 := hide (BW2.out.trans (b3.mono BW2.out.size))
    have RD3 := hide (RD2.out.below b3)
    have APP := bM Z3 w.heap.size (.slice ao dn cap) (.slice (some ⟨Z2.heap.size, 0, none⟩) 1 1) d [Y] 96 ER3.out (kr r3) (by have := DL.out; simp; omega) BW3.out.size
    clear b3 r3 hZ3 RN2 ER2 EN2 EY BW2 RD2 hY
   rotate_left
   focus
    refine aJ (o := ⟨_, _, _, _, _, _⟩) rfl rfl 96 1 [(0, Operand.tmp 39)] rfl _ _ (yx Z2 ⟨ka, kn, kc, va, vn, vc, pgy, nd⟩) AllReadyH.nil ⟨(aK ((heap_alloc_old _ _ (aa RN2.out)).trans RN2.out)).1, fun hHeld => ?_⟩
    try simp only [uA]
    obtain ⟨Y, hY⟩ : ∃ Y : EnV, Y = ⟨ka, kn, kc, va, vn, vc, pgy, nd⟩ := ⟨_, rfl⟩
    rw [<- hY] at EY hHeld ⊢
    obtain ⟨Z3, hZ3⟩ : ∃ Z3, Z3 = Z2.alloc (.cells (aR Y).toArray 95) := ⟨_, rfl⟩
    rw [<- hZ3] at hHeld ⊢
    have b3 : Below Z2.heap.size Z2 Z3 := by rw [hZ3]; exact ba ..
    have r3 : Z3.heap[Z2.heap.size]? = some (.cells (aR Y).toArray 95 (0, 0)) := by rw [hZ3]; exact heap_alloc_new _ _
    have RN3 : Hid (Z3.heap[gn]? = some (.cells #[.int .i64 (lv : Int), .slice ao dn cap] 98 (0, 0))) := (b3.block gn (aa RN2.out)).trans RN2.out
    have ER3 := hide (ER2.out.below b3)
    have EN3 : Hid (∀ (i : Nat) x e, d[i]? = some x -> es[i]? = some e -> dw w.heap.size Z3 x e /\ x.nd = none) := fun i x e hx he => ⟨(EN2.out i x e hx he).1.below b3, (EN2.out i x e hx he).2⟩
    have EY3 : Hid (dw w.heap.size Z3 Y es[k] /\ Y.nd = none) := ⟨EY.out.1.below b3, EY.out.2⟩
    have BW3 := hide (BW2.out.trans (b3.mono BW2.out.size))
    have RD3 := hide (RD2.out.below b3)
    have APP := bM Z3 w.heap.size (.slice ao dn cap) (.slice (some ⟨Z2.heap.size, 0, none⟩) 1 1) d [Y] 96 ER3.out (kr r3) (by have := DL.out; simp; omega) BW3.out.size
    clear b3 r3 hZ3 RN2 ER2 EN2 EY BW2 RD2 hY
    refine r1 4 fun K hK => ?_
    have c1 := (aK RN3.out).2
    go_simp
    refine hK.out _ _ (by assumption) (fun hHeld => ?_)
    clear hK K c1
    try simp only [uA]
  all_goals
   refine rdy [12] ?_
   refine bK (o := ⟨_, _, _, _, _, _⟩) rfl rfl _ _ 96 96 rfl _ _ rfl rfl APP AllReadyH.nil ?_
   rintro v4 Z4 ⟨e4, c4⟩
   have RN4 : Z4.heap[gn]? = some (.cells #[.int .i64 (lv : Int), .slice ao dn cap] 98 (0, 0)) := c4.row RN3.out (ER3.out.apart RN3.out (by decide))
   have EN4 : ∀ (i : Nat) x e, (d ++ [Y])[i]? = some x -> es[i]? = some e -> dw w.heap.size Z4 x e /\ x.nd = none := fun i x e hx he => by
    have ap : ∀ k c, Z3.heap[k]? = some (.cells c 5 (0, 0)) -> ¬ (Value.slice ao dn cap).ownBlock = some k := fun k c hk => ER3.out.apart hk (by decide)
    by_cases hi : i < d.length
    ·rw [List.getElem?_append_left hi] at hx
     exact ⟨(EN3.out i x e hx he).1.chg c4 ap, (EN3.out i x e hx he).2⟩
    ·rw [List.getElem?_append_right (by omega)] at hx
     obtain ⟨hi2, hx2⟩ := List.getElem?_eq_some_iff.1 hx
     have hik : i = k := by have := DL.out; simp at hi2; omega
     subst hik
     simp at hx2
     rw [XAT.out] at he
     injection he with he
     subst hx2 he
     exact ⟨EY3.out.1.chg c4 ap, EY3.out.2⟩
   have RD4 : dh Z4 gd gx ⟨S.aN lv es, S.npl lv es (k + 1), 0, 0⟩ := RD3.out.chg c4 (ER3.out.apart RD3.out.row (by decide)) (ER3.out.apart RD3.out.text (by decide))
   have BW4 : Below w.heap.size w Z4 := BW3.out.trans (c4.below _ BW3.out.size (fun j hj e => by have := (ER3.out.blk e).1; omega))
   obtain ⟨ao4, cap4, hv4⟩ := e4.form
   subst hv4
   obtain ⟨dn4, hdn4⟩ : ∃ dn4, dn4 = (d ++ [Y]).length := ⟨_, rfl⟩
   have HD4 : Hid ((d ++ [Y]).length = k + 1) := by show (d ++ [Y]).length = k + 1; rw [List.length_append, DL.out]; rfl
   rw [<- hdn4] at e4 ⊢
   have E4 := hide e4
   have RNH := hide RN4
   have ENH := hide EN4
   have RDH := hide RD4
   have BWH := hide BW4
   refine ⟨(aK RN4).1, fun hHeld => ?_⟩
   clear e4 c4 RN4 EN4 RD4 BW4 hdn4 RN3 ER3 EN3 EY3 BW3 RD3 APP
   try simp only [uA]
   refine tq 13 ?_
   simp only [uA]
   refine tq 14 ?_
   simp only [uA]
   refine r1 15 fun K hK => ?_
   have c1 := (aK RNH.out).2
   have f1 := frozen_of_row _ _ 1 _ _ RNH.out
   go_simp
   obtain ⟨Z5, hZ5⟩ : ∃ Z5, Z5 = Z4.setCell ⟨gn, 1, none⟩ (.slice ao4 dn4 cap4) := ⟨_, rfl⟩
   have c5 : Chg (fun k => k = gn) Z4 (Z4.setCell ⟨gn, 1, none⟩ (.slice ao4 dn4 cap4)) := (Chg.refl (fun k => k = gn) _).setCell gn 1 _ (fun _ => rfl)
   have r5 : (Z4.setCell ⟨gn, 1, none⟩ (.slice ao4 dn4 cap4)).heap[gn]? = some (.cells #[.int .i64 (lv : Int), .slice ao4 dn4 cap4] 98 (0, 0)) := by rw [heap_setCell_same Z4 gn 1 _ _ _ RNH.out]; rfl
   have MM : Hid (wK w (Z4.setCell ⟨gn, 1, none⟩ (.slice ao4 dn4 cap4)) gn gd gx lv (k + 1) es) := ⟨⟨_, d ++ [Y], r5, E4.out.chg c5 (fun j hj e => E4.out.apart RNH.out (by decide) (by rw [<- e]; exact hj)), HD4.out, fun i x e hx he => ⟨(ENH.out i x e hx he).1.chg c5 (fun j c hj e => bq hj RNH.out (by decide) e), (ENH.out i x e hx he).2⟩⟩, RDH.out.chg c5 GN.out.2.1 GN.out.2.2, BWH.out.trans (c5.base BWH.out.size GN.out.1)⟩
   refine hK.out _ _ (aK r5).1 (fun hHeld => ?_)
   clear hK K c1 f1 c5 r5 E4 RNH ENH RDH BWH HD4
   try simp only [uA]
   refine wpAnyH_done (by kernel_rfl) ?_ _
   refine NoPanic.normal ?_
   clear hHeld
   go_wp2_with fail
   go_roundw
   case rel => exact ⟨k + 1, by omega, by go_num, MM⟩
   case measure => simp [intOf]; omega
 ·obtain rfl : k = N := by omega
  have EF : Hid ((S.Rd.mk (S.aN lv es) (S.npl lv es k) 0 0).fin = (0, 0)) := by
   show (S.Rd.mk (S.aN lv es) (S.npl lv es k) 0 0).fin = (0, 0)
   rw [HNN.out]
   exact S.Fa lv es
  go_wp2_with fail
  refine (Al gd gx wr EF.out M.out.rd).mono ?_
  rintro e W1 ⟨rfl, b1⟩
  obtain ⟨v, d, rn, er, dl, en⟩ := M.out.row
  have NN : dW w.heap.size wr gn lv es := ⟨⟨v, d, rn, er, by rw [dl]; exact HNN.out, en⟩, GN.out.1⟩
  have N1 := hide (NN.below b1)
  have BB := hide (M.out.base.trans (b1.mono M.out.base.size))
  have c0 := (aK ((b1.block gn (aa rn)).trans rn)).1
  have IW := hide (xW gn lv es W1 (N1.out.node HO.out.ent (by have := HO.out.len; omega)) HO.out)
  clear rn er dl en NN b1 M
  clear v d
  go_wp2_with fail
  refine IW.out.mono ?_
  rintro e W2 ⟨rfl, b2⟩
  have N2 := hide (N1.out.below b2)
  have B2 := hide (BB.out.trans (b2.mono BB.out.size))
  clear b2 N1 BB IW c0
  go_wp2_with fail
  go_ret2
  exact ⟨gn, rfl, N2.out, B2.out⟩
namespace S
def u01 : List UInt8 := 3 :: zeros 63
theorem yG : u01.length = 64 := rfl
structure nE (pg : Nat -> List UInt8) (es : List Ent) : Prop where
 head : pg 0 = aO (dM es.length 1 0 u01)
 node : pg 1 = aO (aN 0 es)
 ok : bC 0 es
def lhd (n : Nat) : Hh := ⟨n, 1, 0, u01⟩
theorem zo {n : Nat} (h : n <= 1000000) : (lhd n).Ok := ⟨by show n < 4294967296; omega, ⟨by show 0 < 1; omega, by show 1 < 65536; omega⟩, by show 0 < 256; omega, rfl⟩
theorem Bw {ks : List (List UInt8)} (h : up ks) (k : List UInt8) (hm : k ∈ ks) : ∃ hi : rank ks k < ks.length, ks[rank ks k] = k := by
 obtain ⟨j, hj, rfl⟩ := List.getElem_of_mem hm
 have e : rank ks ks[j] = j := Am ks ks[j] j (by omega) (fun i hi hij => uq h hj hij) (fun i hi hij => by
  rcases Nat.eq_or_lt_of_le hij with e | e
  ·subst e; rw [bY]; omega
  ·have := uq h hi e
   rw [mh]
   omega)
 exact ⟨by rw [e]; exact hj, by simp only [e]⟩
end S
theorem mQ (B gs : Nat) (pg : Nat -> List UInt8) (es : List S.Ent) (w : World) (hr : Rds B w gs pg) (hl : S.nE pg es) :
  Calls Tryz.prog 46 #[.pointer (some ⟨gs, 0, none⟩)] w fun e w' => e = .returned (.tuple #[hhv (S.lhd es.length), .int .i64 0]) /\ Below w.heap.size w w' :=
 vK B gs pg (S.lhd es.length) w hr (S.zo (by have := hl.ok.len; omega)) hl.head
set_option maxHeartbeats 4000000 in
set_option maxRecDepth 10000 in
theorem xP (B gs : Nat) (pg : Nat -> List UInt8) (es : List S.Ent) (kv : Value) (w : World) (hr : Rds B w gs pg) (hl : S.nE pg es) (hk : ∃ ao n c, kv = .slice ao n c) :
  Calls Tryz.prog 35 #[.pointer (some ⟨gs, 0, none⟩), kv] w fun e w' => ∃ g, e = .returned (.tuple #[.pointer (some ⟨g, 0, none⟩), .slice none 0 0, .int .i64 0]) /\ dW w.heap.size w' g 0 es /\ Below w.heap.size w w' := by
 obtain ⟨ao, kn, kc, rfl⟩ := hk
 have H := hide hr
 have HL := hide hl
 clear hr hl
 go_enter Tryz.func35, Tryz.ntmps35
 go_wp2_with fail
 refine (mQ B gs pg es w H.out HL.out).mono ?_
 rintro e w1 ⟨rfl, b1⟩
 have hal := iJ w1
 obtain ⟨w2, hst, a2, b2⟩ := lZ w1 (S.lhd es.length) rfl
 have B2 := hide (b1.trans (b2.mono b1.size))
 have H2 := hide ((H.out.below b1).below b2)
 have A2 := hide a2
 obtain ⟨gh, hgh⟩ : ∃ gh, gh = w1.heap.size := ⟨_, rfl⟩
 rw [<- hgh] at hal hst A2
 obtain ⟨HC0, fV⟩ : ∃ X, X = (S.hhc S.Hh.none).toArray := ⟨_, rfl⟩
 rw [<- fV] at hal hst
 obtain ⟨HV, hHV⟩ : ∃ X, X = hhv (S.lhd es.length) := ⟨_, rfl⟩
 rw [<- hHV] at hst ⊢
 have c1 : w2.cell? ⟨gh, 1, none⟩ = some (.int .i64 1) := A2.out.root
 have c2 : w2.cell? ⟨gh, 2, none⟩ = some (.int .i64 0) := A2.out.lv
 clear b1 b2 a2 hgh fV hHV H
 go_wp2_with (first | (with_reducible refine au ⟨some 7, .alloc 106, 0, "node.go:113", #[], none⟩ ?_; refine ah rfl 106 rfl (.pointer (some ⟨gh, 0, none⟩)) (w1.alloc (.cells HC0 106)) hal ?_) | (with_reducible refine au ⟨none, .store 106 (.tmp 7) (.tmp 15), 0, "node.go:113", #[{ on := 5, ground := Ground.data }, { on := 3, ground := Ground.data }, { on := 1, ground := Ground.chain }, { on := 0, ground := Ground.phase }, { on := 1, ground := Ground.phase }, { on := 2, ground := Ground.phase }, { on := 3, ground := Ground.phase }, { on := 4, ground := Ground.textOnly Departure.lateStores }, { on := 5, ground := Ground.phase }], none⟩ ?_; refine ai rfl 106 (.tmp 7) (.tmp 15) rfl (.pointer (some ⟨gh, 0, none⟩)) HV rfl rfl w2 hst ?_))
 clear hal hst c1 c2
 refine (jY B gs 1 0 pg es w2 H2.out (by omega) HL.out.node HL.out.ok).mono ?_
 rintro e w3 ⟨gn, rfl, n3, b3⟩
 have N3 : Hid (dW w.heap.size w3 gn 0 es) := by
  obtain ⟨⟨v, d, h1, h2, h3, h4⟩, h5⟩ := n3
  have hb := B2.out.size
  refine ⟨⟨v, d, h1, ⟨h2.1, ?_⟩, h3, fun i x e hx he => ⟨(h4 i x e hx he).1.mono hb, (h4 i x e hx he).2⟩⟩, by omega⟩
  rcases h2.2 with h0 | ⟨g, cap, cur, e1, e2, e3⟩
  ·exact Or.inl h0
  ·exact Or.inr ⟨g, cap, cur, e1, by omega, e3⟩
 have B3 := hide (B2.out.trans (b3.mono B2.out.size))
 have c0 : w3.cell? ⟨gn, 0, none⟩ = some (.int .i64 0) := by obtain ⟨v, d, h1, _⟩ := n3.is; exact (aK h1).1
 clear n3 b3 H2 B2 A2
 go_wp2_with fail
 go_loopw [8, 9, 10] (fun s8 s9 s10 wr => s8 = .int .i64 0 /\ s9 = .slice none 0 0 /\ s10 = .pointer (some ⟨gn, 0, none⟩) /\ wr = w3) (fun _ _ _ _ => 0)
 case atStart => exact ⟨rfl, rfl, rfl, rfl⟩
 case round =>
  obtain ⟨rfl, rfl, rfl, rfl⟩ := hrel
  go_wp2_with fail
  go_ret3
  exact ⟨gn, rfl, N3.out, B3.out⟩

def jr (w : World) (gt gs : Nat) : Prop := w.heap[gt]? = some (.cells #[.pointer (some ⟨gs, 0, none⟩)] 87 (0, 0))
theorem lV {w : World} {gt gs : Nat} (h : jr w gt gs) : w.cell? ⟨gt, 0, none⟩ = some (.pointer (some ⟨gs, 0, none⟩)) := by rw [cell_of_row w gt 0 _ _ _ h]; rfl
structure AY (B : Nat) (w : World) (es : List S.Ent) (key : List UInt8) (v : Value) (ok : Bool) : Prop where
 yes : ∀ x ∈ es, x.key = key -> ok = true /\ ((v = .slice none 0 0 /\ x.val = []) \/ ∃ q, v = .slice (some ⟨q, 0, none⟩) x.val.length x.val.length /\ B <= q /\ w.heap[q]? = some (.cells (S.v8 x.val) 5 (0, 0)))
 no : key ∉ es.map (·.key) -> ok = false /\ v = .slice none 0 0
theorem S.bC.same {lv : Nat} {es : List S.Ent} (h : S.bC lv es) {i j : Nat} (hi : i < es.length) (hj : j < es.length) (e : es[i].key = es[j].key) : i = j := by
 rcases Nat.lt_trichotomy i j with h1 | h1 | h1
 ·have := h.lt hj h1
  rw [e, S.bY] at this
  omega
 ·exact h1
 ·have := h.lt hi h1
  rw [e, S.bY] at this
  omega
set_option maxHeartbeats 4000000 in
set_option maxRecDepth 10000 in
theorem get_0 (B gt gs : Nat) (pg : Nat -> List UInt8) (es : List S.Ent) (kv : Value) (key : List UInt8) (w : World) (hr : Rds B w gs pg) (ht : jr w gt gs) (hl : S.nE pg es) (hk : SliceAt w kv key) :
  Calls Tryz.prog 22 #[.pointer (some ⟨gt, 0, none⟩), kv] w fun e w' => ∃ v ok, e = .returned (.tuple #[v, .bool ok]) /\ AY w.heap.size w' es key v ok /\ Below w.heap.size w w' := by
 have H := hide hr
 have HL := hide hl
 have HK := hide hk
 have c0 := lV ht
 obtain ⟨ao, kn, kc, rfl, z1, z2⟩ := hk.form
 clear hr hl ht hk z1 z2
 go_enter Tryz.func22, Tryz.ntmps22
 go_wp2_with fail
 refine (xP B gs pg es _ w H.out HL.out ⟨_, _, _, rfl⟩).mono ?_
 rintro e w1 ⟨gn, rfl, n1, b1⟩
 have N1 := hide n1
 have B1 := hide b1
 have ND := hide (n1.node HL.out.ok.ent (by have := HL.out.ok.len; omega))
 have K1 := hide (HK.out.below b1 (lr _))
 clear n1 b1 c0 H
 go_wp2_with fail
 refine (sM gn 0 _ es key w1 ND.out K1.out HL.out.ok.up).mono ?_
 rintro e w2 ⟨rfl, b2⟩
 have N2 := hide (N1.out.below b2)
 have B2 := hide (B1.out.trans (b2.mono B1.out.size))
 clear b2 N1 B1 ND K1
 by_cases hm : key ∈ es.map (·.key)
 ·obtain ⟨r, hrr, hi, he⟩ : ∃ r, r = S.rank (es.map (·.key)) key /\ ∃ hi : r < es.length, es[r].key = key := by
   obtain ⟨hi, he⟩ := S.Bw HL.out.ok.up key hm
   exact ⟨_, rfl, by simpa using hi, by simpa using he⟩
  rw [decide_eq_true hm, <- hrr]
  obtain ⟨v, d, h1, h2, h3, h4⟩ := N2.out.is
  have hd : r < d.length := by omega
  have hel := h2.els (by have := HL.out.ok.len; omega)
  obtain ⟨b, off, cap, hv, hcap, hb, hc⟩ := hel.at gB r d[r] (List.getElem?_eq_getElem hd)
  subst hv
  obtain ⟨t0, t1, t2, t3⟩ := yz hc
  have ⟨hen, _⟩ := h4 r d[r] es[r] (List.getElem?_eq_getElem hd) (List.getElem?_eq_getElem hi)
  obtain ⟨g0, g1⟩ := aK h1
  obtain ⟨dn, hdn⟩ : ∃ dn, dn = d.length := ⟨_, rfl⟩
  rw [<- hdn] at g1 hd hcap
  have hrI : (r : Int) < (dn : Int) := by omega
  have hr0 : (0 : Int) <= (r : Int) := by omega
  have hdI : (dn : Int) <= 254 := by have := HL.out.ok.len; omega
  have HEK := hide he
  obtain ⟨x, hx⟩ : ∃ x, x = d[r] := ⟨_, rfl⟩
  rw [<- hx] at t0 t1 t2 t3 hen
  have HE := hide hen
  obtain ⟨ka, kn', kc', va, vn, vc, pgx, nd⟩ := x
  simp only at t1
  clear t0 t2 t3 hen he hx h1 h2 h3 h4 hel hc hb N2 hdn hrr hm g0
  go_wp2_with fail
  go_ret2
  refine ⟨_, true, rfl, ⟨fun y hy e => ⟨rfl, ?_⟩, fun hn => ?_⟩, B2.out⟩
  ·obtain ⟨j, hj, rfl⟩ := List.getElem_of_mem hy
   obtain rfl : j = r := HL.out.ok.same hj hi (by rw [e, HEK.out])
   rcases HE.out.val with ⟨a, b, c, e2⟩ | ⟨q, a, b, c, h5, h6, _⟩
   ·simp only at a b c
    subst a b c
    exact Or.inl ⟨rfl, e2⟩
   ·simp only at a b c
    subst a b c
    exact Or.inr ⟨q, rfl, h5, h6⟩
  ·exact absurd (List.mem_map.2 ⟨es[r], List.getElem_mem hi, HEK.out⟩) hn
 ·rw [decide_eq_false hm]
  have HM := hide hm
  generalize S.rank (es.map (·.key)) key = r
  clear hm
  go_wp2_with fail
  go_ret2
  exact ⟨_, false, rfl, ⟨fun x hx e => absurd (List.mem_map.2 ⟨x, hx, e⟩) HM.out, fun _ => ⟨rfl, rfl⟩⟩, B2.out⟩
set_option maxRecDepth 10000 in
theorem uO (ka va nd : Option Addr) (kn kc vn vc : Nat) (pg : Int) (w : World) (h1 : kn <= 1000000) (h2 : vn <= 1000000) :
  Calls Tryz.prog 134 #[.agg #[.slice ka kn kc, .slice va vn vc, .int .i64 pg, .pointer nd]] w fun e w' => e = .returned (.int .i64 ((4 + kn + vn : Nat) : Int)) /\ Below w.heap.size w w' := by
 go_enter Tryz.func134, Tryz.ntmps134
 go_wp2_with fail
 go_ret
 exact ⟨by simp, ba ..⟩
namespace S
theorem CR {es : List Ent} {k : Nat} {x : Ent} (hx : es[k]? = some x) : fI (es.take (k + 1)) = fI (es.take k) + esz x := by
 unfold fI
 rw [List.take_add_one, hx]
 simp
theorem kH (es : List Ent) (k : Nat) : fI (es.take k) <= fI es := by
 have h : fI es = fI (es.take k) + fI (es.drop k) := by
  unfold fI
  rw [<- List.sum_append, <- List.map_append, List.take_append_drop]
 omega
end S
theorem vT {w : World} {v : Value} {d : List EnV} {es : List S.Ent} (h2 : Els aR w v d) (h3 : aX w d es) (i : Nat) (hi : i < es.length) : ∃ b off cap x, v = .slice (some ⟨b, off, none⟩) es.length cap /\ es.length <= cap /\ d[i]? = some x /\ b < w.heap.size /\ nG w x es[i] /\ (w.cell? ⟨b, off + i * 4, none⟩ = some (.slice x.ka x.kn x.kc) /\ w.cell? ⟨b, off + i * 4 + 1, none⟩ = some (.slice x.va x.vn x.vc) /\ w.cell? ⟨b, off + i * 4 + 2, none⟩ = some (.int .i64 x.pg) /\ w.cell? ⟨b, off + i * 4 + 3, none⟩ = some (.pointer x.nd)) := by
 have hL := h3.1
 have hd1 : i < d.length := by omega
 obtain ⟨b, off, cap, e, q1, q2, q3⟩ := h2.at gB i d[i] (List.getElem?_eq_getElem hd1)
 rw [hL] at e q1
 exact ⟨b, off, cap, d[i], e, q1, List.getElem?_eq_getElem hd1, q2, h3.2 i _ _ (List.getElem?_eq_getElem hd1) (List.getElem?_eq_getElem hi), yz q3⟩
theorem nG.kn {w : World} {x : EnV} {e : S.Ent} (h : nG w x e) : x.kn = e.key.length := by obtain ⟨_, _, _, h1, h2, _⟩ := h.key.form; injection h1 with _ h1 _; exact h1.trans h2
theorem nG.vn {w : World} {x : EnV} {e : S.Ent} (h : nG w x e) : x.vn = e.val.length := by obtain ⟨_, _, _, h1, h2, _⟩ := h.val.form; injection h1 with _ h1 _; exact h1.trans h2
set_option maxHeartbeats 2000000 in
set_option maxRecDepth 10000 in
theorem BL (g lv : Nat) (es : List S.Ent) (w : World) (hn : gT w g lv es) (ho : ∀ x ∈ es, S.jT lv x) (hs : S.fI es <= 1000000) (hl : es.length <= 100000) :
  Calls Tryz.prog 123 #[.pointer (some ⟨g, 0, none⟩)] w fun e w' => e = .returned (.int .i64 (S.fI es : Int)) /\ Below w.heap.size w w' := by
 obtain ⟨v, d, h1, h2, h3⟩ := hn.is
 obtain ⟨ao, cap, rfl, _⟩ := h2.form
 have AT := hide (vT h2 h3)
 have HO := hide ho
 have HS := hide hs
 have hL := h3.1
 rw [hL] at h1 AT
 obtain ⟨c0, c1⟩ := aK h1
 obtain ⟨n, hnn⟩ : ∃ n, n = es.length := ⟨_, rfl⟩
 obtain ⟨sz, hsz⟩ : ∃ sz, sz = S.fI es := ⟨_, rfl⟩
 rw [<- hnn] at c1 hl
 rw [<- hsz]
 have HN := hide hnn
 have HSZ := hide hsz
 clear hn ho hs h1 h2 h3 hL hnn hsz
 go_enter Tryz.func123, Tryz.ntmps123
 go_wp2_with fail
 clear c0 c1
 go_loopw [3, 11] (fun s i wr => ∃ k : Nat, k <= n /\ i = .int .i64 (k : Int) /\ s = .int .i64 (S.fI (es.take k) : Int) /\ Hid (Below w.heap.size w wr)) (fun _ i _ => n - (intOf i).toNat)
 case atStart => exact ⟨0, by omega, rfl, rfl, Below.refl _ _⟩
 case round =>
 obtain ⟨k, hk, rfl, rfl, BW⟩ := hrel
 by_cases hlt : k < n
 ·have hke : k < es.length := by have := HN.out; omega
  obtain ⟨b, off, cap', x, hv, hcap, hx, hb, hi, t0, t1, t2, t3⟩ := AT.out k hke
  injection hv with hv1 hv2 hv3
  subst hv1 hv3
  have u0 := (BW.out.cell (p := ⟨b, off + k * 4, none⟩) hb).trans t0
  have u1 := (BW.out.cell (p := ⟨b, off + k * 4 + 1, none⟩) hb).trans t1
  have u2 := (BW.out.cell (p := ⟨b, off + k * 4 + 2, none⟩) hb).trans t2
  have u3 := (BW.out.cell (p := ⟨b, off + k * 4 + 3, none⟩) hb).trans t3
  have KN := hide hi.kn
  have VN := hide hi.vn
  have ok := HO.out _ (List.getElem_mem hke)
  have hk1 := ok.key
  have hv1 := ok.val
  have ST := hide (S.CR (List.getElem?_eq_getElem hke))
  have hle := S.kH es k
  have hle2 := S.kH es (k + 1)
  obtain ⟨a, ha⟩ : ∃ a, a = S.fI (es.take k) := ⟨_, rfl⟩
  obtain ⟨a2, ha2⟩ : ∃ a2, a2 = S.fI (es.take (k + 1)) := ⟨_, rfl⟩
  rw [<- ha] at hle ST ⊢
  rw [<- ha2] at hle2 ST
  have HA2 := hide ha2
  obtain ⟨ka, kn, kc, va, vn, vc, pg, nd⟩ := x
  simp only at u0 u1 u2 u3
  have hkI : (k : Int) < (n : Int) := by omega
  have hk0 : (0 : Int) <= (k : Int) := by omega
  have qk : kn <= 40 := by have := KN.out; simp only at this; omega
  have qv : vn <= 400 := by have := VN.out; simp only at this; omega
  have qa : a <= 1000000 := by have := HS.out; omega
  have EA : Hid (a2 = a + (4 + kn + vn)) := by
   have h1 := ST.out
   have h2 := KN.out
   have h3 := VN.out
   simp only at h2 h3
   show a2 = a + (4 + kn + vn)
   rw [h1, h2, h3]
   rfl
  clear t0 t1 t2 t3 hi hx hv2 ok hk1 hv1 ha ha2 hle hle2 hcap
  go_upto_region 5 with fail
  obtain ⟨W, hW⟩ : ∃ W, W = wr.alloc (.cells #[.slice ka kn kc, .slice va vn vc, .int .i64 pg, .pointer nd] 95) := ⟨_, rfl⟩
  rw [<- hW]
  have bW : Below wr.heap.size wr W := by rw [hW]; exact ba ..
  have rW : W.heap[wr.heap.size]? = some (.cells #[.slice ka kn kc, .slice va vn vc, .int .i64 pg, .pointer nd] 95 (0, 0)) := by rw [hW]; exact heap_alloc_new _ _
  obtain ⟨gb, hgb⟩ : ∃ gb, gb = wr.heap.size := ⟨_, rfl⟩
  rw [<- hgb] at rW ⊢
  obtain ⟨x0, x1, x2, x3⟩ := aQ rW
  have BWW := hide (BW.out.trans (bW.mono BW.out.size))
  clear hW bW rW hgb u0 u1 u2 u3 BW
  go_wp2_with fail
  refine (uO ka va nd kn kc vn vc pg W (by omega) (by omega)).mono ?_
  rintro e W2 ⟨rfl, b2⟩
  have B2 := hide (BWW.out.trans (b2.mono BWW.out.size))
  clear b2 BWW x0 x1 x2 x3
  obtain ⟨m, hm⟩ : ∃ m, m = 4 + kn + vn := ⟨_, rfl⟩
  rw [<- hm] at EA ⊢
  have qm : m <= 1000000 := by omega
  clear hm
  go_wp2_with fail
  go_roundw
  case rel => exact ⟨k + 1, by omega, by go_num, by rw [<- HA2.out, EA.out]; go_num, B2⟩
  case measure => simp [intOf]; omega
 ·obtain rfl : k = n := by omega
  have e : es.take k = es := List.take_of_length_le (by have := HN.out; omega)
  rw [e, <- HSZ.out]
  clear e
  go_wp2_with fail
  go_ret
  exact ⟨rfl, BW.out⟩
set_option maxHeartbeats 2000000 in
set_option maxRecDepth 10000 in
theorem Dp (v : Value) (w : World) (hv : ∃ ao n c, v = .slice ao n c) : Calls Tryz.prog 39 #[v, .slice none 0 0] w fun e w' => e = .returned (.bool true) /\ w = w' := by
 obtain ⟨ao, n, c, rfl⟩ := hv
 go_enter Tryz.func39, Tryz.ntmps39
 go_wp2_with fail
 go_ret
 exact ⟨rfl, rfl⟩
set_option maxHeartbeats 2000000 in
set_option maxRecDepth 10000 in
theorem xX (g : Nat) (es : List S.Ent) (w : World) (hn : gT w g 0 es) (ho : S.bC 0 es) :
  Calls Tryz.prog 121 #[.pointer (some ⟨g, 0, none⟩), .slice none 0 0, .slice none 0 0] w fun e w' => e = .returned (.bool true) /\ Below w.heap.size w w' := by
 obtain ⟨v, d, h1, h2, h3⟩ := hn.is
 obtain ⟨ao, cap, rfl, _⟩ := h2.form
 have AT := hide (vT h2 h3)
 have HO := hide ho
 have hlen := ho.len
 have hL := h3.1
 rw [hL] at h1 AT
 obtain ⟨c0, c1⟩ := aK h1
 obtain ⟨n, hnn⟩ : ∃ n, n = es.length := ⟨_, rfl⟩
 rw [<- hnn] at c1 hlen
 have HN := hide hnn
 clear hn ho h1 h2 h3 hL hnn
 rcases Nat.eq_zero_or_pos n with e0 | e0
 ·subst e0
  go_enter Tryz.func121, Tryz.ntmps121
  go_wp2_with fail
  go_ret
  exact ⟨rfl, Below.refl _ _⟩
 ·have h0e : 0 < es.length := by have := HN.out; omega
  have hle : n - 1 < es.length := by have := HN.out; omega
  obtain ⟨b, off, cap', x, hv, hcap, hx, hb, hi, t0, t1, t2, t3⟩ := AT.out 0 h0e
  obtain ⟨b', off', cap'', y, hv', _, hy, _, hj, s0, s1, s2, s3⟩ := AT.out (n - 1) hle
  injection hv with hv1 hv2 hv3
  injection hv' with hw1 hw2 hw3
  subst hv1 hv3
  injection hw1 with hw1
  injection hw1 with hw4 hw5
  subst hw4 hw5 hw3
  have KX := hide hi.key
  have kpos : 0 < S.bU es[0].key [] := by
   have : es[0].key ≠ [] := HO.out.leaf rfl _ (List.getElem_mem h0e)
   cases hk : es[0].key with
   | nil => exact absurd hk this
   | cons a l => rw [S.iA]; omega
  have NIL : Hid (SliceAt w (.slice none 0 0) []) := Or.inl ⟨rfl, rfl⟩
  obtain ⟨c, hc⟩ : ∃ c, c = S.bU es[0].key [] := ⟨_, rfl⟩
  rw [<- hc] at kpos
  have CQ : Hid (Calls Tryz.prog 54 #[.slice x.ka x.kn x.kc, .slice none 0 0] w fun e w' => e = .returned (.int .i64 c) /\ w = w') := by rw [hc]; exact iH _ _ _ _ w KX.out NIL.out
  obtain ⟨ka, kn, kc, va, vn, vc, pg, nd⟩ := x
  obtain ⟨ka', kn', kc', va', vn', vc', pg', nd'⟩ := y
  simp only [Nat.zero_mul, Nat.add_zero] at t0
  simp only at s0
  have hc1 : decide (0 <= c) = true := decide_eq_true (by omega)
  have hc2 : 0 <= c := by omega
  have hz : ¬ (n : Int) = 0 := by omega
  have hz2 : ((n : Int) == 0) = false := beq_false_of_ne hz
  have q0 : (0 : Int) < (n : Int) := by omega
  have qk1 : (n : Int) - 1 = ((n - 1 : Nat) : Int) := by omega
  obtain ⟨k1, hk1⟩ : ∃ k1, k1 = n - 1 := ⟨_, rfl⟩
  rw [<- hk1] at s0 qk1
  have qk2 : (0 : Int) <= (k1 : Int) := by omega
  have qk3 : (k1 : Int) < (n : Int) := by omega
  clear t1 t2 t3 s1 s2 s3 hi hj hx hy hv2 hw2 kpos hc hk1 AT
  go_enter Tryz.func121, Tryz.ntmps121
  go_wp2_with (first | (go_at_call 54; refine CQ.out.mono ?_; rintro e w1 ⟨rfl, rfl⟩) | (go_at_call 39; refine (Dp _ _ ⟨_, _, _, rfl⟩).mono ?_; rintro e w1 ⟨rfl, rfl⟩))
  go_ret
  exact ⟨rfl, Below.refl _ _⟩
end Go.Proofs.YteealihknndclabGreatDoor
