/- A leaf is laid down: its page, its sheet. -/
import Derived.Test.YteealihknndclabGreatDoorCc
namespace Go.Proofs.YteealihknndclabGreatDoor
open Go.RowKit

def encS (x : Nat × Nat) : List Value := [.int .i64 (x.1 : Int), .slice (some ⟨x.2, 0, none⟩) 1024 1024]
theorem FZ (x : Nat × Nat) : ∀ v ∈ encS x, v.oneCell' = true := by
 intro v hv
 simp [encS] at hv
 rcases hv with rfl | rfl <;> rfl
theorem info144 : (Tryz.prog.info? 109).map (fun i => (i.zero, i.size, i.bytes)) = some (some (.agg #[.int .i64 0, .slice none 0 0]), 2, 32) := by kernel_rfl
def bn (B : Nat) (w : World) (v : Value) (l : List (Nat × Nat)) : Prop := w.ownsRow B 109 2 v l.length (l.flatMap encS)
theorem bn.nil (B : Nat) (w : World) : bn B w (.slice none 0 0) [] := ⟨rfl, Or.inl ⟨rfl, rfl⟩⟩
theorem bn.form {B : Nat} {w : World} {v : Value} {d : List (Nat × Nat)} (h : bn B w v d) : ∃ ao cap, v = .slice ao d.length cap := by
 rcases h.2 with ⟨rfl, h0⟩ | ⟨g, cap, cur, rfl, _⟩
 ·exact ⟨none, 0, by rw [h0]⟩
 ·exact ⟨_, _, rfl⟩
theorem bn.blk {B : Nat} {w : World} {v : Value} {d : List (Nat × Nat)} (h : bn B w v d) {k : Nat} (hk : v.ownBlock = some k) : B <= k /\ k < w.heap.size /\ ∃ cur, w.heap[k]? = some (.cells cur 109 (0, 0)) := by
 rcases h.2 with ⟨rfl, h0⟩ | ⟨g, cap, cur, rfl, hB, hr, _⟩
 ·simp [Value.ownBlock] at hk
 ·simp only [Value.ownBlock, Option.some.injEq] at hk
  subst hk
  exact ⟨hB, aa hr, cur, hr⟩
theorem bn.apart {B : Nat} {w : World} {v : Value} {d : List (Nat × Nat)} (h : bn B w v d) {k : Nat} {c : Array Value} {t : TypeId} {p : Nat × Nat} (hk : w.heap[k]? = some (.cells c t p)) (ht : t ≠ 109) : v.ownBlock ≠ some k := fun e => by
 obtain ⟨_, _, cur, hr⟩ := h.blk e
 rw [hk] at hr
 injection hr with hr
 injection hr with _ h2 _
 exact ht h2
theorem bn.chg {p : Nat -> Prop} {B : Nat} {w W : World} {v : Value} {d : List (Nat × Nat)} (h : bn B w v d) (hc : Chg p w W) (hp : ∀ k, v.ownBlock = some k -> ¬ p k) : bn B W v d := by
 refine ⟨h.1, ?_⟩
 rcases h.2 with h0 | ⟨g, cap, cur, rfl, hB, hr, h1⟩
 ·exact Or.inl h0
 ·exact Or.inr ⟨g, cap, cur, rfl, hB, hc.row hr (hp g rfl), h1⟩
theorem bn.below {B : Nat} {w W : World} {v : Value} {d : List (Nat × Nat)} (h : bn B w v d) (hb : Below w.heap.size w W) : bn B W v d := h.chg (p := fun _ => False) (Chg.ofBelow' hb) (fun _ _ e => e)
theorem dI (w : World) (B b : Nat) (v : Value) (d : List (Nat × Nat)) (y : Nat × Nat) (ty : TypeId) (hown : bn B w v d) (hu : w.heap[b]? = some (.cells (encS y).toArray 109 (0, 0))) (hl : d.length <= 100000) (hB : B <= w.heap.size) :
  ∃ v' w', (Builtin.append_ #[82, 82] ty #[v, .slice (some ⟨b, 0, none⟩) 1 1]).run Tryz.prog w = .ok v' w' /\ (bn B w' v' (d ++ [y]) /\ Chg (fun k => v.ownBlock = some k) w w') := by
 obtain ⟨i, hi, hz0, hz1, hz2⟩ := info_parts info144
 have hc : ∀ j x, (encS y)[j]? = some x -> w.cell? ((⟨b, 0, none⟩ : Addr).add j) = some x := fun j x hx => by
  rw [Addr.add_lit, Nat.zero_add, cell_of_row w b j _ _ _ hu]
  simpa using hx
 obtain ⟨v', w', h1, h2, h3, h4⟩ := run_append_own (P := Tryz.prog) w B 82 ty 109 i (.agg #[.int .i64 0, .slice none 0 0]) 2 32 Tryz.underlying82 hi hz0 hz1 hz2 rfl (by omega) v d.length (d.flatMap encS) hown ⟨b, 0, none⟩ 1 1 (encS y) rfl hc (FZ y) (by simp [maxLen]; omega) (by omega) hB
 have h2b : bn B w' v' (d ++ [y]) := by unfold bn; rw [List.length_append, List.flatMap_append]; simpa using h2
 exact ⟨v', w', h1, h2b, (Chg.refl _ w).grown h3 (fun k _ e => e)⟩
theorem kJ (W : World) (n : Int) (q : Nat) : (Instr.buildSlice 82 1 #[(0, .agg #[.int .i64 n, .slice (some ⟨q, 0, none⟩) 1024 1024])]).run Tryz.prog W = .ok (.slice (some ⟨W.heap.size, 0, none⟩) 1 1) (W.alloc (.cells #[.int .i64 n, .slice (some ⟨q, 0, none⟩) 1024 1024] 109)) := by
 go_simp
set_option maxHeartbeats 4000000 in
set_option maxRecDepth 10000 in
theorem lay_0 (B g gs gr g1 n : Nat) (ko : Option Addr) (kn kc : Nat) (h : S.Hh) (vs : Value) (sl : List (Nat × Nat)) (es : List S.Ent) (w : World) (he : aP w g gs h vs) (hu : h.used.length = 64) (hs : bn B w vs sl) (hr : w.heap[gr]? = some (.cells #[.slice ko kn kc, .slice none 0 0, .int .i64 0, .pointer (some ⟨g1, 0, none⟩)] 95 (0, 0)))
  (hN : ∀ W, Chg (fun k => k = g \/ k = gr) w W -> gT W g1 0 es) (ho : S.bC 0 es) (hf : S.sI h.used = some n) (hn : n < 512) (hsl : sl.length <= 1000) (hB : B <= w.heap.size) :
  Calls Tryz.prog 50 #[.pointer (some ⟨g, 0, none⟩), .pointer (some ⟨gr, 0, none⟩)] w fun e w' => e = .returned (.int .i64 0) /\ ∃ vs' q, aP w' g gs { h with used := S.bF h.used n } vs' /\ bn B w' vs' (sl ++ [(n, q)]) /\ w.heap.size <= q /\ w'.heap[q]? = some (.cells (S.v8 (S.aO (S.aN 0 es))) 5 (0, 0)) /\ w'.heap[gr]? = some (.cells #[.slice ko kn kc, .slice none 0 0, .int .i64 (n : Int), .pointer (some ⟨g1, 0, none⟩)] 95 (0, 0)) /\ Chg (fun k => k = g \/ k = gr \/ vs.ownBlock = some k) w w' := by
 have HE := hide he
 have HU := hide hu
 have HS := hide hs
 have HR := hide hr
 have HNN := hide hN
 have HO := hide ho
 have HF := hide hf
 have HN := hide hn
 have HSL := hide hsl
 have HB := hide hB
 have SA := hide (fun W => oM ⟨ko, kn, kc, none, 0, 0, 0, some ⟨g1, 0, none⟩⟩ W)
 obtain ⟨c0, c1, c2, c3⟩ := aQ hr
 have NE : Hid (g ≠ gr) := bq he hr (by decide)
 obtain ⟨vso, vsc, hvs⟩ := hs.form
 obtain ⟨vn, hvn⟩ : ∃ vn, vn = sl.length := ⟨_, rfl⟩
 rw [<- hvn] at hvs
 subst hvs
 clear he hu hs hr hN ho hf hn hsl hB hvn
 go_enter Tryz.func50, Tryz.ntmps50
 go_wp2_with fail
 refine (SA.out w).mono ?_
 rintro e X ⟨rfl, b1⟩
 have q : decide ((0 : Int) ≠ 0) = false := rfl
 simp only [q]
 have EX : Hid (aP X g gs h (.slice vso vn vsc)) := (b1.block g (aa HE.out)).trans HE.out
 have RX : Hid (X.heap[gr]? = some (.cells #[.slice ko kn kc, .slice none 0 0, .int .i64 0, .pointer (some ⟨g1, 0, none⟩)] 95 (0, 0))) := (b1.block gr (aa HR.out)).trans HR.out
 have SX := hide (HS.out.below b1)
 have CX : Hid (Chg (fun k => k = g \/ k = gr) w X) := Chg.ofBelow' b1
 clear b1 q c0 c1 c2 c3 SA
 obtain ⟨c0, c1, c2, c3⟩ := aQ RX.out
 obtain ⟨v, d, n1, n2, n3⟩ := (HNN.out X CX.out).is
 obtain ⟨ao, cap, hv, hbig⟩ := n2.form
 subst hv
 obtain ⟨m, hm⟩ : ∃ m, m = d.length := ⟨_, rfl⟩
 rw [<- hm] at n1 hbig
 obtain ⟨d0, d1⟩ := aK n1
 clear n1 n2 n3 hm
 go_wp2_with fail
 go_loopw [21] (fun i wr => i = .int .i64 0 /\ wr = X) (fun _ _ => 0)
 case atStart => exact ⟨rfl, rfl⟩
 case round =>
 obtain ⟨rfl, rfl⟩ := hrel
 by_cases hm0 : 0 < m
 focus
  have hmI : (0 : Int) < (m : Int) := by omega
  have hmD : decide ((0 : Int) < (m : Int)) = true := decide_eq_true hmI
  go_wp2_with fail
  refine (yc g 4 h.used wr (fun j hj => EX.out.byte j (by have := HU.out; omega))).mono ?_
  rintro e W1 ⟨rfl, q1, hw1⟩
  simp only [HF.out, Option.getD_some, Option.isSome_some]
  have E1 : Hid (aP W1 g gs h (.slice vso vn vsc)) := by rw [hw1]; exact EX.out
  have R1 : Hid (W1.heap[gr]? = some (.cells #[.slice ko kn kc, .slice none 0 0, .int .i64 0, .pointer (some ⟨g1, 0, none⟩)] 95 (0, 0))) := by rw [hw1]; exact RX.out
  have S1 : Hid (bn B W1 (.slice vso vn vsc) sl) := by rw [hw1]; exact SX.out
  have C1 : Hid (Chg (fun k => k = g \/ k = gr) w W1) := by rw [hw1]; exact CX.out.drewN q1
  clear hw1 c0 c1 c2 c3 d0 d1 EX RX SX CX
  go_wp2_with fail
  refine (E1.out.added HU.out n HN.out).mono ?_
  rintro e W2 ⟨rfl, e2, k2⟩
  have E2 := hide e2
  have R2 : Hid (W2.heap[gr]? = some (.cells #[.slice ko kn kc, .slice none 0 0, .int .i64 0, .pointer (some ⟨g1, 0, none⟩)] 95 (0, 0))) := k2.row R1.out (fun e => NE.out e.symm)
  have S2 : Hid (bn B W2 (.slice vso vn vsc) sl) := S1.out.chg k2 (fun k hk e => S1.out.apart E1.out (by decide) (by rw [<- e]; exact hk))
  have C2 : Hid (Chg (fun k => k = g \/ k = gr) w W2) := C1.out.trans k2 (fun _ _ e => Or.inl e)
  obtain ⟨c0, c1, c2, c3⟩ := aQ R2.out
  have f2 := frozen_of_row _ _ 2 _ _ R2.out
  clear e2 k2 E1 R1 S1 C1
  go_upto_region 16 with fail
  obtain ⟨W3, hW3⟩ : ∃ W3, W3 = W2.setCell ⟨gr, 2, none⟩ (.int .i64 (n : Int)) := ⟨_, rfl⟩
  rw [<- hW3]
  have k3 : Chg (fun k => k = gr) W2 W3 := by rw [hW3]; exact (Chg.refl (fun k => k = gr) _).setCell gr 2 _ (fun _ => rfl)
  have R3 : Hid (W3.heap[gr]? = some (.cells #[.slice ko kn kc, .slice none 0 0, .int .i64 (n : Int), .pointer (some ⟨g1, 0, none⟩)] 95 (0, 0))) := by
   show W3.heap[gr]? = _
   rw [hW3, heap_setCell_same W2 gr 2 _ _ _ R2.out]; rfl
  have E3 : Hid (aP W3 g gs { h with used := S.bF h.used n } (.slice vso vn vsc)) := k3.row E2.out NE.out
  have S3 : Hid (bn B W3 (.slice vso vn vsc) sl) := S2.out.chg k3 (fun k hk e => S2.out.apart R2.out (by decide) (by rw [<- e]; exact hk))
  have C3 : Hid (Chg (fun k => k = g \/ k = gr) w W3) := C2.out.trans k3 (fun _ _ e => Or.inr e)
  clear hW3 k3 c0 c1 c2 c3 f2 E2 R2 S2 C2
  refine wp_region_noPanic ?_
  refine wp_region_held_drew (S := (fun W => W.cell? ⟨gr, 3, none⟩ = some (.pointer (some ⟨g1, 0, none⟩)))) follows (aQ R3.out).2.2.2 (fun hHeld => ?_)
  have R3d : Hid (W3.drew.heap[gr]? = some (.cells #[.slice ko kn kc, .slice none 0 0, .int .i64 (n : Int), .pointer (some ⟨g1, 0, none⟩)] 95 (0, 0))) := R3.out
  have E3d : Hid (aP W3.drew g gs { h with used := S.bF h.used n } (.slice vso vn vsc)) := E3.out
  have S3d : Hid (bn B W3.drew (.slice vso vn vsc) sl) := S3.out
  have C3d : Hid (Chg (fun k => k = g \/ k = gr) w W3.drew) := C3.out.drew
  have OL : Hid ((S.bF h.used n).length = 64) := by show (S.bF h.used n).length = 64; rw [S.dF]; exact HU.out
  clear R3 E3 S3 C3
  generalize W3.drew = Z1 at R3d E3d S3d C3d hHeld ⊢
  refine tq 0 ?_
  simp only [uA]
  refine tq 1 ?_
  simp only [uA]
  refine tq 2 ?_
  simp only [uA]
  refine tq 3 ?_
  simp only [uA]
  refine tq 5 ?_
  simp only [uA]
  refine tq 6 ?_
  simp only [uA]
  refine tq 7 ?_
  simp only [uA]
  refine tk 8 ?_ rfl (Or.inl ⟨by rfl, ?_⟩) ?_
  rotate_left
  ·intro w hSw
   have c4 := hSw
   clear hSw
   go_simp
   all_goals with_reducible rfl
  simp only [uA]
  refine tq 9 ?_
  simp only [uA]
  refine rdy [4, 10] ?_
  refine AllReadyH.cons (o := ⟨_, _, _, _, _, _⟩) rfl (fun K hK => ?_) ?_
  focus
   have c1 := E3d.out.sheets OL.out
   go_simp
   refine hK.out _ _ (by assumption) (fun hHeld => ?_)
   clear hK K c1
   try simp only [uA]
   refine r1 10 fun K hK => ?_
   go_simp
   refine (lh g1 n es Z1 (HNN.out Z1 C3d.out) HO.out).mono ?_
   rintro e Z2 ⟨q, rfl, hq, rq, b2⟩
   have R4 : Hid (Z2.heap[gr]? = some (.cells #[.slice ko kn kc, .slice none 0 0, .int .i64 (n : Int), .pointer (some ⟨g1, 0, none⟩)] 95 (0, 0))) := (b2.block gr (aa R3d.out)).trans R3d.out
   have E4 : Hid (aP Z2 g gs { h with used := S.bF h.used n } (.slice vso vn vsc)) := (b2.block g (aa E3d.out)).trans E3d.out
   have S4 : Hid (bn B Z2 (.slice vso vn vsc) sl) := S3d.out.below b2
   have C4 : Hid (Chg (fun k => k = g \/ k = gr) w Z2) := C3d.out.trans (Chg.ofBelow' (p := fun k => k = g \/ k = gr) b2) (fun _ _ e => e)
   have Q4 : Hid (w.heap.size <= q) := ltr C3d.out.size hq
   have RQ := hide rq
   have a4 := (aQ R4.out).2.2.2
   clear hHeld R3d E3d S3d C3d hq rq b2
   refine hK.out _ _ a4 (fun hHeld => ?_)
   clear hK K a4
   try simp only [uA]
   refine rdy [11] ?_
   refine aJ (o := ⟨_, _, _, _, _, _⟩) rfl rfl 82 1 [(0, Operand.tmp 77)] rfl _ _ (kJ Z2 (n : Int) q) AllReadyH.nil ⟨(aQ ((heap_alloc_old _ _ (aa R4.out)).trans R4.out)).2.2.2, fun hHeld => ?_⟩
   try simp only [uA]
   obtain ⟨Z3, hZ3⟩ : ∃ Z3, Z3 = Z2.alloc (.cells #[.int .i64 (n : Int), .slice (some ⟨q, 0, none⟩) 1024 1024] 109) := ⟨_, rfl⟩
   rw [<- hZ3] at hHeld ⊢
   have b3 : Below Z2.heap.size Z2 Z3 := by rw [hZ3]; exact ba ..
   have r3 : Z3.heap[Z2.heap.size]? = some (.cells (encS (n, q)).toArray 109 (0, 0)) := by rw [hZ3]; exact heap_alloc_new _ _
   have R5 : Hid (Z3.heap[gr]? = some (.cells #[.slice ko kn kc, .slice none 0 0, .int .i64 (n : Int), .pointer (some ⟨g1, 0, none⟩)] 95 (0, 0))) := (b3.block gr (aa R4.out)).trans R4.out
   have E5 : Hid (aP Z3 g gs { h with used := S.bF h.used n } (.slice vso vn vsc)) := (b3.block g (aa E4.out)).trans E4.out
   have S5 : Hid (bn B Z3 (.slice vso vn vsc) sl) := S4.out.below b3
   have C5 : Hid (Chg (fun k => k = g \/ k = gr) w Z3) := C4.out.trans (Chg.ofBelow' (p := fun k => k = g \/ k = gr) b3) (fun _ _ e => e)
   have RQ5 : Hid (Z3.heap[q]? = some (.cells (S.v8 (S.aO (S.aN 0 es))) 5 (0, 0))) := (b3.block q (aa RQ.out)).trans RQ.out
   have APP := dI Z3 B Z2.heap.size (.slice vso vn vsc) sl (n, q) 82 S5.out r3 (by have := HSL.out; omega) (ltr HB.out C5.out.size)
   clear b3 r3 hZ3 R4 E4 S4 C4 RQ
  rotate_left
  focus
   refine c1 fun K hK => ?_
   go_simp
   refine (lh g1 n es Z1 (HNN.out Z1 C3d.out) HO.out).mono ?_
   rintro e Z2 ⟨q, rfl, hq, rq, b2⟩
   have R4 : Hid (Z2.heap[gr]? = some (.cells #[.slice ko kn kc, .slice none 0 0, .int .i64 (n : Int), .pointer (some ⟨g1, 0, none⟩)] 95 (0, 0))) := (b2.block gr (aa R3d.out)).trans R3d.out
   have E4 : Hid (aP Z2 g gs { h with used := S.bF h.used n } (.slice vso vn vsc)) := (b2.block g (aa E3d.out)).trans E3d.out
   have S4 : Hid (bn B Z2 (.slice vso vn vsc) sl) := S3d.out.below b2
   have C4 : Hid (Chg (fun k => k = g \/ k = gr) w Z2) := C3d.out.trans (Chg.ofBelow' (p := fun k => k = g \/ k = gr) b2) (fun _ _ e => e)
   have Q4 : Hid (w.heap.size <= q) := ltr C3d.out.size hq
   have RQ := hide rq
   have a4 := (aQ R4.out).2.2.2
   clear hHeld R3d E3d S3d C3d hq rq b2
   refine hK.out _ _ a4 (fun hHeld => ?_)
   clear hK K a4
   try simp only [uA]
   refine rdy [4, 11] ?_
   refine AllReadyH.cons (o := ⟨_, _, _, _, _, _⟩) rfl (fun K hK => ?_) ?_
   focus
    have c1 := E4.out.sheets OL.out
    go_simp
    refine hK.out _ _ (by assumption) (fun hHeld => ?_)
    clear hK K c1
    try simp only [uA]
    refine rdy [11] ?_
    refine aJ (o := ⟨_, _, _, _, _, _⟩) rfl rfl 82 1 [(0, Operand.tmp 77)] rfl _ _ (kJ Z2 (n : Int) q) AllReadyH.nil ⟨(aQ ((heap_alloc_old _ _ (aa R4.out)).trans R4.out)).2.2.2, fun hHeld => ?_⟩
    try simp only [uA]
    obtain ⟨Z3, hZ3⟩ : ∃ Z3, Z3 = Z2.alloc (.cells #[.int .i64 (n : Int), .slice (some ⟨q, 0, none⟩) 1024 1024] 109) := ⟨_, rfl⟩
    rw [<- hZ3] at hHeld ⊢
    have b3 : Below Z2.heap.size Z2 Z3 := by rw [hZ3]; exact ba ..
    have r3 : Z3.heap[Z2.heap.size]? = some (.cells (encS (n, q)).toArray 109 (0, 0)) := by rw [hZ3]; exact heap_alloc_new _ _
    have R5 : Hid (Z3.heap[gr]? = some (.cells #[.slice ko kn kc, .slice none 0 0, .int .i64 (n : Int), .pointer (some ⟨g1, 0, none⟩)] 95 (0, 0))) := (b3.block gr (aa R4.out)).trans R4.out
    have E5 : Hid (aP Z3 g gs { h with used := S.bF h.used n } (.slice vso vn vsc)) := (b3.block g (aa E4.out)).trans E4.out
    have S5 : Hid (bn B Z3 (.slice vso vn vsc) sl) := S4.out.below b3
    have C5 : Hid (Chg (fun k => k = g \/ k = gr) w Z3) := C4.out.trans (Chg.ofBelow' (p := fun k => k = g \/ k = gr) b3) (fun _ _ e => e)
    have RQ5 : Hid (Z3.heap[q]? = some (.cells (S.v8 (S.aO (S.aN 0 es))) 5 (0, 0))) := (b3.block q (aa RQ.out)).trans RQ.out
    have APP := dI Z3 B Z2.heap.size (.slice vso vn vsc) sl (n, q) 82 S5.out r3 (by have := HSL.out; omega) (ltr HB.out C5.out.size)
    clear b3 r3 hZ3 R4 E4 S4 C4 RQ
   rotate_left
   focus
    refine aJ (o := ⟨_, _, _, _, _, _⟩) rfl rfl 82 1 [(0, Operand.tmp 77)] rfl _ _ (kJ Z2 (n : Int) q) AllReadyH.nil ⟨(aQ ((heap_alloc_old _ _ (aa R4.out)).trans R4.out)).2.2.2, fun hHeld => ?_⟩
    try simp only [uA]
    obtain ⟨Z3, hZ3⟩ : ∃ Z3, Z3 = Z2.alloc (.cells #[.int .i64 (n : Int), .slice (some ⟨q, 0, none⟩) 1024 1024] 109) := ⟨_, rfl⟩
    rw [<- hZ3] at hHeld ⊢
    have b3 : Below Z2.heap.size Z2 Z3 := by rw [hZ3]; exact ba ..
    have r3 : Z3.heap[Z2.heap.size]? = some (.cells (encS (n, q)).toArray 109 (0, 0)) := by rw [hZ3]; exact heap_alloc_new _ _
    have R5 : Hid (Z3.heap[gr]? = some (.cells #[.slice ko kn kc, .slice none 0 0, .int .i64 (n : Int), .pointer (some ⟨g1, 0, none⟩)] 95 (0, 0))) := (b3.block gr (aa R4.out)).trans R4.out
    have E5 : Hid (aP Z3 g gs { h with used := S.bF h.used n } (.slice vso vn vsc)) := (b3.block g (aa E4.out)).trans E4.out
    have S5 : Hid (bn B Z3 (.slice vso vn vsc) sl) := S4.out.below b3
    have C5 : Hid (Chg (fun k => k = g \/ k = gr) w Z3) := C4.out.trans (Chg.ofBelow' (p := fun k => k = g \/ k = gr) b3) (fun _ _ e => e)
    have RQ5 : Hid (Z3.heap[q]? = some (.cells (S.v8 (S.aO (S.aN 0 es))) 5 (0, 0))) := (b3.block q (aa RQ.out)).trans RQ.out
    have APP := dI Z3 B Z2.heap.size (.slice vso vn vsc) sl (n, q) 82 S5.out r3 (by have := HSL.out; omega) (ltr HB.out C5.out.size)
    clear b3 r3 hZ3 R4 E4 S4 C4 RQ
    refine r1 4 fun K hK => ?_
    have c1 := E5.out.sheets OL.out
    go_simp
    refine hK.out _ _ (by assumption) (fun hHeld => ?_)
    clear hK K c1
    try simp only [uA]
 rotate_left 3
 focus
  have hmI : ¬ (0 : Int) < (m : Int) := by omega
  have hmD : decide ((0 : Int) < (m : Int)) = false := decide_eq_false hmI
  go_wp2_with fail
  refine (yc g 4 h.used wr (fun j hj => EX.out.byte j (by have := HU.out; omega))).mono ?_
  rintro e W1 ⟨rfl, q1, hw1⟩
  simp only [HF.out, Option.getD_some, Option.isSome_some]
  have E1 : Hid (aP W1 g gs h (.slice vso vn vsc)) := by rw [hw1]; exact EX.out
  have R1 : Hid (W1.heap[gr]? = some (.cells #[.slice ko kn kc, .slice none 0 0, .int .i64 0, .pointer (some ⟨g1, 0, none⟩)] 95 (0, 0))) := by rw [hw1]; exact RX.out
  have S1 : Hid (bn B W1 (.slice vso vn vsc) sl) := by rw [hw1]; exact SX.out
  have C1 : Hid (Chg (fun k => k = g \/ k = gr) w W1) := by rw [hw1]; exact CX.out.drewN q1
  clear hw1 c0 c1 c2 c3 d0 d1 EX RX SX CX
  go_wp2_with fail
  refine (E1.out.added HU.out n HN.out).mono ?_
  rintro e W2 ⟨rfl, e2, k2⟩
  have E2 := hide e2
  have R2 : Hid (W2.heap[gr]? = some (.cells #[.slice ko kn kc, .slice none 0 0, .int .i64 0, .pointer (some ⟨g1, 0, none⟩)] 95 (0, 0))) := k2.row R1.out (fun e => NE.out e.symm)
  have S2 : Hid (bn B W2 (.slice vso vn vsc) sl) := S1.out.chg k2 (fun k hk e => S1.out.apart E1.out (by decide) (by rw [<- e]; exact hk))
  have C2 : Hid (Chg (fun k => k = g \/ k = gr) w W2) := C1.out.trans k2 (fun _ _ e => Or.inl e)
  obtain ⟨c0, c1, c2, c3⟩ := aQ R2.out
  have f2 := frozen_of_row _ _ 2 _ _ R2.out
  clear e2 k2 E1 R1 S1 C1
  go_upto_region 16 with fail
  obtain ⟨W3, hW3⟩ : ∃ W3, W3 = W2.setCell ⟨gr, 2, none⟩ (.int .i64 (n : Int)) := ⟨_, rfl⟩
  rw [<- hW3]
  have k3 : Chg (fun k => k = gr) W2 W3 := by rw [hW3]; exact (Chg.refl (fun k => k = gr) _).setCell gr 2 _ (fun _ => rfl)
  have R3 : Hid (W3.heap[gr]? = some (.cells #[.slice ko kn kc, .slice none 0 0, .int .i64 (n : Int), .pointer (some ⟨g1, 0, none⟩)] 95 (0, 0))) := by
   show W3.heap[gr]? = _
   rw [hW3, heap_setCell_same W2 gr 2 _ _ _ R2.out]; rfl
  have E3 : Hid (aP W3 g gs { h with used := S.bF h.used n } (.slice vso vn vsc)) := k3.row E2.out NE.out
  have S3 : Hid (bn B W3 (.slice vso vn vsc) sl) := S2.out.chg k3 (fun k hk e => S2.out.apart R2.out (by decide) (by rw [<- e]; exact hk))
  have C3 : Hid (Chg (fun k => k = g \/ k = gr) w W3) := C2.out.trans k3 (fun _ _ e => Or.inr e)
  clear hW3 k3 c0 c1 c2 c3 f2 E2 R2 S2 C2
  refine wp_region_noPanic ?_
  refine wp_region_held_drew (S := (fun W => W.cell? ⟨gr, 3, none⟩ = some (.pointer (some ⟨g1, 0, none⟩)))) follows (aQ R3.out).2.2.2 (fun hHeld => ?_)
  have R3d : Hid (W3.drew.heap[gr]? = some (.cells #[.slice ko kn kc, .slice none 0 0, .int .i64 (n : Int), .pointer (some ⟨g1, 0, none⟩)] 95 (0, 0))) := R3.out
  have E3d : Hid (aP W3.drew g gs { h with used := S.bF h.used n } (.slice vso vn vsc)) := E3.out
  have S3d : Hid (bn B W3.drew (.slice vso vn vsc) sl) := S3.out
  have C3d : Hid (Chg (fun k => k = g \/ k = gr) w W3.drew) := C3.out.drew
  have OL : Hid ((S.bF h.used n).length = 64) := by show (S.bF h.used n).length = 64; rw [S.dF]; exact HU.out
  clear R3 E3 S3 C3
  generalize W3.drew = Z1 at R3d E3d S3d C3d hHeld ⊢
  refine tq 0 ?_
  simp only [uA]
  refine tq 1 ?_
  simp only [uA]
  refine tq 2 ?_
  simp only [uA]
  refine tq 3 ?_
  simp only [uA]
  refine tq 5 ?_
  simp only [uA]
  refine tq 6 ?_
  simp only [uA]
  refine tq 7 ?_
  simp only [uA]
  refine tk 8 ?_ rfl (Or.inl ⟨by rfl, ?_⟩) ?_
  rotate_left
  ·intro w hSw
   have c4 := hSw
   clear hSw
   go_simp
   all_goals with_reducible rfl
  simp only [uA]
  refine tq 9 ?_
  simp only [uA]
  refine rdy [4, 10] ?_
  refine AllReadyH.cons (o := ⟨_, _, _, _, _, _⟩) rfl (fun K hK => ?_) ?_
  focus
   have c1 := E3d.out.sheets OL.out
   go_simp
   refine hK.out _ _ (by assumption) (fun hHeld => ?_)
   clear hK K c1
   try simp only [uA]
   refine r1 10 fun K hK => ?_
   go_simp
   refine (lh g1 n es Z1 (HNN.out Z1 C3d.out) HO.out).mono ?_
   rintro e Z2 ⟨q, rfl, hq, rq, b2⟩
   have R4 : Hid (Z2.heap[gr]? = some (.cells #[.slice ko kn kc, .slice none 0 0, .int .i64 (n : Int), .pointer (some ⟨g1, 0, none⟩)] 95 (0, 0))) := (b2.block gr (aa R3d.out)).trans R3d.out
   have E4 : Hid (aP Z2 g gs { h with used := S.bF h.used n } (.slice vso vn vsc)) := (b2.block g (aa E3d.out)).trans E3d.out
   have S4 : Hid (bn B Z2 (.slice vso vn vsc) sl) := S3d.out.below b2
   have C4 : Hid (Chg (fun k => k = g \/ k = gr) w Z2) := C3d.out.trans (Chg.ofBelow' (p := fun k => k = g \/ k = gr) b2) (fun _ _ e => e)
   have Q4 : Hid (w.heap.size <= q) := ltr C3d.out.size hq
   have RQ := hide rq
   have a4 := (aQ R4.out).2.2.2
   clear hHeld R3d E3d S3d C3d hq rq b2
   refine hK.out _ _ a4 (fun hHeld => ?_)
   clear hK K a4
   try simp only [uA]
   refine rdy [11] ?_
   refine aJ (o := ⟨_, _, _, _, _, _⟩) rfl rfl 82 1 [(0, Operand.tmp 77)] rfl _ _ (kJ Z2 (n : Int) q) AllReadyH.nil ⟨(aQ ((heap_alloc_old _ _ (aa R4.out)).trans R4.out)).2.2.2, fun hHeld => ?_⟩
   try simp only [uA]
   obtain ⟨Z3, hZ3⟩ : ∃ Z3, Z3 = Z2.alloc (.cells #[.int .i64 (n : Int), .slice (some ⟨q, 0, none⟩) 1024 1024] 109) := ⟨_, rfl⟩
   rw [<- hZ3] at hHeld ⊢
   have b3 : Below Z2.heap.size Z2 Z3 := by rw [hZ3]; exact ba ..
   have r3 : Z3.heap[Z2.heap.size]? = some (.cells (encS (n, q)).toArray 109 (0, 0)) := by rw [hZ3]; exact heap_alloc_new _ _
   have R5 : Hid (Z3.heap[gr]? = some (.cells #[.slice ko kn kc, .slice none 0 0, .int .i64 (n : Int), .pointer (some ⟨g1, 0, none⟩)] 95 (0, 0))) := (b3.block gr (aa R4.out)).trans R4.out
   have E5 : Hid (aP Z3 g gs { h with used := S.bF h.used n } (.slice vso vn vsc)) := (b3.block g (aa E4.out)).trans E4.out
   have S5 : Hid (bn B Z3 (.slice vso vn vsc) sl) := S4.out.below b3
   have C5 : Hid (Chg (fun k => k = g \/ k = gr) w Z3) := C4.out.trans (Chg.ofBelow' (p := fun k => k = g \/ k = gr) b3) (fun _ _ e => e)
   have RQ5 : Hid (Z3.heap[q]? = some (.cells (S.v8 (S.aO (S.aN 0 es))) 5 (0, 0))) := (b3.block q (aa RQ.out)).trans RQ.out
   have APP := dI Z3 B Z2.heap.size (.slice vso vn vsc) sl (n, q) 82 S5.out r3 (by have := HSL.out; omega) (ltr HB.out C5.out.size)
   clear b3 r3 hZ3 R4 E4 S4 C4 RQ
  rotate_left
  focus
   refine c1 fun K hK => ?_
   go_simp
   refine (lh g1 n es Z1 (HNN.out Z1 C3d.out) HO.out).mono ?_
   rintro e Z2 ⟨q, rfl, hq, rq, b2⟩
   have R4 : Hid (Z2.heap[gr]? = some (.cells #[.slice ko kn kc, .slice none 0 0, .int .i64 (n : Int), .pointer (some ⟨g1, 0, none⟩)] 95 (0, 0))) := (b2.block gr (aa R3d.out)).trans R3d.out
   have E4 : Hid (aP Z2 g gs { h with used := S.bF h.used n } (.slice vso vn vsc)) := (b2.block g (aa E3d.out)).trans E3d.out
   have S4 : Hid (bn B Z2 (.slice vso vn vsc) sl) := S3d.out.below b2
   have C4 : Hid (Chg (fun k => k = g \/ k = gr) w Z2) := C3d.out.trans (Chg.ofBelow' (p := fun k => k = g \/ k = gr) b2) (fun _ _ e => e)
   have Q4 : Hid (w.heap.size <= q) := ltr C3d.out.size hq
   have RQ := hide rq
   have a4 := (aQ R4.out).2.2.2
   clear hHeld R3d E3d S3d C3d hq rq b2
   refine hK.out _ _ a4 (fun hHeld => ?_)
   clear hK K a4
   try simp only [uA]
   refine rdy [4, 11] ?_
   refine AllReadyH.cons (o := ⟨_, _, _, _, _, _⟩) rfl (fun K hK => ?_) ?_
   focus
    have c1 := E4.out.sheets OL.out
    go_simp
    refine hK.out _ _ (by assumption) (fun hHeld => ?_)
    clear hK K c1
    try simp only [uA]
    refine rdy [11] ?_
    refine aJ (o := ⟨_, _, _, _, _, _⟩) rfl rfl 82 1 [(0, Operand.tmp 77)] rfl _ _ (kJ Z2 (n : Int) q) AllReadyH.nil ⟨(aQ ((heap_alloc_old _ _ (aa R4.out)).trans R4.out)).2.2.2, fun hHeld => ?_⟩
    try simp only [uA]
    obtain ⟨Z3, hZ3⟩ : ∃ Z3, Z3 = Z2.alloc (.cells #[.int .i64 (n : Int), .slice (some ⟨q, 0, none⟩) 1024 1024] 109) := ⟨_, rfl⟩
    rw [<- hZ3] at hHeld ⊢
    have b3 : Below Z2.heap.size Z2 Z3 := by rw [hZ3]; exact ba ..
    have r3 : Z3.heap[Z2.heap.size]? = some (.cells (encS (n, q)).toArray 109 (0, 0)) := by rw [hZ3]; exact heap_alloc_new _ _
    have R5 : Hid (Z3.heap[gr]? = some (.cells #[.slice ko kn kc, .slice none 0 0, .int .i64 (n : Int), .pointer (some ⟨g1, 0, none⟩)] 95 (0, 0))) := (b3.block gr (aa R4.out)).trans R4.out
    have E5 : Hid (aP Z3 g gs { h with used := S.bF h.used n } (.slice vso vn vsc)) := (b3.block g (aa E4.out)).trans E4.out
    have S5 : Hid (bn B Z3 (.slice vso vn vsc) sl) := S4.out.below b3
    have C5 : Hid (Chg (fun k => k = g \/ k = gr) w Z3) := C4.out.trans (Chg.ofBelow' (p := fun k => k = g \/ k = gr) b3) (fun _ _ e => e)
    have RQ5 : Hid (Z3.heap[q]? = some (.cells (S.v8 (S.aO (S.aN 0 es))) 5 (0, 0))) := (b3.block q (aa RQ.out)).trans RQ.out
    have APP := dI Z3 B Z2.heap.size (.slice vso vn vsc) sl (n, q) 82 S5.out r3 (by have := HSL.out; omega) (ltr HB.out C5.out.size)
    clear b3 r3 hZ3 R4 E4 S4 C4 RQ
   rotate_left
   focus
    refine aJ (o := ⟨_, _, _, _, _, _⟩) rfl rfl 82 1 [(0, Operand.tmp 77)] rfl _ _ (kJ Z2 (n : Int) q) AllReadyH.nil ⟨(aQ ((heap_alloc_old _ _ (aa R4.out)).trans R4.out)).2.2.2, fun hHeld => ?_⟩
    try simp only [uA]
    obtain ⟨Z3, hZ3⟩ : ∃ Z3, Z3 = Z2.alloc (.cells #[.int .i64 (n : Int), .slice (some ⟨q, 0, none⟩) 1024 1024] 109) := ⟨_, rfl⟩
    rw [<- hZ3] at hHeld ⊢
    have b3 : Below Z2.heap.size Z2 Z3 := by rw [hZ3]; exact ba ..
    have r3 : Z3.heap[Z2.heap.size]? = some (.cells (encS (n, q)).toArray 109 (0, 0)) := by rw [hZ3]; exact heap_alloc_new _ _
    have R5 : Hid (Z3.heap[gr]? = some (.cells #[.slice ko kn kc, .slice none 0 0, .int .i64 (n : Int), .pointer (some ⟨g1, 0, none⟩)] 95 (0, 0))) := (b3.block gr (aa R4.out)).trans R4.out
    have E5 : Hid (aP Z3 g gs { h with used := S.bF h.used n } (.slice vso vn vsc)) := (b3.block g (aa E4.out)).trans E4.out
    have S5 : Hid (bn B Z3 (.slice vso vn vsc) sl) := S4.out.below b3
    have C5 : Hid (Chg (fun k => k = g \/ k = gr) w Z3) := C4.out.trans (Chg.ofBelow' (p := fun k => k = g \/ k = gr) b3) (fun _ _ e => e)
    have RQ5 : Hid (Z3.heap[q]? = some (.cells (S.v8 (S.aO (S.aN 0 es))) 5 (0, 0))) := (b3.block q (aa RQ.out)).trans RQ.out
    have APP := dI Z3 B Z2.heap.size (.slice vso vn vsc) sl (n, q) 82 S5.out r3 (by have := HSL.out; omega) (ltr HB.out C5.out.size)
    clear b3 r3 hZ3 R4 E4 S4 C4 RQ
    refine r1 4 fun K hK => ?_
    have c1 := E5.out.sheets OL.out
    go_simp
    refine hK.out _ _ (by assumption) (fun hHeld => ?_)
    clear hK K c1
    try simp only [uA]
 all_goals
  refine rdy [12] ?_
  refine bK (o := ⟨_, _, _, _, _, _⟩) rfl rfl _ _ 82 82 rfl _ _ rfl rfl APP AllReadyH.nil ?_
  rintro v6 Z4 ⟨s6, k6⟩
  have R6 : Hid (Z4.heap[gr]? = some (.cells #[.slice ko kn kc, .slice none 0 0, .int .i64 (n : Int), .pointer (some ⟨g1, 0, none⟩)] 95 (0, 0))) := k6.row R5.out (S5.out.apart R5.out (by decide))
  have E6 : Hid (aP Z4 g gs { h with used := S.bF h.used n } (.slice vso vn vsc)) := k6.row E5.out (S5.out.apart E5.out (by decide))
  have RQ6 : Hid (Z4.heap[q]? = some (.cells (S.v8 (S.aO (S.aN 0 es))) 5 (0, 0))) := k6.row RQ5.out (S5.out.apart RQ5.out (by decide))
  have C6 : Hid (Chg (fun k => k = g \/ k = gr \/ (Value.slice vso vn vsc).ownBlock = some k) w Z4) := (Chg.trans (p := fun k => k = g \/ k = gr \/ (Value.slice vso vn vsc).ownBlock = some k) ⟨C5.out.os, C5.out.tape, C5.out.output, C5.out.size, fun j hj hp => C5.out.block j hj (fun e => hp (e.elim Or.inl (fun e => Or.inr (Or.inl e))))⟩ k6 (fun _ _ e => Or.inr (Or.inr e)))
  have S6 := hide s6
  refine ⟨(aQ R6.out).2.2.2, fun hHeld => ?_⟩
  clear s6 k6 R5 E5 S5 C5 RQ5 APP
  try simp only [uA]
  obtain ⟨o6, oc6, hv6⟩ := S6.out.form
  obtain ⟨n6, hn6⟩ : ∃ n6, n6 = (sl ++ [(n, q)]).length := ⟨_, rfl⟩
  rw [<- hn6] at hv6
  subst hv6
  clear hn6
  refine tq 13 ?_
  simp only [uA]
  refine tq 14 ?_
  simp only [uA]
  refine r1 15 fun K hK => ?_
  have c1 := E6.out.sheets OL.out
  have f1 := frozen_of_row _ _ 68 _ _ E6.out
  go_simp
  have k7 : Chg (fun k => k = g) Z4 (Z4.setCell ⟨g, 68, none⟩ (.slice o6 n6 oc6)) := (Chg.refl (fun k => k = g) _).setCell g 68 _ (fun _ => rfl)
  have E7 := hide (E6.out.setSheets OL.out (.slice o6 n6 oc6))
  have R7 : Hid ((Z4.setCell ⟨g, 68, none⟩ (.slice o6 n6 oc6)).heap[gr]? = some (.cells #[.slice ko kn kc, .slice none 0 0, .int .i64 (n : Int), .pointer (some ⟨g1, 0, none⟩)] 95 (0, 0))) := k7.row R6.out (fun e => NE.out e.symm)
  have RQ7 : Hid ((Z4.setCell ⟨g, 68, none⟩ (.slice o6 n6 oc6)).heap[q]? = some (.cells (S.v8 (S.aO (S.aN 0 es))) 5 (0, 0))) := k7.row RQ6.out (fun e => bq RQ6.out E6.out (by decide) e)
  have S7 : Hid (bn B (Z4.setCell ⟨g, 68, none⟩ (.slice o6 n6 oc6)) (.slice o6 n6 oc6) (sl ++ [(n, q)])) := S6.out.chg k7 (fun k hk e => S6.out.apart E6.out (by decide) (by rw [<- e]; exact hk))
  have C7 : Hid (Chg (fun k => k = g \/ k = gr \/ (Value.slice vso vn vsc).ownBlock = some k) w (Z4.setCell ⟨g, 68, none⟩ (.slice o6 n6 oc6))) := C6.out.trans k7 (fun _ _ e => Or.inl e)
  clear hHeld
  refine hK.out _ _ (aQ R7.out).2.2.2 (fun hHeld => ?_)
  clear hK K c1 f1 k7 R6 E6 S6 C6 RQ6
  try simp only [uA]
  refine wpAnyH_done (by kernel_rfl) ?_ _
  refine NoPanic.normal ?_
  clear hHeld
  generalize Z4.setCell ⟨g, 68, none⟩ (.slice o6 n6 oc6) = Z5 at R7 E7 S7 C7 RQ7 ⊢
  go_wp2_with fail
  go_ret
  exact ⟨rfl, _, q, E7.out, S7.out, Q4.out, RQ7.out, R7.out, C7.out⟩
theorem info156 : (Tryz.prog.info? 117).map (fun i => (i.size, i.bytes)) = some (69, 120) := by kernel_rfl
def ed0 : List Value := .pointer none :: (S.hhc S.Hh.none ++ [.slice none 0 0])
theorem zero156 : (Tryz.prog.info? 117).bind (·.zero) = some (.agg ed0.toArray) := by kernel_rfl
set_option maxRecDepth 100000 in
theorem Gg (parts : List (Nat × Value)) : Tryz.prog.built 117 parts = Instr.fill ((#[(0, 1), (1, 67), (68, 1)] : Array (Nat × Nat))[·]?) ed0.toArray parts := by
 obtain ⟨i, hi, hz, _, _⟩ := bZ info156 zero156
 unfold Program.built
 rw [hi, Tryz.underlying117]
 simp only [hz]
 kernel_rfl
set_option maxRecDepth 100000 in
theorem Gm (gs n : Nat) (w : World) : (Instr.build 117 #[(0, .pointer (some ⟨gs, 0, none⟩)), (1, hhv (S.lhd n))]).run Tryz.prog w = .ok (.agg (edc gs (S.lhd n) (.slice none 0 0)).toArray) w :=
 run_build w 117 _ _ (by
  rw [Gg]
  unfold Instr.fill
  simp only [show (#[(0, 1), (1, 67), (68, 1)] : Array (Nat × Nat))[0]? = some (0, 1) from rfl]
  rw [if_neg (by simp [Value.cells, ed0])]
  unfold Instr.fill
  simp only [show (#[(0, 1), (1, 67), (68, 1)] : Array (Nat × Nat))[1]? = some (1, 67) from rfl]
  rw [if_neg (by simp [Value.cells, hhv, S.cO (h := S.lhd n) rfl]; decide +kernel)]
  unfold Instr.fill
  kernel_rfl)
theorem oH {w : World} {ops : Array Oper} {rest : List Oper} {o : Oper} {a : Act} {Q : Exit -> Act -> World -> Prop} (hgd : o.guard = none) (t : TypeId) (x : Operand) (ho : o.op = .box t x) (vx : Value) (hx : a.eval x = vx) (v : Value) (w' : World)
  (hr : (Instr.box t vx).run Tryz.prog w = .ok v w') (h : wpList Tryz.prog ops Q rest (a.put o.dst v) w') : wpList Tryz.prog ops Q (o :: rest) a w :=
 wpList_plain hgd fun _ hK => by
  unfold Oper.wp execOp
  simp only [ho, Sem.run_bind, hx, hr, Result.andThen_ok]
  exact hK _ _ h
theorem box156 (cs : Array Value) (w : World) : (Instr.box 117 (.agg cs)).run Tryz.prog w = .ok (.pointer (some ⟨w.heap.size, 0, none⟩)) (w.alloc (.cells cs 117)) := by
 go_simp
namespace S
theorem free1 : sI (fK u01 1) = some 1 := by decide +kernel
theorem back1 : bF (fK u01 1) 1 = u01 := by decide +kernel
theorem len1 : (fK u01 1).length = 64 := by decide +kernel
end S
theorem FB (m : Nat) (hm : m <= 1000000) (w : World) :
  Calls Tryz.prog 43 #[hhv (S.lhd m)] w fun e w' => ∃ g, e = .returned (.agg #[.int .i64 0, .slice (some ⟨g, 0, none⟩) 1024 1024]) /\ w.heap.size <= g /\ w'.heap[g]? = some (.cells (S.v8 (S.aO (S.dM m 1 0 S.u01))) 5 (0, 0)) /\ Below w.heap.size w w' :=
 sF (S.lhd m) w (S.zo hm)
theorem aP.loadHead {w : World} {ge gs m : Nat} {vs : Value} (h : aP w ge gs (S.lhd m) vs) : (Instr.loadAt 106 (.pointer (some ⟨ge, 1, none⟩))).run Tryz.prog w = .ok (hhv (S.lhd m)) w :=
 run_loadAt_mid (P := Tryz.prog) w ge 1 106 _ _ (aP.head h) Tryz.underlying106 rfl (by rw [nM, S.cO rfl])
set_option maxHeartbeats 4000000 in
set_option maxRecDepth 10000 in
theorem F6 (B gs : Nat) (pg : Nat -> List UInt8) (es : List S.Ent) (dc : List ChV) (cs : List S.Cg) (l : Value) (w : World) (hr : Rds B w gs pg) (hL : S.nE pg es) (hl : Els bg w l dc) (hc : dL w dc cs) (hlen : es.length + cs.length <= 10000) (hm : S.bC 0 (S.mrg es cs)) :
  Calls Tryz.prog 32 #[.pointer (some ⟨gs, 0, none⟩), l] w fun e w' => ∃ v q1 q2, e = .returned (.tuple #[v, .int .i64 0]) /\ bn w.heap.size w' v [(1, q1), (0, q2)] /\ w'.heap[q1]? = some (.cells (S.v8 (S.aO (S.aN 0 (S.mrg es cs)))) 5 (0, 0)) /\ w'.heap[q2]? = some (.cells (S.v8 (S.aO (S.dM (S.mrg es cs).length 1 0 S.u01))) 5 (0, 0)) /\ w.heap.size <= q1 /\ w.heap.size <= q2 /\ Below w.heap.size w w' := by
 have H := hide hr
 have HL := hide hL
 have HLL := hide hl
 have HC := hide hc
 have HLEN := hide hlen
 have HM := hide hm
 obtain ⟨lo, lcap, rfl, _⟩ := hl.form
 clear hr hL hl hc hlen hm
 go_enter Tryz.func32, Tryz.ntmps32
 go_wp2_with fail
 refine (mQ B gs pg es w H.out HL.out).mono ?_
 rintro e w1 ⟨rfl, b1⟩
 have hal := iJ w1
 obtain ⟨w2, hst, a2, b2⟩ := lZ w1 (S.lhd es.length) rfl
 have B2 := hide (b1.trans (b2.mono b1.size))
 have H2 := hide ((H.out.below b1).below b2)
 have A2 := hide a2
 obtain ⟨gh, hgh⟩ : ∃ gh, gh = w1.heap.size := ⟨_, rfl⟩
 rw [<- hgh] at hal hst A2
 obtain ⟨HC0, fV⟩ : ∃ X, X = (S.hhc S.Hh.none).toArray := ⟨_, rfl⟩
 rw [<- fV] at hal hst
 have hld := A2.out.load rfl
 have hbd := Gm gs es.length w2
 have hbx := box156 (edc gs (S.lhd es.length) (.slice none 0 0)).toArray w2
 obtain ⟨EV, hEV⟩ : ∃ X, X = (edc gs (S.lhd es.length) (.slice none 0 0)).toArray := ⟨_, rfl⟩
 rw [<- hEV] at hbd hbx
 obtain ⟨w3, hw3⟩ : ∃ w3, w3 = w2.alloc (.cells EV 117) := ⟨_, rfl⟩
 rw [<- hw3] at hbx
 obtain ⟨ge, hge⟩ : ∃ ge, ge = w2.heap.size := ⟨_, rfl⟩
 rw [<- hge] at hbx
 have b3 : Below w2.heap.size w2 w3 := by rw [hw3]; exact ba ..
 have E3 : Hid (aP w3 ge gs (S.lhd es.length) (.slice none 0 0)) := by rw [hw3, hge, hEV]; exact heap_alloc_new _ _
 have B3 := hide (B2.out.trans (b3.mono B2.out.size))
 have H3 := hide (H2.out.below b3)
 have GE : Hid (w.heap.size <= ge) := by rw [hge]; exact B2.out.size
 have GHL := aa A2.out
 obtain ⟨HV, hHV⟩ : ∃ X, X = hhv (S.lhd es.length) := ⟨_, rfl⟩
 rw [<- hHV] at hst hld hbd ⊢
 have c1 : w3.cell? ⟨gh, 1, none⟩ = some (.int .i64 1) := (b3.cell (p := ⟨gh, 1, none⟩) GHL).trans A2.out.root
 have c2 : w3.cell? ⟨gh, 2, none⟩ = some (.int .i64 0) := (b3.cell (p := ⟨gh, 2, none⟩) GHL).trans A2.out.lv
 clear b1 b2 a2 hgh fV hHV H b3 hEV hw3 hge GHL B2 H2
 go_wp2_with (first | (with_reducible refine au ⟨some 6, .alloc 106, 0, "edit.go:22", #[], none⟩ ?_; refine ah rfl 106 rfl (.pointer (some ⟨gh, 0, none⟩)) (w1.alloc (.cells HC0 106)) hal ?_) | (with_reducible refine au ⟨none, .store 106 (.tmp 6) (.tmp 15), 0, "edit.go:22", #[{ on := 5, ground := Ground.data }, { on := 3, ground := Ground.data }, { on := 1, ground := Ground.chain }, { on := 0, ground := Ground.phase }, { on := 1, ground := Ground.phase }, { on := 2, ground := Ground.phase }, { on := 3, ground := Ground.phase }, { on := 4, ground := Ground.textOnly Departure.lateStores }, { on := 5, ground := Ground.phase }], none⟩ ?_; refine ai rfl 106 (.tmp 6) (.tmp 15) rfl (.pointer (some ⟨gh, 0, none⟩)) HV rfl rfl w2 hst ?_) | (with_reducible refine au ⟨some 21, .load 106 (.tmp 6), 106, "edit.go:26", #[], none⟩ ?_; refine ay rfl 106 (.tmp 6) rfl (.pointer (some ⟨gh, 0, none⟩)) rfl HV hld ?_) | (with_reducible refine au ⟨some 22, .build 117 #[(0, .tmp 20), (1, .tmp 21)], 117, "edit.go:26", #[{ on := 0, ground := Ground.data }, { on := 1, ground := Ground.data }], none⟩ ?_; refine aG rfl 117 [(0, .tmp 20), (1, .tmp 21)] rfl [(0, .pointer (some ⟨gs, 0, none⟩)), (1, HV)] rfl (.agg EV) hbd ?_) | (with_reducible refine au ⟨some 23, .box 117 (.tmp 22), 115, "edit.go:26", #[{ on := 2, ground := Ground.data }], none⟩ ?_; refine oH rfl 117 (.tmp 22) rfl (.agg EV) rfl (.pointer (some ⟨ge, 0, none⟩)) w3 hbx ?_))
 clear hal hst hld hbd hbx c1 c2
 refine (Gc B ge gs (S.lhd es.length) (.slice none 0 0) _ none 0 0 pg es dc cs w w3 H3.out E3.out rfl rfl HL.out.node HL.out.ok HLL.out HC.out B3.out GE.out HLEN.out HM.out.size).mono ?_
 rintro e w4 ⟨g1, g2, rfl, ch⟩
 have CH := hide ch
 have HI := hide (fun W (hw : Below w4.heap.size w4 W) => Cv g2 none 0 0 (some ⟨g1, 0, none⟩) W ((hw.block g2 (aa ch.out)).trans ch.out))
 obtain ⟨vo, d, n1, n2, n3⟩ := ch.node
 have LO := hide (fun W (hw : Below w4.heap.size w4 W) => Fj ge g1 none 0 0 vo W ((hw.block g1 (aa n1)).trans n1))
 have N1 := hide n1
 have N2 := hide n2
 have N3 := hide n3
 clear ch n1 n2 n3 E3
 go_wp2_with fail
 refine (HI.out w4 (Below.refl _ _)).mono ?_
 rintro e w5 ⟨rfl, b5⟩
 have B5 := hide b5
 clear b5 HI
 go_wp2_with fail
 refine (LO.out w5 B5.out).mono ?_
 rintro e w6 ⟨rfl, b6⟩
 have B6 := hide (B5.out.trans (b6.mono B5.out.size))
 clear b6 B5 LO
 go_wp2_with fail
 obtain ⟨w7, hw7⟩ : ∃ w7, w7 = w6.alloc (.cells #[.slice none 0 0, .slice none 0 0, .int .i64 0, .pointer (some ⟨g1, 0, none⟩)] 95) := ⟨_, rfl⟩
 rw [<- hw7]
 have b7 : Below w6.heap.size w6 w7 := by rw [hw7]; exact ba ..
 have r7 : w7.heap[w6.heap.size]? = some (.cells #[.slice none 0 0, .slice none 0 0, .int .i64 0, .pointer (some ⟨g1, 0, none⟩)] 95 (0, 0)) := by rw [hw7]; exact heap_alloc_new _ _
 obtain ⟨gr, hgr⟩ : ∃ gr, gr = w6.heap.size := ⟨_, rfl⟩
 rw [<- hgr] at r7 ⊢
 have B7 : Hid (Below w4.heap.size w4 w7) := B6.out.trans (b7.mono B6.out.size)
 have GR : Hid (w4.heap.size <= gr) := by rw [hgr]; exact B6.out.size
 have R7 := hide r7
 have E7 : Hid (aP w7 ge gs ⟨(S.mrg es cs).length, 1, 0, S.fK S.u01 1⟩ (.slice none 0 0)) := (B7.out.block ge (aa CH.out.edit)).trans CH.out.edit
 have NE1 : Hid (g1 ≠ ge) := bq N1.out CH.out.edit (by decide)
 have DL : Hid (d.length <= 1000000) := by have h1 := (N3.out w4 (Chg.refl _ _)).1; have h2 := HM.out.len; show d.length <= 1000000; omega
 have HNN : Hid (∀ W, Chg (fun k => k = ge \/ k = gr) w7 W -> gT W g1 0 (S.mrg es cs)) := fun W kw => by
  have kk : Chg (fun k => k = ge) w4 W := (Chg.ofBelow' (p := fun k => k = ge) B7.out).trans kw (fun j hj e => e.elim id (fun e => by have := GR.out; omega))
  exact ⟨vo, d, kk.row N1.out NE1.out, (N2.out.chg kk (fun k hk e => N2.out.apart CH.out.edit (by decide) (by rw [<- e]; exact hk))).els DL.out, N3.out W kk⟩
 have G1L : Hid (g1 < w4.heap.size) := aa N1.out
 have N7 : Hid (w7.heap[g1]? = some (.cells #[.int .i64 0, vo] 98 (0, 0))) := (B7.out.block g1 G1L.out).trans N1.out
 have BB7 : Hid (Below w.heap.size w w7) := (B3.out.trans (CH.out.chg.below _ B3.out.size (fun k hk e => by have := GE.out; omega))).trans (B7.out.mono (ltr B3.out.size CH.out.chg.size))
 have S7 : Hid (w.heap.size <= w7.heap.size) := BB7.out.size
 have GRW : Hid (w.heap.size <= gr) := ltr (ltr B3.out.size CH.out.chg.size) GR.out
 clear hw7 b7 r7 hgr B6 CH N1 N2 N3
 refine (lay_0 w.heap.size ge gs gr g1 1 none 0 0 ⟨(S.mrg es cs).length, 1, 0, S.fK S.u01 1⟩ (.slice none 0 0) [] (S.mrg es cs) w7 E7.out S.len1 (bn.nil _ _) R7.out HNN.out HM.out S.free1 (by omega) (by simp) S7.out).mono ?_
 rintro e w8 ⟨rfl, vs', q1, e8, s8, hq, rq, r8, k8⟩
 have E8 : Hid (aP w8 ge gs (S.lhd (S.mrg es cs).length) vs') := by
  have := e8
  simp only [S.back1] at this
  exact this
 have S8 : Hid (bn w.heap.size w8 vs' [(1, q1)]) := s8
 have Q1 : Hid (w.heap.size <= q1) := ltr S7.out hq
 have RQ := hide rq
 have R8 := hide r8
 have N8 : Hid (w8.heap[g1]? = some (.cells #[.int .i64 0, vo] 98 (0, 0))) := k8.row N7.out (fun e => e.elim (fun e => NE1.out e) (fun e => e.elim (fun e => by have := G1L.out; have := GR.out; omega) (fun e => by simp [Value.ownBlock] at e)))
 have BB8 : Hid (Below w.heap.size w w8) := BB7.out.trans (k8.below _ S7.out (fun k hk e => e.elim (fun e => by have := GE.out; omega) (fun e => e.elim (fun e => by have := GRW.out; omega) (fun e => by simp [Value.ownBlock] at e))))
 obtain ⟨vso, vsc, hvs⟩ := s8.form
 subst hvs
 simp only [List.nil_append, List.length_cons, List.length_nil, Nat.zero_add] at E8 S8 ⊢
 clear e8 s8 hq rq r8 k8 E7 R7 HNN N7 BB7
 obtain ⟨c0, c1, c2, c3⟩ := aQ R8.out
 have c2' : w8.cell? ⟨gr, 2, none⟩ = some (.int .i64 1) := c2
 have d0 := (aK N8.out).1
 have e2 : w8.cell? ⟨ge, 2, none⟩ = some (.int .i64 1) := E8.out.root
 have e3 : w8.cell? ⟨ge, 3, none⟩ = some (.int .i64 0) := E8.out.lv
 have f2 := frozen_of_row _ _ 2 _ _ E8.out
 have f3 := frozen_of_row _ _ 3 _ _ E8.out
 clear c2
 go_wp2_with fail
 go_region
 obtain ⟨w9, hw9⟩ : ∃ w9, w9 = ((w8.setCell ⟨ge, 2, none⟩ (.int .i64 1)).setCell ⟨ge, 3, none⟩ (.int .i64 0)).drew := ⟨_, rfl⟩
 rw [<- hw9]
 have k9 : Chg (fun k => k = ge) w8 w9 := by rw [hw9]; exact (((Chg.refl (fun k => k = ge) _).setCell ge 2 _ (fun _ => rfl)).setCell ge 3 _ (fun _ => rfl)).drew
 have E9 : Hid (aP w9 ge gs (S.lhd (S.mrg es cs).length) (.slice vso 1 vsc)) := by rw [hw9]; exact (E8.out.setRoot 1).setLv 0
 have S9 : Hid (bn w.heap.size w9 (.slice vso 1 vsc) [(1, q1)]) := S8.out.chg k9 (fun k hk e => S8.out.apart E8.out (by decide) (by rw [<- e]; exact hk))
 have RQ9 : Hid (w9.heap[q1]? = some (.cells (S.v8 (S.aO (S.aN 0 (S.mrg es cs)))) 5 (0, 0))) := k9.row RQ.out (fun e => bq RQ.out E8.out (by decide) e)
 have BB9 : Hid (Below w.heap.size w w9) := BB8.out.trans (k9.base BB8.out.size GE.out)
 clear hw9 k9 E8 S8 RQ BB8 c0 c1 c3 c2' d0 e2 e3 f2 f3 R8 N8
 go_wp2_with fail
 obtain ⟨m, hmm⟩ : ∃ m, m = (S.mrg es cs).length := ⟨_, rfl⟩
 have HSH := hide (FB m (by rw [hmm]; have := HM.out.len; omega))
 have HLD : Hid (∀ W, aP W ge gs (S.lhd m) (.slice vso 1 vsc) -> (Instr.loadAt 106 (.pointer (some ⟨ge, 1, none⟩))).run Tryz.prog W = .ok (hhv (S.lhd m)) W) := fun W h => h.loadHead
 have HSD : Hid (∀ W, aP W ge gs (S.lhd m) (.slice vso 1 vsc) -> W.cell? ⟨ge, 68, none⟩ = some (.slice vso 1 vsc)) := fun W h => h.sheets rfl
 rw [<- hmm] at E9
 have MM := hide hmm
 obtain ⟨HV2, lw⟩ : ∃ X, X = hhv (S.lhd m) := ⟨_, rfl⟩
 rw [<- lw] at HSH HLD
 clear lw hmm
 refine wp_region_noPanic ?_
 refine wp_region_held_drew (S := (fun W => aP W ge gs (S.lhd m) (.slice vso 1 vsc))) follows E9.out (fun hHeld => ?_)
 have S9d : Hid (bn w.heap.size w9.drew (.slice vso 1 vsc) [(1, q1)]) := S9.out
 have RQ9d : Hid (w9.drew.heap[q1]? = some (.cells (S.v8 (S.aO (S.aN 0 (S.mrg es cs)))) 5 (0, 0))) := RQ9.out
 have Gy : Hid (Below w.heap.size w w9.drew) := BB9.out.drew
 clear E9 S9 RQ9 BB9
 generalize w9.drew = Z1 at S9d RQ9d Gy hHeld ⊢
 refine tq 0 ?_
 simp only [uA]
 refine tq 1 ?_
 simp only [uA]
 refine tq 2 ?_
 simp only [uA]
 refine tk 3 ?_ rfl (Or.inl ⟨by rfl, ?_⟩) ?_
 rotate_left
 ·intro w hSw
  have c4 := HSD.out _ hSw
  clear hSw
  go_simp
  all_goals with_reducible rfl
 simp only [uA]
 refine tq 4 ?_
 simp only [uA]
 refine tq 5 ?_
 simp only [uA]
 refine tq 6 ?_
 simp only [uA]
 refine rdy [7] ?_
 refine aB (o := ⟨_, _, _, _, _, _⟩) rfl rfl 106 (.tmp 74) rfl HV2 (HLD.out _ hHeld) AllReadyH.nil ⟨hHeld, fun hHeld => ?_⟩
 try simp only [uA]
 refine r1 8 fun K hK => ?_
 go_simp
 refine (HSH.out Z1).mono ?_
 rintro e Z2 ⟨q2, rfl, hq2, rq2, b2⟩
 have a2 : aP Z2 ge gs (S.lhd m) (.slice vso 1 vsc) := (b2.block ge (aa hHeld)).trans hHeld
 have S2 := hide (S9d.out.below b2)
 have RA2 : Hid (Z2.heap[q1]? = some (.cells (S.v8 (S.aO (S.aN 0 (S.mrg es cs)))) 5 (0, 0))) := (b2.block q1 (aa RQ9d.out)).trans RQ9d.out
 have RB2 : Hid (Z2.heap[q2]? = some (.cells (S.v8 (S.aO (S.dM m 1 0 S.u01))) 5 (0, 0))) := rq2
 have BB2 := hide (Gy.out.trans (b2.mono Gy.out.size))
 have Q2 : Hid (w.heap.size <= q2) := ltr Gy.out.size hq2
 have A2 := hide a2
 clear hHeld hq2 rq2 b2 S9d RQ9d Gy
 refine hK.out _ _ a2 (fun hHeld => ?_)
 clear hK K a2
 try simp only [uA]
 refine rdy [9] ?_
 have al : aP (Z2.alloc (.cells #[.int .i64 0, .slice (some ⟨q2, 0, none⟩) 1024 1024] 109)) ge gs (S.lhd m) (.slice vso 1 vsc) := (heap_alloc_old _ _ (aa A2.out)).trans A2.out
 refine aJ (o := ⟨_, _, _, _, _, _⟩) rfl rfl 82 1 [(0, Operand.tmp 76)] rfl _ _ (kJ Z2 0 q2) AllReadyH.nil ⟨al, fun hHeld => ?_⟩
 try simp only [uA]
 obtain ⟨Z3, hZ3⟩ : ∃ Z3, Z3 = Z2.alloc (.cells #[.int .i64 0, .slice (some ⟨q2, 0, none⟩) 1024 1024] 109) := ⟨_, rfl⟩
 rw [<- hZ3] at hHeld al ⊢
 have b3 : Below Z2.heap.size Z2 Z3 := by rw [hZ3]; exact ba ..
 have r3 : Z3.heap[Z2.heap.size]? = some (.cells (encS (0, q2)).toArray 109 (0, 0)) := by rw [hZ3]; exact heap_alloc_new _ _
 have A3 := hide al
 have S3 := hide (S2.out.below b3)
 have RA3 : Hid (Z3.heap[q1]? = some (.cells (S.v8 (S.aO (S.aN 0 (S.mrg es cs)))) 5 (0, 0))) := (b3.block q1 (aa RA2.out)).trans RA2.out
 have RB3 : Hid (Z3.heap[q2]? = some (.cells (S.v8 (S.aO (S.dM m 1 0 S.u01))) 5 (0, 0))) := (b3.block q2 (aa RB2.out)).trans RB2.out
 have BB3 := hide (BB2.out.trans (b3.mono BB2.out.size))
 have APP := dI Z3 w.heap.size Z2.heap.size (.slice vso 1 vsc) [(1, q1)] (0, q2) 82 S3.out r3 (by simp) BB3.out.size
 clear b3 r3 hZ3 al A2 S2 RA2 RB2 BB2
 refine rdy [10] ?_
 refine bK (o := ⟨_, _, _, _, _, _⟩) rfl rfl _ _ 82 82 rfl _ _ rfl rfl APP AllReadyH.nil ?_
 rintro v6 Z4 ⟨s6, k6⟩
 have a6 : aP Z4 ge gs (S.lhd m) (.slice vso 1 vsc) := k6.row A3.out (S3.out.apart A3.out (by decide))
 have RA6 : Hid (Z4.heap[q1]? = some (.cells (S.v8 (S.aO (S.aN 0 (S.mrg es cs)))) 5 (0, 0))) := k6.row RA3.out (S3.out.apart RA3.out (by decide))
 have RB6 : Hid (Z4.heap[q2]? = some (.cells (S.v8 (S.aO (S.dM m 1 0 S.u01))) 5 (0, 0))) := k6.row RB3.out (S3.out.apart RB3.out (by decide))
 have BB6 : Hid (Below w.heap.size w Z4) := BB3.out.trans (k6.below _ BB3.out.size (fun j hj e => by have := (S3.out.blk e).1; omega))
 have S6 : Hid (bn w.heap.size Z4 v6 [(1, q1), (0, q2)]) := s6
 refine ⟨a6, fun hHeld => ?_⟩
 clear s6 k6 a6 A3 S3 RA3 RB3 BB3 APP
 try simp only [uA]
 refine tq 11 ?_
 simp only [uA]
 refine tq 12 ?_
 simp only [uA]
 refine wpAnyH_done (by kernel_rfl) ?_ _
 refine NoPanic.normal ?_
 clear hHeld
 obtain ⟨o6, oc6, hv6⟩ := S6.out.form
 subst hv6
 go_wp2_with fail
 go_ret2
 exact ⟨_, q1, q2, rfl, S6.out, RA6.out, by rw [<- MM.out]; exact RB6.out, Q1.out, Q2.out, BB6.out⟩
theorem ku : S.bC 0 [] := ⟨fun x hx => by simp at hx, List.Pairwise.nil, by omega, by decide, fun _ x hx => by simp at hx, fun h => absurd rfl h⟩
theorem bs97 (W : World) (n1 n2 : Int) (q1 q2 : Nat) : (Instr.buildSlice 82 2 #[(0, .agg #[.int .i64 n1, .slice (some ⟨q1, 0, none⟩) 1024 1024]), (1, .agg #[.int .i64 n2, .slice (some ⟨q2, 0, none⟩) 1024 1024])]).run Tryz.prog W = .ok (.slice (some ⟨W.heap.size, 0, none⟩) 2 2) (W.alloc (.cells #[.int .i64 n1, .slice (some ⟨q1, 0, none⟩) 1024 1024, .int .i64 n2, .slice (some ⟨q2, 0, none⟩) 1024 1024] 109)) := by
 go_simp
namespace S
def ic (es : List Ent) (m : Nat) : List UInt8 := if m = 0 then aO (dM es.length 1 0 u01) else aO (aN 0 es)
theorem jh {es : List Ent} (h : bC 0 es) (m : Nat) : (ic es m).length = 1024 := by
 unfold ic
 split
 ·exact jC _ (by rw [iY _ _ _ _ yG]; omega)
 ·exact jC _ h.text
theorem xO {es : List Ent} (h : bC 0 es) (pg : Nat -> List UInt8) (a b : Nat) (hab : (a = 0 /\ b = 1) \/ (a = 1 /\ b = 0)) : nE (fun m => if m = a \/ m = b then ic es m else pg m) es := by
 refine ⟨?_, ?_, h⟩
 ·show (if 0 = a \/ 0 = b then ic es 0 else pg 0) = _
  rw [if_pos (by omega)]
  rfl
 ·show (if 1 = a \/ 1 = b then ic es 1 else pg 1) = _
  rw [if_pos (by omega)]
  rfl
end S
theorem uI {w0 w' : World} {o' : Ow} {d' : S.Dk} {p t : Nat} {pg : Nat -> List UInt8} {es : List S.Ent} (ho : S.bC 0 es) (hz : ∀ n, n < 512 -> (pg n).length = 1024) (a b : Nat) (hab : (a = 0 /\ b = 1) \/ (a = 1 /\ b = 0)) (h : Pg w0 w' o' d' p t (fun m => if m = a \/ m = b then S.ic es m else pg m)) : Bt1 w0 w' o' d' p t (fun m => if m = a \/ m = b then S.ic es m else pg m) es :=
 ⟨h, fun n hn => by
  show (if n = a \/ n = b then S.ic es n else pg n).length = 1024
  split
  ·exact S.jh ho n
  ·exact hz n hn, S.xO ho pg a b hab⟩
set_option maxHeartbeats 4000000 in
set_option maxRecDepth 10000 in
theorem zD (w0 w : World) (o : Ow) (n : Nat) (hn : 7680 <= n) (hd : Dsk w o (S.Dk.new n)) (ho : ∀ k, o.has k -> w0.heap.size <= k) (hb : Below w0.heap.size w0 w) (h0 : 1 < w0.heap.size) :
  Calls Tryz.prog 28 #[o.ptr] w fun e w' => e = .returned (.int .i64 0) /\ ∃ o' d' pg, o'.g = o.g /\ Bt1 w0 w' o' d' 0 2 pg [] := by
 have PF := hide (xC w0 w o n hn hd ho hb h0)
 have hp : o.ptr = .pointer (some ⟨o.g, 0, none⟩) := rfl
 clear hn hd ho hb h0
 rw [hp] at PF ⊢
 go_enter Tryz.func28, Tryz.ntmps28
 go_wp2_with fail
 refine PF.out.mono ?_
 rintro e w1 ⟨rfl, o1, og, p1⟩
 have P1 := hide p1
 have OG := hide og
 clear p1 PF
 have hp1 : Value.pointer (some ⟨o.g, 0, none⟩) = o1.ptr := by unfold Ow.ptr; rw [og]
 have HP1 := hide hp1
 clear og hp1
 go_wp2_with fail
 rw [HP1.out]
 refine (xA w0 w1 o1 _ 0 0 _ P1.out).mono ?_
 rintro e w2 ⟨gs, rfl, s2, g2, p2, b2⟩
 have S2 := hide s2
 have P2 := hide p2
 have NG : Hid (¬ o1.has gs) := fun e => by have := P1.out.dk.dk.lt gs e; omega
 rw [<- HP1.out]
 clear s2 g2 p2 b2 P1
 go_wp2_with fail
 refine (tX w2).mono ?_
 rintro e w3 ⟨rfl, b3⟩
 have hal := iJ w3
 obtain ⟨w4, hst, a4, b4⟩ := lZ w3 (S.lhd 0) rfl
 have B4 := hide (b3.trans (b4.mono b3.size))
 have A4 := hide a4
 obtain ⟨gh, hgh⟩ : ∃ gh, gh = w3.heap.size := ⟨_, rfl⟩
 rw [<- hgh] at hal hst A4
 obtain ⟨HC0, fV⟩ : ∃ X, X = (S.hhc S.Hh.none).toArray := ⟨_, rfl⟩
 rw [<- fV] at hal hst
 obtain ⟨HV, hHV⟩ : ∃ X, X = hhv (S.lhd 0) := ⟨_, rfl⟩
 have HHV := hide hHV
 rw [<- hHV] at hst ⊢
 have P4 := hide (P2.out.then B4.out)
 have S4 : Hid (eD w4 gs o1) := (B4.out.block gs (aa S2.out)).trans S2.out
 have NGH0 : Hid (¬ o1.has gh) := fun e => by have h1 := P2.out.dk.dk.lt gh e; have h2 := b3.size; omega
 clear b3 b4 a4 hgh fV hHV P2 S2 B4
 go_wp2_with (first | (with_reducible refine au ⟨some 6, .alloc 106, 0, "btree.go:34", #[], none⟩ ?_; refine ah rfl 106 rfl (.pointer (some ⟨gh, 0, none⟩)) (w3.alloc (.cells HC0 106)) hal ?_) | (with_reducible refine au ⟨none, .store 106 (.tmp 6) (.tmp 21), 0, "btree.go:34", #[{ on := 1, ground := Ground.data }, { on := 0, ground := Ground.data }, { on := 0, ground := Ground.chain }, { on := 0, ground := Ground.phase }, { on := 1, ground := Ground.phase }], none⟩ ?_; refine ai rfl 106 (.tmp 6) (.tmp 21) rfl (.pointer (some ⟨gh, 0, none⟩)) HV rfl rfl w4 hst ?_))
 clear hal hst
 obtain ⟨w5, hw5⟩ : ∃ w5, w5 = w4.alloc (.cells #[.int .i64 0, .slice none 0 0] 98) := ⟨_, rfl⟩
 rw [<- hw5]
 have b5 : Below w4.heap.size w4 w5 := by rw [hw5]; exact ba ..
 have N5 : Hid (gT w5 w4.heap.size 0 []) := ⟨_, [], by rw [hw5]; exact heap_alloc_new _ _, Or.inl ⟨rfl, rfl⟩, rfl, fun i x e hx => by simp at hx⟩
 obtain ⟨gn, hgn⟩ : ∃ gn, gn = w4.heap.size := ⟨_, rfl⟩
 rw [<- hgn] at N5 ⊢
 have A5 := hide (A4.out.below b5)
 have P5 := hide (P4.out.then b5)
 have S5 : Hid (eD w5 gs o1) := (b5.block gs (aa S4.out)).trans S4.out
 clear hw5 b5 hgn A4 P4 S4
 refine wp_region_noPanic ?_
 refine wp_region_held_drew (S := (fun W => bS W gh (S.lhd 0))) follows A5.out (fun hHeld => ?_)
 have N6 : Hid (gT w5.drew gn 0 []) := N5.out.below (Below.refl _ _).drew
 have P6 : Hid (Pg w0 w5.drew o1 (S.kz n) 0 0 (fun _ => S.zeros 1024)) := P5.out.then (Below.refl _ _).drew
 have S6 : Hid (eD w5.drew gs o1) := S5.out
 clear N5 P5 S5 A5
 generalize w5.drew = Z1 at N6 P6 S6 hHeld ⊢
 obtain ⟨V, hV⟩ : ∃ V, V = (S.hhc (S.lhd 0)).toArray := ⟨_, rfl⟩
 have HVV : Hid (.agg V = hhv (S.lhd 0)) := by rw [hV]; rfl
 refine tq 0 ?_
 simp only [uA]
 refine wpAnyH_take (i := 1) (oi := ⟨_, _, _, _, _, _⟩) (v := .agg V) rfl (by kernel_rfl) (by kernel_rfl) (by kernel_rfl) (fun _ _ _ h => h) (by rw [hV]; exact yieldsIf_load_mid (by kernel_rfl) 106 (.tmp 6) rfl gh 0 rfl (S.hhc (S.lhd 0)) _ (fun W hW => aH hW) Tryz.underlying106 rfl (by rw [nM, S.cO rfl])) (by assumption) ?_
 simp only [uA]
 refine tq 3 ?_
 simp only [uA]
 refine tq 4 ?_
 simp only [uA]
 refine tk 5 ?_ rfl (Or.inl ⟨by rfl, ?_⟩) ?_
 rotate_left
 ·intro w hSw
  have c4 : w.cell? ⟨gh, 1, none⟩ = some (.int .i64 1) := bS.root hSw
  clear hSw
  go_simp
  all_goals with_reducible rfl
 simp only [uA]
 clear hV
 have NGH : Hid (¬ o1.has gh) := NGH0.out
 refine r1 2 fun K hK => ?_
 go_simp
 rw [HVV.out]
 refine (sF (S.lhd 0) Z1 (S.zo (by omega))).mono ?_
 rintro e Z2 ⟨q1, rfl, g1, r1, b1⟩
 have R1 : Hid (Z2.heap[q1]? = some (.cells (S.v8 (S.ic [] 0)) 5 (0, 0))) := r1
 have aZ2 := bS.below hHeld b1
 have NZ2 := hide (N6.out.below b1)
 have PZ2 := hide (P6.out.then b1)
 have SZ2 : Hid (eD Z2 gs o1) := (b1.block gs (aa S6.out)).trans S6.out
 have Q1 : Hid (¬ o1.has q1) := fun e => by have := P6.out.dk.dk.lt q1 e; omega
 clear hHeld
 refine hK.out _ _ aZ2 (fun hHeld => ?_)
 clear hK K aZ2 r1 b1 g1 N6 P6 S6
 try simp only [uA]
 refine r1 6 fun K hK => ?_
 go_simp
 refine (lh gn 1 [] Z2 NZ2.out ku).mono ?_
 rintro e Z3 ⟨q2, rfl, g1, r1, b1⟩
 have R2 : Hid (Z3.heap[q2]? = some (.cells (S.v8 (S.ic [] 1)) 5 (0, 0))) := r1
 have aZ3 := bS.below hHeld b1
 have R1b : Hid (Z3.heap[q1]? = some (.cells (S.v8 (S.ic [] 0)) 5 (0, 0))) := (b1.block q1 (aa R1.out)).trans R1.out
 have PZ3 := hide (PZ2.out.then b1)
 have SZ3 : Hid (eD Z3 gs o1) := (b1.block gs (aa SZ2.out)).trans SZ2.out
 have Q2 : Hid (¬ o1.has q2) := fun e => by have := PZ2.out.dk.dk.lt q2 e; omega
 clear hHeld
 refine hK.out _ _ aZ3 (fun hHeld => ?_)
 clear hK K aZ3 r1 b1 g1 PZ2 SZ2 R1 NZ2
 try simp only [uA]
 refine rdy [7] ?_
 refine aJ (o := ⟨_, _, _, _, _, _⟩) rfl rfl 82 2 [(0, Operand.tmp 26), (1, Operand.tmp 30)] rfl _ _ (bs97 Z3 0 1 q1 q2) AllReadyH.nil ⟨bS.below hHeld (ba ..), fun hHeld => ?_⟩
 try simp only [uA]
 obtain ⟨Z4, hZ4⟩ : ∃ Z4, Z4 = Z3.alloc (.cells #[.int .i64 0, .slice (some ⟨q1, 0, none⟩) 1024 1024, .int .i64 1, .slice (some ⟨q2, 0, none⟩) 1024 1024] 109) := ⟨_, rfl⟩
 rw [<- hZ4] at hHeld ⊢
 have b4 : Below Z3.heap.size Z3 Z4 := by rw [hZ4]; exact ba ..
 have r4 : Z4.heap[Z3.heap.size]? = some (.cells #[.int .i64 ((0 : Nat) : Int), .slice (some ⟨q1, 0, none⟩) 1024 1024, .int .i64 ((1 : Nat) : Int), .slice (some ⟨q2, 0, none⟩) 1024 1024] 109 (0, 0)) := by rw [hZ4]; exact heap_alloc_new _ _
 have PT := hide (Ew w0 Z4 o1 _ 0 0 gs Z3.heap.size 2 0 1 q1 q2 _ (S.ic []) (PZ3.out.then b4) ((b4.block gs (aa SZ3.out)).trans SZ3.out) r4 ((b4.block q1 (aa R1b.out)).trans R1b.out) ((b4.block q2 (aa R2.out)).trans R2.out) (S.jh ku 0) (S.jh ku 1) Q1.out Q2.out (by omega) (by omega) (by omega) NG.out (by omega))
 have GHN : Hid (¬ o1.has gh) := fun e => by
  have h1 := (PZ3.out.then b4).dk.dk
  exact NGH.out e
 clear b4 r4 hZ4 PZ3 SZ3 R1b R2
 refine r1 8 fun K hK => ?_
 go_simp
 refine PT.out.mono ?_
 rintro e Z5 ⟨rfl, o5, d5, e5, p5, s5, c5, h5⟩
 have a5 : bS Z5 gh (S.lhd 0) := c5.row hHeld GHN.out
 have BT := hide (uI ku (fun n hn => S.zeros_length _) 0 1 (Or.inl ⟨rfl, rfl⟩) p5)
 have E5 : Hid (o5.g = o.g) := e5.trans OG.out
 clear hHeld
 refine hK.out _ _ a5 (fun hHeld => ?_)
 clear hK K a5 p5 s5 c5 h5 e5 PT GHN
 try simp only [uA]
 refine tq 9 ?_
 simp only [uA]
 refine wpAnyH_done (by kernel_rfl) ?_ _
 refine NoPanic.normal ?_
 clear hHeld
 go_wp2_with fail
 go_ret
 exact ⟨rfl, o5, d5, _, E5.out, BT.out⟩
theorem Ev (w0 w : World) (o : Ow) (d : S.Dk) (p t gs B n1 n2 q1 q2 : Nat) (v : Value) (pg X : Nat -> List UInt8) (h : Pg w0 w o d p t pg) (hs : eD w gs o) (hrow : bn B w v [(n1, q1), (n2, q2)])
  (h1 : w.heap[q1]? = some (.cells (S.v8 (X n1)) 5 (0, 0))) (h2 : w.heap[q2]? = some (.cells (S.v8 (X n2)) 5 (0, 0))) (l1 : (X n1).length = 1024) (l2 : (X n2).length = 1024) (o1 : ¬ o.has q1) (o2 : ¬ o.has q2) (hn1 : n1 < 512) (hn2 : n2 < 512) (hne : n1 ≠ n2) (hgs : ¬ o.has gs) (ht : t + 2 < 18446744073709551616) :
  Calls Tryz.prog 34 #[.pointer (some ⟨gs, 0, none⟩), v] w fun e w' => e = .returned (.int .i64 0) /\ ∃ o' d', o'.g = o.g /\ Pg w0 w' o' d' p (t + 2) (fun m => if m = n1 \/ m = n2 then X m else pg m) /\ eD w' gs o' /\ Chg o.has w w' /\ ∀ k, o'.has k -> o.has k \/ w.heap.size <= k := by
 rcases hrow.2 with ⟨rfl, h0⟩ | ⟨b, cap, cur, rfl, hB, hr, a1, a2, a3, a4⟩
 ·simp at h0
 refine (Ap w0 w o d p t gs b 0 cap [((n1 : Int), some ⟨q1, 0, none⟩, 1024, 1024), ((n2 : Int), some ⟨q2, 0, none⟩, 1024, 1024)] pg X h hs ?_ (by simp) (by simp) ?_ ?_ hgs ht).mono ?_
 ·intro j u hu
  have hu2 : ([(n1, q1), (n2, q2)].flatMap encS)[j]? = some u := hu
  have hj : j < [(n1, q1), (n2, q2)].length * 2 := by have := (List.getElem?_eq_some_iff.1 hu2).1; simpa [encS] using this
  rw [Nat.zero_add, cell_of_row w b j _ _ _ hr]
  rw [<- a4, List.getElem?_take, if_pos hj] at hu2
  simpa using hu2
 ·intro x hx
  simp only [List.mem_cons, List.mem_nil_iff, or_false] at hx
  rcases hx with rfl | rfl
  ·exact ⟨by show (0 : Int) <= (n1 : Int); omega, by show (n1 : Int) < 512; omega, rfl, ⟨q1, 0, rfl, o1, aa h1⟩, az (xs := X n1) h1 l1.symm (by rw [l1]; omega)⟩
  ·exact ⟨by show (0 : Int) <= (n2 : Int); omega, by show (n2 : Int) < 512; omega, rfl, ⟨q2, 0, rfl, o2, aa h2⟩, az (xs := X n2) h2 l2.symm (by rw [l2]; omega)⟩
 ·simp
  omega
 ·rintro e w' ⟨rfl, o', d', e1, h3, h4, h5, h6⟩
  refine ⟨rfl, o', d', e1, ?_, h4, h5, h6⟩
  have e : (fun m => if m ∈ S.pgs [((n1 : Int), some (⟨q1, 0, none⟩ : Addr), 1024, 1024), ((n2 : Int), some (⟨q2, 0, none⟩ : Addr), 1024, 1024)] then X m else pg m) = (fun m => if m = n1 \/ m = n2 then X m else pg m) := by
   funext m
   simp [S.pgs]
  rw [e] at h3
  exact h3
end Go.Proofs.YteealihknndclabGreatDoor
