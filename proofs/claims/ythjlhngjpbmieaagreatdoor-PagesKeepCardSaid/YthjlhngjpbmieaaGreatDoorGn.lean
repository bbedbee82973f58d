/- The sector of a log's head. -/
/- The head that bytes begin with; which of two heads holds. -/
/- Which of two heads holds. -/
import Derived.Test.YthjlhngjpbmieaaGreatDoorGm
namespace Go.Proofs.YthjlhngjpbmieaaGreatDoor
open Go.RowKit

theorem size_8 : S.size 8 = 8 := by decide
set_option maxHeartbeats 1600000 in
set_option maxRecDepth 10000 in
theorem headSector_any (p : Value) (f c k : Nat) (h : S.Hd) (w : World) (hf : f ≤ 100000) (hc : c ≤ 100000) (hk : k ≤ 100000) (ho : h.Ok) (hK : KAt w) :
   Calls Tryz.prog 87 #[arv p f c, .int .i64 (k : Int), hdv h] w fun e w' => ∃ g, e = .returned (.slice (some ⟨g, 0, none⟩) 128 128) ∧ w.heap.size ≤ g ∧ w'.heap[g]? = some (.cells (S.v8 (S.headSec f c k h)) 5 (0, 0)) ∧ Below w.heap.size w w' := by
  have q0 := ho.turn
  have q1 := wrap64 h.used (by have := ho.used; omega)
  have HO := hide ho
  obtain ⟨C, hC⟩ : ∃ C, C = (S.hc h).toArray := ⟨_, rfl⟩
  obtain ⟨w0, hw0⟩ : ∃ w0, w0 = (w.alloc (.cells #[p, .int .i64 (f : Int), .int .i64 (c : Int)] 101)).alloc (.cells C 106) := ⟨_, rfl⟩
  have HZ : Hid (w0.heap.size = w.heap.size + 2) := by show w0.heap.size = _; rw [hw0]; simp
  have HB : Hid (Below w.heap.size w w0) := by rw [hw0]; exact ((Below.refl _ _).alloc (Nat.le_refl _) _).alloc (by simp) _
  have HA : Hid (ArAt w0 w.heap.size p f c) := by
    show w0.heap[w.heap.size]? = _
    rw [hw0, heap_alloc_old _ _ (by simp)]
    exact heap_alloc_new _ _
  have HH : Hid (HdAt w0 (w.heap.size + 1) h) := by
    show w0.heap[w.heap.size + 1]? = _
    rw [hw0, ← hC, show w.heap.size + 1 = (w.alloc (.cells #[p, .int .i64 (f : Int), .int .i64 (c : Int)] 101)).heap.size from by simp]
    exact heap_alloc_new _ _
  have HK0 : Hid (KAt w0) := hK.below HB.out hK.pos
  unfold arv hdv
  rw [← hC]
  clear hC ho hK
  obtain ⟨ga, hga⟩ : ∃ ga, ga = w.heap.size := ⟨_, rfl⟩
  obtain ⟨gh, hgh⟩ : ∃ gh, gh = w.heap.size + 1 := ⟨_, rfl⟩
  rw [← hgh] at HH
  rw [← hga] at HA
  have HGA : Hid (ga = w.heap.size ∧ gh = w.heap.size + 1) := ⟨hga, hgh⟩
  obtain ⟨T, hT⟩ : ∃ T, T = h.turn := ⟨_, rfl⟩
  obtain ⟨U, hU⟩ : ∃ U, U = h.used := ⟨_, rfl⟩
  rw [← hT] at q0
  rw [← hU] at q1
  have HTU : Hid (T = h.turn ∧ U = h.used) := ⟨hT, hU⟩
  clear hT hU
  go_enter Tryz.func87, Tryz.ntmps87
  go_wp2_with fail
  rw [← hw0, ← hgh, ← hga]
  clear hw0 hga hgh
  refine (newWriter_any w0).mono ?_
  rintro e w1 ⟨rfl, h1, h2⟩
  have W1 := hide h1
  have B1 : Hid (Below w0.heap.size w0 w1) := h2
  have S1 : Hid (w0.heap.size ≤ w1.heap.size) := h2.size
  have H1 := HH.out.below h2 (block_lt_of_row HH.out)
  have hu1 := H1.used
  have ht1 := H1.turn
  rw [← HTU.out.2] at hu1
  rw [← HTU.out.1] at ht1
  obtain ⟨gw, hgw⟩ : ∃ gw, gw = w0.heap.size := ⟨_, rfl⟩
  rw [← hgw]
  have HG : Hid (gw = w0.heap.size) := hgw
  clear h1 h2 hgw H1
  go_wp2_with fail
  refine (wnumber_is T gw _ w1 rfl rfl (HG.out ▸ W1.out) (by decide)).mono ?_
  rintro e w2 ⟨rfl, v2, h3, h4⟩
  have W2 := hide h3
  have hb2 := h4.base S1.out (Nat.le_of_eq HG.out.symm) (nil_base _)
  have N2 := hide hb2.2
  have B2 := hide (B1.out.trans hb2.1)
  have S2 : Hid (w0.heap.size ≤ w2.heap.size) := Nat.le_trans S1.out hb2.1.size
  have hu2 := (HH.out.below B2.out (block_lt_of_row HH.out)).used
  rw [← HTU.out.2] at hu2
  clear h3 h4 hb2 hu1 ht1
  go_wp2_with fail
  refine (wnumber_is U gw _ w2 rfl rfl W2.out (by simp [S.num_length, size_8])).mono ?_
  rintro e w3 ⟨rfl, v3, h3, h4⟩
  have W3 := hide h3
  have hb3 := h4.base S2.out (Nat.le_of_eq HG.out.symm) N2.out
  have N3 := hide hb3.2
  have B3 := hide (B2.out.trans hb3.1)
  have S3 : Hid (w0.heap.size ≤ w3.heap.size) := Nat.le_trans S2.out hb3.1.size
  have hld := (HH.out.below B3.out (block_lt_of_row HH.out)).seal HO.out.sl
  clear h3 h4 hb3 hu2
  obtain ⟨SL, hSL⟩ : ∃ SL, SL = h.sl := ⟨_, rfl⟩
  rw [← hSL] at hld
  have HSL : Hid (SL = h.sl) := hSL
  have hsl : SL.length = 32 := by rw [hSL]; exact HO.out.sl
  clear hSL
  go_wp2_with (refine wpList_load_as rfl 104 (.tmp 19) rfl (.pointer (some ⟨gh, 2, none⟩)) rfl (.agg (S.v8 SL)) hld ?_)
  refine (wdigest_any gw v3 _ SL w3 hsl W3.out (by simp [S.num_length, size_8, size_3])).mono ?_
  rintro e w4 ⟨rfl, v4, h3, h4⟩
  have hht : ([] ++ S.num T (S.size 8) ++ S.num U (S.size 3) ++ SL) = S.ht h := by
    rw [size_8, size_3, HTU.out.1, HTU.out.2, HSL.out, S.ht]; simp
  rw [hht] at h3
  have W4 := hide h3
  have hb4 := h4.base S3.out (Nat.le_of_eq HG.out.symm) N3.out
  have N4 := hide hb4.2
  have B4 := hide (B3.out.trans hb4.1)
  have S4 : Hid (w0.heap.size ≤ w4.heap.size) := Nat.le_trans S3.out hb4.1.size
  clear h3 h4 hb4 hld hht
  go_wp2_with fail
  refine (done_any gw v4 _ w4 W4.out (by rw [S.ht_length HO.out]; omega)).mono ?_
  rintro e w5 ⟨rfl, r5, b5⟩
  have W5 := hide (W4.out.below b5)
  have B5 := hide (B4.out.trans (b5.mono S4.out))
  have S5 : Hid (w0.heap.size ≤ w5.heap.size) := Nat.le_trans S4.out b5.size
  have T5 := hide (slice_row r5 rfl (by rw [S.ht_length HO.out]; omega))
  have K5 : Hid (KAt w5) := HK0.out.below B5.out HK0.out.pos
  obtain ⟨n5, hn5⟩ : ∃ n5, n5 = (S.ht h).length := ⟨_, rfl⟩
  rw [← hn5] at T5 ⊢
  clear r5 b5 hn5
  go_wp2_with fail
  refine (Sum_any _ _ w5 T5.out K5.out).mono ?_
  rintro e w6 ⟨rfl, b6⟩
  have W6 := hide (W5.out.below b6)
  have B6 := hide (B5.out.trans (b6.mono S5.out))
  have S6 : Hid (w0.heap.size ≤ w6.heap.size) := Nat.le_trans S5.out b6.size
  have hsm := S.sum_length (S.ht h)
  clear b6
  obtain ⟨SM, hSM⟩ : ∃ SM, SM = S.sum (S.ht h) := ⟨_, rfl⟩
  rw [← hSM] at hsm ⊢
  have HSM : Hid (SM = S.sum (S.ht h)) := hSM
  clear hSM
  go_wp2_with fail
  refine (wdigest_any gw v4 _ SM w6 hsm W6.out (by rw [S.ht_length HO.out]; omega)).mono ?_
  rintro e w7 ⟨rfl, v7, h3, h4⟩
  rw [HSM.out, ← S.htext] at h3
  have W7 := hide h3
  have hb7 := h4.base S6.out (Nat.le_of_eq HG.out.symm) N4.out
  have B7 := hide (B6.out.trans hb7.1)
  have S7 : Hid (w0.heap.size ≤ w7.heap.size) := Nat.le_trans S6.out hb7.1.size
  have HA7 := hide (HA.out.below B7.out (block_lt_of_row HA.out))
  clear h3 h4 hb7
  go_wp2_with fail
  refine wp_region_noPanic ?_
  refine wp_region_held_drew (S := (fun W => ArAt W ga p f c)) follows HA7.out (fun hHeld => ?_)
  have WD := hide (W7.out.below (W := w7.drew) ((Chg.refl (fun _ => False) w7).drew.below _ (Nat.le_refl _) (fun _ _ e => e)))
  have BD : Hid (Below w.heap.size w w7.drew) := HB.out.trans ((B7.out.mono (by have := HZ.out; omega)).drew)
  clear HA7 W7 B7 S7
  generalize w7.drew = Z1 at WD BD hHeld ⊢
  refine wpAnyH_take (i := 0) (oi := ⟨_, _, _, _, _, _⟩) (v := .agg #[p, .int .i64 (f : Int), .int .i64 (c : Int)]) rfl (by kernel_rfl) (by kernel_rfl) (by kernel_rfl) (fun _ _ _ h => h) (yieldsIf_load_mid (by kernel_rfl) 101 (.tmp 3) rfl ga 0 rfl [p, .int .i64 (f : Int), .int .i64 (c : Int)] _ (fun W hW => rangeAt_row hW) Tryz.underlying101 rfl (by kernel_rfl)) (by assumption) ?_
  simp only [Act.put, List.setIfInBounds_toArray, List.set_cons_zero, List.set_cons_succ]
  refine tk 1 ?_ rfl (Or.inl ⟨by rfl, ?_⟩) ?_
  rotate_left
  · intro w hSw
    clear hSw
    go_simp
    all_goals with_reducible rfl
  simp only [Act.put, List.setIfInBounds_toArray, List.set_cons_zero, List.set_cons_succ]
  refine tk 2 ?_ rfl (Or.inl ⟨by rfl, ?_⟩) ?_
  rotate_left
  · intro w hSw
    clear hSw
    go_simp
    all_goals with_reducible rfl
  simp only [Act.put, List.setIfInBounds_toArray, List.set_cons_zero, List.set_cons_succ]
  refine wpAnyH_ready (rs := [3]) (by kernel_rfl) (by simp) ?_
  refine AllReadyH.cons (o := { dst := some 30, op := Op.call { callee := Callee.value (Operand.func 77), args := #[Operand.tmp 29], argTypes := #[126] }, type := 31, pos := "head.go:59", after := #[⟨2, .data⟩], guard := none }) rfl (fun K hK => ?_) AllReadyH.nil
  go_simp
  refine (done_any gw v7 _ Z1 WD.out (by rw [S.htext_length HO.out]; omega)).mono ?_
  rintro e Z2 ⟨rfl, r2, b2⟩
  have a2 : ArAt Z2 ga p f c := ArAt.below hHeld b2 (block_lt_of_row hHeld)
  clear hHeld
  refine hK.out _ _ a2 (fun hHeld => ?_)
  clear hK K 
  try simp only [Act.put, List.setIfInBounds_toArray, List.set_cons_zero, List.set_cons_succ]
  have T2 := hide (slice_row r2 rfl (by rw [S.htext_length HO.out]; omega))
  have B2' : Hid (Below w.heap.size w Z2) := BD.out.trans (b2.mono BD.out.size)
  clear a2 r2 b2 WD BD
  refine wpAnyH_ready (rs := [4]) (by kernel_rfl) (by simp) ?_
  refine AllReadyH.cons (o := { dst := some 31, op := Op.call { callee := Callee.value (Operand.func 111), args := #[Operand.tmp 27, Operand.tmp 28, Operand.const (Value.int IntKind.u8 240), Operand.tmp 30], argTypes := #[101, 3, 5, 31] }, type := 31, pos := "head.go:59", after := #[⟨0, .data⟩, ⟨1, .data⟩, ⟨3, .data⟩, ⟨3, .chain⟩], guard := none }) rfl (fun K hK => ?_) AllReadyH.nil
  go_simp
  refine (marked_any p f c k 240 _ _ _ _ Z2 hf hc hk (by rw [S.htext_length HO.out]; omega) T2.out).mono ?_
  rintro e Z3 ⟨g3, rfl, l3, r3, b3⟩
  have a3 : ArAt Z3 ga p f c := ArAt.below hHeld b3 (block_lt_of_row hHeld)
  clear hHeld
  refine hK.out _ _ a3 (fun hHeld => ?_)
  clear hK K 
  try simp only [Act.put, List.setIfInBounds_toArray, List.set_cons_zero, List.set_cons_succ]
  have R3 : Hid (Z3.heap[g3]? = some (.cells (S.v8 (S.headSec f c k h)) 5 (0, 0))) := r3
  have B3' : Hid (Below w.heap.size w Z3) := B2'.out.trans (b3.mono B2'.out.size)
  have L3 : Hid (w.heap.size ≤ g3) := Nat.le_trans B2'.out.size l3
  clear a3 r3 b3 l3 T2 B2'
  refine tk 5 ?_ rfl (Or.inl ⟨by rfl, ?_⟩) ?_
  rotate_left
  · intro w hSw
    clear hSw
    go_simp
    all_goals with_reducible rfl
  simp only [Act.put, List.setIfInBounds_toArray, List.set_cons_zero, List.set_cons_succ]
  refine wpAnyH_done (by kernel_rfl) ?_ _
  refine NoPanic.normal ?_
  clear hHeld
  go_wp2_with fail
  go_ret
  exact ⟨g3, rfl, L3.out, R3.out, B3'.out⟩
end Go.Proofs.YthjlhngjpbmieaaGreatDoor
namespace Go.Proofs.YthjlhngjpbmieaaGreatDoor
open Go.RowKit

namespace S
/-- The head that bytes begin with. -/
def hdOn (x : List UInt8) : Hd := ⟨val (x.take 8), val ((x.drop 8).take 3), (x.drop 11).take 32⟩
theorem hdOn_in (s : List UInt8) : hdOn (s.drop 9) = hdIn s := by
  unfold hdOn hdIn
  rw [List.drop_drop, List.drop_drop]
theorem rd_turn (x : List UInt8) (h : 43 ≤ x.length) : (Rd.mk x 0 0 0).number 8 = (⟨x, 8, 0, 0⟩, (hdOn x).turn) := by
  unfold Rd.number Rd.take
  rw [size_8, if_pos rfl, if_pos (by show 0 + 8 ≤ x.length; omega)]
  rfl
theorem rd_used (x : List UInt8) (h : 43 ≤ x.length) : (Rd.mk x 8 0 0).number 3 = (⟨x, 11, 0, 0⟩, (hdOn x).used) := by
  unfold Rd.number Rd.take
  rw [size_3, if_pos rfl, if_pos (by show 8 + 3 ≤ x.length; omega)]
  rfl
theorem rd_seal (x : List UInt8) (h : 43 ≤ x.length) : (Rd.mk x 11 0 0).digest = (⟨x, 43, 0, 0⟩, (hdOn x).sl) := by
  unfold Rd.digest Rd.take
  rw [if_pos rfl, if_pos (by show 11 + 32 ≤ x.length; omega)]
  have hl : ((x.drop 11).take 32).length = 32 := by simp; omega
  show (_, splice (zeros 32) 0 ((x.drop 11).take 32)) = _
  rw [splice_front, hl]
  simp [zeros, hdOn]
theorem hdOn_ok (x : List UInt8) (h : 43 ≤ x.length) : (hdOn x).Ok := by
  refine ⟨?_, ?_, by simp [hdOn]; omega⟩
  · have h1 := val_lt (x.take 8)
    have h2 : (x.take 8).length = 8 := by simp; omega
    rw [h2] at h1
    exact h1
  · have h1 := val_lt ((x.drop 8).take 3)
    have h2 : ((x.drop 8).take 3).length = 3 := by simp; omega
    rw [h2] at h1
    exact h1
end S
theorem rnumber_is {r r' : S.Rd} {k : Int} {n : Nat} (g t : Nat) (w : World) (h : r.number k = (r', n)) (hr : RdIs w g t r) :
   Calls Tryz.prog 94 #[.pointer (some ⟨g, 0, none⟩), .int .i64 k] w fun e w' => e = .returned (.int .u64 (n : Int)) ∧ RdIs w' g t r' ∧ Chg (fun k => k = g) w w' := by
  have := rnumber_any g t r k w hr
  rw [h] at this
  exact this
theorem rdigest_is {r r' : S.Rd} {d : List UInt8} (g t : Nat) (w : World) (h : r.digest = (r', d)) (hr : RdIs w g t r) :
   Calls Tryz.prog 126 #[.pointer (some ⟨g, 0, none⟩)] w fun e w' => e = .returned (.agg (S.v8 d)) ∧ RdIs w' g t r' ∧ Chg (fun k => k = g) w w' := by
  have := rdigest_any g t r w hr
  rw [h] at this
  exact this
set_option maxHeartbeats 1600000 in
set_option maxRecDepth 10000 in
theorem headIn_any (v : Value) (x : List UInt8) (w : World) (hv : SliceAt w v x) (hx : 43 ≤ x.length) :
   Calls Tryz.prog 115 #[v] w fun e w' => e = .returned (hdv (S.hdOn x)) ∧ Below w.heap.size w w' := by
  have hmx : x.length ≤ 140737488355328 := by obtain ⟨_, _, _, _, h1, h2⟩ := hv.form; omega
  have hok := S.hdOn_ok x hx
  have et := S.rd_turn x hx
  have eu := S.rd_used x hx
  have es := S.rd_seal x hx
  obtain ⟨H, hH⟩ : ∃ H, H = S.hdOn x := ⟨_, rfl⟩
  rw [← hH] at hok et eu es ⊢
  clear hH
  have HO := hide hok
  have ET := hide et
  have EU := hide eu
  have ES := hide es
  have q0 := hok.turn
  have q1 := hok.used
  obtain ⟨T, U, SL⟩ := H
  simp only at q0 q1
  have hsl : SL.length = 32 := hok.sl
  have hwr : IntKind.i64.wrap (U : Int) = (U : Int) := by rw [IntKind.wrap_i64]; omega
  clear hok et eu es
  obtain ⟨w0, hw0⟩ : ∃ w0, w0 = w.alloc (.cells (S.hc S.Hd.none).toArray 106) := ⟨_, rfl⟩
  have HB : Hid (Below w.heap.size w w0) := by rw [hw0]; exact (Below.refl _ _).alloc (Nat.le_refl _) _
  have HR : Hid (HdAt w0 w.heap.size S.Hd.none) := by show w0.heap[w.heap.size]? = _; rw [hw0]; exact heap_alloc_new _ _
  have HV := hide (hv.below HB.out (Nat.le_refl _))
  have hal := alloc73 w
  rw [← hw0] at hal
  obtain ⟨gr, hgr⟩ : ∃ gr, gr = w.heap.size := ⟨_, rfl⟩
  rw [← hgr] at HR hal
  have HGR : Hid (gr = w.heap.size) := hgr
  clear hv hw0 hgr
  obtain ⟨ao, ln, cp, rfl, hz1, hz2⟩ := HV.out.form
  clear hz1 hz2
  go_enter Tryz.func115, Tryz.ntmps115
  go_wp2_with (with_reducible refine at_op ⟨some 2, .alloc 106, 0, "head.go:82", #[], none⟩ ?_; refine wpList_alloc_known rfl 106 rfl (.pointer (some ⟨gr, 0, none⟩)) w0 hal ?_)
  clear hal
  refine (newReader_any _ x w0 HV.out hmx).mono ?_
  rintro e w1 ⟨gd, gx, rfl, g1, x1, r1, b1⟩
  have RD1 := hide r1
  have B1 : Hid (Below w0.heap.size w0 w1) := b1
  have GD : Hid (w0.heap.size ≤ gd ∧ w0.heap.size ≤ gx) := ⟨g1, x1⟩
  clear g1 x1 r1 b1
  go_wp2_with fail
  refine (rnumber_is gd gx w1 ET.out RD1.out).mono ?_
  rintro e w2 ⟨rfl, r2, c2⟩
  have RD2 := hide r2
  have B2 : Hid (Below w0.heap.size w0 w2) := B1.out.trans (c2.base B1.out.size GD.out.1)
  clear r2 c2
  have hbd := build73t T w2
  have hal := alloc73 w2
  have hd3 : HdAt (w2.alloc (.cells (S.hc S.Hd.none).toArray 106)) w2.heap.size S.Hd.none := heap_alloc_new _ _
  obtain ⟨w3, hst, hd4, c3⟩ := store73 (h := ⟨T, 0, S.zeros 32⟩) hd3 (S.zeros_length _) (S.zeros_length _)
  have b23 : Below w2.heap.size w2 (w2.alloc (.cells (S.hc S.Hd.none).toArray 106)) := (Below.refl _ _).alloc (Nat.le_refl _) _
  have b3 : Below w2.heap.size w2 w3 := b23.trans (c3.base b23.size (Nat.le_refl _))
  have H4 := hide hd4
  have RD3 := hide (RD2.out.below b3)
  have B3 : Hid (Below w0.heap.size w0 w3) := B2.out.trans (b3.mono B2.out.size)
  obtain ⟨gh, hgh⟩ : ∃ gh, gh = w2.heap.size := ⟨_, rfl⟩
  rw [← hgh] at H4 hal hst
  have HGH : Hid (w0.heap.size ≤ gh ∧ gd < gh ∧ gx < gh) := ⟨by rw [hgh]; exact B2.out.size, by rw [hgh]; exact RD2.out.lt, by rw [hgh]; exact RD2.out.tlt⟩
  clear hd3 hd4 c3 b23 b3 RD1 RD2 B1 hgh
  obtain ⟨HV1, hHV1⟩ : ∃ X, X = hdv ⟨T, 0, S.zeros 32⟩ := ⟨_, rfl⟩
  rw [← hHV1] at hbd hst
  obtain ⟨HC0, hHC0⟩ : ∃ X, X = (S.hc S.Hd.none).toArray := ⟨_, rfl⟩
  rw [← hHC0] at hal hst
  clear hHV1 hHC0
  go_wp2_with (with_reducible refine at_op ⟨some 9, .build 106 #[(0, .tmp 8)], 106, "head.go:84", #[⟨1, .data⟩], none⟩ ?_; refine wpList_build_as rfl 106 [(0, Operand.tmp 8)] rfl [(0, .int .u64 (T : Int))] rfl HV1 hbd ?_; with_reducible refine at_op ⟨some 4, .alloc 106, 0, "head.go:84", #[], none⟩ ?_; refine wpList_alloc_known rfl 106 rfl (.pointer (some ⟨gh, 0, none⟩)) (w2.alloc (.cells HC0 106)) hal ?_; with_reducible refine at_op ⟨none, .store 106 (.tmp 4) (.tmp 9), 0, "head.go:84", #[⟨3, .data⟩, ⟨2, .data⟩, ⟨1, .chain⟩, ⟨0, .phase⟩, ⟨1, .phase⟩, ⟨2, .phase⟩, ⟨3, .phase⟩], none⟩ ?_; refine wpList_store_as rfl 106 (.tmp 4) (.tmp 9) rfl (.pointer (some ⟨gh, 0, none⟩)) HV1 rfl rfl w3 hst ?_)
  clear hbd hal hst
  refine (rnumber_is gd gx w3 EU.out RD3.out).mono ?_
  rintro e w4 ⟨rfl, r4, c4⟩
  have RD4 := hide r4
  have hd5 : HdAt w4 gh ⟨T, 0, S.zeros 32⟩ := c4.row H4.out (fun e => by have := HGH.out.2.1; omega)
  have B4 : Hid (Below w0.heap.size w0 w4) := B3.out.trans (c4.base B3.out.size GD.out.1)
  have c1 := hd5.used
  have f1 := frozen_of_row _ _ 1 _ _ hd5
  have H5 : Hid (HdAt (w4.setCell ⟨gh, 1, none⟩ (.int .i64 (U : Int))) gh ⟨T, U, S.zeros 32⟩) := hd5.setUsed U
  have B5 : Hid (Below w0.heap.size w0 (w4.setCell ⟨gh, 1, none⟩ (.int .i64 (U : Int)))) := B4.out.setCell (p := ⟨gh, 1, none⟩) HGH.out.1 _
  have RD5 : Hid (RdIs (w4.setCell ⟨gh, 1, none⟩ (.int .i64 (U : Int))) gd gx ⟨x, 11, 0, 0⟩) := r4.chg (p := fun k => k = gh) (Chg.one gh 1 _ rfl) (fun e => by have := HGH.out; omega) (fun e => by have := HGH.out; omega)
  clear r4 c4 hd5 RD3 RD4 H4 B3
  go_wp2_with fail
  generalize w4.setCell ⟨gh, 1, none⟩ (.int .i64 (U : Int)) = w5 at H5 B5 RD5 ⊢
  clear c1 f1
  refine (rdigest_is gd gx w5 ES.out RD5.out).mono ?_
  rintro e w6 ⟨rfl, r6, c6⟩
  have hd6 : HdAt w6 gh ⟨T, U, S.zeros 32⟩ := c6.row H5.out (fun e => by have := HGH.out.2.1; omega)
  have b6 : Below w0.heap.size w0 w6 := B5.out.trans (c6.base B5.out.size GD.out.1)
  obtain ⟨w7, hst, hd7, c7⟩ := store71 (sl := SL) hd6 (S.zeros_length _) hsl
  have b7 : Below w0.heap.size w0 w7 := b6.trans (c7.base b6.size HGH.out.1)
  have hr7 : HdAt w7 gr S.Hd.none := HR.out.below b7 (block_lt_of_row HR.out)
  have hld := HdAt.load hd7 hsl
  obtain ⟨w8, hst8, hd8, c8⟩ := store73 (h := ⟨T, U, SL⟩) hr7 (S.zeros_length _) hsl
  have HD8 := hide hd8
  have B8 : Hid (Below w.heap.size w w8) := by
    have b : Below w.heap.size w w7 := HB.out.trans (b7.mono HB.out.size)
    exact b.trans (c8.base b.size (by have := HGR.out; omega))
  obtain ⟨V8, hV8⟩ : ∃ V8, V8 = S.v8 SL := ⟨_, rfl⟩
  rw [← hV8] at hst ⊢
  obtain ⟨HV2, hHV2⟩ : ∃ X, X = hdv ⟨T, U, SL⟩ := ⟨_, rfl⟩
  rw [← hHV2] at hst8
  rw [show hdv { turn := T, used := U, sl := SL } = HV2 from hHV2.symm] at hld
  have HHV : Hid (HV2 = hdv ⟨T, U, SL⟩) := hHV2
  clear r6 c6 hd6 b6 hd7 c7 b7 hr7 hd8 c8 hV8 hHV2 RD5 H5 B5
  go_wp2_with (first | (with_reducible refine at_op ⟨none, .store 104 (.tmp 16) (.tmp 15), 0, "head.go:86", #[⟨2, .data⟩, ⟨1, .data⟩, ⟨1, .chain⟩, ⟨0, .phase⟩, ⟨1, .phase⟩], none⟩ ?_; refine wpList_store_as rfl 104 (.tmp 16) (.tmp 15) rfl (.pointer (some ⟨gh, 2, none⟩)) (.agg V8) rfl rfl w7 hst ?_) | (with_reducible refine at_op ⟨some 17, .load 106 (.tmp 4), 106, "head.go:87", #[], none⟩ ?_; refine wpList_load_as rfl 106 (.tmp 4) rfl (.pointer (some ⟨gh, 0, none⟩)) rfl HV2 hld ?_) | (with_reducible refine at_op ⟨none, .store 106 (.tmp 2) (.tmp 17), 0, "head.go:87", #[⟨0, .data⟩, ⟨0, .phase⟩], none⟩ ?_; refine wpList_store_as rfl 106 (.tmp 2) (.tmp 17) rfl (.pointer (some ⟨gr, 0, none⟩)) HV2 rfl rfl w8 hst8 ?_))
  exact bodyPost_ret (results_row_one Tryz.results115 _ _ gr _ rfl (HD8.out.loadVar hsl)) rfl ⟨rfl, B8.out⟩
end Go.Proofs.YthjlhngjpbmieaaGreatDoor
namespace Go.Proofs.YthjlhngjpbmieaaGreatDoor
open Go.RowKit

/-- Two heads that are boxed, one behind the other. -/
theorem hd_box2 (w : World) (h b : S.Hd) : ∃ w0, w0 = (w.alloc (.cells (S.hc h).toArray 106)).alloc (.cells (S.hc b).toArray 106) ∧ Hid (HdAt w0 w.heap.size h) ∧ Hid (HdAt w0 (w.heap.size + 1) b) ∧ Hid (Below w.heap.size w w0) ∧ Hid (w0.heap.size = w.heap.size + 2) := by
  refine ⟨_, rfl, ?_, ?_, ((Below.refl _ _).alloc (Nat.le_refl _) _).alloc (by simp) _, by show ((w.alloc _).alloc _).heap.size = _; simp⟩
  · show ((w.alloc _).alloc _).heap[w.heap.size]? = _
    rw [heap_alloc_old _ _ (by simp)]
    exact heap_alloc_new _ _
  · show ((w.alloc _).alloc _).heap[w.heap.size + 1]? = _
    rw [show w.heap.size + 1 = (w.alloc (.cells (S.hc h).toArray 106)).heap.size from by simp]
    exact heap_alloc_new _ _
theorem ret_bool {a b : Bool} (h : a = b) : Ending.returned (.bool a) = .returned (.bool b) := by rw [h]
set_option maxHeartbeats 800000 in
theorem holds_any (h b : S.Hd) (m mb : Nat) (w : World) (hh : h.Ok) (hb : b.Ok) :
   Calls Tryz.prog 89 #[hdv h, .int .i64 (m : Int), hdv b, .int .i64 (mb : Int)] w fun e w' => e = .returned (.bool (S.holds h m b mb)) ∧ Below w.heap.size w w' := by
  obtain ⟨w0, hw0, H1, H2, HB, HZ⟩ := hd_box2 w h b
  have c1 := H1.out.turn
  have c2 := H2.out.turn
  rw [hw0] at c1 c2
  have q1 := hh.turn
  have q2 := hb.turn
  obtain ⟨T, hT⟩ : ∃ T, T = h.turn := ⟨_, rfl⟩
  obtain ⟨B, hB⟩ : ∃ B, B = b.turn := ⟨_, rfl⟩
  have hE : S.holds h m b mb = (decide (m = 2) && (decide (mb = 1) || (decide (mb = 2) && decide ((B + 1) % 18446744073709551616 = T)))) := by rw [hT, hB]; rfl
  rw [← hT] at c1 q1
  rw [← hB] at c2 q2
  obtain ⟨R, hR⟩ : ∃ R, R = S.holds h m b mb := ⟨_, rfl⟩
  rw [← hR] at hE ⊢
  have HE := hide hE
  have hw : IntKind.u64.wrap ((B : Int) + 1) = (((B + 1) % 18446744073709551616 : Nat) : Int) := by rw [IntKind.wrap_u64]; omega
  obtain ⟨Z, hZ⟩ : ∃ Z, Z = (B + 1) % 18446744073709551616 := ⟨_, rfl⟩
  rw [← hZ] at hw HE
  clear hh hb hE hR hZ hT hB
  unfold hdv
  obtain ⟨C1, hC1⟩ : ∃ C, C = (S.hc h).toArray := ⟨_, rfl⟩
  obtain ⟨C2, hC2⟩ : ∃ C, C = (S.hc b).toArray := ⟨_, rfl⟩
  rw [← hC1, ← hC2] at hw0 c1 c2
  rw [← hC1, ← hC2]
  clear hC1 hC2
  have HW0 := hide hw0
  clear hw0
  by_cases h2 : m = 2
  · have z1 : (m : Int) = 2 := by omega
    by_cases h3 : mb = 1
    · have z2 : (mb : Int) = 1 := by omega
      have E : Hid (R = true) := by show R = true; rw [HE.out, decide_eq_true h2, decide_eq_true h3]; rfl
      clear h2 h3 c1 c2 hw
      go_enter Tryz.func89, Tryz.ntmps89
      go_wp2_with fail
      go_ret
      exact ⟨by rw [E.out]; rfl, HW0.out ▸ HB.out⟩
    · have z2 : ¬ (mb : Int) = 1 := by omega
      by_cases h4 : mb = 2
      · have z3 : (mb : Int) = 2 := by omega
        by_cases h5 : Z = T
        · have z4 : (Z : Int) = (T : Int) := by omega
          have E : Hid (R = true) := by show R = true; rw [HE.out, decide_eq_true h2, decide_eq_false h3, decide_eq_true h4, decide_eq_true h5]; rfl
          clear h2 h3 h4 h5
          go_enter Tryz.func89, Tryz.ntmps89
          go_wp2_with fail
          go_ret
          exact ⟨by rw [E.out]; rfl, HW0.out ▸ HB.out⟩
        · have z4 : ¬ (Z : Int) = (T : Int) := by omega
          have E : Hid (R = false) := by show R = false; rw [HE.out, decide_eq_true h2, decide_eq_false h3, decide_eq_true h4, decide_eq_false h5]; rfl
          clear h2 h3 h4 h5
          go_enter Tryz.func89, Tryz.ntmps89
          go_wp2_with fail
          go_ret
          exact ⟨ret_bool (by rw [E.out]; exact beq_false_of_ne z4), HW0.out ▸ HB.out⟩
      · have z3 : ¬ (mb : Int) = 2 := by omega
        have E : Hid (R = false) := by show R = false; rw [HE.out, decide_eq_true h2, decide_eq_false h3, decide_eq_false h4]; rfl
        clear h2 h3 h4 c1 c2 hw
        go_enter Tryz.func89, Tryz.ntmps89
        go_wp2_with fail
        go_ret
        exact ⟨ret_bool (by rw [E.out]; exact beq_false_of_ne z2), HW0.out ▸ HB.out⟩
  · have z1 : ¬ (m : Int) = 2 := by omega
    have E : Hid (R = false) := by show R = false; rw [HE.out, decide_eq_false h2]; rfl
    clear h2 c1 c2 hw
    go_enter Tryz.func89, Tryz.ntmps89
    go_wp2_with fail
    go_ret
    exact ⟨ret_bool (by rw [E.out]), HW0.out ▸ HB.out⟩
end Go.Proofs.YthjlhngjpbmieaaGreatDoor
