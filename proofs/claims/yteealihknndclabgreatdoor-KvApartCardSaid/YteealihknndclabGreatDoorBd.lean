/- The head of a tree in memory; the sheet of a text. -/
import Derived.Test.YteealihknndclabGreatDoorBy
import Derived.Test.YteealihknndclabGreatDoorGl
namespace Go.Proofs.YteealihknndclabGreatDoor
open Go.RowKit

namespace S
structure Hh where
 cnt : Nat
 root : Nat
 lv : Nat
 used : List UInt8
def Hh.none : Hh := ⟨0, 0, 0, zeros 64⟩
def hhc (h : Hh) : List Value := .int .i64 (h.cnt : Int) :: .int .i64 (h.root : Int) :: .int .i64 (h.lv : Int) :: v8l h.used
theorem cO {h : Hh} (o : h.used.length = 64) : (hhc h).length = 67 := by simp [hhc, ae, o]
theorem FD (h : Hh) : ∀ v ∈ hhc h, v.oneCell' = true := by
 intro v hv
 rcases List.mem_cons.1 hv with rfl | hv
 ·rfl
 ·rcases List.mem_cons.1 hv with rfl | hv
  ·rfl
  ·rcases List.mem_cons.1 hv with rfl | hv
   ·rfl
   ·exact df h.used v hv
theorem hhc_one (h : Hh) : (hhc h).toArray.all (·.oneCell') = true := all_oneCell_toArray (FD h)
structure Hh.Ok (h : Hh) : Prop where
 cnt : h.cnt < 4294967296
 root : 0 < h.root /\ h.root < 65536
 lv : h.lv < 256
 used : h.used.length = 64
end S
def hhv (h : S.Hh) : Value := .agg (S.hhc h).toArray
def bS (w : World) (b : Nat) (h : S.Hh) : Prop := w.heap[b]? = some (.cells (S.hhc h).toArray 106 (0, 0))
theorem bS.cnt {w : World} {b : Nat} {h : S.Hh} (a : bS w b h) : w.cell? ⟨b, 0, none⟩ = some (.int .i64 (h.cnt : Int)) := by rw [cell_of_row w b 0 _ _ _ a]; rfl
theorem bS.root {w : World} {b : Nat} {h : S.Hh} (a : bS w b h) : w.cell? ⟨b, 1, none⟩ = some (.int .i64 (h.root : Int)) := by rw [cell_of_row w b 1 _ _ _ a]; rfl
theorem bS.lv {w : World} {b : Nat} {h : S.Hh} (a : bS w b h) : w.cell? ⟨b, 2, none⟩ = some (.int .i64 (h.lv : Int)) := by rw [cell_of_row w b 2 _ _ _ a]; rfl
theorem nM : (Tryz.prog.info? 106).map (·.size) = some 67 := by kernel_rfl
theorem Aj : (Tryz.prog.info? 104).map (·.size) = some 64 := by kernel_rfl
theorem bS.range {w : World} {b : Nat} {h : S.Hh} (a : bS w b h) : w.rangeAt b 3 (S.v8l h.used) := fun j v hv => by
 rw [cell_of_row w b _ _ _ _ a, Nat.add_comm]
 simpa [S.hhc] using hv
theorem bS.byte {w : World} {b : Nat} {h : S.Hh} (a : bS w b h) (j : Nat) (hj : j < h.used.length) : w.cell? ⟨b, 3 + j, none⟩ = some (.int .u8 ((h.used.getD j 0).toNat : Int)) := a.range j _ (by simp [S.v8l, hj])
theorem bS.load {w : World} {b : Nat} {h : S.Hh} (a : bS w b h) (hl : h.used.length = 64) : (Instr.loadAt 106 (.pointer (some ⟨b, 0, none⟩))).run Tryz.prog w = .ok (hhv h) w :=
 run_loadAt_mid (P := Tryz.prog) w b 0 106 _ _ (aH a) Tryz.underlying106 rfl (by rw [nM, S.cO hl])
theorem bS.loadVar {w : World} {b : Nat} {h : S.Hh} (a : bS w b h) (hl : h.used.length = 64) : (loadVar 106 ⟨b, 0, none⟩).run Tryz.prog w = .ok (hhv h) w :=
 run_loadVar_mid (P := Tryz.prog) w b 0 106 _ _ (aH a) Tryz.underlying106 rfl (by rw [nM, S.cO hl])
theorem Aw : (Tryz.prog.info? 106).map (fun i => (i.size, i.bytes)) = some (67, 88) := by kernel_rfl
theorem zZ : (Tryz.prog.info? 106).bind (·.zero) = some (.agg (S.hhc S.Hh.none).toArray) := by kernel_rfl
theorem iJ (w : World) : (Instr.alloc 106 true (.tuple #[])).run Tryz.prog w = .ok (.pointer (some ⟨w.heap.size, 0, none⟩)) (w.alloc (.cells (S.hhc S.Hh.none).toArray 106)) := by
 obtain ⟨i, hi, hz, _, _⟩ := bZ Aw zZ
 simp [Instr.alloc, zeroValue, typeInfo, hi, hz, newVar, newRow, Value.cells]
set_option maxRecDepth 100000 in
theorem yu (parts : List (Nat × Value)) : Tryz.prog.built 106 parts = Instr.fill ((#[(0, 1), (1, 1), (2, 1), (3, 64)] : Array (Nat × Nat))[·]?) (S.hhc S.Hh.none).toArray parts := by
 obtain ⟨i, hi, hz, _, _⟩ := bZ Aw zZ
 unfold Program.built
 rw [hi, Tryz.underlying106]
 simp only [hz]
 rfl
theorem Dm (r : Nat) (w : World) : (Instr.build 106 #[(1, .int .i64 (r : Int))]).run Tryz.prog w = .ok (hhv ⟨0, r, 0, S.zeros 64⟩) w :=
 run_build w 106 _ _ (by
  rw [yu]
  unfold Instr.fill
  simp only [show (#[(0, 1), (1, 1), (2, 1), (3, 64)] : Array (Nat × Nat))[1]? = some (1, 1) from rfl]
  rw [if_neg (by simp [Value.cells, S.hhc])]
  unfold Instr.fill
  rfl)
set_option maxRecDepth 100000 in
theorem Dl (n r l : Nat) (w : World) : (Instr.build 106 #[(0, .int .i64 (n : Int)), (1, .int .i64 (r : Int)), (2, .int .i64 (l : Int))]).run Tryz.prog w = .ok (hhv ⟨n, r, l, S.zeros 64⟩) w :=
 run_build w 106 _ _ (by
  rw [yu]
  unfold Instr.fill
  simp only [show (#[(0, 1), (1, 1), (2, 1), (3, 64)] : Array (Nat × Nat))[0]? = some (0, 1) from rfl]
  rw [if_neg (by simp [Value.cells, S.hhc])]
  unfold Instr.fill
  simp only [show (#[(0, 1), (1, 1), (2, 1), (3, 64)] : Array (Nat × Nat))[1]? = some (1, 1) from rfl]
  rw [if_neg (by simp [Value.cells, S.hhc])]
  unfold Instr.fill
  simp only [show (#[(0, 1), (1, 1), (2, 1), (3, 64)] : Array (Nat × Nat))[2]? = some (2, 1) from rfl]
  rw [if_neg (by simp [Value.cells, S.hhc])]
  unfold Instr.fill
  rfl)
theorem ru {w : World} {g : Nat} {h0 h : S.Hh} (a : bS w g h0) (l0 : h0.used.length = 64) (l : h.used.length = 64) :
  ∃ w', (Instr.storeAt 106 (.pointer (some ⟨g, 0, none⟩)) (hhv h)).run Tryz.prog w = .ok () w' /\ bS w' g h /\ Chg (fun k => k = g) w w' := by
 have hr := run_storeVar_row (P := Tryz.prog) w g 106 106 _ (S.hhc h).toArray a (by rw [nM, List.size_toArray, S.cO l]) (by rw [List.size_toArray, List.size_toArray, S.cO l0, S.cO l]) (S.hhc_one _)
 refine ⟨w.setRow g (S.hhc h).toArray, ?_, setRow_heap w g _ _ _ _ a, Chg.setRow (p := fun k => k = g) g _ rfl⟩
 unfold hhv
 simp only [Instr.storeAt, Instr.sureAddr, Sem.run_bind, Sem.run_pure, Result.andThen_ok, hr]
theorem new105 (w : World) : bS (w.alloc (.cells (S.hhc S.Hh.none).toArray 106)) w.heap.size S.Hh.none := heap_alloc_new _ _
theorem lZ (w : World) (h : S.Hh) (l : h.used.length = 64) : ∃ w', (Instr.storeAt 106 (.pointer (some ⟨w.heap.size, 0, none⟩)) (hhv h)).run Tryz.prog (w.alloc (.cells (S.hhc S.Hh.none).toArray 106)) = .ok () w' /\ bS w' w.heap.size h /\ Below w.heap.size w w' := by
 obtain ⟨w', h1, h2, h3⟩ := ru (h := h) (new105 w) (S.zeros_length _) l
 have b : Below w.heap.size w (w.alloc (.cells (S.hhc S.Hh.none).toArray 106)) := ba ..
 exact ⟨w', h1, h2, b.trans (h3.base b.size (lr _))⟩
theorem bS.setByte {w : World} {b : Nat} {h : S.Hh} (a : bS w b h) (j : Nat) (x : UInt8) : bS (w.setCell ⟨b, 3 + j, none⟩ (.int .u8 (x.toNat : Int))) b { h with used := h.used.set j x } := by
 unfold bS
 rw [heap_setCell_same w b (3 + j) _ _ _ a]
 congr 2
 apply Array.ext'
 simp [S.hhc, S.v8l, List.map_set, Nat.add_comm 3 j]
theorem vE : S.size 8 = 8 := by decide
set_option maxHeartbeats 1600000 in
set_option maxRecDepth 10000 in
theorem jm (p : Value) (f c k : Nat) (h : S.Hd) (w : World) (hf : f <= 100000) (hc : c <= 100000) (hk : k <= 100000) (ho : h.Ok) (hK : KAt w) :
  Calls Tryz.prog 154 #[arv p f c, .int .i64 (k : Int), hdv h] w fun e w' => ∃ g, e = .returned (.slice (some ⟨g, 0, none⟩) 128 128) /\ w.heap.size <= g /\ w'.heap[g]? = some (.cells (S.v8 (S.aC f c k h)) 5 (0, 0)) /\ Below w.heap.size w w' := by
 have q0 := ho.turn
 have q1 := wrap64 h.used (by have := ho.used; omega)
 have HO := hide ho
 obtain ⟨C, hC⟩ : ∃ C, C = (S.hc h).toArray := ⟨_, rfl⟩
 obtain ⟨w0, hw0⟩ : ∃ w0, w0 = (w.alloc (.cells #[p, .int .i64 (f : Int), .int .i64 (c : Int)] 182)).alloc (.cells C 186) := ⟨_, rfl⟩
 have HZ : Hid (w0.heap.size = w.heap.size + 2) := by show w0.heap.size = _; rw [hw0]; simp
 have HB : Hid (Below w.heap.size w w0) := by rw [hw0]; exact (ba ..).alloc (by simp) _
 have HA : Hid (eX w0 w.heap.size p f c) := by
  show w0.heap[w.heap.size]? = _
  rw [hw0, heap_alloc_old _ _ (by simp)]
  exact heap_alloc_new _ _
 have HH : Hid (bQ w0 (w.heap.size + 1) h) := by
  show w0.heap[w.heap.size + 1]? = _
  rw [hw0, <- hC, show w.heap.size + 1 = (w.alloc (.cells #[p, .int .i64 (f : Int), .int .i64 (c : Int)] 182)).heap.size from by simp]
  exact heap_alloc_new _ _
 have HK0 : Hid (KAt w0) := hK.below HB.out hK.pos
 unfold arv hdv
 rw [<- hC]
 clear hC ho hK
 obtain ⟨ga, hga⟩ : ∃ ga, ga = w.heap.size := ⟨_, rfl⟩
 obtain ⟨gh, hgh⟩ : ∃ gh, gh = w.heap.size + 1 := ⟨_, rfl⟩
 rw [<- hgh] at HH
 rw [<- hga] at HA
 have HGA : Hid (ga = w.heap.size /\ gh = w.heap.size + 1) := ⟨hga, hgh⟩
 obtain ⟨T, hT⟩ : ∃ T, T = h.turn := ⟨_, rfl⟩
 obtain ⟨U, hU⟩ : ∃ U, U = h.used := ⟨_, rfl⟩
 rw [<- hT] at q0
 rw [<- hU] at q1
 have HTU : Hid (T = h.turn /\ U = h.used) := ⟨hT, hU⟩
 clear hT hU
 go_enter Tryz.func154, Tryz.ntmps154
 go_wp2_with fail
 rw [<- hw0, <- hgh, <- hga]
 clear hw0 hga hgh
 refine (iw w0).mono ?_
 rintro e w1 ⟨rfl, h1, h2⟩
 have W1 := hide h1
 have B1 : Hid (Below w0.heap.size w0 w1) := h2
 have S1 : Hid (w0.heap.size <= w1.heap.size) := h2.size
 have H1 := HH.out.below h2 (aa HH.out)
 have hu1 := H1.used
 have ht1 := H1.turn
 rw [<- HTU.out.2] at hu1
 rw [<- HTU.out.1] at ht1
 obtain ⟨gw, hgw⟩ : ∃ gw, gw = w0.heap.size := ⟨_, rfl⟩
 rw [<- hgw]
 have HG : Hid (gw = w0.heap.size) := hgw
 clear h1 h2 hgw H1
 go_wp2_with fail
 refine (fP T gw _ w1 rfl rfl (HG.out ▸ W1.out) (by decide)).mono ?_
 rintro e w2 ⟨rfl, v2, h3, h4⟩
 have W2 := hide h3
 have hb2 := h4.base S1.out (Nat.le_of_eq HG.out.symm) (nQ _)
 have N2 := hide hb2.2
 have B2 := hide (B1.out.trans hb2.1)
 have S2 : Hid (w0.heap.size <= w2.heap.size) := ltr S1.out hb2.1.size
 have hu2 := (HH.out.below B2.out (aa HH.out)).used
 rw [<- HTU.out.2] at hu2
 clear h3 h4 hb2 hu1 ht1
 go_wp2_with fail
 refine (fP U gw _ w2 rfl rfl W2.out (by simp [S.ak, vE])).mono ?_
 rintro e w3 ⟨rfl, v3, h3, h4⟩
 have W3 := hide h3
 have hb3 := h4.base S2.out (Nat.le_of_eq HG.out.symm) N2.out
 have N3 := hide hb3.2
 have B3 := hide (B2.out.trans hb3.1)
 have S3 : Hid (w0.heap.size <= w3.heap.size) := ltr S2.out hb3.1.size
 have hld := (HH.out.below B3.out (aa HH.out)).seal HO.out.sl
 clear h3 h4 hb3 hu2
 obtain ⟨SL, hSL⟩ : ∃ SL, SL = h.sl := ⟨_, rfl⟩
 rw [<- hSL] at hld
 have HSL : Hid (SL = h.sl) := hSL
 have hsl : SL.length = 32 := by rw [hSL]; exact HO.out.sl
 clear hSL
 go_wp2_with (refine ay rfl 184 (.tmp 19) rfl (.pointer (some ⟨gh, 2, none⟩)) rfl (.agg (S.v8 SL)) hld ?_)
 refine (pV gw v3 _ SL w3 hsl W3.out (by simp [S.ak, vE, oQ])).mono ?_
 rintro e w4 ⟨rfl, v4, h3, h4⟩
 have hht : ([] ++ S.num T (S.size 8) ++ S.num U (S.size 3) ++ SL) = S.ht h := by
  rw [vE, oQ, HTU.out.1, HTU.out.2, HSL.out, S.ht]; simp
 rw [hht] at h3
 have W4 := hide h3
 have hb4 := h4.base S3.out (Nat.le_of_eq HG.out.symm) N3.out
 have N4 := hide hb4.2
 have B4 := hide (B3.out.trans hb4.1)
 have S4 : Hid (w0.heap.size <= w4.heap.size) := ltr S3.out hb4.1.size
 clear h3 h4 hb4 hld hht
 go_wp2_with fail
 refine (lH gw v4 _ w4 W4.out (by rw [S.mi HO.out]; omega)).mono ?_
 rintro e w5 ⟨rfl, r5, b5⟩
 have W5 := hide (W4.out.below b5)
 have B5 := hide (B4.out.trans (b5.mono S4.out))
 have S5 : Hid (w0.heap.size <= w5.heap.size) := ltr S4.out b5.size
 have T5 := hide (az r5 rfl (by rw [S.mi HO.out]; omega))
 have K5 : Hid (KAt w5) := HK0.out.below B5.out HK0.out.pos
 obtain ⟨n5, hn5⟩ : ∃ n5, n5 = (S.ht h).length := ⟨_, rfl⟩
 rw [<- hn5] at T5 ⊢
 clear r5 b5 hn5
 go_wp2_with fail
 refine (AU _ _ w5 T5.out K5.out).mono ?_
 rintro e w6 ⟨rfl, b6⟩
 have W6 := hide (W5.out.below b6)
 have B6 := hide (B5.out.trans (b6.mono S5.out))
 have S6 : Hid (w0.heap.size <= w6.heap.size) := ltr S5.out b6.size
 have hsm := S.sum_length (S.ht h)
 clear b6
 obtain ⟨SM, hSM⟩ : ∃ SM, SM = S.sum (S.ht h) := ⟨_, rfl⟩
 rw [<- hSM] at hsm ⊢
 have HSM : Hid (SM = S.sum (S.ht h)) := hSM
 clear hSM
 go_wp2_with fail
 refine (pV gw v4 _ SM w6 hsm W6.out (by rw [S.mi HO.out]; omega)).mono ?_
 rintro e w7 ⟨rfl, v7, h3, h4⟩
 rw [HSM.out, <- S.htext] at h3
 have W7 := hide h3
 have hb7 := h4.base S6.out (Nat.le_of_eq HG.out.symm) N4.out
 have B7 := hide (B6.out.trans hb7.1)
 have S7 : Hid (w0.heap.size <= w7.heap.size) := ltr S6.out hb7.1.size
 have HA7 := hide (HA.out.below B7.out (aa HA.out))
 clear h3 h4 hb7
 go_wp2_with fail
 refine wp_region_noPanic ?_
 refine wp_region_held_drew (S := (fun W => eX W ga p f c)) follows HA7.out (fun hHeld => ?_)
 have WD := hide (W7.out.below (W := w7.drew) ((Chg.refl (fun _ => False) w7).drew.below _ (lr _) (fun _ _ e => e)))
 have BD : Hid (Below w.heap.size w w7.drew) := HB.out.trans ((B7.out.mono (by have := HZ.out; omega)).drew)
 clear HA7 W7 B7 S7
 generalize w7.drew = Z1 at WD BD hHeld ⊢
 refine wpAnyH_take (i := 0) (oi := ⟨_, _, _, _, _, _⟩) (v := .agg #[p, .int .i64 (f : Int), .int .i64 (c : Int)]) rfl (by kernel_rfl) (by kernel_rfl) (by kernel_rfl) (fun _ _ _ h => h) (yieldsIf_load_mid (by kernel_rfl) 182 (.tmp 3) rfl ga 0 rfl [p, .int .i64 (f : Int), .int .i64 (c : Int)] _ (fun W hW => aH hW) Tryz.underlying182 rfl (by kernel_rfl)) (by assumption) ?_
 simp only [uA]
 refine tq 1 ?_
 simp only [uA]
 refine tq 2 ?_
 simp only [uA]
 refine r1 3 fun K hK => ?_
 go_simp
 refine (lH gw v7 _ Z1 WD.out (by rw [S.eQ HO.out]; omega)).mono ?_
 rintro e Z2 ⟨rfl, r2, b2⟩
 have a2 : eX Z2 ga p f c := eX.below hHeld b2 (aa hHeld)
 clear hHeld
 refine hK.out _ _ a2 (fun hHeld => ?_)
 clear hK K 
 try simp only [uA]
 have T2 := hide (az r2 rfl (by rw [S.eQ HO.out]; omega))
 have B2' : Hid (Below w.heap.size w Z2) := BD.out.trans (b2.mono BD.out.size)
 clear a2 r2 b2 WD BD
 refine r1 4 fun K hK => ?_
 go_simp
 refine (rZ p f c k 240 _ _ _ _ Z2 hf hc hk (by rw [S.eQ HO.out]; omega) T2.out).mono ?_
 rintro e Z3 ⟨g3, rfl, l3, r3, b3⟩
 have a3 : eX Z3 ga p f c := eX.below hHeld b3 (aa hHeld)
 clear hHeld
 refine hK.out _ _ a3 (fun hHeld => ?_)
 clear hK K 
 try simp only [uA]
 have R3 : Hid (Z3.heap[g3]? = some (.cells (S.v8 (S.aC f c k h)) 5 (0, 0))) := r3
 have B3' : Hid (Below w.heap.size w Z3) := B2'.out.trans (b3.mono B2'.out.size)
 have L3 : Hid (w.heap.size <= g3) := ltr B2'.out.size l3
 clear a3 r3 b3 l3 T2 B2'
 refine tq 5 ?_
 simp only [uA]
 refine wpAnyH_done (by kernel_rfl) ?_ _
 refine NoPanic.normal ?_
 clear hHeld
 go_wp2_with fail
 go_ret
 exact ⟨g3, rfl, L3.out, R3.out, B3'.out⟩
end Go.Proofs.YteealihknndclabGreatDoor
namespace Go.Proofs.YteealihknndclabGreatDoor
open Go.RowKit

namespace S
def tV (x : List UInt8) : Hd := ⟨val (x.take 8), val ((x.drop 8).take 3), (x.drop 11).take 32⟩
theorem hdOn_in (s : List UInt8) : tV (s.drop 9) = oh s := by
 unfold tV oh
 rw [List.drop_drop, List.drop_drop]
theorem rd_turn (x : List UInt8) (h : 43 <= x.length) : (Rd.mk x 0 0 0).number 8 = (⟨x, 8, 0, 0⟩, (tV x).turn) := by
 unfold Rd.number Rd.take
 rw [vE, if_pos rfl, if_pos (by show 0 + 8 <= x.length; omega)]
 rfl
theorem rd_used (x : List UInt8) (h : 43 <= x.length) : (Rd.mk x 8 0 0).number 3 = (⟨x, 11, 0, 0⟩, (tV x).used) := by
 unfold Rd.number Rd.take
 rw [oQ, if_pos rfl, if_pos (by show 8 + 3 <= x.length; omega)]
 rfl
theorem rd_seal (x : List UInt8) (h : 43 <= x.length) : (Rd.mk x 11 0 0).digest = (⟨x, 43, 0, 0⟩, (tV x).sl) := by
 unfold Rd.digest Rd.take
 rw [if_pos rfl, if_pos (by show 11 + 32 <= x.length; omega)]
 have hl : ((x.drop 11).take 32).length = 32 := by simp; omega
 show (_, splice (zeros 32) 0 ((x.drop 11).take 32)) = _
 rw [dS, hl]
 simp [zeros, tV]
theorem hdOn_ok (x : List UInt8) (h : 43 <= x.length) : (tV x).Ok := by
 refine ⟨?_, ?_, by simp [tV]; omega⟩
 ·have h1 := oJ (x.take 8)
  have h2 : (x.take 8).length = 8 := by simp; omega
  rw [h2] at h1
  exact h1
 ·have h1 := oJ ((x.drop 8).take 3)
  have h2 : ((x.drop 8).take 3).length = 3 := by simp; omega
  rw [h2] at h1
  exact h1
end S
theorem eO {r r' : S.Rd} {k : Int} {n : Nat} (g t : Nat) (w : World) (h : r.number k = (r', n)) (hr : dh w g t r) :
  Calls Tryz.prog 81 #[.pointer (some ⟨g, 0, none⟩), .int .i64 k] w fun e w' => e = .returned (.int .u64 (n : Int)) /\ dh w' g t r' /\ Chg (fun k => k = g) w w' := by
 have := qg g t r k w hr
 rw [h] at this
 exact this
theorem yT {r r' : S.Rd} {d : List UInt8} (g t : Nat) (w : World) (h : r.digest = (r', d)) (hr : dh w g t r) :
  Calls Tryz.prog 206 #[.pointer (some ⟨g, 0, none⟩)] w fun e w' => e = .returned (.agg (S.v8 d)) /\ dh w' g t r' /\ Chg (fun k => k = g) w w' := by
 have := xw g t r w hr
 rw [h] at this
 exact this
set_option maxHeartbeats 1600000 in
set_option maxRecDepth 10000 in
theorem zA (v : Value) (x : List UInt8) (w : World) (hv : SliceAt w v x) (hx : 43 <= x.length) :
  Calls Tryz.prog 201 #[v] w fun e w' => e = .returned (hdv (S.tV x)) /\ Below w.heap.size w w' := by
 have hmx : x.length <= 140737488355328 := by obtain ⟨_, _, _, _, h1, h2⟩ := hv.form; omega
 have hok := S.hdOn_ok x hx
 have et := S.rd_turn x hx
 have eu := S.rd_used x hx
 have es := S.rd_seal x hx
 obtain ⟨H, hH⟩ : ∃ H, H = S.tV x := ⟨_, rfl⟩
 rw [<- hH] at hok et eu es ⊢
 clear hH
 have HO := hide hok
 have ET := hide et
 have EU := hide eu
 have ES := hide es
 have q0 := hok.turn
 have q1 := hok.used
 obtain ⟨T, U, SL⟩ := H
 simp only at q0 q1
 have hsl : SL.length = 32 := hok.sl
 have hwr : IntKind.i64.wrap (U : Int) = (U : Int) := by rw [IntKind.wrap_i64]; omega
 clear hok et eu es
 obtain ⟨w0, hw0⟩ : ∃ w0, w0 = w.alloc (.cells (S.hc S.Hd.none).toArray 186) := ⟨_, rfl⟩
 have HB : Hid (Below w.heap.size w w0) := by rw [hw0]; exact ba ..
 have HR : Hid (bQ w0 w.heap.size S.Hd.none) := by show w0.heap[w.heap.size]? = _; rw [hw0]; exact heap_alloc_new _ _
 have HV := hide (hv.below HB.out (lr _))
 have hal := iZ w
 rw [<- hw0] at hal
 obtain ⟨gr, hgr⟩ : ∃ gr, gr = w.heap.size := ⟨_, rfl⟩
 rw [<- hgr] at HR hal
 have HGR : Hid (gr = w.heap.size) := hgr
 clear hv hw0 hgr
 obtain ⟨ao, ln, cp, rfl, hz1, hz2⟩ := HV.out.form
 clear hz1 hz2
 go_enter Tryz.func201, Tryz.ntmps201
 go_wp2_with (with_reducible refine au ⟨some 2, .alloc 186, 0, "head.go:82", #[], none⟩ ?_; refine ah rfl 186 rfl (.pointer (some ⟨gr, 0, none⟩)) w0 hal ?_)
 clear hal
 refine (iy _ x w0 HV.out hmx).mono ?_
 rintro e w1 ⟨gd, gx, rfl, g1, x1, r1, b1⟩
 have RD1 := hide r1
 have B1 : Hid (Below w0.heap.size w0 w1) := b1
 have GD : Hid (w0.heap.size <= gd /\ w0.heap.size <= gx) := ⟨g1, x1⟩
 clear g1 x1 r1 b1
 go_wp2_with fail
 refine (eO gd gx w1 ET.out RD1.out).mono ?_
 rintro e w2 ⟨rfl, r2, c2⟩
 have RD2 := hide r2
 have B2 : Hid (Below w0.heap.size w0 w2) := B1.out.trans (c2.base B1.out.size GD.out.1)
 clear r2 c2
 have hbd := Gj T w2
 have hal := iZ w2
 have hd3 : bQ (w2.alloc (.cells (S.hc S.Hd.none).toArray 186)) w2.heap.size S.Hd.none := heap_alloc_new _ _
 obtain ⟨w3, hst, hd4, c3⟩ := dC (h := ⟨T, 0, S.zeros 32⟩) hd3 (S.zeros_length _) (S.zeros_length _)
 have b23 : Below w2.heap.size w2 (w2.alloc (.cells (S.hc S.Hd.none).toArray 186)) := ba ..
 have b3 : Below w2.heap.size w2 w3 := b23.trans (c3.base b23.size (lr _))
 have H4 := hide hd4
 have RD3 := hide (RD2.out.below b3)
 have B3 : Hid (Below w0.heap.size w0 w3) := B2.out.trans (b3.mono B2.out.size)
 obtain ⟨gh, hgh⟩ : ∃ gh, gh = w2.heap.size := ⟨_, rfl⟩
 rw [<- hgh] at H4 hal hst
 have HGH : Hid (w0.heap.size <= gh /\ gd < gh /\ gx < gh) := ⟨by rw [hgh]; exact B2.out.size, by rw [hgh]; exact RD2.out.lt, by rw [hgh]; exact RD2.out.tlt⟩
 clear hd3 hd4 c3 b23 b3 RD1 RD2 B1 hgh
 obtain ⟨HV1, Cy⟩ : ∃ X, X = hdv ⟨T, 0, S.zeros 32⟩ := ⟨_, rfl⟩
 rw [<- Cy] at hbd hst
 obtain ⟨HC0, fV⟩ : ∃ X, X = (S.hc S.Hd.none).toArray := ⟨_, rfl⟩
 rw [<- fV] at hal hst
 clear Cy fV
 go_wp2_with (with_reducible refine au ⟨some 9, .build 186 #[(0, .tmp 8)], 186, "head.go:84", #[{ on := 1, ground := Ground.data }], none⟩ ?_; refine aG rfl 186 [(0, Operand.tmp 8)] rfl [(0, .int .u64 (T : Int))] rfl HV1 hbd ?_; with_reducible refine au ⟨some 4, .alloc 186, 0, "head.go:84", #[], none⟩ ?_; refine ah rfl 186 rfl (.pointer (some ⟨gh, 0, none⟩)) (w2.alloc (.cells HC0 186)) hal ?_; with_reducible refine au ⟨none, .store 186 (.tmp 4) (.tmp 9), 0, "head.go:84", #[{ on := 3, ground := Ground.data }, { on := 2, ground := Ground.data }, { on := 1, ground := Ground.chain }, { on := 0, ground := Ground.phase }, { on := 1, ground := Ground.phase }, { on := 2, ground := Ground.phase }, { on := 3, ground := Ground.phase }], none⟩ ?_; refine ai rfl 186 (.tmp 4) (.tmp 9) rfl (.pointer (some ⟨gh, 0, none⟩)) HV1 rfl rfl w3 hst ?_)
 clear hbd hal hst
 refine (eO gd gx w3 EU.out RD3.out).mono ?_
 rintro e w4 ⟨rfl, r4, c4⟩
 have RD4 := hide r4
 have hd5 : bQ w4 gh ⟨T, 0, S.zeros 32⟩ := c4.row H4.out (fun e => by have := HGH.out.2.1; omega)
 have B4 : Hid (Below w0.heap.size w0 w4) := B3.out.trans (c4.base B3.out.size GD.out.1)
 have c1 := hd5.used
 have f1 := frozen_of_row _ _ 1 _ _ hd5
 have H5 : Hid (bQ (w4.setCell ⟨gh, 1, none⟩ (.int .i64 (U : Int))) gh ⟨T, U, S.zeros 32⟩) := hd5.setUsed U
 have B5 : Hid (Below w0.heap.size w0 (w4.setCell ⟨gh, 1, none⟩ (.int .i64 (U : Int)))) := B4.out.setCell (p := ⟨gh, 1, none⟩) HGH.out.1 _
 have RD5 : Hid (dh (w4.setCell ⟨gh, 1, none⟩ (.int .i64 (U : Int))) gd gx ⟨x, 11, 0, 0⟩) := r4.chg (p := fun k => k = gh) (Chg.one gh 1 _ rfl) (fun e => by have := HGH.out; omega) (fun e => by have := HGH.out; omega)
 clear r4 c4 hd5 RD3 RD4 H4 B3
 go_wp2_with fail
 generalize w4.setCell ⟨gh, 1, none⟩ (.int .i64 (U : Int)) = w5 at H5 B5 RD5 ⊢
 clear c1 f1
 refine (yT gd gx w5 ES.out RD5.out).mono ?_
 rintro e w6 ⟨rfl, r6, c6⟩
 have hd6 : bQ w6 gh ⟨T, U, S.zeros 32⟩ := c6.row H5.out (fun e => by have := HGH.out.2.1; omega)
 have b6 : Below w0.heap.size w0 w6 := B5.out.trans (c6.base B5.out.size GD.out.1)
 obtain ⟨w7, hst, hd7, c7⟩ := store71 (sl := SL) hd6 (S.zeros_length _) hsl
 have b7 : Below w0.heap.size w0 w7 := b6.trans (c7.base b6.size HGH.out.1)
 have hr7 : bQ w7 gr S.Hd.none := HR.out.below b7 (aa HR.out)
 have hld := bQ.load hd7 hsl
 obtain ⟨w8, sD, hd8, c8⟩ := dC (h := ⟨T, U, SL⟩) hr7 (S.zeros_length _) hsl
 have HD8 := hide hd8
 have B8 : Hid (Below w.heap.size w w8) := by
  have b : Below w.heap.size w w7 := HB.out.trans (b7.mono HB.out.size)
  exact b.trans (c8.base b.size (by have := HGR.out; omega))
 obtain ⟨V8, hV8⟩ : ∃ V8, V8 = S.v8 SL := ⟨_, rfl⟩
 rw [<- hV8] at hst ⊢
 obtain ⟨HV2, lw⟩ : ∃ X, X = hdv ⟨T, U, SL⟩ := ⟨_, rfl⟩
 rw [<- lw] at sD
 rw [show hdv { turn := T, used := U, sl := SL } = HV2 from lw.symm] at hld
 have HHV : Hid (HV2 = hdv ⟨T, U, SL⟩) := lw
 clear r6 c6 hd6 b6 hd7 c7 b7 hr7 hd8 c8 hV8 lw RD5 H5 B5
 go_wp2_with (first | (with_reducible refine au ⟨none, .store 184 (.tmp 16) (.tmp 15), 0, "head.go:86", #[{ on := 2, ground := Ground.data }, { on := 1, ground := Ground.data }, { on := 1, ground := Ground.chain }, { on := 0, ground := Ground.phase }, { on := 1, ground := Ground.phase }], none⟩ ?_; refine ai rfl 184 (.tmp 16) (.tmp 15) rfl (.pointer (some ⟨gh, 2, none⟩)) (.agg V8) rfl rfl w7 hst ?_) | (with_reducible refine au ⟨some 17, .load 186 (.tmp 4), 186, "head.go:87", #[], none⟩ ?_; refine ay rfl 186 (.tmp 4) rfl (.pointer (some ⟨gh, 0, none⟩)) rfl HV2 hld ?_) | (with_reducible refine au ⟨none, .store 186 (.tmp 2) (.tmp 17), 0, "head.go:87", #[{ on := 0, ground := Ground.data }, { on := 0, ground := Ground.phase }], none⟩ ?_; refine ai rfl 186 (.tmp 2) (.tmp 17) rfl (.pointer (some ⟨gr, 0, none⟩)) HV2 rfl rfl w8 sD ?_))
 exact bodyPost_ret (bi Tryz.results201 _ _ gr _ rfl (HD8.out.loadVar hsl)) rfl ⟨rfl, B8.out⟩
end Go.Proofs.YteealihknndclabGreatDoor
namespace Go.Proofs.YteealihknndclabGreatDoor
open Go.RowKit

theorem hd_box2 (w : World) (h b : S.Hd) : ∃ w0, w0 = (w.alloc (.cells (S.hc h).toArray 186)).alloc (.cells (S.hc b).toArray 186) /\ Hid (bQ w0 w.heap.size h) /\ Hid (bQ w0 (w.heap.size + 1) b) /\ Hid (Below w.heap.size w w0) /\ Hid (w0.heap.size = w.heap.size + 2) := by
 refine ⟨_, rfl, ?_, ?_, (ba ..).alloc (by simp) _, by show ((w.alloc _).alloc _).heap.size = _; simp⟩
 ·show ((w.alloc _).alloc _).heap[w.heap.size]? = _
  rw [heap_alloc_old _ _ (by simp)]
  exact heap_alloc_new _ _
 ·show ((w.alloc _).alloc _).heap[w.heap.size + 1]? = _
  rw [show w.heap.size + 1 = (w.alloc (.cells (S.hc h).toArray 186)).heap.size from by simp]
  exact heap_alloc_new _ _
theorem nO {a b : Bool} (h : a = b) : Ending.returned (.bool a) = .returned (.bool b) := by rw [h]
set_option maxHeartbeats 800000 in
theorem uK (h b : S.Hd) (m mb : Nat) (w : World) (hh : h.Ok) (hb : b.Ok) :
  Calls Tryz.prog 183 #[hdv h, .int .i64 (m : Int), hdv b, .int .i64 (mb : Int)] w fun e w' => e = .returned (.bool (S.holds h m b mb)) /\ Below w.heap.size w w' := by
 obtain ⟨w0, hw0, H1, H2, HB, HZ⟩ := hd_box2 w h b
 have c1 := H1.out.turn
 have c2 := H2.out.turn
 rw [hw0] at c1 c2
 have q1 := hh.turn
 have q2 := hb.turn
 obtain ⟨T, hT⟩ : ∃ T, T = h.turn := ⟨_, rfl⟩
 obtain ⟨B, hB⟩ : ∃ B, B = b.turn := ⟨_, rfl⟩
 have hE : S.holds h m b mb = (decide (m = 2) && (decide (mb = 1) || (decide (mb = 2) && decide ((B + 1) % 18446744073709551616 = T)))) := by rw [hT, hB]; rfl
 rw [<- hT] at c1 q1
 rw [<- hB] at c2 q2
 obtain ⟨R, hR⟩ : ∃ R, R = S.holds h m b mb := ⟨_, rfl⟩
 rw [<- hR] at hE ⊢
 have HE := hide hE
 have hw : IntKind.u64.wrap ((B : Int) + 1) = (((B + 1) % 18446744073709551616 : Nat) : Int) := by rw [IntKind.wrap_u64]; omega
 obtain ⟨Z, hZ⟩ : ∃ Z, Z = (B + 1) % 18446744073709551616 := ⟨_, rfl⟩
 rw [<- hZ] at hw HE
 clear hh hb hE hR hZ hT hB
 unfold hdv
 obtain ⟨C1, hC1⟩ : ∃ C, C = (S.hc h).toArray := ⟨_, rfl⟩
 obtain ⟨C2, hC2⟩ : ∃ C, C = (S.hc b).toArray := ⟨_, rfl⟩
 rw [<- hC1, <- hC2] at hw0 c1 c2
 rw [<- hC1, <- hC2]
 clear hC1 hC2
 have HW0 := hide hw0
 clear hw0
 by_cases h2 : m = 2
 ·have z1 : (m : Int) = 2 := by omega
  by_cases h3 : mb = 1
  ·have z2 : (mb : Int) = 1 := by omega
   have E : Hid (R = true) := by show R = true; rw [HE.out, decide_eq_true h2, decide_eq_true h3]; rfl
   clear h2 h3 c1 c2 hw
   go_enter Tryz.func183, Tryz.ntmps183
   go_wp2_with fail
   go_ret
   exact ⟨by rw [E.out]; rfl, HW0.out ▸ HB.out⟩
  ·have z2 : ¬ (mb : Int) = 1 := by omega
   by_cases h4 : mb = 2
   ·have z3 : (mb : Int) = 2 := by omega
    by_cases h5 : Z = T
    ·have z4 : (Z : Int) = (T : Int) := by omega
     have E : Hid (R = true) := by show R = true; rw [HE.out, decide_eq_true h2, decide_eq_false h3, decide_eq_true h4, decide_eq_true h5]; rfl
     clear h2 h3 h4 h5
     go_enter Tryz.func183, Tryz.ntmps183
     go_wp2_with fail
     go_ret
     exact ⟨by rw [E.out]; rfl, HW0.out ▸ HB.out⟩
    ·have z4 : ¬ (Z : Int) = (T : Int) := by omega
     have E : Hid (R = false) := by show R = false; rw [HE.out, decide_eq_true h2, decide_eq_false h3, decide_eq_true h4, decide_eq_false h5]; rfl
     clear h2 h3 h4 h5
     go_enter Tryz.func183, Tryz.ntmps183
     go_wp2_with fail
     go_ret
     exact ⟨nO (by rw [E.out]; exact beq_false_of_ne z4), HW0.out ▸ HB.out⟩
   ·have z3 : ¬ (mb : Int) = 2 := by omega
    have E : Hid (R = false) := by show R = false; rw [HE.out, decide_eq_true h2, decide_eq_false h3, decide_eq_false h4]; rfl
    clear h2 h3 h4 c1 c2 hw
    go_enter Tryz.func183, Tryz.ntmps183
    go_wp2_with fail
    go_ret
    exact ⟨nO (by rw [E.out]; exact beq_false_of_ne z2), HW0.out ▸ HB.out⟩
 ·have z1 : ¬ (m : Int) = 2 := by omega
  have E : Hid (R = false) := by show R = false; rw [HE.out, decide_eq_false h2]; rfl
  clear h2 c1 c2 hw
  go_enter Tryz.func183, Tryz.ntmps183
  go_wp2_with fail
  go_ret
  exact ⟨nO (by rw [E.out]), HW0.out ▸ HB.out⟩
structure zT (w : World) (ga gr gb : Nat) (p : Value) (f c : Nat) (s : List UInt8) : Prop where
 ar : eX w ga p f c
 res : bQ w gr S.Hd.none
 sec : w.heap[gb]? = some (.cells (S.v8 s) 5 (0, 0))
 k : KAt w
theorem zT.below {w W : World} {ga gr gb : Nat} {p : Value} {f c : Nat} {s : List UInt8} (h : zT w ga gr gb p f c s) (hb : Below w.heap.size w W) : zT W ga gr gb p f c s :=
 ⟨h.ar.below hb (aa h.ar), h.res.below hb (aa h.res), (hb.block gb (aa h.sec)).trans h.sec, h.k.below hb h.k.pos⟩
theorem Aa {x : UInt8} {n : Nat} (hn : n < 256) : x = UInt8.ofNat n ↔ (x.toNat : Int) = (n : Int) := by
 have := DJ x n hn
 rw [Bool.eq_iff_iff] at this
 simp only [decide_eq_true_eq, beq_iff_eq] at this
 exact this.symm
set_option maxHeartbeats 4000000 in
set_option maxRecDepth 10000 in
theorem sG (o : Ow) (d : S.Dk) (f c k : Nat) (w : World) (hd : Dsk w o d) (h : f + k < d.safe.length) (hc : c <= 100000) (s : List UInt8) (hs : s = d.seen.getD (f + k) []) :
  Calls Tryz.prog 182 #[arv o.ptr f c, .int .i64 (k : Int)] w fun e w' => e = .returned (.tuple #[hdv (S.gF f c k s), .int .i64 (S.sight f c k s : Int)]) /\ Below w.heap.size w w' := by
 have hn := hd.dk.n
 have hsl : s.length = 128 := by rw [hs]; exact hd.dk.ok.seen _ h
 have HO : Hid (f + k < d.safe.length) := h
 have hfk : f <= 100000 /\ k <= 100000 := by omega
 have HFK := hide hfk
 have HSL := hide hsl
 obtain ⟨w0, hw0⟩ : ∃ w0, w0 = (w.alloc (.cells #[o.ptr, .int .i64 (f : Int), .int .i64 (c : Int)] 182)).alloc (.cells (S.hc S.Hd.none).toArray 186) := ⟨_, rfl⟩
 have HZ : Hid (w0.heap.size = w.heap.size + 2) := by show w0.heap.size = _; rw [hw0]; simp
 have HB : Hid (Below w.heap.size w w0) := by rw [hw0]; exact (ba ..).alloc (by simp) _
 have HA : Hid (eX w0 w.heap.size o.ptr f c) := by
  show w0.heap[w.heap.size]? = _
  rw [hw0, heap_alloc_old _ _ (by simp)]
  exact heap_alloc_new _ _
 have HH : Hid (bQ w0 (w.heap.size + 1) S.Hd.none) := by
  show w0.heap[w.heap.size + 1]? = _
  rw [hw0, show w.heap.size + 1 = (w.alloc (.cells #[o.ptr, .int .i64 (f : Int), .int .i64 (c : Int)] 182)).heap.size from by simp]
  exact heap_alloc_new _ _
 have HD := hide (hd.below HB.out)
 have hal := iZ (w.alloc (.cells #[o.ptr, .int .i64 (f : Int), .int .i64 (c : Int)] 182))
 rw [<- hw0] at hal
 have hz1 : (w.alloc (.cells #[o.ptr, .int .i64 (f : Int), .int .i64 (c : Int)] 182)).heap.size = w.heap.size + 1 := by simp
 rw [hz1] at hal
 obtain ⟨ga, hga⟩ : ∃ ga, ga = w.heap.size := ⟨_, rfl⟩
 obtain ⟨gr, hgr⟩ : ∃ gr, gr = w.heap.size + 1 := ⟨_, rfl⟩
 rw [<- hga] at HA
 rw [<- hgr] at HH
 have HGA : Hid (ga = w.heap.size /\ gr = w.heap.size + 1) := ⟨hga, hgr⟩
 have HS : Hid (s = d.seen.getD (f + k) []) := hs
 clear hs hsl hd h hz1 hfk
 obtain ⟨a0, a1, a2⟩ := HA.out.cells
 unfold arv
 go_enter Tryz.func182, Tryz.ntmps182
 go_wp2_with (refine ah rfl 186 rfl _ _ hal ?_)
 rw [<- hw0, <- hgr, <- hga]
 clear hga hgr hal hw0
 refine (qK o d f c k w0 HD.out.dk HO.out).mono ?_
 rintro e w1 ⟨gb, rfl, g1, r1, b1⟩
 rw [<- HS.out] at r1
 have HI1 : Hid (zT w1 ga gr gb o.ptr f c s) := ⟨HA.out.below b1 (aa HA.out), HH.out.below b1 (aa HH.out), r1, HD.out.k.below b1 HD.out.k.pos⟩
 have B1 := hide (HB.out.trans (b1.mono HB.out.size))
 clear a0 a1 a2 g1 r1 b1 HA HH HD
 go_wp2_with fail
 obtain ⟨x8, hx8⟩ : ∃ x, x = s.getD 8 0 := ⟨_, rfl⟩
 obtain ⟨tF, hx127⟩ : ∃ x, x = s.getD 127 0 := ⟨_, rfl⟩
 have HX : Hid (x8 = s.getD 8 0 /\ tF = s.getD 127 0) := ⟨hx8, hx127⟩
 clear hx8 hx127
 refine wp_region_noPanic ?_
 refine wp_region_held_drew (S := (fun W => zT W ga gr gb o.ptr f c s)) follows (HI1.out.below (Below.refl _ _).drew) (fun hHeld => ?_)
 have B1d : Hid (Below w.heap.size w w1.drew) := B1.out.drew
 clear HI1 B1
 generalize w1.drew = wc at B1d hHeld ⊢
 refine tq 0 ?_
 simp only [uA]
 refine tq 1 ?_
 simp only [uA]
 refine tk 2 ?_ rfl (Or.inl ⟨by rfl, ?_⟩) ?_
 rotate_left
 ·intro w hSw
  have c8 := bL (zT.sec hSw) 8 (by rw [HSL.out]; omega)
  rw [<- HX.out.1] at c8
  clear hSw
  go_simp
  all_goals with_reducible rfl
 simp only [uA]
 refine tq 3 ?_
 simp only [uA]
 refine tq 4 ?_
 simp only [uA]
 refine tk 5 ?_ rfl (Or.inl ⟨by rfl, ?_⟩) ?_
 rotate_left
 ·intro w hSw
  have c127 := bL (zT.sec hSw) 127 (by rw [HSL.out]; omega)
  rw [<- HX.out.2] at c127
  clear hSw
  go_simp
  all_goals with_reducible rfl
 simp only [uA]
 refine tq 6 ?_
 simp only [uA]
 refine tq 7 ?_
 simp only [uA]
 refine wpAnyH_done (by kernel_rfl) ?_ _
 refine NoPanic.normal ?_
 have HI := hide hHeld
 have BC := hide B1d.out
 clear hHeld B1d
 have ESI : Hid (S.sight f c k s = if S.tag f c k <+: s /\ S.fu x8 = true /\ S.fu tF = true then (if x8 = 15 \/ tF = 15 then 1 else if s = S.aC f c k (S.oh s) then 2 else 0) else 0) := by rw [HX.out.1, HX.out.2]; rfl
 obtain ⟨a0, a1, a2⟩ := HI.out.ar.cells
 go_wp2_with fail
 refine (qJ o.ptr f c k wc HFK.out.1 hc HFK.out.2).mono ?_
 rintro e wt ⟨gt, rfl, g2, r2, b2⟩
 have HI2 := hide (HI.out.below b2)
 have BC2 := hide (BC.out.trans (b2.mono BC.out.size))
 have HTG := hide (az r2 (S.aV _ _ _).symm (by rw [S.aV]; omega))
 have HSB := hide (az HI2.out.sec HSL.out.symm (by rw [HSL.out]; omega))
 clear a0 a1 a2 g2 r2 b2 HI BC
 go_wp2_with fail
 refine (mU _ _ _ _ wt HSB.out HTG.out).mono ?_
 rintro e w9 ⟨rfl, rfl⟩
 by_cases ht : S.tag f c k <+: s
 ·rw [decide_eq_true ht]
  go_wp2_with fail
  refine (su x8 wt).mono ?_
  rintro e w9 ⟨rfl, rfl⟩
  cases hm8 : S.fu x8 with
  | false =>
   have HM8 := hide hm8
   clear hm8
   have HT := hide ht
   clear ht
   have hbd := iI wt
   obtain ⟨wa, hst, hda, ca⟩ := dC (h := S.Hd.none) HI2.out.res (S.zeros_length _) (S.zeros_length _)
   obtain ⟨HV0, jG⟩ : ∃ X, X = hdv S.Hd.none := ⟨_, rfl⟩
   rw [<- jG] at hst hbd
   have HDA := hide hda
   have BF : Hid (Below w.heap.size w wa) := BC2.out.trans (ca.base BC2.out.size (by have := HGA.out; omega))
   clear hda ca jG
   go_wp2_with (first | (with_reducible refine au ⟨some 36, .build 186 #[], 186, "head.go:68", #[], none⟩ ?_; refine aG rfl 186 [] rfl [] rfl HV0 hbd ?_) | (with_reducible refine au ⟨none, .store 186 (.tmp 4) (.tmp 36), 0, "head.go:68", #[{ on := 0, ground := Ground.data }, { on := 0, ground := Ground.phase }], none⟩ ?_; refine ai rfl 186 (.tmp 4) (.tmp 36) rfl (.pointer (some ⟨gr, 0, none⟩)) HV0 rfl rfl wa hst ?_))
   refine bodyPost_ret (aW Tryz.results182 _ _ gr (hdv S.Hd.none) rfl (HDA.out.loadVar (S.zeros_length _))) rfl ⟨?_, BF.out⟩
   have e3 : S.sight f c k s = 0 := by rw [ESI.out, if_neg (fun e => by have := e.2.1; rw [HM8.out] at this; cases this)]
   have e4 : S.gF f c k s = S.Hd.none := by unfold S.gF; rw [if_neg (by rw [e3]; decide)]
   rw [e4, e3]
   rfl
  | true =>
   go_wp2_with fail
   refine (su tF wt).mono ?_
   rintro e w9 ⟨rfl, rfl⟩
   cases hm127 : S.fu tF with
   | false =>
    have HM := hide hm127
    clear hm127 hm8
    have HT := hide ht
    clear ht
    have hbd := iI wt
    obtain ⟨wa, hst, hda, ca⟩ := dC (h := S.Hd.none) HI2.out.res (S.zeros_length _) (S.zeros_length _)
    obtain ⟨HV0, jG⟩ : ∃ X, X = hdv S.Hd.none := ⟨_, rfl⟩
    rw [<- jG] at hst hbd
    have HDA := hide hda
    have BF : Hid (Below w.heap.size w wa) := BC2.out.trans (ca.base BC2.out.size (by have := HGA.out; omega))
    clear hda ca jG
    go_wp2_with (first | (with_reducible refine au ⟨some 36, .build 186 #[], 186, "head.go:68", #[], none⟩ ?_; refine aG rfl 186 [] rfl [] rfl HV0 hbd ?_) | (with_reducible refine au ⟨none, .store 186 (.tmp 4) (.tmp 36), 0, "head.go:68", #[{ on := 0, ground := Ground.data }, { on := 0, ground := Ground.phase }], none⟩ ?_; refine ai rfl 186 (.tmp 4) (.tmp 36) rfl (.pointer (some ⟨gr, 0, none⟩)) HV0 rfl rfl wa hst ?_))
    refine bodyPost_ret (aW Tryz.results182 _ _ gr (hdv S.Hd.none) rfl (HDA.out.loadVar (S.zeros_length _))) rfl ⟨?_, BF.out⟩
    have e3 : S.sight f c k s = 0 := by rw [ESI.out, if_neg (fun e => by have := e.2.2; rw [HM.out] at this; cases this)]
    have e4 : S.gF f c k s = S.Hd.none := by unfold S.gF; rw [if_neg (by rw [e3]; decide)]
    rw [e4, e3]
    rfl
   | true =>
    have ES2 : Hid (S.sight f c k s = (if x8 = 15 \/ tF = 15 then 1 else if s = S.aC f c k (S.oh s) then 2 else 0)) := ESI.out.trans (if_pos ⟨ht, hm8, hm127⟩)
    clear ht hm8 hm127
    by_cases h8 : x8 = 15
    ·have z8 : (x8.toNat : Int) = 15 := (Aa (n := 15) (by omega)).1 h8
     have H8 := hide h8
     clear h8
     have hbd := iI wt
     obtain ⟨wa, hst, hda, ca⟩ := dC (h := S.Hd.none) HI2.out.res (S.zeros_length _) (S.zeros_length _)
     obtain ⟨HV0, jG⟩ : ∃ X, X = hdv S.Hd.none := ⟨_, rfl⟩
     rw [<- jG] at hst hbd
     have HDA := hide hda
     have BF : Hid (Below w.heap.size w wa) := BC2.out.trans (ca.base BC2.out.size (by have := HGA.out; omega))
     clear hda ca jG
     go_wp2_with (first | (with_reducible refine au ⟨some 44, .build 186 #[], 186, "head.go:70", #[], none⟩ ?_; refine aG rfl 186 [] rfl [] rfl HV0 hbd ?_) | (with_reducible refine au ⟨none, .store 186 (.tmp 4) (.tmp 44), 0, "head.go:70", #[{ on := 0, ground := Ground.data }, { on := 0, ground := Ground.phase }], none⟩ ?_; refine ai rfl 186 (.tmp 4) (.tmp 44) rfl (.pointer (some ⟨gr, 0, none⟩)) HV0 rfl rfl wa hst ?_))
     refine bodyPost_ret (aW Tryz.results182 _ _ gr (hdv S.Hd.none) rfl (HDA.out.loadVar (S.zeros_length _))) rfl ⟨?_, BF.out⟩
     have e3 : S.sight f c k s = 1 := by rw [ES2.out, if_pos (Or.inl H8.out)]
     have e4 : S.gF f c k s = S.Hd.none := by unfold S.gF; rw [if_neg (by rw [e3]; decide)]
     rw [e4, e3]
     rfl
    ·have z8 : ¬ (x8.toNat : Int) = 15 := fun e => h8 ((Aa (n := 15) (by omega)).2 e)
     have y8 : ((x8.toNat : Int) == 15) = false := beq_false_of_ne z8
     have H8 := hide h8
     clear h8
     by_cases h127 : tF = 15
     ·have z127 : (tF.toNat : Int) = 15 := (Aa (n := 15) (by omega)).1 h127
      have H127 := hide h127
      clear h127
      have hbd := iI wt
      obtain ⟨wa, hst, hda, ca⟩ := dC (h := S.Hd.none) HI2.out.res (S.zeros_length _) (S.zeros_length _)
      obtain ⟨HV0, jG⟩ : ∃ X, X = hdv S.Hd.none := ⟨_, rfl⟩
      rw [<- jG] at hst hbd
      have HDA := hide hda
      have BF : Hid (Below w.heap.size w wa) := BC2.out.trans (ca.base BC2.out.size (by have := HGA.out; omega))
      clear hda ca jG
      go_wp2_with (first | (with_reducible refine au ⟨some 44, .build 186 #[], 186, "head.go:70", #[], none⟩ ?_; refine aG rfl 186 [] rfl [] rfl HV0 hbd ?_) | (with_reducible refine au ⟨none, .store 186 (.tmp 4) (.tmp 44), 0, "head.go:70", #[{ on := 0, ground := Ground.data }, { on := 0, ground := Ground.phase }], none⟩ ?_; refine ai rfl 186 (.tmp 4) (.tmp 44) rfl (.pointer (some ⟨gr, 0, none⟩)) HV0 rfl rfl wa hst ?_))
      refine bodyPost_ret (aW Tryz.results182 _ _ gr (hdv S.Hd.none) rfl (HDA.out.loadVar (S.zeros_length _))) rfl ⟨?_, BF.out⟩
      have e3 : S.sight f c k s = 1 := by rw [ES2.out, if_pos (Or.inr H127.out)]
      have e4 : S.gF f c k s = S.Hd.none := by unfold S.gF; rw [if_neg (by rw [e3]; decide)]
      rw [e4, e3]
      rfl
     ·have z127 : ¬ (tF.toNat : Int) = 15 := fun e => h127 ((Aa (n := 15) (by omega)).2 e)
      have y127 : ((tF.toNat : Int) == 15) = false := beq_false_of_ne z127
      have H127 := hide h127
      clear h127
      have ES3 : Hid (S.sight f c k s = (if s = S.aC f c k (S.oh s) then 2 else 0)) := ES2.out.trans (if_neg (fun e => by rcases e with e | e; exact H8.out e; exact H127.out e))
      have hp9 := lW HSB.out (by rw [HSL.out]) 9 (by omega)
      have e9 : (if 128 = 9 then (some (⟨gb, 0, none⟩ : Addr)) else Option.map (fun x => x.add 9) (some (⟨gb, 0, none⟩ : Addr))) = some ⟨gb, 9, none⟩ := by
       rw [if_neg (by omega), Option.map_some, Addr.add_lit]
      rw [e9] at hp9
      have HP9 : Hid (SliceAt wt (.slice (some ⟨gb, 9, none⟩) 119 119) (s.drop 9)) := hp9
      clear hp9 e9
      go_wp2_with fail
      refine (zA _ _ wt HP9.out (by rw [List.length_drop, HSL.out]; omega)).mono ?_
      rintro e w3 ⟨rfl, b3⟩
      rw [S.hdOn_in]
      have hok := S.Az s HSL.out
      obtain ⟨H, hH⟩ : ∃ H, H = S.oh s := ⟨_, rfl⟩
      rw [<- hH] at hok ⊢
      have HHH : Hid (H = S.oh s) := hH
      have HOK := hide hok
      clear hH
      have HI3 := hide (HI2.out.below b3)
      have BC3 := hide (BC2.out.trans (b3.mono BC2.out.size))
      have hal := iZ w3
      have hd4 : bQ (w3.alloc (.cells (S.hc S.Hd.none).toArray 186)) w3.heap.size S.Hd.none := heap_alloc_new _ _
      obtain ⟨w5, hst, hd5, c5⟩ := dC (h := H) hd4 (S.zeros_length _) hok.sl
      have b34 : Below w3.heap.size w3 (w3.alloc (.cells (S.hc S.Hd.none).toArray 186)) := ba ..
      have b5 : Below w3.heap.size w3 w5 := b34.trans (c5.base b34.size (lr _))
      have HI5 := hide (HI3.out.below b5)
      have BC5 := hide (BC3.out.trans (b5.mono BC3.out.size))
      obtain ⟨gh, hgh⟩ : ∃ gh, gh = w3.heap.size := ⟨_, rfl⟩
      rw [<- hgh] at hd5 hal hst
      have hld := hd5.load hok.sl
      have HD5 := hide hd5
      obtain ⟨HV, hHV⟩ : ∃ X, X = hdv H := ⟨_, rfl⟩
      rw [<- hHV] at hld hst ⊢
      have HHV : Hid (HV = hdv H) := hHV
      obtain ⟨HC0, fV⟩ : ∃ X, X = (S.hc S.Hd.none).toArray := ⟨_, rfl⟩
      rw [<- fV] at hal hst
      obtain ⟨a0, a1, a2⟩ := HI5.out.ar.cells
      clear hd4 hd5 c5 b34 b5 b3 hgh hHV fV hok HI3 BC3 HP9 HSB HTG
      go_wp2_with (first | (with_reducible refine au ⟨some 9, .alloc 186, 0, "head.go:72", #[], none⟩ ?_; refine ah rfl 186 rfl (.pointer (some ⟨gh, 0, none⟩)) (w3.alloc (.cells HC0 186)) hal ?_) | (with_reducible refine au ⟨none, .store 186 (.tmp 9) (.tmp 47), 0, "head.go:72", #[{ on := 3, ground := Ground.data }, { on := 2, ground := Ground.data }, { on := 2, ground := Ground.chain }, { on := 0, ground := Ground.phase }, { on := 1, ground := Ground.phase }, { on := 2, ground := Ground.phase }, { on := 3, ground := Ground.phase }], none⟩ ?_; refine ai rfl 186 (.tmp 9) (.tmp 47) rfl (.pointer (some ⟨gh, 0, none⟩)) HV rfl rfl w5 hst ?_) | (with_reducible refine au ⟨some 51, .load 186 (.tmp 9), 186, "head.go:73", #[], none⟩ ?_; refine ay rfl 186 (.tmp 9) rfl (.pointer (some ⟨gh, 0, none⟩)) rfl HV hld ?_))
      rw [HHV.out]
      refine (jm o.ptr f c k H w5 HFK.out.1 hc HFK.out.2 HOK.out HI5.out.k).mono ?_
      rintro e w6 ⟨gs, rfl, g6, r6, b6⟩
      rw [<- HHV.out]
      have HI6 := hide (HI5.out.below b6)
      have BC6 := hide (BC5.out.trans (b6.mono BC5.out.size))
      have HD6 : Hid (bQ w6 gh H) := HD5.out.below b6 (aa HD5.out)
      have HSB := hide (az HI6.out.sec HSL.out.symm (by rw [HSL.out]; omega))
      have HSH := hide (az r6 (S.aT HOK.out).symm (by rw [S.aT HOK.out]; omega))
      clear hal hst hld a0 a1 a2 g6 r6 b6 HI5 BC5 HD5
      go_wp2_with fail
      refine (ig _ _ _ _ w6 HSB.out HSH.out).mono ?_
      rintro e w9 ⟨rfl, rfl⟩
      rw [HHH.out]
      by_cases hq : s = S.aC f c k (S.oh s)
      ·rw [decide_eq_true hq]
       have HQ : Hid (S.sight f c k s = 2) := by rw [ES3.out, if_pos hq]; rfl
       clear hq
       have hld := HD6.out.load HOK.out.sl
       obtain ⟨wa, hst, hda, ca⟩ := dC (h := H) HI6.out.res (S.zeros_length _) HOK.out.sl
       rw [<- HHV.out] at hst hld
       have HDA := hide hda
       have BF : Hid (Below w.heap.size w wa) := BC6.out.trans (ca.base BC6.out.size (by have := HGA.out; omega))
       clear hda ca
       go_wp2_with (first | (with_reducible refine au ⟨some 56, .load 186 (.tmp 9), 186, "head.go:76", #[], none⟩ ?_; refine ay rfl 186 (.tmp 9) rfl (.pointer (some ⟨gh, 0, none⟩)) rfl HV hld ?_) | (with_reducible refine au ⟨none, .store 186 (.tmp 4) (.tmp 56), 0, "head.go:76", #[{ on := 0, ground := Ground.data }, { on := 0, ground := Ground.phase }], none⟩ ?_; refine ai rfl 186 (.tmp 4) (.tmp 56) rfl (.pointer (some ⟨gr, 0, none⟩)) HV rfl rfl wa hst ?_))
       refine bodyPost_ret (aW Tryz.results182 _ _ gr (hdv H) rfl (HDA.out.loadVar HOK.out.sl)) rfl ⟨?_, BF.out⟩
       have e4 : S.gF f c k s = H := by unfold S.gF; rw [if_pos HQ.out, HHH.out]
       rw [e4, HQ.out]
       rfl
      ·rw [decide_eq_false hq]
       have HQ := hide hq
       clear hq
       have hbd := iI w6
       obtain ⟨wa, hst, hda, ca⟩ := dC (h := S.Hd.none) HI6.out.res (S.zeros_length _) (S.zeros_length _)
       obtain ⟨HV0, jG⟩ : ∃ X, X = hdv S.Hd.none := ⟨_, rfl⟩
       rw [<- jG] at hst hbd
       have HDA := hide hda
       have BF : Hid (Below w.heap.size w wa) := BC6.out.trans (ca.base BC6.out.size (by have := HGA.out; omega))
       clear hda ca jG
       go_wp2_with (first | (with_reducible refine au ⟨some 55, .build 186 #[], 186, "head.go:74", #[], none⟩ ?_; refine aG rfl 186 [] rfl [] rfl HV0 hbd ?_) | (with_reducible refine au ⟨none, .store 186 (.tmp 4) (.tmp 55), 0, "head.go:74", #[{ on := 0, ground := Ground.data }, { on := 0, ground := Ground.phase }], none⟩ ?_; refine ai rfl 186 (.tmp 4) (.tmp 55) rfl (.pointer (some ⟨gr, 0, none⟩)) HV0 rfl rfl wa hst ?_))
       refine bodyPost_ret (aW Tryz.results182 _ _ gr (hdv S.Hd.none) rfl (HDA.out.loadVar (S.zeros_length _))) rfl ⟨?_, BF.out⟩
       have e3 : S.sight f c k s = 0 := by rw [ES3.out, if_neg HQ.out]
       have e4 : S.gF f c k s = S.Hd.none := by unfold S.gF; rw [if_neg (by rw [e3]; decide)]
       rw [e4, e3]
       rfl
 ·rw [decide_eq_false ht]
  have HT := hide ht
  clear ht
  have hbd := iI wt
  obtain ⟨wa, hst, hda, ca⟩ := dC (h := S.Hd.none) HI2.out.res (S.zeros_length _) (S.zeros_length _)
  obtain ⟨HV0, jG⟩ : ∃ X, X = hdv S.Hd.none := ⟨_, rfl⟩
  rw [<- jG] at hst hbd
  have HDA := hide hda
  have BF : Hid (Below w.heap.size w wa) := BC2.out.trans (ca.base BC2.out.size (by have := HGA.out; omega))
  clear hda ca jG
  go_wp2_with (first | (with_reducible refine au ⟨some 36, .build 186 #[], 186, "head.go:68", #[], none⟩ ?_; refine aG rfl 186 [] rfl [] rfl HV0 hbd ?_) | (with_reducible refine au ⟨none, .store 186 (.tmp 4) (.tmp 36), 0, "head.go:68", #[{ on := 0, ground := Ground.data }, { on := 0, ground := Ground.phase }], none⟩ ?_; refine ai rfl 186 (.tmp 4) (.tmp 36) rfl (.pointer (some ⟨gr, 0, none⟩)) HV0 rfl rfl wa hst ?_))
  refine bodyPost_ret (aW Tryz.results182 _ _ gr (hdv S.Hd.none) rfl (HDA.out.loadVar (S.zeros_length _))) rfl ⟨?_, BF.out⟩
  have e3 : S.sight f c k s = 0 := by rw [ESI.out, if_neg (fun e => HT.out e.1)]
  have e4 : S.gF f c k s = S.Hd.none := by unfold S.gF; rw [if_neg (by rw [e3]; decide)]
  rw [e4, e3]
  rfl
end Go.Proofs.YteealihknndclabGreatDoor
