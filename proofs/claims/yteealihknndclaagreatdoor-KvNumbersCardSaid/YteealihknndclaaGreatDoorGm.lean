/- A head's sector with a mark at both ends; a blank one; the place beside a place. -/
/- A head of a log in memory: how it is made, stored and loaded; results that lie in memory beside others; a disk with the table of the hashes. -/
import Derived.Test.YteealihknndclaaGreatDoorBy
namespace Go.Proofs.YteealihknndclaaGreatDoor
open Go.RowKit

namespace S
theorem vS (T x : List UInt8) (m : UInt8) (hT : T.length = 8) (hx : x.length <= 118) : ((splice (splice (zeros 128) 0 T) 9 x).set 8 m).set 127 m = T ++ (m :: (x ++ (zeros (118 - x.length) ++ [m]))) := by
 rw [eU, hT]
 have e1 : (T ++ zeros (128 - 8)).take 9 = T ++ [0] := by
  rw [List.take_append, List.take_of_length_le (by omega), hT]
  rfl
 have e2 : (T ++ zeros (128 - 8)).drop (9 + x.length) = zeros (118 - x.length) ++ [0] := by
  rw [List.drop_append, List.drop_eq_nil_of_le (by omega), hT, List.nil_append]
  have : zeros (118 - x.length) ++ [(0 : UInt8)] = zeros (118 - x.length + 1) := by simp [zeros, List.replicate_succ']
  rw [this]
  unfold zeros
  rw [List.drop_replicate, show 128 - 8 - (9 + x.length - 8) = 118 - x.length + 1 from by omega]
 unfold splice
 rw [e1, e2]
 have e3 : (T ++ [0] ++ (x ++ (zeros (118 - x.length) ++ [0]))).set 8 m = T ++ (m :: (x ++ (zeros (118 - x.length) ++ [0]))) := by
  rw [List.append_assoc, List.set_append_right _ _ (by omega), hT]
  rfl
 have e4 : T ++ (m :: (x ++ (zeros (118 - x.length) ++ [0]))) = (T ++ (m :: (x ++ zeros (118 - x.length)))) ++ [(0 : UInt8)] := by simp
 have hl : (T ++ (m :: (x ++ zeros (118 - x.length)))).length = 127 := by simp [zeros_length]; omega
 rw [e3, e4, List.set_append_right _ _ (by omega), hl]
 simp
end S
theorem vw {w2 : World} {g n : Nat} {Y bs : List UInt8} {t : TypeId} (h : Hid (w2.heap[g]? = some (.cells (splice (S.v8l Y) n (S.v8l bs)).toArray t (0, 0)))) : w2.heap[g]? = some (.cells (S.v8 (splice Y n bs)) t (0, 0)) := by
 have := h.out
 rw [S.mg] at this
 exact this
set_option maxHeartbeats 1600000 in
set_option maxRecDepth 10000 in
theorem qO (p : Value) (f c k : Nat) (m : UInt8) (ao : Option Addr) (n cap : Nat) (x : List UInt8) (w : World) (hf : f <= 100000) (hc : c <= 100000) (hk : k <= 100000) (hx : x.length <= 118) (hv : SliceAt w (.slice ao n cap) x) :
  Calls Tryz.prog 209 #[arv p f c, .int .i64 (k : Int), .int .u8 (m.toNat : Int), .slice ao n cap] w fun e w' => ∃ g, e = .returned (.slice (some ⟨g, 0, none⟩) 128 128) /\ w.heap.size <= g /\ w'.heap[g]? = some (.cells (S.v8 (S.marked f c k m x)) 5 (0, 0)) /\ Below w.heap.size w w' := by
 obtain ⟨ax, ln, cx, hsh, hln, hmx, hsrc⟩ := hv.shape
 simp only [Value.slice.injEq] at hsh
 obtain ⟨rfl, rfl, rfl⟩ := hsh
 obtain ⟨w0, hw0, HA, HB, HZ⟩ := lu w p f c
 have hmk : ∀ w : World, (Instr.makeSlice 32 (.int .i64 128) (.int .i64 128)).run Tryz.prog w = .ok (.slice (some ⟨w.heap.size, 0, none⟩) 128 128) (w.alloc (.cells (S.v8 (S.zeros 128)) 5)) := fun w => dw 128 (by omega) w
 obtain ⟨w1, hw1⟩ : ∃ w1, w1 = w0.alloc (.cells (S.v8 (S.zeros 128)) 5) := ⟨_, rfl⟩
 have b1 : Below w0.heap.size w0 w1 := by rw [hw1]; exact ba ..
 have HB1 : Hid (Below w.heap.size w w1) := HB.out.trans (b1.mono (by have := HZ.out; omega))
 have R1 : Hid (w1.heap[w0.heap.size]? = some (.cells (S.v8 (S.zeros 128)) 5 (0, 0))) := by rw [hw1]; exact heap_alloc_new _ _
 have Z1 : Hid (w1.heap.size = w0.heap.size + 1) := by show w1.heap.size = _; rw [hw1]; simp
 obtain ⟨a0, a1, a2⟩ := (HA.out.below b1 (by have := HZ.out; omega)).cells
 have HS : Hid (Src w ao x) := hsrc
 have HLN := hide hln
 obtain ⟨gb, hgb⟩ : ∃ gb, gb = w.heap.size + 1 := ⟨_, rfl⟩
 rw [HZ.out, <- hgb] at R1 Z1
 have HGB : Hid (gb = w.heap.size + 1) := hgb
 rw [hw1] at a0 a1 a2
 rw [hw0] at a0 a1 a2 hw1
 unfold arv
 clear hv hsrc hln b1
 go_enter Tryz.func209, Tryz.ntmps209
 go_wp2_with fail
 rw [<- hw1, <- hgb]
 clear hw1 hgb a0 a1 a2 hmk hw0
 refine (qb p f c k w1 hf hc hk).mono ?_
 rintro e w2 ⟨gt, rfl, g2, r2, b2⟩
 have tl := S.bq f c k
 have R2 : Hid (w2.heap[gb]? = some (.cells (S.v8l (S.zeros 128)).toArray 5 (0, 0))) := (b2.block gb (by have := Z1.out; omega)).trans R1.out
 have HB2 : Hid (Below w.heap.size w w2) := HB1.out.trans (b2.mono HB1.out.size)
 have HST : Hid (Src w2 (some ⟨gt, 0, none⟩) (S.tag f c k)) := fun _ => ⟨gt, 0, rfl, ae r2, fun j hj => by rw [Nat.zero_add]; exact dE r2 j hj⟩
 obtain ⟨T, hT⟩ : ∃ T, T = S.tag f c k := ⟨_, rfl⟩
 rw [<- hT] at HST tl
 have HT : Hid (T = S.tag f c k) := hT
 have HTL := hide tl
 have HN1 : Hid ((S.v8l T).length = Nat.min 8 128) := by show (S.v8l T).length = Nat.min 8 128; rw [S.ai, tl]; rfl
 have HF1 : Hid (0 + (S.v8l T).length <= (S.v8l (S.zeros 128)).length) := by show 0 + (S.v8l T).length <= (S.v8l (S.zeros 128)).length; rw [S.ai, S.ai, S.zeros_length, tl]; omega
 have LG : Hid (w.heap.size <= gb) := by show w.heap.size <= gb; have := HGB.out; omega
 clear g2 r2 b2 hT R1 tl
 go_wp2_with (first | (
   refine wpList_copy_splice rfl (.tmp 11) (.tmp 14) 32 32 rfl 5 Tryz.underlying32 lX _ _ _ _ _ _ rfl rfl gb 0 (S.v8l (S.zeros 128)) 5 R2.out (S.v8l T) HN1.out (gB gb HST.out (Below.refl _ _)) HF1.out (S.dR _) w.heap.size w HB2.out LG.out ?_
   intro w3 HG2 hB2
   have HG3 := hide (jR HG2)
   clear HG2
   have B3 := hide hB2
   clear hB2
   have hs3 : Src w3 ao x := HS.out.below B3.out
   have HS3 := hide hs3
   have R3 : Hid (w3.heap[gb]? = some (.cells (S.v8l (splice (S.zeros 128) 0 T)).toArray 5 (0, 0))) := HG3.out
   obtain ⟨Y, hY⟩ : ∃ Y, Y = splice (S.zeros 128) 0 T := ⟨_, rfl⟩
   have hYl : Y.length = 128 := by rw [hY, eU, List.length_append, S.zeros_length, HTL.out]
   rw [<- hY] at R3
   have HY : Hid (Y = splice (S.zeros 128) 0 T) := hY
   have HN2 : Hid ((S.v8l x).length = Nat.min n 118) := by show (S.v8l x).length = min n 118; rw [S.ai]; have := HLN.out; omega
   have HF2 : Hid (9 + (S.v8l x).length <= (S.v8l Y).length) := by show 9 + (S.v8l x).length <= (S.v8l Y).length; rw [S.ai, S.ai, hYl]; omega
   have HCP : Hid (0 < (S.v8l x).length -> some (⟨gb, 9, none⟩ : Addr) = some ⟨gb, 9, none⟩ /\ ∃ ad, ao = some ad /\ ∀ j v, (S.v8l x)[j]? = some v -> w3.cell? (ad.add j) = some v) := fun hp => ⟨rfl, (gB gb HS3.out (Below.refl _ _) hp).2⟩
   have HYL := hide hYl
   clear hs3 hY HG3 hYl R2 HST HN1 HF1) | (
   refine wpList_copy_splice rfl (.tmp 17) (.tmp 18) 32 32 rfl 5 Tryz.underlying32 lX _ _ _ _ _ _ rfl rfl gb 9 (S.v8l Y) 5 R3.out (S.v8l x) HN2.out HCP.out HF2.out (S.dR _) w.heap.size w B3.out LG.out ?_
   intro w4 HG4 hB4
   have HG5 := hide (vw HG4)
   clear HG4
   have B4 := hide hB4
   clear hB4
   obtain ⟨X, hX⟩ : ∃ X, X = splice Y 9 x := ⟨_, rfl⟩
   rw [<- hX] at HG5
   have hXl : X.length = 128 := by rw [hX, splice, List.length_append, List.length_append, List.length_take, List.length_drop, HYL.out]; omega
   have c8 := dE HG5.out 8 (by omega)
   have f8 := frozen_of_row _ _ 8 _ _ HG5.out
   have s8 := jD HG5.out 8 m
   have c127 := dE s8 127 (by rw [List.length_set]; omega)
   have f127 := frozen_of_row _ _ 127 _ _ s8
   have S127 := hide (jD s8 127 m)
   have B6 := hide ((B4.out.setCell (p := ⟨gb, 8, none⟩) LG.out (.int .u8 (m.toNat : Int))).setCell (p := ⟨gb, 127, none⟩) LG.out (.int .u8 (m.toNat : Int)))
   have HX : Hid ((X.set 8 m).set 127 m = S.marked f c k m x) := by
    show (X.set 8 m).set 127 m = S.marked f c k m x
    rw [hX, HY.out, S.marked, <- HT.out]
    exact S.vS T x m HTL.out hx
   clear s8 hX hXl HG5 R3 HYL HF2 HN2 HCP))
 go_ret
 refine ⟨gb, rfl, LG.out, ?_, B6.out⟩
 rw [<- HX.out]
 exact S127.out
theorem oI (p : Value) (f c k : Nat) (w : World) (hf : f <= 100000) (hc : c <= 100000) (hk : k <= 100000) :
  Calls Tryz.prog 182 #[arv p f c, .int .i64 (k : Int)] w fun e w' => ∃ g, e = .returned (.slice (some ⟨g, 0, none⟩) 128 128) /\ w.heap.size <= g /\ w'.heap[g]? = some (.cells (S.v8 (S.blank f c k)) 5 (0, 0)) /\ Below w.heap.size w w' := by
 obtain ⟨w0, hw0, HA, HB, HZ⟩ := lu w p f c
 obtain ⟨a0, a1, a2⟩ := oJ w p f c
 unfold arv
 go_enter Tryz.func182, Tryz.ntmps182
 go_wp2_with fail
 rw [<- hw0]
 clear hw0 a0 a1 a2
 refine (qO p f c k 15 none 0 0 [] w0 hf hc hk (by simp) (Or.inl ⟨rfl, rfl⟩)).mono ?_
 rintro e w1 ⟨g, rfl, g1, r1, b1⟩
 have R1 : Hid (w1.heap[g]? = some (.cells (S.v8 (S.blank f c k)) 5 (0, 0))) := r1
 have B1 : Hid (Below w.heap.size w w1) := HB.out.trans (b1.mono (by have := HZ.out; omega))
 have G1 : Hid (w.heap.size <= g) := by show _ <= g; have := HZ.out; omega
 clear g1 r1 b1
 go_wp2_with fail
 go_ret
 exact ⟨g, rfl, G1.out, R1.out, B1.out⟩
theorem om (k : Nat) (w : World) (hk : k <= 1) :
  Calls Tryz.prog 204 #[.int .i64 (k : Int)] w fun e w' => e = .returned (.int .i64 ((1 - k : Nat) : Int)) /\ w = w' := by
 have q1 : (k : Int) <= 1 := by omega
 have q2 : (0 : Int) <= (k : Int) := by omega
 have E : Hid ((1 : Int) - (k : Int) = ((1 - k : Nat) : Int)) := by show _ = _; omega
 go_enter Tryz.func204, Tryz.ntmps204
 go_wp2_with fail
 go_ret
 exact ⟨by rw [<- E.out]; rfl, rfl⟩
theorem Bq (x : UInt8) (n : Nat) (hn : n < 256) : decide ((x.toNat : Int) = (n : Int)) = (x == UInt8.ofNat n) := by
 rw [Bool.eq_iff_iff]
 simp only [decide_eq_true_eq, beq_iff_eq]
 constructor
 ·intro h
  apply UInt8.toNat_inj.1
  rw [UInt8.toNat_ofNat']
  omega
 ·rintro rfl
  rw [UInt8.toNat_ofNat']
  omega
theorem qV (x : UInt8) (w : World) :
  Calls Tryz.prog 212 #[.int .u8 (x.toNat : Int)] w fun e w' => e = .returned (.bool (S.fO x)) /\ w = w' := by
 have e1 := Bq x 15 (by omega)
 have e2 := Bq x 240 (by omega)
 by_cases h1 : (x.toNat : Int) = 15
 ·have E : Hid (S.fO x = true) := by
   show S.fO x = true
   rw [S.fO, <- show decide ((x.toNat : Int) = (15 : Nat)) = (x == 15) from e1, decide_eq_true (by omega)]
   rfl
  clear e1 e2
  go_enter Tryz.func212, Tryz.ntmps212
  go_wp2_with fail
  go_ret
  exact ⟨by rw [E.out]; rfl, rfl⟩
 ·by_cases h2 : (x.toNat : Int) = 240
  ·have E : Hid (S.fO x = true) := by
    show S.fO x = true
    rw [S.fO, <- show decide ((x.toNat : Int) = (240 : Nat)) = (x == 240) from e2, decide_eq_true (by omega)]
    simp
   clear e1 e2
   go_enter Tryz.func212, Tryz.ntmps212
   go_wp2_with fail
   go_ret
   exact ⟨by rw [E.out]; rfl, rfl⟩
  ·have E : Hid (S.fO x = false) := by
    show S.fO x = false
    rw [S.fO, <- show decide ((x.toNat : Int) = (15 : Nat)) = (x == 15) from e1, <- show decide ((x.toNat : Int) = (240 : Nat)) = (x == 240) from e2, decide_eq_false (by omega), decide_eq_false (by omega)]
    rfl
   clear e1 e2
   go_enter Tryz.func212, Tryz.ntmps212
   go_wp2_with fail
   go_ret
   have z1 : ((x.toNat : Int) == 15) = false := by simpa using h1
   have z2 : ((x.toNat : Int) == 240) = false := by simpa using h2
   refine ⟨?_, rfl⟩
   rw [E.out, <- show ((x.toNat : Int) == 15 || (x.toNat : Int) == 240) = false from by rw [z1, z2]; rfl]
   rfl
end Go.Proofs.YteealihknndclaaGreatDoor
namespace Go.Proofs.YteealihknndclaaGreatDoor
open Go.RowKit

namespace S
def hc (h : Hd) : List Value := .int .u64 (h.turn : Int) :: .int .i64 (h.used : Int) :: v8l h.sl
theorem aH {h : Hd} (o : h.sl.length = 32) : (hc h).length = 34 := by simp [hc, ai, o]
theorem CJ (h : Hd) : (hc h).toArray.all (·.oneCell') = true := by
 refine all_oneCell_toArray fun v hv => ?_
 rcases List.mem_cons.1 hv with rfl | hv
 ·rfl
 ·rcases List.mem_cons.1 hv with rfl | hv
  ·rfl
  ·exact dR h.sl v hv
end S
def hdv (h : S.Hd) : Value := .agg (S.hc h).toArray
def cO (w : World) (b : Nat) (h : S.Hd) : Prop := w.heap[b]? = some (.cells (S.hc h).toArray 221 (0, 0))
theorem cO.below {w W : World} {b B : Nat} {h : S.Hd} (a : cO w b h) (hb : Below B w W) (hB : b < B) : cO W b h := (hb.block b hB).trans a
theorem cO.turn {w : World} {b : Nat} {h : S.Hd} (a : cO w b h) : w.cell? ⟨b, 0, none⟩ = some (.int .u64 (h.turn : Int)) := by rw [cell_of_row w b 0 _ _ _ a]; rfl
theorem cO.used {w : World} {b : Nat} {h : S.Hd} (a : cO w b h) : w.cell? ⟨b, 1, none⟩ = some (.int .i64 (h.used : Int)) := by rw [cell_of_row w b 1 _ _ _ a]; rfl
theorem nV : (Tryz.prog.info? 219).map (·.size) = some 32 := by kernel_rfl
theorem jw : (Tryz.prog.info? 221).map (·.size) = some 34 := by kernel_rfl
theorem cO.range {w : World} {b : Nat} {h : S.Hd} (a : cO w b h) : w.rangeAt b 2 (S.v8l h.sl) := fun j v hv => by
 rw [cell_of_row w b _ _ _ _ a, Nat.add_comm]
 simpa [S.hc] using hv
theorem cO.seal {w : World} {b : Nat} {h : S.Hd} (a : cO w b h) (hl : h.sl.length = 32) : (Instr.loadAt 219 (.pointer (some ⟨b, 2, none⟩))).run Tryz.prog w = .ok (.agg (S.v8 h.sl)) w := by
 have := run_loadAt_mid (P := Tryz.prog) w b 2 219 _ _ a.range Tryz.underlying219 rfl (by rw [nV, S.ai, hl])
 rwa [<- S.jN] at this
theorem cO.load {w : World} {b : Nat} {h : S.Hd} (a : cO w b h) (hl : h.sl.length = 32) : (Instr.loadAt 221 (.pointer (some ⟨b, 0, none⟩))).run Tryz.prog w = .ok (hdv h) w :=
 run_loadAt_mid (P := Tryz.prog) w b 0 221 _ _ (aY a) Tryz.underlying221 rfl (by rw [jw, S.aH hl])
theorem cO.loadVar {w : World} {b : Nat} {h : S.Hd} (a : cO w b h) (hl : h.sl.length = 32) : (loadVar 221 ⟨b, 0, none⟩).run Tryz.prog w = .ok (hdv h) w :=
 run_loadVar_mid (P := Tryz.prog) w b 0 221 _ _ (aY a) Tryz.underlying221 rfl (by rw [jw, S.aH hl])
theorem yX : (Tryz.prog.info? 221).map (fun i => (i.size, i.bytes)) = some (34, 48) := by kernel_rfl
theorem yw : (Tryz.prog.info? 221).bind (·.zero) = some (.agg (S.hc S.Hd.none).toArray) := by kernel_rfl
theorem jd (w : World) : (Instr.alloc 221 true (.tuple #[])).run Tryz.prog w = .ok (.pointer (some ⟨w.heap.size, 0, none⟩)) (w.alloc (.cells (S.hc S.Hd.none).toArray 221)) := by
 obtain ⟨i, hi, hz, _, _⟩ := dW yX yw
 simp [Instr.alloc, zeroValue, typeInfo, hi, hz, newVar, newRow, Value.cells]
set_option maxRecDepth 100000 in
theorem uU (parts : List (Nat × Value)) : Tryz.prog.built 221 parts = Instr.fill ((#[(0, 1), (1, 1), (2, 32)] : Array (Nat × Nat))[·]?) (S.hc S.Hd.none).toArray parts := by
 obtain ⟨i, hi, hz, _, _⟩ := dW yX yw
 unfold Program.built
 rw [hi, Tryz.underlying221]
 simp only [hz]
 rfl
theorem iQ (w : World) : (Instr.build 221 #[]).run Tryz.prog w = .ok (hdv S.Hd.none) w :=
 run_build w 221 _ _ (by rw [uU]; rfl)
theorem Du (t : Nat) (w : World) : (Instr.build 221 #[(0, .int .u64 (t : Int))]).run Tryz.prog w = .ok (hdv ⟨t, 0, S.zeros 32⟩) w :=
 run_build w 221 _ _ (by
  rw [uU]
  unfold Instr.fill
  simp only [show (#[(0, 1), (1, 1), (2, 32)] : Array (Nat × Nat))[0]? = some (0, 1) from rfl]
  rw [if_neg (by simp [Value.cells, S.hc])]
  unfold Instr.fill
  rfl)
theorem ng (pre old post : List Value) (v : Array Value) (off : Nat) (ho : off = pre.length) (h : old.length = v.size) : v.zipIdx.foldl (fun cs (x : Value × Nat) => cs.setIfInBounds (off + x.2) x.1) (pre ++ (old ++ post)).toArray = (pre ++ (v.toList ++ post)).toArray := by
 subst ho
 apply Array.ext_getElem?
 intro k
 rw [xG]
 simp only [List.size_toArray, List.length_append, List.getElem?_toArray]
 by_cases h1 : pre.length <= k
 ·by_cases h2 : k < pre.length + v.size
  ·rw [if_pos ⟨h1, h2, by omega⟩, List.getElem?_append_right h1, List.getElem?_append_left (by simp; omega)]
   simp
  ·rw [if_neg (by omega), List.getElem?_append_right h1, List.getElem?_append_right (by omega), List.getElem?_append_right h1, List.getElem?_append_right (by simp; omega), h]
   simp
 ·rw [if_neg (by omega), List.getElem?_append_left (by omega), List.getElem?_append_left (by omega)]
set_option maxRecDepth 100000 in
theorem build73 (h : S.Hd) (hl : h.sl.length = 32) (w : World) : (Instr.build 221 #[(0, .int .u64 (h.turn : Int)), (1, .int .i64 (h.used : Int)), (2, .agg (S.v8 h.sl))]).run Tryz.prog w = .ok (hdv h) w :=
 run_build w 221 _ _ (by
  have hz : (S.hc S.Hd.none).length = 34 := S.aH (S.zeros_length _)
  rw [uU]
  unfold Instr.fill
  simp only [show (#[(0, 1), (1, 1), (2, 32)] : Array (Nat × Nat))[0]? = some (0, 1) from rfl]
  rw [if_neg (by simp [Value.cells, hz])]
  unfold Instr.fill
  simp only [show (#[(0, 1), (1, 1), (2, 32)] : Array (Nat × Nat))[1]? = some (1, 1) from rfl]
  rw [if_neg (by simp [Value.cells, hz])]
  unfold Instr.fill
  simp only [show (#[(0, 1), (1, 1), (2, 32)] : Array (Nat × Nat))[2]? = some (2, 32) from rfl]
  rw [if_neg (by simp [Value.cells, hz, S.bn, hl])]
  unfold Instr.fill
  congr 1
  have c2 : (Value.agg (S.v8 h.sl)).cells = S.v8 h.sl := rfl
  rw [c2]
  have e := ng [.int .u64 (h.turn : Int), .int .i64 (h.used : Int)] (S.v8l (S.zeros 32)) [] (S.v8 h.sl) 2 rfl (by rw [S.ai, S.bn, S.zeros_length, hl])
  simp only [List.append_nil] at e
  rw [S.jN] at e ⊢
  exact e)
theorem dI {w : World} {g : Nat} {h0 h : S.Hd} (a : cO w g h0) (l0 : h0.sl.length = 32) (l : h.sl.length = 32) :
  ∃ w', (Instr.storeAt 221 (.pointer (some ⟨g, 0, none⟩)) (hdv h)).run Tryz.prog w = .ok () w' /\ cO w' g h /\ Chg (fun k => k = g) w w' := by
 have hr := run_storeVar_row (P := Tryz.prog) w g 221 221 _ (S.hc h).toArray a (by rw [jw, List.size_toArray, S.aH l]) (by rw [List.size_toArray, List.size_toArray, S.aH l0, S.aH l]) (S.CJ _)
 refine ⟨w.setRow g (S.hc h).toArray, ?_, setRow_heap w g _ _ _ _ a, Chg.setRow (p := fun k => k = g) g _ rfl⟩
 unfold hdv
 simp only [Instr.storeAt, Instr.sureAddr, Sem.run_bind, Sem.run_pure, Result.andThen_ok, hr]
theorem store71 {w : World} {g : Nat} {h : S.Hd} {sl : List UInt8} (a : cO w g h) (l0 : h.sl.length = 32) (l : sl.length = 32) :
  ∃ w', (Instr.storeAt 219 (.pointer (some ⟨g, 2, none⟩)) (.agg (S.v8 sl))).run Tryz.prog w = .ok () w' /\ cO w' g { h with sl := sl } /\ Chg (fun k => k = g) w w' := by
 have hth : w.there g 2 (S.v8 sl).size := fun j hj => by
  rw [S.bn] at hj
  refine ⟨?_, frozen_of_row _ _ _ _ _ a⟩
  rw [cell_of_row w g _ _ _ _ a, Array.getElem?_eq_getElem (by rw [List.size_toArray, S.aH l0]; omega)]
  rfl
 have hr := run_storeAt_mid (P := Tryz.prog) w g 2 219 (S.v8 sl) hth (by rw [nV, S.bn, l]) (by rw [S.jN]; exact qo _)
 have he : (S.v8 sl).toList = S.v8l sl := by rw [S.jN]
 rw [he] at hr
 refine ⟨_, hr, ?_, Chg.setCells (p := fun k => k = g) g (fun _ => rfl) _ _ (Chg.refl _ _)⟩
 obtain ⟨c, h3, h4⟩ := iY (w := w) (S.v8l sl) 2 a
 rw [S.bn] at hth
 have r1 := World.rangeAt_setCells_same w g 2 (S.v8l sl) (by rw [S.ai]; exact hth)
 have r0 := World.rangeAt_setCells_apart (cs := [.int .u64 (h.turn : Int), .int .i64 (h.used : Int)]) (b' := g) (o' := 0) (fun j v hv => by
  rcases j with _ | _ | j
  ·rw [<- hv]; exact a.turn
  ·rw [<- hv]; exact a.used
  ·simp at hv) g 2 (S.v8l sl) (Or.inr (Or.inl (by simp)))
 show (w.setCells g 2 (S.v8l sl)).heap[g]? = _
 rw [h3]
 have hsz : c.size = 34 := by rw [h4, List.size_toArray, S.aH l0]
 have e : c = (S.hc { h with sl := sl }).toArray := by
  apply Array.ext'
  apply List.ext_getElem?
  intro j
  have hc : ∀ k, (w.setCells g 2 (S.v8l sl)).cell? ⟨g, k, none⟩ = c.toList[k]? := fun k => by rw [cell_of_row _ g k _ _ _ h3]; simp
  rw [<- hc]
  rcases j with _ | _ | j
  ·exact r0 0 _ rfl
  ·exact r0 1 _ rfl
  ·by_cases hj : j < 32
   ·have := tV sl j (by omega)
    show _ = (S.hc { h with sl := sl })[j + 1 + 1]?
    rw [S.hc, List.getElem?_cons_succ, List.getElem?_cons_succ, this]
    rw [show j + 1 + 1 = 2 + j from by omega]
    exact r1 j _ this
   ·rw [hc, List.getElem?_eq_none (by simp; omega), List.getElem?_eq_none (by simp [S.aH (h := { h with sl := sl }) l]; omega)]
 rw [e]
theorem cO.setUsed {w : World} {g : Nat} {h : S.Hd} (a : cO w g h) (u : Nat) : cO (w.setCell ⟨g, 1, none⟩ (.int .i64 (u : Int))) g { h with used := u } := by
 unfold cO
 rw [heap_setCell_same w g 1 _ _ _ a]
 congr 2
theorem bM {fn : Func} {p u : Tmp} {ty : TypeId} (h : fn.results = #[.cell p ty, .tmp u]) (tmps : Array Value) (w : World) (g : Nat) (v : Value)
  (hp : tmps.getD p undef = .pointer (some ⟨g, 0, none⟩)) (hl : (loadVar ty ⟨g, 0, none⟩).run Tryz.prog w = .ok v w) :
  (results fn tmps).run Tryz.prog w = .ok (.tuple #[v, tmps.getD u undef]) w := by
 have hp' : tmps[p]?.getD undef = .pointer (some ⟨g, 0, none⟩) := by simpa using hp
 simp [results, h, hp', asAddr, hl]
theorem iD {fn : Func} {p u v : Tmp} {ty : TypeId} (h : fn.results = #[.cell p ty, .tmp u, .tmp v]) (tmps : Array Value) (w : World) (g : Nat) (x : Value)
  (hp : tmps.getD p undef = .pointer (some ⟨g, 0, none⟩)) (hl : (loadVar ty ⟨g, 0, none⟩).run Tryz.prog w = .ok x w) :
  (results fn tmps).run Tryz.prog w = .ok (.tuple #[x, tmps.getD u undef, tmps.getD v undef]) w := by
 have hp' : tmps[p]?.getD undef = .pointer (some ⟨g, 0, none⟩) := by simpa using hp
 simp [results, h, hp', asAddr, hl]
theorem fK {fn : Func} {p : Tmp} {ty : TypeId} (h : fn.results = #[.cell p ty]) (tmps : Array Value) (w : World) (g : Nat) (x : Value)
  (hp : tmps.getD p undef = .pointer (some ⟨g, 0, none⟩)) (hl : (loadVar ty ⟨g, 0, none⟩).run Tryz.prog w = .ok x w) :
  (results fn tmps).run Tryz.prog w = .ok x w := by
 have hp' : tmps[p]?.getD undef = .pointer (some ⟨g, 0, none⟩) := by simpa using hp
 simp [results, h, hp', asAddr, hl]
theorem aD {w : World} {ops : Array Oper} {rest : List Oper} {a : Act} {Q : Exit -> Act -> World -> Prop} (o : Oper) (h : wpList Tryz.prog ops Q (o :: rest) a w) : wpList Tryz.prog ops Q (o :: rest) a w := h
theorem aW {w : World} {ops : Array Oper} {rest : List Oper} {o : Oper} {a : Act} {Q : Exit -> Act -> World -> Prop} (hgd : o.guard = none) (t : TypeId) (parts : List (Nat × Operand)) (ho : o.op = .build t parts.toArray) (vals : List (Nat × Value)) (hv : (parts.map fun p => (p.1, a.eval p.2)) = vals) (v : Value)
  (hr : (Instr.build t vals.toArray).run Tryz.prog w = .ok v w) (h : wpList Tryz.prog ops Q rest (a.put o.dst v) w) : wpList Tryz.prog ops Q (o :: rest) a w := by
 subst hv
 exact jh hgd t parts ho v hr h
theorem aB {w : World} {ops : Array Oper} {rest : List Oper} {o : Oper} {a : Act} {Q : Exit -> Act -> World -> Prop} (hgd : o.guard = none) (t : TypeId) (x y : Operand) (ho : o.op = .store t x y) (vx vy : Value) (hx : a.eval x = vx) (hy : a.eval y = vy) (w' : World)
  (hr : (Instr.storeAt t vx vy).run Tryz.prog w = .ok () w') (h : wpList Tryz.prog ops Q rest (a.put o.dst undef) w') : wpList Tryz.prog ops Q (o :: rest) a w := by
 subst hx hy
 exact gG hgd t x y ho w' hr h
theorem aC {w : World} {ops : Array Oper} {rest : List Oper} {o : Oper} {a : Act} {Q : Exit -> Act -> World -> Prop} (hgd : o.guard = none) (t : TypeId) (x : Operand) (ho : o.op = .load t x) (vx : Value) (hx : a.eval x = vx) (v : Value)
  (hr : (Instr.loadAt t vx).run Tryz.prog w = .ok v w) (h : wpList Tryz.prog ops Q rest (a.put o.dst v) w) : wpList Tryz.prog ops Q (o :: rest) a w := by
 subst hx
 exact gX hgd t x ho v hr h
structure Dsk (w : World) (o : Ow) (d : S.Dk) : Prop where
 dk : bB w o d
 k : KAt w
 no : ¬ o.has 1
theorem Dsk.below {w W : World} {o : Ow} {d : S.Dk} (h : Dsk w o d) (hb : Below w.heap.size w W) : Dsk W o d := ⟨h.dk.below hb, h.k.below hb h.k.pos, h.no⟩
theorem KAt.chg {p : Nat -> Prop} {w W : World} (h : KAt w) (hc : Chg p w W) (hp : ¬ p 1) : KAt W := fun j hj => by
 rw [<- h j hj]
 exact World.cell?_of_block (hc.block 1 h.pos hp)
theorem Dsk.to {w W : World} {o o' : Ow} {d d' : S.Dk} (h : Dsk w o d) (h1 : bB W o' d') (h2 : fE o w o' W) : Dsk W o' d' :=
 ⟨h1, h.k.chg h2.chg h.no, fun e => by rcases h2.own 1 e with e | e; exact h.no e; have := h.k.pos; omega⟩
theorem Bt (w : World) (u v : Value) (xs ys : List UInt8) (h1 : SliceAt w u xs) (h2 : SliceAt w v ys) : oM (w.alloc (.cells #[u, v] 32)) w.heap.size [xs, ys] := by
 have hb : Below w.heap.size w (w.alloc (.cells #[u, v] 32)) := ba ..
 refine ⟨by simp, fun j hj => ?_⟩
 have hc := heap_alloc_new w (.cells #[u, v] 32)
 rcases j with _ | _ | j
 ·exact ⟨u, by rw [cell_of_row _ _ 0 _ _ _ hc]; rfl, h1.below hb (lr _)⟩
 ·exact ⟨v, by rw [cell_of_row _ _ 1 _ _ _ hc]; rfl, h2.below hb (lr _)⟩
 ·have : j + 1 + 1 < 2 := hj
  omega
theorem iH.below {w W : World} {g : Nat} {v : Value} {bs : List UInt8} (h : iH w g v bs) (hb : Below w.heap.size w W) : iH W g v bs := h.chg (p := fun _ => False) (Chg.ofBelow' hb) (fun e => e) (fun _ _ e => e)
theorem aG {w : World} {g n : Nat} {xs : List UInt8} (h : w.heap[g]? = some (.cells (S.v8 xs) 5 (0, 0))) (hn : n = xs.length) (hl : xs.length <= 140737488355328) : SliceAt w (.slice (some ⟨g, 0, none⟩) n n) xs := by
 subst hn
 exact (sM (p := fun _ => False) h (fun e => e) hl).now
theorem BU {w : World} {g n : Nat} {xs : List UInt8} (h : Room w g n xs) (hn : n = xs.length) : w.heap[g]? = some (.cells (S.v8 xs) 5 (0, 0)) := by
 obtain ⟨cur, h1, h2, h3, h4⟩ := h
 rw [h1]
 have e : cur = S.v8 xs := by
  apply Array.ext'
  rw [S.jN]
  rw [List.take_of_length_le (by rw [Array.length_toList]; omega)] at h4
  exact h4
 rw [e]
theorem ui : S.size 8 = 8 := by decide
set_option maxHeartbeats 1600000 in
set_option maxRecDepth 10000 in
theorem jm (p : Value) (f c k : Nat) (h : S.Hd) (w : World) (hf : f <= 100000) (hc : c <= 100000) (hk : k <= 100000) (ho : h.Ok) (hK : KAt w) :
  Calls Tryz.prog 183 #[arv p f c, .int .i64 (k : Int), hdv h] w fun e w' => ∃ g, e = .returned (.slice (some ⟨g, 0, none⟩) 128 128) /\ w.heap.size <= g /\ w'.heap[g]? = some (.cells (S.v8 (S.aF f c k h)) 5 (0, 0)) /\ Below w.heap.size w w' := by
 have q0 := ho.turn
 have q1 := wrap64 h.used (by have := ho.used; omega)
 have HO := hide ho
 obtain ⟨C, hC⟩ : ∃ C, C = (S.hc h).toArray := ⟨_, rfl⟩
 obtain ⟨w0, hw0⟩ : ∃ w0, w0 = (w.alloc (.cells #[p, .int .i64 (f : Int), .int .i64 (c : Int)] 217)).alloc (.cells C 221) := ⟨_, rfl⟩
 have HZ : Hid (w0.heap.size = w.heap.size + 2) := by show w0.heap.size = _; rw [hw0]; simp
 have HB : Hid (Below w.heap.size w w0) := by rw [hw0]; exact (ba ..).alloc (by simp) _
 have HA : Hid (fH w0 w.heap.size p f c) := by
  show w0.heap[w.heap.size]? = _
  rw [hw0, heap_alloc_old _ _ (by simp)]
  exact heap_alloc_new _ _
 have HH : Hid (cO w0 (w.heap.size + 1) h) := by
  show w0.heap[w.heap.size + 1]? = _
  rw [hw0, <- hC, show w.heap.size + 1 = (w.alloc (.cells #[p, .int .i64 (f : Int), .int .i64 (c : Int)] 217)).heap.size from by simp]
  exact heap_alloc_new _ _
 have HK0 : Hid (KAt w0) := hK.below HB.out hK.pos
 unfold arv hdv
 rw [<- hC]
 clear hC ho hK
 obtain ⟨ga, hga⟩ : ∃ ga, ga = w.heap.size := ⟨_, rfl⟩
 obtain ⟨gh, hgh⟩ : ∃ gh, gh = w.heap.size + 1 := ⟨_, rfl⟩
 rw [<- hgh] at HH
 rw [<- hga] at HA
 have HGA : Hid (ga = w.heap.size /\ gh = w.heap.size + 1) := ⟨hga, hgh⟩
 obtain ⟨T, hT⟩ : ∃ T, T = h.turn := ⟨_, rfl⟩
 obtain ⟨U, hU⟩ : ∃ U, U = h.used := ⟨_, rfl⟩
 rw [<- hT] at q0
 rw [<- hU] at q1
 have HTU : Hid (T = h.turn /\ U = h.used) := ⟨hT, hU⟩
 clear hT hU
 go_enter Tryz.func183, Tryz.ntmps183
 go_wp2_with fail
 rw [<- hw0, <- hgh, <- hga]
 clear hw0 hga hgh
 refine (jF w0).mono ?_
 rintro e w1 ⟨rfl, h1, h2⟩
 have W1 := hide h1
 have B1 : Hid (Below w0.heap.size w0 w1) := h2
 have S1 : Hid (w0.heap.size <= w1.heap.size) := h2.size
 have H1 := HH.out.below h2 (ae HH.out)
 have hu1 := H1.used
 have ht1 := H1.turn
 rw [<- HTU.out.2] at hu1
 rw [<- HTU.out.1] at ht1
 obtain ⟨gw, hgw⟩ : ∃ gw, gw = w0.heap.size := ⟨_, rfl⟩
 rw [<- hgw]
 have HG : Hid (gw = w0.heap.size) := hgw
 clear h1 h2 hgw H1
 go_wp2_with fail
 refine (gL T gw _ w1 rfl rfl (HG.out ▸ W1.out) (by decide)).mono ?_
 rintro e w2 ⟨rfl, v2, h3, h4⟩
 have W2 := hide h3
 have hb2 := h4.base S1.out (Nat.le_of_eq HG.out.symm) (qL _)
 have N2 := hide hb2.2
 have B2 := hide (B1.out.trans hb2.1)
 have S2 : Hid (w0.heap.size <= w2.heap.size) := ltr S1.out hb2.1.size
 have hu2 := (HH.out.below B2.out (ae HH.out)).used
 rw [<- HTU.out.2] at hu2
 clear h3 h4 hb2 hu1 ht1
 go_wp2_with fail
 refine (gL U gw _ w2 rfl rfl W2.out (by simp [S.aK, ui])).mono ?_
 rintro e w3 ⟨rfl, v3, h3, h4⟩
 have W3 := hide h3
 have hb3 := h4.base S2.out (Nat.le_of_eq HG.out.symm) N2.out
 have N3 := hide hb3.2
 have B3 := hide (B2.out.trans hb3.1)
 have S3 : Hid (w0.heap.size <= w3.heap.size) := ltr S2.out hb3.1.size
 have hld := (HH.out.below B3.out (ae HH.out)).seal HO.out.sl
 clear h3 h4 hb3 hu2
 obtain ⟨SL, hSL⟩ : ∃ SL, SL = h.sl := ⟨_, rfl⟩
 rw [<- hSL] at hld
 have HSL : Hid (SL = h.sl) := hSL
 have hsl : SL.length = 32 := by rw [hSL]; exact HO.out.sl
 clear hSL
 go_wp2_with (refine aC rfl 219 (.tmp 19) rfl (.pointer (some ⟨gh, 2, none⟩)) rfl (.agg (S.v8 SL)) hld ?_)
 refine (oP gw v3 _ SL w3 hsl W3.out (by simp [S.aK, ui, nS])).mono ?_
 rintro e w4 ⟨rfl, v4, h3, h4⟩
 have hht : ([] ++ S.num T (S.size 8) ++ S.num U (S.size 3) ++ SL) = S.ht h := by
  rw [ui, nS, HTU.out.1, HTU.out.2, HSL.out, S.ht]; simp
 rw [hht] at h3
 have W4 := hide h3
 have hb4 := h4.base S3.out (Nat.le_of_eq HG.out.symm) N3.out
 have N4 := hide hb4.2
 have B4 := hide (B3.out.trans hb4.1)
 have S4 : Hid (w0.heap.size <= w4.heap.size) := ltr S3.out hb4.1.size
 clear h3 h4 hb4 hld hht
 go_wp2_with fail
 refine (nC gw v4 _ w4 W4.out (by rw [S.lN HO.out]; omega)).mono ?_
 rintro e w5 ⟨rfl, r5, b5⟩
 have W5 := hide (W4.out.below b5)
 have B5 := hide (B4.out.trans (b5.mono S4.out))
 have S5 : Hid (w0.heap.size <= w5.heap.size) := ltr S4.out b5.size
 have T5 := hide (aG r5 rfl (by rw [S.lN HO.out]; omega))
 have K5 : Hid (KAt w5) := HK0.out.below B5.out HK0.out.pos
 obtain ⟨n5, hn5⟩ : ∃ n5, n5 = (S.ht h).length := ⟨_, rfl⟩
 rw [<- hn5] at T5 ⊢
 clear r5 b5 hn5
 go_wp2_with fail
 refine (zt _ _ w5 T5.out K5.out).mono ?_
 rintro e w6 ⟨rfl, b6⟩
 have W6 := hide (W5.out.below b6)
 have B6 := hide (B5.out.trans (b6.mono S5.out))
 have S6 : Hid (w0.heap.size <= w6.heap.size) := ltr S5.out b6.size
 have hsm := S.sum_length (S.ht h)
 clear b6
 obtain ⟨SM, hSM⟩ : ∃ SM, SM = S.sum (S.ht h) := ⟨_, rfl⟩
 rw [<- hSM] at hsm ⊢
 have HSM : Hid (SM = S.sum (S.ht h)) := hSM
 clear hSM
 go_wp2_with fail
 refine (oP gw v4 _ SM w6 hsm W6.out (by rw [S.lN HO.out]; omega)).mono ?_
 rintro e w7 ⟨rfl, v7, h3, h4⟩
 rw [HSM.out, <- S.htext] at h3
 have W7 := hide h3
 have hb7 := h4.base S6.out (Nat.le_of_eq HG.out.symm) N4.out
 have B7 := hide (B6.out.trans hb7.1)
 have S7 : Hid (w0.heap.size <= w7.heap.size) := ltr S6.out hb7.1.size
 have HA7 := hide (HA.out.below B7.out (ae HA.out))
 clear h3 h4 hb7
 go_wp2_with fail
 refine wp_region_noPanic ?_
 refine wp_region_held_drew (S := (fun W => fH W ga p f c)) follows HA7.out (fun hHeld => ?_)
 have WD := hide (W7.out.below (W := w7.drew) ((Chg.refl (fun _ => False) w7).drew.below _ (lr _) (fun _ _ e => e)))
 have BD : Hid (Below w.heap.size w w7.drew) := HB.out.trans ((B7.out.mono (by have := HZ.out; omega)).drew)
 clear HA7 W7 B7 S7
 generalize w7.drew = Z1 at WD BD hHeld ⊢
 refine wpAnyH_take (i := 0) (oi := ⟨_, _, _, _, _, _⟩) (v := .agg #[p, .int .i64 (f : Int), .int .i64 (c : Int)]) rfl (by kernel_rfl) (by kernel_rfl) (by kernel_rfl) (fun _ _ _ h => h) (yieldsIf_load_mid (by kernel_rfl) 217 (.tmp 3) rfl ga 0 rfl [p, .int .i64 (f : Int), .int .i64 (c : Int)] _ (fun W hW => aY hW) Tryz.underlying217 rfl (by kernel_rfl)) (by assumption) ?_
 simp only [uA]
 refine tq 1 ?_
 simp only [uA]
 refine tq 2 ?_
 simp only [uA]
 refine r1 3 fun K hK => ?_
 go_simp
 refine (nC gw v7 _ Z1 WD.out (by rw [S.fA HO.out]; omega)).mono ?_
 rintro e Z2 ⟨rfl, r2, b2⟩
 have a2 : fH Z2 ga p f c := fH.below hHeld b2 (ae hHeld)
 clear hHeld
 refine hK.out _ _ a2 (fun hHeld => ?_)
 clear hK K 
 try simp only [uA]
 have T2 := hide (aG r2 rfl (by rw [S.fA HO.out]; omega))
 have B2' : Hid (Below w.heap.size w Z2) := BD.out.trans (b2.mono BD.out.size)
 clear a2 r2 b2 WD BD
 refine r1 4 fun K hK => ?_
 go_simp
 refine (qO p f c k 240 _ _ _ _ Z2 hf hc hk (by rw [S.fA HO.out]; omega) T2.out).mono ?_
 rintro e Z3 ⟨g3, rfl, l3, r3, b3⟩
 have a3 : fH Z3 ga p f c := fH.below hHeld b3 (ae hHeld)
 clear hHeld
 refine hK.out _ _ a3 (fun hHeld => ?_)
 clear hK K 
 try simp only [uA]
 have R3 : Hid (Z3.heap[g3]? = some (.cells (S.v8 (S.aF f c k h)) 5 (0, 0))) := r3
 have B3' : Hid (Below w.heap.size w Z3) := B2'.out.trans (b3.mono B2'.out.size)
 have L3 : Hid (w.heap.size <= g3) := ltr B2'.out.size l3
 clear a3 r3 b3 l3 T2 B2'
 refine tq 5 ?_
 simp only [uA]
 refine wpAnyH_done (by kernel_rfl) ?_ _
 refine NoPanic.normal ?_
 clear hHeld
 go_wp2_with fail
 go_ret
 exact ⟨g3, rfl, L3.out, R3.out, B3'.out⟩
end Go.Proofs.YteealihknndclaaGreatDoor
namespace Go.Proofs.YteealihknndclaaGreatDoor
open Go.RowKit

namespace S
def rV (x : List UInt8) : Hd := ⟨val (x.take 8), val ((x.drop 8).take 3), (x.drop 11).take 32⟩
theorem ze (s : List UInt8) : rV (s.drop 9) = nu s := by
 unfold rV nu
 rw [List.drop_drop, List.drop_drop]
theorem yM (x : List UInt8) (h : 43 <= x.length) : (Rd.mk x 0 0 0).number 8 = (⟨x, 8, 0, 0⟩, (rV x).turn) := by
 unfold Rd.number Rd.take
 rw [ui, if_pos rfl, if_pos (by show 0 + 8 <= x.length; omega)]
 rfl
theorem yL (x : List UInt8) (h : 43 <= x.length) : (Rd.mk x 8 0 0).number 3 = (⟨x, 11, 0, 0⟩, (rV x).used) := by
 unfold Rd.number Rd.take
 rw [nS, if_pos rfl, if_pos (by show 8 + 3 <= x.length; omega)]
 rfl
theorem yN (x : List UInt8) (h : 43 <= x.length) : (Rd.mk x 11 0 0).digest = (⟨x, 43, 0, 0⟩, (rV x).sl) := by
 unfold Rd.digest Rd.take
 rw [if_pos rfl, if_pos (by show 11 + 32 <= x.length; omega)]
 have hl : ((x.drop 11).take 32).length = 32 := by simp; omega
 show (_, splice (zeros 32) 0 ((x.drop 11).take 32)) = _
 rw [eU, hl]
 simp [zeros, rV]
theorem za (x : List UInt8) (h : 43 <= x.length) : (rV x).Ok := by
 refine ⟨?_, ?_, by simp [rV]; omega⟩
 ·have h1 := nM (x.take 8)
  have h2 : (x.take 8).length = 8 := by simp; omega
  rw [h2] at h1
  exact h1
 ·have h1 := nM ((x.drop 8).take 3)
  have h2 : ((x.drop 8).take 3).length = 3 := by simp; omega
  rw [h2] at h1
  exact h1
end S
theorem ji {r r' : S.Rd} {k : Int} {n : Nat} (g t : Nat) (w : World) (h : r.number k = (r', n)) (hr : eF w g t r) :
  Calls Tryz.prog 89 #[.pointer (some ⟨g, 0, none⟩), .int .i64 k] w fun e w' => e = .returned (.int .u64 (n : Int)) /\ eF w' g t r' /\ Chg (fun k => k = g) w w' := by
 have := o8 g t r k w hr
 rw [h] at this
 exact this
theorem wX {r r' : S.Rd} {d : List UInt8} (g t : Nat) (w : World) (h : r.digest = (r', d)) (hr : eF w g t r) :
  Calls Tryz.prog 226 #[.pointer (some ⟨g, 0, none⟩)] w fun e w' => e = .returned (.agg (S.v8 d)) /\ eF w' g t r' /\ Chg (fun k => k = g) w w' := by
 have := vH g t r w hr
 rw [h] at this
 exact this
set_option maxHeartbeats 1600000 in
set_option maxRecDepth 10000 in
theorem xJ (v : Value) (x : List UInt8) (w : World) (hv : SliceAt w v x) (hx : 43 <= x.length) :
  Calls Tryz.prog 213 #[v] w fun e w' => e = .returned (hdv (S.rV x)) /\ Below w.heap.size w w' := by
 have hmx : x.length <= 140737488355328 := by obtain ⟨_, _, _, _, h1, h2⟩ := hv.form; omega
 have hok := S.za x hx
 have et := S.yM x hx
 have eu := S.yL x hx
 have es := S.yN x hx
 obtain ⟨H, hH⟩ : ∃ H, H = S.rV x := ⟨_, rfl⟩
 rw [<- hH] at hok et eu es ⊢
 clear hH
 have HO := hide hok
 have ET := hide et
 have EU := hide eu
 have ES := hide es
 have q0 := hok.turn
 have q1 := hok.used
 obtain ⟨T, U, SL⟩ := H
 simp only at q0 q1
 have hsl : SL.length = 32 := hok.sl
 have hwr : IntKind.i64.wrap (U : Int) = (U : Int) := by rw [IntKind.wrap_i64]; omega
 clear hok et eu es
 obtain ⟨w0, hw0⟩ : ∃ w0, w0 = w.alloc (.cells (S.hc S.Hd.none).toArray 221) := ⟨_, rfl⟩
 have HB : Hid (Below w.heap.size w w0) := by rw [hw0]; exact ba ..
 have HR : Hid (cO w0 w.heap.size S.Hd.none) := by show w0.heap[w.heap.size]? = _; rw [hw0]; exact heap_alloc_new _ _
 have HV := hide (hv.below HB.out (lr _))
 have hal := jd w
 rw [<- hw0] at hal
 obtain ⟨gr, hgr⟩ : ∃ gr, gr = w.heap.size := ⟨_, rfl⟩
 rw [<- hgr] at HR hal
 have HGR : Hid (gr = w.heap.size) := hgr
 clear hv hw0 hgr
 obtain ⟨ao, ln, cp, rfl, hz1, hz2⟩ := HV.out.form
 clear hz1 hz2
 go_enter Tryz.func213, Tryz.ntmps213
 go_wp2_with (with_reducible refine aD ⟨some 2, .alloc 221, 0, "head.go:82", #[], none⟩ ?_; refine aA rfl 221 rfl (.pointer (some ⟨gr, 0, none⟩)) w0 hal ?_)
 clear hal
 refine (l6 _ x w0 HV.out hmx).mono ?_
 rintro e w1 ⟨gd, gx, rfl, g1, x1, r1, b1⟩
 have RD1 := hide r1
 have B1 : Hid (Below w0.heap.size w0 w1) := b1
 have GD : Hid (w0.heap.size <= gd /\ w0.heap.size <= gx) := ⟨g1, x1⟩
 clear g1 x1 r1 b1
 go_wp2_with fail
 refine (ji gd gx w1 ET.out RD1.out).mono ?_
 rintro e w2 ⟨rfl, r2, c2⟩
 have RD2 := hide r2
 have B2 : Hid (Below w0.heap.size w0 w2) := B1.out.trans (c2.base B1.out.size GD.out.1)
 clear r2 c2
 have hbd := Du T w2
 have hal := jd w2
 have hd3 : cO (w2.alloc (.cells (S.hc S.Hd.none).toArray 221)) w2.heap.size S.Hd.none := heap_alloc_new _ _
 obtain ⟨w3, hst, hd4, c3⟩ := dI (h := ⟨T, 0, S.zeros 32⟩) hd3 (S.zeros_length _) (S.zeros_length _)
 have b23 : Below w2.heap.size w2 (w2.alloc (.cells (S.hc S.Hd.none).toArray 221)) := ba ..
 have b3 : Below w2.heap.size w2 w3 := b23.trans (c3.base b23.size (lr _))
 have H4 := hide hd4
 have RD3 := hide (RD2.out.below b3)
 have B3 : Hid (Below w0.heap.size w0 w3) := B2.out.trans (b3.mono B2.out.size)
 obtain ⟨gh, hgh⟩ : ∃ gh, gh = w2.heap.size := ⟨_, rfl⟩
 rw [<- hgh] at H4 hal hst
 have HGH : Hid (w0.heap.size <= gh /\ gd < gh /\ gx < gh) := ⟨by rw [hgh]; exact B2.out.size, by rw [hgh]; exact RD2.out.lt, by rw [hgh]; exact RD2.out.tlt⟩
 clear hd3 hd4 c3 b23 b3 RD1 RD2 B1 hgh
 obtain ⟨HV1, Ar⟩ : ∃ X, X = hdv ⟨T, 0, S.zeros 32⟩ := ⟨_, rfl⟩
 rw [<- Ar] at hbd hst
 obtain ⟨HC0, jq⟩ : ∃ X, X = (S.hc S.Hd.none).toArray := ⟨_, rfl⟩
 rw [<- jq] at hal hst
 clear Ar jq
 go_wp2_with (with_reducible refine aD ⟨some 9, .build 221 #[(0, .tmp 8)], 221, "head.go:84", #[{ on := 1, ground := Ground.data }], none⟩ ?_; refine aW rfl 221 [(0, Operand.tmp 8)] rfl [(0, .int .u64 (T : Int))] rfl HV1 hbd ?_; with_reducible refine aD ⟨some 4, .alloc 221, 0, "head.go:84", #[], none⟩ ?_; refine aA rfl 221 rfl (.pointer (some ⟨gh, 0, none⟩)) (w2.alloc (.cells HC0 221)) hal ?_; with_reducible refine aD ⟨none, .store 221 (.tmp 4) (.tmp 9), 0, "head.go:84", #[{ on := 3, ground := Ground.data }, { on := 2, ground := Ground.data }, { on := 1, ground := Ground.chain }, { on := 0, ground := Ground.phase }, { on := 1, ground := Ground.phase }, { on := 2, ground := Ground.phase }, { on := 3, ground := Ground.phase }], none⟩ ?_; refine aB rfl 221 (.tmp 4) (.tmp 9) rfl (.pointer (some ⟨gh, 0, none⟩)) HV1 rfl rfl w3 hst ?_)
 clear hbd hal hst
 refine (ji gd gx w3 EU.out RD3.out).mono ?_
 rintro e w4 ⟨rfl, r4, c4⟩
 have RD4 := hide r4
 have hd5 : cO w4 gh ⟨T, 0, S.zeros 32⟩ := c4.row H4.out (fun e => by have := HGH.out.2.1; omega)
 have B4 : Hid (Below w0.heap.size w0 w4) := B3.out.trans (c4.base B3.out.size GD.out.1)
 have c1 := hd5.used
 have f1 := frozen_of_row _ _ 1 _ _ hd5
 have H5 : Hid (cO (w4.setCell ⟨gh, 1, none⟩ (.int .i64 (U : Int))) gh ⟨T, U, S.zeros 32⟩) := hd5.setUsed U
 have B5 : Hid (Below w0.heap.size w0 (w4.setCell ⟨gh, 1, none⟩ (.int .i64 (U : Int)))) := B4.out.setCell (p := ⟨gh, 1, none⟩) HGH.out.1 _
 have RD5 : Hid (eF (w4.setCell ⟨gh, 1, none⟩ (.int .i64 (U : Int))) gd gx ⟨x, 11, 0, 0⟩) := r4.chg (p := fun k => k = gh) (Chg.one gh 1 _ rfl) (fun e => by have := HGH.out; omega) (fun e => by have := HGH.out; omega)
 clear r4 c4 hd5 RD3 RD4 H4 B3
 go_wp2_with fail
 generalize w4.setCell ⟨gh, 1, none⟩ (.int .i64 (U : Int)) = w5 at H5 B5 RD5 ⊢
 clear c1 f1
 refine (wX gd gx w5 ES.out RD5.out).mono ?_
 rintro e w6 ⟨rfl, r6, c6⟩
 have hd6 : cO w6 gh ⟨T, U, S.zeros 32⟩ := c6.row H5.out (fun e => by have := HGH.out.2.1; omega)
 have b6 : Below w0.heap.size w0 w6 := B5.out.trans (c6.base B5.out.size GD.out.1)
 obtain ⟨w7, hst, hd7, c7⟩ := store71 (sl := SL) hd6 (S.zeros_length _) hsl
 have b7 : Below w0.heap.size w0 w7 := b6.trans (c7.base b6.size HGH.out.1)
 have hr7 : cO w7 gr S.Hd.none := HR.out.below b7 (ae HR.out)
 have hld := cO.load hd7 hsl
 obtain ⟨w8, qX, hd8, c8⟩ := dI (h := ⟨T, U, SL⟩) hr7 (S.zeros_length _) hsl
 have HD8 := hide hd8
 have B8 : Hid (Below w.heap.size w w8) := by
  have b : Below w.heap.size w w7 := HB.out.trans (b7.mono HB.out.size)
  exact b.trans (c8.base b.size (by have := HGR.out; omega))
 obtain ⟨V8, hV8⟩ : ∃ V8, V8 = S.v8 SL := ⟨_, rfl⟩
 rw [<- hV8] at hst ⊢
 obtain ⟨HV2, rZ⟩ : ∃ X, X = hdv ⟨T, U, SL⟩ := ⟨_, rfl⟩
 rw [<- rZ] at qX
 rw [show hdv { turn := T, used := U, sl := SL } = HV2 from rZ.symm] at hld
 have HHV : Hid (HV2 = hdv ⟨T, U, SL⟩) := rZ
 clear r6 c6 hd6 b6 hd7 c7 b7 hr7 hd8 c8 hV8 rZ RD5 H5 B5
 go_wp2_with (first | (with_reducible refine aD ⟨none, .store 219 (.tmp 16) (.tmp 15), 0, "head.go:86", #[{ on := 2, ground := Ground.data }, { on := 1, ground := Ground.data }, { on := 1, ground := Ground.chain }, { on := 0, ground := Ground.phase }, { on := 1, ground := Ground.phase }], none⟩ ?_; refine aB rfl 219 (.tmp 16) (.tmp 15) rfl (.pointer (some ⟨gh, 2, none⟩)) (.agg V8) rfl rfl w7 hst ?_) | (with_reducible refine aD ⟨some 17, .load 221 (.tmp 4), 221, "head.go:87", #[], none⟩ ?_; refine aC rfl 221 (.tmp 4) rfl (.pointer (some ⟨gh, 0, none⟩)) rfl HV2 hld ?_) | (with_reducible refine aD ⟨none, .store 221 (.tmp 2) (.tmp 17), 0, "head.go:87", #[{ on := 0, ground := Ground.data }, { on := 0, ground := Ground.phase }], none⟩ ?_; refine aB rfl 221 (.tmp 2) (.tmp 17) rfl (.pointer (some ⟨gr, 0, none⟩)) HV2 rfl rfl w8 qX ?_))
 exact bodyPost_ret (fK Tryz.results213 _ _ gr _ rfl (HD8.out.loadVar hsl)) rfl ⟨rfl, B8.out⟩
end Go.Proofs.YteealihknndclaaGreatDoor
namespace Go.Proofs.YteealihknndclaaGreatDoor
open Go.RowKit

theorem y9 (w : World) (h b : S.Hd) : ∃ w0, w0 = (w.alloc (.cells (S.hc h).toArray 221)).alloc (.cells (S.hc b).toArray 221) /\ Hid (cO w0 w.heap.size h) /\ Hid (cO w0 (w.heap.size + 1) b) /\ Hid (Below w.heap.size w w0) /\ Hid (w0.heap.size = w.heap.size + 2) := by
 refine ⟨_, rfl, ?_, ?_, (ba ..).alloc (by simp) _, by show ((w.alloc _).alloc _).heap.size = _; simp⟩
 ·show ((w.alloc _).alloc _).heap[w.heap.size]? = _
  rw [heap_alloc_old _ _ (by simp)]
  exact heap_alloc_new _ _
 ·show ((w.alloc _).alloc _).heap[w.heap.size + 1]? = _
  rw [show w.heap.size + 1 = (w.alloc (.cells (S.hc h).toArray 221)).heap.size from by simp]
  exact heap_alloc_new _ _
theorem mM {a b : Bool} (h : a = b) : Ending.returned (.bool a) = .returned (.bool b) := by rw [h]
set_option maxHeartbeats 800000 in
theorem sW (h b : S.Hd) (m mb : Nat) (w : World) (hh : h.Ok) (hb : b.Ok) :
  Calls Tryz.prog 185 #[hdv h, .int .i64 (m : Int), hdv b, .int .i64 (mb : Int)] w fun e w' => e = .returned (.bool (S.holds h m b mb)) /\ Below w.heap.size w w' := by
 obtain ⟨w0, hw0, H1, H2, HB, HZ⟩ := y9 w h b
 have c1 := H1.out.turn
 have c2 := H2.out.turn
 rw [hw0] at c1 c2
 have q1 := hh.turn
 have q2 := hb.turn
 obtain ⟨T, hT⟩ : ∃ T, T = h.turn := ⟨_, rfl⟩
 obtain ⟨B, hB⟩ : ∃ B, B = b.turn := ⟨_, rfl⟩
 have hE : S.holds h m b mb = (decide (m = 2) && (decide (mb = 1) || (decide (mb = 2) && decide ((B + 1) % 18446744073709551616 = T)))) := by rw [hT, hB]; rfl
 rw [<- hT] at c1 q1
 rw [<- hB] at c2 q2
 obtain ⟨R, hR⟩ : ∃ R, R = S.holds h m b mb := ⟨_, rfl⟩
 rw [<- hR] at hE ⊢
 have HE := hide hE
 have hw : IntKind.u64.wrap ((B : Int) + 1) = (((B + 1) % 18446744073709551616 : Nat) : Int) := by rw [IntKind.wrap_u64]; omega
 obtain ⟨Z, hZ⟩ : ∃ Z, Z = (B + 1) % 18446744073709551616 := ⟨_, rfl⟩
 rw [<- hZ] at hw HE
 clear hh hb hE hR hZ hT hB
 unfold hdv
 obtain ⟨C1, hC1⟩ : ∃ C, C = (S.hc h).toArray := ⟨_, rfl⟩
 obtain ⟨C2, hC2⟩ : ∃ C, C = (S.hc b).toArray := ⟨_, rfl⟩
 rw [<- hC1, <- hC2] at hw0 c1 c2
 rw [<- hC1, <- hC2]
 clear hC1 hC2
 have HW0 := hide hw0
 clear hw0
 by_cases h2 : m = 2
 ·have z1 : (m : Int) = 2 := by omega
  by_cases h3 : mb = 1
  ·have z2 : (mb : Int) = 1 := by omega
   have E : Hid (R = true) := by show R = true; rw [HE.out, decide_eq_true h2, decide_eq_true h3]; rfl
   clear h2 h3 c1 c2 hw
   go_enter Tryz.func185, Tryz.ntmps185
   go_wp2_with fail
   go_ret
   exact ⟨by rw [E.out]; rfl, HW0.out ▸ HB.out⟩
  ·have z2 : ¬ (mb : Int) = 1 := by omega
   by_cases h4 : mb = 2
   ·have z3 : (mb : Int) = 2 := by omega
    by_cases h5 : Z = T
    ·have z4 : (Z : Int) = (T : Int) := by omega
     have E : Hid (R = true) := by show R = true; rw [HE.out, decide_eq_true h2, decide_eq_false h3, decide_eq_true h4, decide_eq_true h5]; rfl
     clear h2 h3 h4 h5
     go_enter Tryz.func185, Tryz.ntmps185
     go_wp2_with fail
     go_ret
     exact ⟨by rw [E.out]; rfl, HW0.out ▸ HB.out⟩
    ·have z4 : ¬ (Z : Int) = (T : Int) := by omega
     have E : Hid (R = false) := by show R = false; rw [HE.out, decide_eq_true h2, decide_eq_false h3, decide_eq_true h4, decide_eq_false h5]; rfl
     clear h2 h3 h4 h5
     go_enter Tryz.func185, Tryz.ntmps185
     go_wp2_with fail
     go_ret
     exact ⟨mM (by rw [E.out]; exact beq_false_of_ne z4), HW0.out ▸ HB.out⟩
   ·have z3 : ¬ (mb : Int) = 2 := by omega
    have E : Hid (R = false) := by show R = false; rw [HE.out, decide_eq_true h2, decide_eq_false h3, decide_eq_false h4]; rfl
    clear h2 h3 h4 c1 c2 hw
    go_enter Tryz.func185, Tryz.ntmps185
    go_wp2_with fail
    go_ret
    exact ⟨mM (by rw [E.out]; exact beq_false_of_ne z2), HW0.out ▸ HB.out⟩
 ·have z1 : ¬ (m : Int) = 2 := by omega
  have E : Hid (R = false) := by show R = false; rw [HE.out, decide_eq_false h2]; rfl
  clear h2 c1 c2 hw
  go_enter Tryz.func185, Tryz.ntmps185
  go_wp2_with fail
  go_ret
  exact ⟨mM (by rw [E.out]), HW0.out ▸ HB.out⟩
end Go.Proofs.YteealihknndclaaGreatDoor
