/- finish: a text that lies in memory is hashed to the Lean function's digest; nothing that was there changes. -/
/- finish of a text of no bytes: the digest is the Lean function's; nothing that was there changes. -/
/- Sum: of a text that lies in memory, Sum answers the Lean function's digest; nothing that was there changes. -/
/- Small facts about a []byte: its shape, its element, two of them one behind the other, and an append whose run is known. -/
/- A part of a []byte that lies in memory: the slice operation answers a []byte that reads as that part, and changes nothing. -/
/- Join: the lists of a slice of slices, one behind the other, in a row of their own of just that length; nothing that was there changes. -/
import Derived.Test.YteealihknndclabGreatDoorGc
import Derived.Stop.BytesEq
import Derived.Laws.OwnMore
import Derived.Lib.AppendZeros
import Derived.Lib.JoinLaws
namespace Go.Proofs.YteealihknndclabGreatDoor
open Go.RowKit
namespace S
def lF (bs : List UInt8) : Nat := if bs.length + 9 <= 64 then 1 else 2
theorem tZ (bs : List UInt8) (c : Nat) (h : bs.length < 64) : (ending bs c).length = 64 * lF bs := by
 unfold ending lF
 split
 ·rw [om _ _ _ (by omega)]
 ·rw [om _ _ _ (by omega)]
def fin (st : List UInt32) (before : Nat) (bs : List UInt8) : List UInt8 :=
 dig (blocks (blocks st bs (bs.length / 64)) (ending (bs.drop (64 * (bs.length / 64))) (8 * (before + bs.length))) (lF (bs.drop (64 * (bs.length / 64))))) 8
end S
theorem nz (bs : List UInt8) (hl : bs.length < 64) (ao : Option Addr) (len cap L : Nat) (hlen : len = bs.length) (hL : 8 * L < 18446744073709551616) (w : World) (hsrc : Src w ao bs) :
  Calls Tryz.prog 197 #[.slice ao len cap, .int .u64 (L : Int)] w fun e w' => e = .returned (.slice (some ⟨w.heap.size, 0, none⟩) (64 * S.lF bs) (64 * S.lF bs)) /\ w'.heap[w.heap.size]? = some (.cells (S.v8 (S.ending bs (8 * L))) 5 (0, 0)) /\ Below w.heap.size w w' := by
 unfold S.lF S.ending
 by_cases h : bs.length + 9 <= 64
 ·simp only [h, if_true]; exact FY bs hl h ao len cap L hlen hL w hsrc
 ·simp only [h, if_false]; exact C9 bs hl (by omega) ao len cap L hlen hL w hsrc
theorem gY {P : Program} {ops : Array Oper} {rest : List Oper} {o : Oper} {a : Act} {w : World} {Q : Act -> Prop} (hgd : o.guard = none) (ty : TypeId) (x : Operand) (ho : o.op = .load ty x)
  (g : Nat) (hx : a.eval x = .pointer (some ⟨g, 0, none⟩)) (t : TypeId) (cs : Array Value) (fr : Nat × Nat) (d : TypeDesc) (hg : w.heap[g]? = some (.cells cs t fr))
  (hu : P.underlying ty = some d) (hd : (match d with | .struct _ | .array _ _ => true | _ => false) = true) (hi : (P.info? ty).map (·.size) = some cs.size)
  (h : wpStill P ops w Q rest (a.put o.dst (.agg cs))) : wpStill P ops w Q (o :: rest) a := by
 refine wpStill_step fun K hK => ?_
 have hw : Region.wanted o (yielded ops a.tmps) = true := by simp [Region.wanted, hgd]
 rw [if_pos hw]
 unfold Oper.still execOp
 simp only [ho, hx, Instr.loadAt, Instr.sureAddr, Sem.run_bind, Sem.run_pure, Result.andThen_ok, run_loadVar_row w g t ty cs fr d hg hu hd hi]
 exact ⟨rfl, hK _ h⟩
theorem v32_ofR (s : S.R8) : S.v32 (S.ofR s) = #[.int .u32 (s.a.toNat : Int), .int .u32 (s.b.toNat : Int), .int .u32 (s.c.toNat : Int), .int .u32 (s.d.toNat : Int), .int .u32 (s.e.toNat : Int), .int .u32 (s.f.toNat : Int), .int .u32 (s.g.toNat : Int), .int .u32 (s.h.toNat : Int)] := rfl
theorem v32_toR (l : List UInt32) (h : l.length = 8) : S.v32 l = #[.int .u32 ((S.toR l).a.toNat : Int), .int .u32 ((S.toR l).b.toNat : Int), .int .u32 ((S.toR l).c.toNat : Int), .int .u32 ((S.toR l).d.toNat : Int), .int .u32 ((S.toR l).e.toNat : Int), .int .u32 ((S.toR l).f.toNat : Int), .int .u32 ((S.toR l).g.toNat : Int), .int .u32 ((S.toR l).h.toNat : Int)] := by
 rw [<- v32_ofR, S.lY l h]
theorem jV (s : S.R8) (b off len cap m : Nat) (bs : List UInt8) (w : World) (hlen : len = 64 * m) (hcap : len <= cap) (hreach : len <= 140737488355328) (hb : b < w.heap.size) (hK : ∀ j, j < 64 -> w.cell? ⟨1, j, none⟩ = some (.int .u32 ((S.K.getD j 0).toNat : Int)))
  (hc : ∀ j, j < len -> w.cell? ⟨b, off + j, none⟩ = some (.int .u8 ((bs.getD j 0).toNat : Int))) :
  Calls Tryz.prog 196 #[.agg #[.int .u32 (s.a.toNat : Int), .int .u32 (s.b.toNat : Int), .int .u32 (s.c.toNat : Int), .int .u32 (s.d.toNat : Int), .int .u32 (s.e.toNat : Int), .int .u32 (s.f.toNat : Int), .int .u32 (s.g.toNat : Int), .int .u32 (s.h.toNat : Int)], .slice (some ⟨b, off, none⟩) len cap] w fun e w' => ∃ x : S.R8, e = .returned (.agg #[.int .u32 (x.a.toNat : Int), .int .u32 (x.b.toNat : Int), .int .u32 (x.c.toNat : Int), .int .u32 (x.d.toNat : Int), .int .u32 (x.e.toNat : Int), .int .u32 (x.f.toNat : Int), .int .u32 (x.g.toNat : Int), .int .u32 (x.h.toNat : Int)]) /\ S.ofR x = S.blocks (S.ofR s) bs m /\ Below w.heap.size w w' := by
 refine (kT (S.ofR s) rfl b off len cap m bs w hlen hcap hreach hb hK hc).mono ?_
 rintro e w' ⟨rfl, hb'⟩
 have h8 := S.dG (S.ofR s) bs rfl m
 exact ⟨S.toR (S.blocks (S.ofR s) bs m), by rw [v32_toR _ h8], S.lY _ h8, hb'⟩
theorem vJ {w : World} {g : Nat} {l : List UInt32} {t : TypeId} (h : w.heap[g]? = some (.cells (S.v32 l) t (0, 0))) (hl : l.length = 8) (x : S.R8) :
  (((((((((w.setCell ⟨g, 0, none⟩ (.int .u32 (x.a.toNat : Int))).setCell ⟨g, 1, none⟩ (.int .u32 (x.b.toNat : Int))).setCell ⟨g, 2, none⟩ (.int .u32 (x.c.toNat : Int))).setCell ⟨g, 3, none⟩ (.int .u32 (x.d.toNat : Int))).setCell ⟨g, 4, none⟩ (.int .u32 (x.e.toNat : Int))).setCell ⟨g, 5, none⟩ (.int .u32 (x.f.toNat : Int))).setCell ⟨g, 6, none⟩ (.int .u32 (x.g.toNat : Int))).setCell ⟨g, 7, none⟩ (.int .u32 (x.h.toNat : Int)))).heap[g]? = some (.cells (S.v32 (S.ofR x)) t (0, 0)) := by
 have := iq (iq (iq (iq (iq (iq (iq (iq h 0 x.a) 1 x.b) 2 x.c) 3 x.d) 4 x.e) 5 x.f) 6 x.g) 7 x.h
 match l, hl with
 | [_, _, _, _, _, _, _, _], _ => exact this
def KAt (w : World) : Prop := ∀ j, j < 64 -> w.cell? ⟨1, j, none⟩ = some (.int .u32 ((S.K.getD j 0).toNat : Int))
theorem KAt.pos {w : World} (h : KAt w) : 1 < w.heap.size := block_lt_of_cell (h 0 (by omega))
theorem KAt.below {w w' : World} {B : Nat} (h : KAt w) (hb : Below B w w') (hB : 1 < B) : KAt w' := fun j hj => (hb.cell (p := ⟨1, j, none⟩) (by exact hB)).trans (h j hj)
theorem DZ {w : World} {b off cap W : Nat} {bs : List UInt8} (hb : b < w.heap.size) (hc : ∀ j, j < bs.length -> w.cell? ⟨b, off + j, none⟩ = some (.int .u8 ((bs.getD j 0).toNat : Int))) (hcap : bs.length <= cap) :
  Src w (if cap = W then some ⟨b, off, none⟩ else some ⟨b, off + W, none⟩) (bs.drop W) := fun hp => by
 have hl : W < bs.length := by rw [List.length_drop] at hp; omega
 rw [if_neg (by omega)]
 refine ⟨b, off + W, rfl, hb, fun j hj => ?_⟩
 rw [List.length_drop] at hj
 rw [Nat.add_assoc, show (bs.drop W).getD j 0 = bs.getD (W + j) 0 from by simp [List.getD_eq_getElem?_getD]]
 exact hc (W + j) (by omega)
theorem pM {w : World} {g L : Nat} {bs : List UInt8} (hl : bs.length < 64) (h : w.heap[g]? = some (.cells (S.v8 (S.ending bs L)) 5 (0, 0))) : ∀ j, j < 64 * S.lF bs -> w.cell? ⟨g, 0 + j, none⟩ = some (.int .u8 (((S.ending bs L).getD j 0).toNat : Int)) := fun j hj => by
 rw [Nat.zero_add]; exact bL h j (by rw [S.tZ _ _ hl]; exact hj)
set_option maxHeartbeats 1600000 in
set_option maxRecDepth 100000 in
theorem ym (st : List UInt32) (hst : st.length = 8) (before : Nat) (hbef : before <= 64) (b off len cap : Nat) (bs : List UInt8) (w : World) (hlen : len = bs.length) (hcap : len <= cap) (hreach : len <= 140737488355328) (hb : b < w.heap.size)
  (hK : KAt w)
  (hc : ∀ j, j < len -> w.cell? ⟨b, off + j, none⟩ = some (.int .u8 ((bs.getD j 0).toNat : Int))) :
  Calls Tryz.prog 178 #[.agg (S.v32 st), .int .u64 (before : Int), .slice (some ⟨b, off, none⟩) len cap] w fun e w' => e = .returned (.agg (S.v8 (S.fin st before bs))) /\ Below w.heap.size w w' := by
 obtain ⟨m, hm⟩ : ∃ m, m = len / 64 := ⟨_, rfl⟩
 obtain ⟨W, hW⟩ : ∃ W, W = 64 * m := ⟨_, rfl⟩
 have hw : (len : Int) - (len : Int) % 64 = (W : Int) := by omega
 have q1 : W <= len := by omega
 have q2 : len - W < 64 := by omega
 have q3 : (W : Int) <= (len : Int) := by omega
 have q4 : (W : Int) <= (cap : Int) := by omega
 have q5 : (0 : Int) <= (W : Int) := by omega
 have q6 : W <= cap := by omega
 have HM := hide hm
 have HWW := hide hW
 have HL := hide hlen
 have HK := hide hK
 have HC := hide hc
 have HS := hide hst
 clear hm hW hlen hK hc hst
 go_enter Tryz.func178, Tryz.ntmps178
 go_wp2
 generalize hW0 : (w.alloc (.cells (S.v32 st) 257)).alloc _ = W0
 have r0 : W0.heap[w.heap.size]? = some (.cells (S.v32 st) 257 (0, 0)) := by rw [<- hW0]; exact heap_alloc2_old _ _ _
 have r1 : W0.heap[w.heap.size + 1]? = some (.cells (S.v8 (S.zeros 32)) 184 (0, 0)) := by rw [<- hW0]; exact heap_alloc2_new _ _ _
 have hnx : Below w.heap.size w W0 := by rw [<- hW0]; exact (ba ..).alloc (by simp) _
 have hz0 : w.heap.size + 2 <= W0.heap.size := by rw [<- hW0]; simp
 have h0 : 1 < w.heap.size := HK.out.pos
 have hs : (Tryz.prog.info? 257).map (·.size) = some (S.v32 st).size := by rw [S.bu, HS.out]; exact gZ
 have J0 := hide r0
 have J1 := hide r1
 have J2 := hide hnx
 have J3 := hide hs
 clear hW0 r0 r1 hnx hs
 refine jw 4 (by kernel_rfl) ?_
 simp only [List.take_succ_cons, List.take_zero, List.drop_succ_cons, List.drop_zero]
 refine gY rfl 257 _ rfl w.heap.size rfl 257 _ _ _ J0.out Tryz.underlying257 rfl J3.out ?_
 simp only [Act.put, List.setIfInBounds_toArray, List.set_cons_succ, List.set_cons_zero]
 repeat still_step
 refine wpStill_nil ?_
 go_wp2_with fail
 refine (kT st HS.out b off W cap m bs W0.drew HWW.out q6 (ltr q1 hreach) (Nat.lt_of_lt_of_le hb J2.out.size) (HK.out.below J2.out.drew h0)
  (fun j hj => (J2.out.drew.cell (p := ⟨b, off + j, none⟩) (by exact hb)).trans (HC.out j (by omega)))).mono ?_
 rintro e w1 ⟨rfl, hb1⟩
 obtain ⟨s1, hs1⟩ : ∃ s1, s1 = S.blocks st bs m := ⟨_, rfl⟩
 have hl1 : s1.length = 8 := by rw [hs1]; exact S.dG _ _ HS.out _
 rw [<- hs1]
 have a0 : w1.heap[w.heap.size]? = some (.cells (S.v32 st) 257 (0, 0)) := (hb1.block _ (by show w.heap.size < W0.heap.size; omega)).trans J0.out
 have a1 : w1.heap[w.heap.size + 1]? = some (.cells (S.v8 (S.zeros 32)) 184 (0, 0)) := (hb1.block _ (by show w.heap.size + 1 < W0.heap.size; omega)).trans J1.out
 have hn1 : Below w.heap.size w w1 := J2.out.drew.trans (hb1.mono (by show w.heap.size <= W0.heap.size; omega))
 have hz1 : w.heap.size + 2 <= w1.heap.size := ltr hz0 hb1.size
 have hs : (Tryz.prog.info? 257).map (·.size) = some (S.v32 s1).size := by rw [S.bu, hl1]; exact gZ
 have ho : (S.v32 st).size = (S.v32 s1).size := by rw [S.bu, S.bu, hl1, HS.out]
 have I0 := hide a0
 have I3 := hide hs
 have I4 := hide ho
 have I5 := hide hs1
 have I6 := hide hl1
 clear hb1 J0 J1 J2 J3 hz0 a0 hs ho hs1 hl1
 go_wp2_with (refine wpList_store_row rfl 257 _ _ rfl w.heap.size (S.v32 s1) rfl rfl 257 _ I0.out I3.out I4.out (S.iP _) ?_)
 simp only [Act.put]
 generalize hW1 : w1.setRow w.heap.size (S.v32 s1) = W1
 have r0 : W1.heap[w.heap.size]? = some (.cells (S.v32 s1) 257 (0, 0)) := by rw [<- hW1]; exact setRow_heap _ _ _ _ _ _ I0.out
 have r1 : W1.heap[w.heap.size + 1]? = some (.cells (S.v8 (S.zeros 32)) 184 (0, 0)) := by rw [<- hW1]; exact (setRow_other _ _ _ _ (by omega)).trans a1
 have hnx : Below w.heap.size w W1 := by rw [<- hW1]; exact below_setRow hn1 (lr _) _
 have hz0 : w.heap.size + 2 <= W1.heap.size := by rw [<- hW1]; simpa using hz1
 have J0 := hide r0
 have J1 := hide r1
 have J2 := hide hnx
 clear hW1 I0 a1 hn1 hz1 r0 r1 hnx
 clear w1
 obtain ⟨L, hL⟩ : ∃ L : Nat, L = before + len := ⟨_, rfl⟩
 have hcv : IntKind.u64.wrap (len : Int) = (len : Int) := fA len (by omega)
 have hadd : IntKind.u64.wrap ((before : Int) + (len : Int)) = (L : Int) := by have := fA L (by omega); rw [<- this, hL]; simp
 have hL8 : Hid (8 * L < 18446744073709551616) := by show 8 * L < 18446744073709551616; omega
 have HLL := hide hL
 clear hL
 obtain ⟨s, hs0⟩ : ∃ s : S.R8, s = S.toR s1 := ⟨_, rfl⟩
 have hof : S.ofR s = s1 := by rw [hs0]; exact S.lY _ I6.out
 have r0 := J0.out
 rw [<- hof] at r0
 have c0 : W1.cell? ⟨w.heap.size, 0, none⟩ = some (.int .u32 (s.a.toNat : Int)) := aj r0 0 (by simp [S.ofR])
 have c1 : W1.cell? ⟨w.heap.size, 1, none⟩ = some (.int .u32 (s.b.toNat : Int)) := aj r0 1 (by simp [S.ofR])
 have c2 : W1.cell? ⟨w.heap.size, 2, none⟩ = some (.int .u32 (s.c.toNat : Int)) := aj r0 2 (by simp [S.ofR])
 have c3 : W1.cell? ⟨w.heap.size, 3, none⟩ = some (.int .u32 (s.d.toNat : Int)) := aj r0 3 (by simp [S.ofR])
 have c4 : W1.cell? ⟨w.heap.size, 4, none⟩ = some (.int .u32 (s.e.toNat : Int)) := aj r0 4 (by simp [S.ofR])
 have c5 : W1.cell? ⟨w.heap.size, 5, none⟩ = some (.int .u32 (s.f.toNat : Int)) := aj r0 5 (by simp [S.ofR])
 have c6 : W1.cell? ⟨w.heap.size, 6, none⟩ = some (.int .u32 (s.g.toNat : Int)) := aj r0 6 (by simp [S.ofR])
 have c7 : W1.cell? ⟨w.heap.size, 7, none⟩ = some (.int .u32 (s.h.toNat : Int)) := aj r0 7 (by simp [S.ofR])
 clear J0
 have J0 := hide r0
 have HO := hide hof
 have hblen := HL.out
 have HD : Hid ((bs.drop W).length < 64) := by show (bs.drop W).length < 64; rw [List.length_drop]; omega
 have HD2 : Hid (len - W = (bs.drop W).length) := by show len - W = (bs.drop W).length; rw [List.length_drop]; omega
 have HQ : Hid (64 * S.lF (bs.drop W) <= 140737488355328) := by show 64 * S.lF (bs.drop W) <= 140737488355328; unfold S.lF; split <;> omega
 have yB : Src W1.drew (if cap = W then some ⟨b, off, none⟩ else some ⟨b, off + W, none⟩) (bs.drop W) := DZ (Nat.lt_of_lt_of_le hb J2.out.size) (fun j hj => (J2.out.drew.cell (p := ⟨b, off + j, none⟩) (by exact hb)).trans (HC.out j (by omega))) (by omega)
 clear r0 hof hs0
 by_cases hcw : cap = W
 focus
  rw [if_pos hcw] at yB
  have hcw' : W = cap := hcw.symm
  clear hcw
  subst hcw'
  have Dr := hide yB
 rotate_left
 focus
  rw [if_neg hcw] at yB
  have Dr := hide yB
 all_goals
  clear yB hblen
  go_region_with (first | (go_at_call 197; refine (nz (bs.drop W) HD.out _ _ _ L ?_ hL8.out _ ?_).mono ?_; (first | exact HD2.out | (have h9 := HD2.out; omega)); exact Dr.out; rintro e w2 ⟨rfl, hr2, hb2⟩; have d0 := (hb2.cell (p := ⟨w.heap.size, 0, none⟩) (by show w.heap.size < W1.heap.size; omega)).trans c0; have d1 := (hb2.cell (p := ⟨w.heap.size, 1, none⟩) (by show w.heap.size < W1.heap.size; omega)).trans c1; have d2 := (hb2.cell (p := ⟨w.heap.size, 2, none⟩) (by show w.heap.size < W1.heap.size; omega)).trans c2; have d3 := (hb2.cell (p := ⟨w.heap.size, 3, none⟩) (by show w.heap.size < W1.heap.size; omega)).trans c3; have d4 := (hb2.cell (p := ⟨w.heap.size, 4, none⟩) (by show w.heap.size < W1.heap.size; omega)).trans c4; have d5 := (hb2.cell (p := ⟨w.heap.size, 5, none⟩) (by show w.heap.size < W1.heap.size; omega)).trans c5; have d6 := (hb2.cell (p := ⟨w.heap.size, 6, none⟩) (by show w.heap.size < W1.heap.size; omega)).trans c6; have d7 := (hb2.cell (p := ⟨w.heap.size, 7, none⟩) (by show w.heap.size < W1.heap.size; omega)).trans c7) | (go_at_call 196; refine (jV s W1.heap.size 0 _ _ (S.lF (bs.drop W)) (S.ending (bs.drop W) (8 * L)) _ rfl (lr _) HQ.out (aa hr2) (HK.out.below (J2.out.drew.trans (hb2.mono (by show w.heap.size <= W1.heap.size; omega))) h0) (pM HD.out hr2)).mono ?_; rintro e w3 ⟨x, rfl, hx, hb3⟩; have hr3 := (hb3.block w.heap.size (by have := hb2.size; show w.heap.size < w2.heap.size; have e1 : W1.drew.heap.size = W1.heap.size := rfl; omega)).trans ((hb2.block w.heap.size (by show w.heap.size < W1.heap.size; omega)).trans J0.out); have k0 := aj hr3 0 (by simp [S.ofR]); have f0 := frozen_of_row _ _ 0 _ _ hr3; have k1 := aj hr3 1 (by simp [S.ofR]); have f1 := frozen_of_row _ _ 1 _ _ hr3; have k2 := aj hr3 2 (by simp [S.ofR]); have f2 := frozen_of_row _ _ 2 _ _ hr3; have k3 := aj hr3 3 (by simp [S.ofR]); have f3 := frozen_of_row _ _ 3 _ _ hr3; have k4 := aj hr3 4 (by simp [S.ofR]); have f4 := frozen_of_row _ _ 4 _ _ hr3; have k5 := aj hr3 5 (by simp [S.ofR]); have f5 := frozen_of_row _ _ 5 _ _ hr3; have k6 := aj hr3 6 (by simp [S.ofR]); have f6 := frozen_of_row _ _ 6 _ _ hr3; have k7 := aj hr3 7 (by simp [S.ofR]); have f7 := frozen_of_row _ _ 7 _ _ hr3))
  all_goals
   have hz2 : W1.heap.size <= w2.heap.size := hb2.size
   have hz3 : w2.heap.size <= w3.heap.size := hb3.size
   have a1 : w3.heap[w.heap.size + 1]? = some (.cells (S.v8 (S.zeros 32)) 184 (0, 0)) := (hb3.block _ (by omega)).trans ((hb2.block _ (by show w.heap.size + 1 < W1.heap.size; omega)).trans J1.out)
   have hn3 : Below w.heap.size w w3 := (J2.out.drew.trans (hb2.mono (by show w.heap.size <= W1.heap.size; omega))).trans (hb3.mono (by omega))
   generalize hW2 : World.setCell _ _ (Value.int .u32 (x.h.toNat : Int)) = W2
   have r0 : W2.heap[w.heap.size]? = some (.cells (S.v32 (S.ofR x)) 257 (0, 0)) := by rw [<- hW2]; exact vJ hr3 rfl x
   have r1 : W2.heap[w.heap.size + 1]? = some (.cells (S.v8 (S.zeros 32)) 184 (0, 0)) := by
    rw [<- hW2]
    iterate 8 rw [heap_setCell_other _ _ _ _ (by simp)]
    exact a1
   have hnx : Below w.heap.size w W2 := by
    rw [<- hW2]
    iterate 8 refine Below.setCell ?_ (by exact lr _) _
    exact hn3
   have hz4 : w.heap.size + 2 <= W2.heap.size := by have := aa r1; omega
   have hs : (Tryz.prog.info? 257).map (·.size) = some (S.v32 (S.ofR x)).size := gZ
   have hfin : S.fin st before bs = S.dig (S.ofR x) 8 := by
    rw [hx, HO.out, I5.out, HLL.out, HWW.out, HM.out, HL.out]; rfl
   have P0 := hide r0
   have P1 := hide r1
   have P2 := hide hnx
   have P3 := hide hs
   have P4 := hide hfin
   clear hW2 r0 r1 hnx hs hfin a1 hn3 hb2 hb3 hr2 hr3 hx c0 c1 c2 c3 c4 c5 c6 c7 d0 d1 d2 d3 d4 d5 d6 d7 k0 k1 k2 k3 k4 k5 k6 k7 f0 f1 f2 f3 f4 f5 f6 f7 hw hcv hadd
   go_wp2_with (first | refine wpList_load_row rfl 257 _ rfl w.heap.size rfl 257 _ _ _ P0.out Tryz.underlying257 rfl P3.out ?_ | fail)
   refine (kI (S.ofR x) rfl _).mono ?_
   rintro e w4 ⟨rfl, hb4⟩
   rw [<- P4.out]
   have a1 : w4.heap[w.heap.size + 1]? = some (.cells (S.v8 (S.zeros 32)) 184 (0, 0)) := (hb4.block _ (by omega)).trans P1.out
   have hs : (Tryz.prog.info? 184).map (·.size) = some (S.v8 (S.fin st before bs)).size := by rw [S.aU, S.fin, S.ed]; exact rF
   have ho : (S.v8 (S.zeros 32)).size = (S.v8 (S.fin st before bs)).size := by rw [S.aU, S.aU, S.fin, S.ed]; rfl
   have hn4 : Below w.heap.size w w4 := P2.out.trans (hb4.mono (by omega))
   have Q1 := hide a1
   have Q2 := hide hs
   have Q3 := hide ho
   clear a1 hs ho hb4
   go_wp2_with (refine wpList_store_row rfl 184 _ _ rfl (w.heap.size + 1) (S.v8 (S.fin st before bs)) rfl rfl 184 _ Q1.out Q2.out Q3.out (S.jU _) ?_)
   refine bodyPost_ret (v := .agg (S.v8 (S.fin st before bs))) (results_cell_row (g := w.heap.size + 1) (t := 184) (fr := (0, 0)) Tryz.results178 _ _ _ _ rfl (setRow_heap _ _ _ _ _ _ Q1.out) Tryz.underlying184 rfl Q2.out) rfl ⟨rfl, below_setRow hn4 (by omega) _⟩
end Go.Proofs.YteealihknndclabGreatDoor
namespace Go.Proofs.YteealihknndclabGreatDoor
open Go.RowKit
set_option maxHeartbeats 800000 in
set_option maxRecDepth 100000 in
theorem zI (st : List UInt32) (hst : st.length = 8) (before : Nat) (hbef : before <= 64) (w : World) (hK : KAt w) :
  Calls Tryz.prog 178 #[.agg (S.v32 st), .int .u64 (before : Int), .slice none 0 0] w fun e w' => e = .returned (.agg (S.v8 (S.fin st before []))) /\ Below w.heap.size w w' := by
 have HK := hide hK
 have HS := hide hst
 clear hK hst
 go_enter Tryz.func178, Tryz.ntmps178
 go_wp2
 generalize hW0 : (w.alloc (.cells (S.v32 st) 257)).alloc _ = W0
 have r0 : W0.heap[w.heap.size]? = some (.cells (S.v32 st) 257 (0, 0)) := by rw [<- hW0]; exact heap_alloc2_old _ _ _
 have r1 : W0.heap[w.heap.size + 1]? = some (.cells (S.v8 (S.zeros 32)) 184 (0, 0)) := by rw [<- hW0]; exact heap_alloc2_new _ _ _
 have hnx : Below w.heap.size w W0 := by rw [<- hW0]; exact (ba ..).alloc (by simp) _
 have hz0 : w.heap.size + 2 <= W0.heap.size := by rw [<- hW0]; simp
 have h0 : 1 < w.heap.size := HK.out.pos
 have hs : (Tryz.prog.info? 257).map (·.size) = some (S.v32 st).size := by rw [S.bu, HS.out]; exact gZ
 have J0 := hide r0
 have J1 := hide r1
 have J2 := hide hnx
 have J3 := hide hs
 clear hW0 r0 r1 hnx hs
 refine jw 4 (by kernel_rfl) ?_
 simp only [List.take_succ_cons, List.take_zero, List.drop_succ_cons, List.drop_zero]
 refine gY rfl 257 _ rfl w.heap.size rfl 257 _ _ _ J0.out Tryz.underlying257 rfl J3.out ?_
 simp only [Act.put, List.setIfInBounds_toArray, List.set_cons_succ, List.set_cons_zero]
 repeat still_step
 refine wpStill_nil ?_
 go_wp2_with fail
 refine (kN st HS.out _ _ W0.drew).mono ?_
 rintro e w1 ⟨rfl, hb1⟩
 have a0 : w1.heap[w.heap.size]? = some (.cells (S.v32 st) 257 (0, 0)) := (hb1.block _ (by show w.heap.size < W0.heap.size; omega)).trans J0.out
 have a1 : w1.heap[w.heap.size + 1]? = some (.cells (S.v8 (S.zeros 32)) 184 (0, 0)) := (hb1.block _ (by show w.heap.size + 1 < W0.heap.size; omega)).trans J1.out
 have hn1 : Below w.heap.size w w1 := J2.out.drew.trans (hb1.mono (by show w.heap.size <= W0.heap.size; omega))
 have hz1 : w.heap.size + 2 <= w1.heap.size := ltr hz0 hb1.size
 have I0 := hide a0
 clear hb1 J0 J1 J2 hz0 a0
 go_wp2_with (refine wpList_store_row rfl 257 _ _ rfl w.heap.size (S.v32 st) rfl rfl 257 _ I0.out J3.out rfl (S.iP _) ?_)
 simp only [Act.put]
 generalize hW1 : w1.setRow w.heap.size (S.v32 st) = W1
 have r0 : W1.heap[w.heap.size]? = some (.cells (S.v32 st) 257 (0, 0)) := by rw [<- hW1]; exact setRow_heap _ _ _ _ _ _ I0.out
 have r1 : W1.heap[w.heap.size + 1]? = some (.cells (S.v8 (S.zeros 32)) 184 (0, 0)) := by rw [<- hW1]; exact (setRow_other _ _ _ _ (by omega)).trans a1
 have hnx : Below w.heap.size w W1 := by rw [<- hW1]; exact below_setRow hn1 (lr _) _
 have hz0 : w.heap.size + 2 <= W1.heap.size := by rw [<- hW1]; simpa using hz1
 have J1 := hide r1
 have J2 := hide hnx
 clear hW1 I0 a1 hn1 hz1 r1 hnx
 clear w1
 obtain ⟨L, hL⟩ : ∃ L : Nat, L = before := ⟨_, rfl⟩
 subst hL
 have hw0 : IntKind.u64.wrap 0 = 0 := by decide
 have hadd : IntKind.u64.wrap (L : Int) = (L : Int) := fA L (by omega)
 have hL8 : Hid (8 * L < 18446744073709551616) := by show 8 * L < 18446744073709551616; omega
 obtain ⟨s, hs0⟩ : ∃ s : S.R8, s = S.toR st := ⟨_, rfl⟩
 have hof : S.ofR s = st := by rw [hs0]; exact S.lY _ HS.out
 rw [<- hof] at r0
 have c0 : W1.cell? ⟨w.heap.size, 0, none⟩ = some (.int .u32 (s.a.toNat : Int)) := aj r0 0 (by simp [S.ofR])
 have c1 : W1.cell? ⟨w.heap.size, 1, none⟩ = some (.int .u32 (s.b.toNat : Int)) := aj r0 1 (by simp [S.ofR])
 have c2 : W1.cell? ⟨w.heap.size, 2, none⟩ = some (.int .u32 (s.c.toNat : Int)) := aj r0 2 (by simp [S.ofR])
 have c3 : W1.cell? ⟨w.heap.size, 3, none⟩ = some (.int .u32 (s.d.toNat : Int)) := aj r0 3 (by simp [S.ofR])
 have c4 : W1.cell? ⟨w.heap.size, 4, none⟩ = some (.int .u32 (s.e.toNat : Int)) := aj r0 4 (by simp [S.ofR])
 have c5 : W1.cell? ⟨w.heap.size, 5, none⟩ = some (.int .u32 (s.f.toNat : Int)) := aj r0 5 (by simp [S.ofR])
 have c6 : W1.cell? ⟨w.heap.size, 6, none⟩ = some (.int .u32 (s.g.toNat : Int)) := aj r0 6 (by simp [S.ofR])
 have c7 : W1.cell? ⟨w.heap.size, 7, none⟩ = some (.int .u32 (s.h.toNat : Int)) := aj r0 7 (by simp [S.ofR])
 have J0 := hide r0
 have HO := hide hof
 have HD : Hid (([] : List UInt8).length < 64) := by show ([] : List UInt8).length < 64; decide
 have HD2 : Hid (0 = ([] : List UInt8).length) := rfl
 have HQ : Hid (64 * S.lF ([] : List UInt8) <= 140737488355328) := by show 64 * S.lF ([] : List UInt8) <= 140737488355328; decide
 have Dr : ∀ ao, Hid (Src W1.drew ao ([] : List UInt8)) := fun _ hp => absurd hp (by simp)
 clear r0 hof hs0
 go_region_with (first | (go_at_call 197; refine (nz ([] : List UInt8) HD.out _ _ _ L ?_ hL8.out _ ?_).mono ?_; (first | exact HD2.out | (have h9 := HD2.out; omega)); exact (Dr _).out; rintro e w2 ⟨rfl, hr2, hb2⟩; have d0 := (hb2.cell (p := ⟨w.heap.size, 0, none⟩) (by show w.heap.size < W1.heap.size; omega)).trans c0; have d1 := (hb2.cell (p := ⟨w.heap.size, 1, none⟩) (by show w.heap.size < W1.heap.size; omega)).trans c1; have d2 := (hb2.cell (p := ⟨w.heap.size, 2, none⟩) (by show w.heap.size < W1.heap.size; omega)).trans c2; have d3 := (hb2.cell (p := ⟨w.heap.size, 3, none⟩) (by show w.heap.size < W1.heap.size; omega)).trans c3; have d4 := (hb2.cell (p := ⟨w.heap.size, 4, none⟩) (by show w.heap.size < W1.heap.size; omega)).trans c4; have d5 := (hb2.cell (p := ⟨w.heap.size, 5, none⟩) (by show w.heap.size < W1.heap.size; omega)).trans c5; have d6 := (hb2.cell (p := ⟨w.heap.size, 6, none⟩) (by show w.heap.size < W1.heap.size; omega)).trans c6; have d7 := (hb2.cell (p := ⟨w.heap.size, 7, none⟩) (by show w.heap.size < W1.heap.size; omega)).trans c7) | (go_at_call 196; refine (jV s W1.heap.size 0 _ _ (S.lF ([] : List UInt8)) (S.ending ([] : List UInt8) (8 * L)) _ rfl (lr _) HQ.out (aa hr2) (HK.out.below (J2.out.drew.trans (hb2.mono (by show w.heap.size <= W1.heap.size; omega))) h0) (pM HD.out hr2)).mono ?_; rintro e w3 ⟨x, rfl, hx, hb3⟩; have hr3 := (hb3.block w.heap.size (by have := hb2.size; show w.heap.size < w2.heap.size; have e1 : W1.drew.heap.size = W1.heap.size := rfl; omega)).trans ((hb2.block w.heap.size (by show w.heap.size < W1.heap.size; omega)).trans J0.out); have k0 := aj hr3 0 (by simp [S.ofR]); have f0 := frozen_of_row _ _ 0 _ _ hr3; have k1 := aj hr3 1 (by simp [S.ofR]); have f1 := frozen_of_row _ _ 1 _ _ hr3; have k2 := aj hr3 2 (by simp [S.ofR]); have f2 := frozen_of_row _ _ 2 _ _ hr3; have k3 := aj hr3 3 (by simp [S.ofR]); have f3 := frozen_of_row _ _ 3 _ _ hr3; have k4 := aj hr3 4 (by simp [S.ofR]); have f4 := frozen_of_row _ _ 4 _ _ hr3; have k5 := aj hr3 5 (by simp [S.ofR]); have f5 := frozen_of_row _ _ 5 _ _ hr3; have k6 := aj hr3 6 (by simp [S.ofR]); have f6 := frozen_of_row _ _ 6 _ _ hr3; have k7 := aj hr3 7 (by simp [S.ofR]); have f7 := frozen_of_row _ _ 7 _ _ hr3))
 all_goals
  have hz2 : W1.heap.size <= w2.heap.size := hb2.size
  have hz3 : w2.heap.size <= w3.heap.size := hb3.size
  have a1 : w3.heap[w.heap.size + 1]? = some (.cells (S.v8 (S.zeros 32)) 184 (0, 0)) := (hb3.block _ (by omega)).trans ((hb2.block _ (by show w.heap.size + 1 < W1.heap.size; omega)).trans J1.out)
  have hn3 : Below w.heap.size w w3 := (J2.out.drew.trans (hb2.mono (by show w.heap.size <= W1.heap.size; omega))).trans (hb3.mono (by omega))
  generalize hW2 : World.setCell _ _ (Value.int .u32 (x.h.toNat : Int)) = W2
  have r0 : W2.heap[w.heap.size]? = some (.cells (S.v32 (S.ofR x)) 257 (0, 0)) := by rw [<- hW2]; exact vJ hr3 rfl x
  have r1 : W2.heap[w.heap.size + 1]? = some (.cells (S.v8 (S.zeros 32)) 184 (0, 0)) := by
   rw [<- hW2]
   iterate 8 rw [heap_setCell_other _ _ _ _ (by simp)]
   exact a1
  have hnx : Below w.heap.size w W2 := by
   rw [<- hW2]
   iterate 8 refine Below.setCell ?_ (by exact lr _) _
   exact hn3
  have hz4 : w.heap.size + 2 <= W2.heap.size := by have := aa r1; omega
  have hs : (Tryz.prog.info? 257).map (·.size) = some (S.v32 (S.ofR x)).size := gZ
  have hfin : S.fin st L [] = S.dig (S.ofR x) 8 := by
   rw [hx, HO.out]; rfl
  have P0 := hide r0
  have P1 := hide r1
  have P2 := hide hnx
  have P3 := hide hs
  have P4 := hide hfin
  clear hW2 r0 r1 hnx hs hfin a1 hn3 hb2 hb3 hr2 hr3 hx c0 c1 c2 c3 c4 c5 c6 c7 d0 d1 d2 d3 d4 d5 d6 d7 k0 k1 k2 k3 k4 k5 k6 k7 f0 f1 f2 f3 f4 f5 f6 f7 hadd hw0
  go_wp2_with (first | refine wpList_load_row rfl 257 _ rfl w.heap.size rfl 257 _ _ _ P0.out Tryz.underlying257 rfl P3.out ?_ | fail)
  refine (kI (S.ofR x) rfl _).mono ?_
  rintro e w4 ⟨rfl, hb4⟩
  rw [<- P4.out]
  have a1 : w4.heap[w.heap.size + 1]? = some (.cells (S.v8 (S.zeros 32)) 184 (0, 0)) := (hb4.block _ (by omega)).trans P1.out
  have hs : (Tryz.prog.info? 184).map (·.size) = some (S.v8 (S.fin st L [])).size := by rw [S.aU, S.fin, S.ed]; exact rF
  have ho : (S.v8 (S.zeros 32)).size = (S.v8 (S.fin st L [])).size := by rw [S.aU, S.aU, S.fin, S.ed]; rfl
  have hn4 : Below w.heap.size w w4 := P2.out.trans (hb4.mono (by omega))
  have Q1 := hide a1
  have Q2 := hide hs
  have Q3 := hide ho
  clear a1 hs ho hb4
  go_wp2_with (refine wpList_store_row rfl 184 _ _ rfl (w.heap.size + 1) (S.v8 (S.fin st L [])) rfl rfl 184 _ Q1.out Q2.out Q3.out (S.jU _) ?_)
  refine bodyPost_ret (v := .agg (S.v8 (S.fin st L []))) (results_cell_row (g := w.heap.size + 1) (t := 184) (fr := (0, 0)) Tryz.results178 _ _ _ _ rfl (setRow_heap _ _ _ _ _ _ Q1.out) Tryz.underlying184 rfl Q2.out) rfl ⟨rfl, below_setRow hn4 (by omega) _⟩
set_option maxHeartbeats 800000 in
set_option maxRecDepth 100000 in
theorem wB (st : List UInt32) (hst : st.length = 8) (before : Nat) (hbef : before <= 64) (a : Addr) (cap : Nat) (w : World) (hK : KAt w) :
  Calls Tryz.prog 178 #[.agg (S.v32 st), .int .u64 (before : Int), .slice (some a) 0 cap] w fun e w' => e = .returned (.agg (S.v8 (S.fin st before []))) /\ Below w.heap.size w w' := by
 have HK := hide hK
 have HS := hide hst
 clear hK hst
 go_enter Tryz.func178, Tryz.ntmps178
 go_wp2
 generalize hW0 : (w.alloc (.cells (S.v32 st) 257)).alloc _ = W0
 have r0 : W0.heap[w.heap.size]? = some (.cells (S.v32 st) 257 (0, 0)) := by rw [<- hW0]; exact heap_alloc2_old _ _ _
 have r1 : W0.heap[w.heap.size + 1]? = some (.cells (S.v8 (S.zeros 32)) 184 (0, 0)) := by rw [<- hW0]; exact heap_alloc2_new _ _ _
 have hnx : Below w.heap.size w W0 := by rw [<- hW0]; exact (ba ..).alloc (by simp) _
 have hz0 : w.heap.size + 2 <= W0.heap.size := by rw [<- hW0]; simp
 have h0 : 1 < w.heap.size := HK.out.pos
 have hs : (Tryz.prog.info? 257).map (·.size) = some (S.v32 st).size := by rw [S.bu, HS.out]; exact gZ
 have J0 := hide r0
 have J1 := hide r1
 have J2 := hide hnx
 have J3 := hide hs
 clear hW0 r0 r1 hnx hs
 refine jw 4 (by kernel_rfl) ?_
 simp only [List.take_succ_cons, List.take_zero, List.drop_succ_cons, List.drop_zero]
 refine gY rfl 257 _ rfl w.heap.size rfl 257 _ _ _ J0.out Tryz.underlying257 rfl J3.out ?_
 simp only [Act.put, List.setIfInBounds_toArray, List.set_cons_succ, List.set_cons_zero]
 repeat still_step
 refine wpStill_nil ?_
 go_wp2_with fail
 refine (kN st HS.out _ _ W0.drew).mono ?_
 rintro e w1 ⟨rfl, hb1⟩
 have a0 : w1.heap[w.heap.size]? = some (.cells (S.v32 st) 257 (0, 0)) := (hb1.block _ (by show w.heap.size < W0.heap.size; omega)).trans J0.out
 have a1 : w1.heap[w.heap.size + 1]? = some (.cells (S.v8 (S.zeros 32)) 184 (0, 0)) := (hb1.block _ (by show w.heap.size + 1 < W0.heap.size; omega)).trans J1.out
 have hn1 : Below w.heap.size w w1 := J2.out.drew.trans (hb1.mono (by show w.heap.size <= W0.heap.size; omega))
 have hz1 : w.heap.size + 2 <= w1.heap.size := ltr hz0 hb1.size
 have I0 := hide a0
 clear hb1 J0 J1 J2 hz0 a0
 go_wp2_with (refine wpList_store_row rfl 257 _ _ rfl w.heap.size (S.v32 st) rfl rfl 257 _ I0.out J3.out rfl (S.iP _) ?_)
 simp only [Act.put]
 generalize hW1 : w1.setRow w.heap.size (S.v32 st) = W1
 have r0 : W1.heap[w.heap.size]? = some (.cells (S.v32 st) 257 (0, 0)) := by rw [<- hW1]; exact setRow_heap _ _ _ _ _ _ I0.out
 have r1 : W1.heap[w.heap.size + 1]? = some (.cells (S.v8 (S.zeros 32)) 184 (0, 0)) := by rw [<- hW1]; exact (setRow_other _ _ _ _ (by omega)).trans a1
 have hnx : Below w.heap.size w W1 := by rw [<- hW1]; exact below_setRow hn1 (lr _) _
 have hz0 : w.heap.size + 2 <= W1.heap.size := by rw [<- hW1]; simpa using hz1
 have J1 := hide r1
 have J2 := hide hnx
 clear hW1 I0 a1 hn1 hz1 r1 hnx
 clear w1
 obtain ⟨L, hL⟩ : ∃ L : Nat, L = before := ⟨_, rfl⟩
 subst hL
 have hw0 : IntKind.u64.wrap 0 = 0 := by decide
 have hadd : IntKind.u64.wrap (L : Int) = (L : Int) := fA L (by omega)
 have hL8 : Hid (8 * L < 18446744073709551616) := by show 8 * L < 18446744073709551616; omega
 obtain ⟨s, hs0⟩ : ∃ s : S.R8, s = S.toR st := ⟨_, rfl⟩
 have hof : S.ofR s = st := by rw [hs0]; exact S.lY _ HS.out
 rw [<- hof] at r0
 have c0 : W1.cell? ⟨w.heap.size, 0, none⟩ = some (.int .u32 (s.a.toNat : Int)) := aj r0 0 (by simp [S.ofR])
 have c1 : W1.cell? ⟨w.heap.size, 1, none⟩ = some (.int .u32 (s.b.toNat : Int)) := aj r0 1 (by simp [S.ofR])
 have c2 : W1.cell? ⟨w.heap.size, 2, none⟩ = some (.int .u32 (s.c.toNat : Int)) := aj r0 2 (by simp [S.ofR])
 have c3 : W1.cell? ⟨w.heap.size, 3, none⟩ = some (.int .u32 (s.d.toNat : Int)) := aj r0 3 (by simp [S.ofR])
 have c4 : W1.cell? ⟨w.heap.size, 4, none⟩ = some (.int .u32 (s.e.toNat : Int)) := aj r0 4 (by simp [S.ofR])
 have c5 : W1.cell? ⟨w.heap.size, 5, none⟩ = some (.int .u32 (s.f.toNat : Int)) := aj r0 5 (by simp [S.ofR])
 have c6 : W1.cell? ⟨w.heap.size, 6, none⟩ = some (.int .u32 (s.g.toNat : Int)) := aj r0 6 (by simp [S.ofR])
 have c7 : W1.cell? ⟨w.heap.size, 7, none⟩ = some (.int .u32 (s.h.toNat : Int)) := aj r0 7 (by simp [S.ofR])
 have J0 := hide r0
 have HO := hide hof
 have HD : Hid (([] : List UInt8).length < 64) := by show ([] : List UInt8).length < 64; decide
 have HD2 : Hid (0 = ([] : List UInt8).length) := rfl
 have HQ : Hid (64 * S.lF ([] : List UInt8) <= 140737488355328) := by show 64 * S.lF ([] : List UInt8) <= 140737488355328; decide
 have Dr : ∀ ao, Hid (Src W1.drew ao ([] : List UInt8)) := fun _ hp => absurd hp (by simp)
 clear r0 hof hs0
 go_region_with (first | (go_at_call 197; refine (nz ([] : List UInt8) HD.out _ _ _ L ?_ hL8.out _ ?_).mono ?_; (first | exact HD2.out | (have h9 := HD2.out; omega)); exact (Dr _).out; rintro e w2 ⟨rfl, hr2, hb2⟩; have d0 := (hb2.cell (p := ⟨w.heap.size, 0, none⟩) (by show w.heap.size < W1.heap.size; omega)).trans c0; have d1 := (hb2.cell (p := ⟨w.heap.size, 1, none⟩) (by show w.heap.size < W1.heap.size; omega)).trans c1; have d2 := (hb2.cell (p := ⟨w.heap.size, 2, none⟩) (by show w.heap.size < W1.heap.size; omega)).trans c2; have d3 := (hb2.cell (p := ⟨w.heap.size, 3, none⟩) (by show w.heap.size < W1.heap.size; omega)).trans c3; have d4 := (hb2.cell (p := ⟨w.heap.size, 4, none⟩) (by show w.heap.size < W1.heap.size; omega)).trans c4; have d5 := (hb2.cell (p := ⟨w.heap.size, 5, none⟩) (by show w.heap.size < W1.heap.size; omega)).trans c5; have d6 := (hb2.cell (p := ⟨w.heap.size, 6, none⟩) (by show w.heap.size < W1.heap.size; omega)).trans c6; have d7 := (hb2.cell (p := ⟨w.heap.size, 7, none⟩) (by show w.heap.size < W1.heap.size; omega)).trans c7) | (go_at_call 196; refine (jV s W1.heap.size 0 _ _ (S.lF ([] : List UInt8)) (S.ending ([] : List UInt8) (8 * L)) _ rfl (lr _) HQ.out (aa hr2) (HK.out.below (J2.out.drew.trans (hb2.mono (by show w.heap.size <= W1.heap.size; omega))) h0) (pM HD.out hr2)).mono ?_; rintro e w3 ⟨x, rfl, hx, hb3⟩; have hr3 := (hb3.block w.heap.size (by have := hb2.size; show w.heap.size < w2.heap.size; have e1 : W1.drew.heap.size = W1.heap.size := rfl; omega)).trans ((hb2.block w.heap.size (by show w.heap.size < W1.heap.size; omega)).trans J0.out); have k0 := aj hr3 0 (by simp [S.ofR]); have f0 := frozen_of_row _ _ 0 _ _ hr3; have k1 := aj hr3 1 (by simp [S.ofR]); have f1 := frozen_of_row _ _ 1 _ _ hr3; have k2 := aj hr3 2 (by simp [S.ofR]); have f2 := frozen_of_row _ _ 2 _ _ hr3; have k3 := aj hr3 3 (by simp [S.ofR]); have f3 := frozen_of_row _ _ 3 _ _ hr3; have k4 := aj hr3 4 (by simp [S.ofR]); have f4 := frozen_of_row _ _ 4 _ _ hr3; have k5 := aj hr3 5 (by simp [S.ofR]); have f5 := frozen_of_row _ _ 5 _ _ hr3; have k6 := aj hr3 6 (by simp [S.ofR]); have f6 := frozen_of_row _ _ 6 _ _ hr3; have k7 := aj hr3 7 (by simp [S.ofR]); have f7 := frozen_of_row _ _ 7 _ _ hr3))
 all_goals
  have hz2 : W1.heap.size <= w2.heap.size := hb2.size
  have hz3 : w2.heap.size <= w3.heap.size := hb3.size
  have a1 : w3.heap[w.heap.size + 1]? = some (.cells (S.v8 (S.zeros 32)) 184 (0, 0)) := (hb3.block _ (by omega)).trans ((hb2.block _ (by show w.heap.size + 1 < W1.heap.size; omega)).trans J1.out)
  have hn3 : Below w.heap.size w w3 := (J2.out.drew.trans (hb2.mono (by show w.heap.size <= W1.heap.size; omega))).trans (hb3.mono (by omega))
  generalize hW2 : World.setCell _ _ (Value.int .u32 (x.h.toNat : Int)) = W2
  have r0 : W2.heap[w.heap.size]? = some (.cells (S.v32 (S.ofR x)) 257 (0, 0)) := by rw [<- hW2]; exact vJ hr3 rfl x
  have r1 : W2.heap[w.heap.size + 1]? = some (.cells (S.v8 (S.zeros 32)) 184 (0, 0)) := by
   rw [<- hW2]
   iterate 8 rw [heap_setCell_other _ _ _ _ (by simp)]
   exact a1
  have hnx : Below w.heap.size w W2 := by
   rw [<- hW2]
   iterate 8 refine Below.setCell ?_ (by exact lr _) _
   exact hn3
  have hz4 : w.heap.size + 2 <= W2.heap.size := by have := aa r1; omega
  have hs : (Tryz.prog.info? 257).map (·.size) = some (S.v32 (S.ofR x)).size := gZ
  have hfin : S.fin st L [] = S.dig (S.ofR x) 8 := by
   rw [hx, HO.out]; rfl
  have P0 := hide r0
  have P1 := hide r1
  have P2 := hide hnx
  have P3 := hide hs
  have P4 := hide hfin
  clear hW2 r0 r1 hnx hs hfin a1 hn3 hb2 hb3 hr2 hr3 hx c0 c1 c2 c3 c4 c5 c6 c7 d0 d1 d2 d3 d4 d5 d6 d7 k0 k1 k2 k3 k4 k5 k6 k7 f0 f1 f2 f3 f4 f5 f6 f7 hadd hw0
  go_wp2_with (first | refine wpList_load_row rfl 257 _ rfl w.heap.size rfl 257 _ _ _ P0.out Tryz.underlying257 rfl P3.out ?_ | fail)
  refine (kI (S.ofR x) rfl _).mono ?_
  rintro e w4 ⟨rfl, hb4⟩
  rw [<- P4.out]
  have a1 : w4.heap[w.heap.size + 1]? = some (.cells (S.v8 (S.zeros 32)) 184 (0, 0)) := (hb4.block _ (by omega)).trans P1.out
  have hs : (Tryz.prog.info? 184).map (·.size) = some (S.v8 (S.fin st L [])).size := by rw [S.aU, S.fin, S.ed]; exact rF
  have ho : (S.v8 (S.zeros 32)).size = (S.v8 (S.fin st L [])).size := by rw [S.aU, S.aU, S.fin, S.ed]; rfl
  have hn4 : Below w.heap.size w w4 := P2.out.trans (hb4.mono (by omega))
  have Q1 := hide a1
  have Q2 := hide hs
  have Q3 := hide ho
  clear a1 hs ho hb4
  go_wp2_with (refine wpList_store_row rfl 184 _ _ rfl (w.heap.size + 1) (S.v8 (S.fin st L [])) rfl rfl 184 _ Q1.out Q2.out Q3.out (S.jU _) ?_)
  refine bodyPost_ret (v := .agg (S.v8 (S.fin st L []))) (results_cell_row (g := w.heap.size + 1) (t := 184) (fr := (0, 0)) Tryz.results178 _ _ _ _ rfl (setRow_heap _ _ _ _ _ _ Q1.out) Tryz.underlying184 rfl Q2.out) rfl ⟨rfl, below_setRow hn4 (by omega) _⟩
end Go.Proofs.YteealihknndclabGreatDoor
namespace Go.Proofs.YteealihknndclabGreatDoor
open Go.RowKit
theorem zJ (st : List UInt32) (hst : st.length = 8) (before : Nat) (hbef : before <= 64) (v : Value) (bs : List UInt8) (w : World) (hv : SliceAt w v bs) (hK : KAt w) :
  Calls Tryz.prog 178 #[.agg (S.v32 st), .int .u64 (before : Int), v] w fun e w' => e = .returned (.agg (S.v8 (S.fin st before bs))) /\ Below w.heap.size w w' := by
 rcases hv with ⟨rfl, rfl⟩ | ⟨a, cap, rfl, _, rfl⟩ | ⟨b, off, cap, rfl, h1, h2, h3, h4⟩
 ·exact zI st hst before hbef w hK
 ·exact wB st hst before hbef a cap w hK
 ·exact ym st hst before hbef b off bs.length cap bs w rfl h1 h2 h3 hK h4
def S.sum (bs : List UInt8) : List UInt8 := S.fin S.H0 0 bs
theorem S.sum_length (bs : List UInt8) : (S.sum bs).length = 32 := S.ed _ _
theorem FT (v : Value) (bs : List UInt8) (w : World) (hv : SliceAt w v bs) (hK : KAt w) :
  Calls Tryz.prog 178 #[.agg (S.v32 S.H0), .int .u64 0, v] w fun e w' => e = .returned (.agg (S.v8 (S.sum bs))) /\ Below w.heap.size w w' :=
 zJ S.H0 rfl 0 (by omega) v bs w hv hK
theorem nL (bs : List UInt8) : (Tryz.prog.info? 184).map (·.size) = some (S.v8 (S.sum bs)).size := by rw [S.aU, S.sum_length]; exact rF
theorem uk (bs : List UInt8) : (S.v8 (S.zeros 32)).size = (S.v8 (S.sum bs)).size := by rw [S.aU, S.aU, S.sum_length]; rfl
set_option maxHeartbeats 800000 in
set_option maxRecDepth 100000 in
theorem AU (v : Value) (bs : List UInt8) (w : World) (hv : SliceAt w v bs) (hK : KAt w) :
  Calls Tryz.prog 146 #[v] w fun e w' => e = .returned (.agg (S.v8 (S.sum bs))) /\ Below w.heap.size w w' := by
 have HV := hide hv
 have HK := hide hK
 have h0 := hK.pos
 clear hv hK
 go_enter Tryz.func146, Tryz.ntmps146
 go_wp2_with fail
 generalize hW0 : w.alloc _ = W0
 have r0 : W0.heap[w.heap.size]? = some (.cells (S.v8 (S.zeros 32)) 184 (0, 0)) := by rw [<- hW0]; exact heap_alloc_new _ _
 have hn0 : Below w.heap.size w W0 := by rw [<- hW0]; exact ba ..
 clear hW0
 refine (sK W0).mono ?_
 rintro e w1 ⟨rfl, hb1⟩
 have hz0 := aa r0
 have hn1 : Below w.heap.size w w1 := hn0.trans (hb1.mono (by omega))
 have r1 := (hb1.block w.heap.size hz0).trans r0
 have R1 := hide r1
 have N1 := hide hn1
 clear r0 hn0 hb1 r1 hn1 hz0
 go_wp2_with fail
 refine (FT v bs w1 (HV.out.below N1.out (lr _)) (HK.out.below N1.out h0)).mono ?_
 rintro e w2 ⟨rfl, hb2⟩
 have hz1 := aa R1.out
 have hn2 : Below w.heap.size w w2 := N1.out.trans (hb2.mono (by omega))
 have r2 := (hb2.block w.heap.size hz1).trans R1.out
 have R2 := hide r2
 clear hb2 r2
 go_wp2_with (refine wpList_store_row rfl 184 _ _ rfl w.heap.size (S.v8 (S.sum bs)) rfl rfl 184 _ R2.out (nL bs) (uk bs) (S.jU _) ?_)
 exact bodyPost_ret (v := .agg (S.v8 (S.sum bs))) (results_cell_row (g := w.heap.size) (t := 184) (fr := (0, 0)) Tryz.results146 _ _ _ _ rfl (setRow_heap _ _ _ _ _ _ R2.out) Tryz.underlying184 rfl (nL bs)) rfl ⟨rfl, below_setRow hn2 (lr _) _⟩
end Go.Proofs.YteealihknndclabGreatDoor
namespace Go.Proofs.YteealihknndclabGreatDoor
open Go.RowKit
end Go.Proofs.YteealihknndclabGreatDoor
namespace Go.Proofs.YteealihknndclabGreatDoor
open Go.RowKit
end Go.Proofs.YteealihknndclabGreatDoor
namespace Go.Proofs.YteealihknndclabGreatDoor
open Go.RowKit
def pU (w : World) (g : Nat) (bss : List (List UInt8)) : Prop :=
 g < w.heap.size /\ ∀ j, j < bss.length -> ∃ v, w.cell? ⟨g, j, none⟩ = some v /\ SliceAt w v (bss.getD j [])
theorem pU.below {w w' : World} {g B : Nat} {bss : List (List UInt8)} (h : pU w g bss) (hb : Below B w w') (hB : w.heap.size <= B) : pU w' g bss :=
 ⟨Nat.lt_of_lt_of_le h.1 hb.size, fun j hj => by
  obtain ⟨v, h1, h2⟩ := h.2 j hj
  exact ⟨v, (hb.cell (p := ⟨g, j, none⟩) (Nat.lt_of_lt_of_le h.1 hB)).trans h1, h2.below hb hB⟩⟩
def S.pre (bss : List (List UInt8)) (k : Nat) : List UInt8 := (bss.take k).flatten
theorem S.pre_all (bss : List (List UInt8)) : S.pre bss bss.length = bss.flatten := by rw [S.pre, List.take_length]
theorem S.pre_succ (bss : List (List UInt8)) (k : Nat) (h : k < bss.length) : S.pre bss (k + 1) = S.pre bss k ++ bss.getD k [] := by
 unfold S.pre
 rw [List.take_succ_eq_append_getElem h, List.flatten_append]
 simp [List.getD_eq_getElem?_getD, h]
theorem S.pre_le (bss : List (List UInt8)) (k : Nat) : (S.pre bss k).length <= bss.flatten.length := by
 have h : bss.flatten = (bss.take k).flatten ++ (bss.drop k).flatten := by rw [<- List.flatten_append, List.take_append_drop]
 rw [h, List.length_append]
 exact Nat.le_add_right _ _
theorem kV (w : World) (g cap : Nat) (u : Value) (bs xs : List UInt8) (ty : TypeId) (hroom : Room w g cap bs) (hu : SliceAt w u xs) (hfit : bs.length + xs.length <= cap) :
  ∃ v' w', (Builtin.append_ #[22, 22] ty #[.slice (some ⟨g, 0, none⟩) bs.length cap, u]).run Tryz.prog w = .ok v' w' /\ (v' = .slice (some ⟨g, 0, none⟩) (bs ++ xs).length cap /\ Room w' g cap (bs ++ xs) /\ Below g w w') := by
 obtain ⟨i, hi, hz0, hz1, hz2⟩ := info_parts Fy
 obtain ⟨cur, h1, h2, h3, h4⟩ := hroom
 have key : ∀ (ad : Addr) (c : Nat), (∀ j x, (S.v8l xs)[j]? = some x -> w.cell? (ad.add j) = some x) -> u = .slice (some ad) xs.length c -> ∃ v' w', (Builtin.append_ #[22, 22] ty #[.slice (some ⟨g, 0, none⟩) bs.length cap, u]).run Tryz.prog w = .ok v' w' /\ (v' = .slice (some ⟨g, 0, none⟩) (bs ++ xs).length cap /\ Room w' g cap (bs ++ xs) /\ Below g w w') := by
  rintro ad c hc rfl
  have hr := run_append_room (P := Tryz.prog) w 22 ty 5 i Tryz.underlying22 hi g bs.length cap cur h1 ad xs.length c (S.v8l xs) (by rw [S.ae, hz1]; omega) hc (S.df _) hfit (by rw [S.ae, hz1]; omega)
  rw [hz1, Nat.mul_one, S.ae, h4] at hr
  refine ⟨_, _, hr, by rw [List.length_append], ⟨_, setRow_heap w g cur _ 5 _ h1, ?_, by rw [List.length_append]; exact hfit, ?_⟩, below_setRow (Below.refl _ _) (lr _) _⟩
  ·simp only [List.size_toArray, List.length_append, List.length_drop, Array.length_toList, S.ae]
   omega
  ·rw [v8l_app]
   have hl : (S.v8l bs ++ S.v8l xs).length = (bs ++ xs).length := by rw [List.length_append, List.length_append, S.ae, S.ae]
   rw [<- hl]
   exact List.take_left
 rcases hu with ⟨rfl, rfl⟩ | ⟨a, c, rfl, _, rfl⟩ | ⟨b, off, c, rfl, q1, q2, q3, q4⟩
 ·refine ⟨.slice (some ⟨g, 0, none⟩) bs.length cap, w, ?_, by rw [List.append_nil], by rw [List.append_nil]; exact ⟨cur, h1, h2, h3, h4⟩, Below.refl _ _⟩
  simp [Builtin.append_, run_underlying Tryz.underlying22, sizeOf, typeInfo, hi, Builtin.lenOf, Builtin.firstCells, h3, storeCells]
 ·exact key a c (fun j x h => by simp [S.v8l] at h) rfl
 ·refine key ⟨b, off, none⟩ c (fun j x h => ?_) rfl
  obtain ⟨rfl, hj⟩ := S.oK xs j x h
  rw [Addr.add_lit]
  exact q4 j hj
theorem BU (c : Nat) (hc : c <= 140737488355328) (w : World) : (Instr.makeSlice 22 (.int .i64 0) (.int .i64 (c : Int))).run Tryz.prog w = .ok (.slice (some ⟨w.heap.size, 0, none⟩) 0 c) (w.alloc (.cells (madeCells #[.int .u8 0] c) 5)) :=
 run_make_room 22 5 (.int .u8 0) 1 Tryz.underlying22 Fy rfl .i64 .i64 c (by omega) (by omega) w
theorem Bv (w : World) (c : Nat) : Room (w.alloc (.cells (madeCells #[.int .u8 0] c) 5)) w.heap.size c [] :=
 ⟨_, heap_alloc_new w _, by simp [madeCells], Nat.zero_le _, rfl⟩
set_option maxHeartbeats 1600000 in
set_option maxRecDepth 100000 in
theorem Fx (g n c : Nat) (bss : List (List UInt8)) (w : World) (hn : n = bss.length) (hn8 : n <= 1000000) (hnc : n <= c) (hl : pU w g bss) (hT : bss.flatten.length <= 140737488355328) :
  Calls Tryz.prog 147 #[.slice (some ⟨g, 0, none⟩) n c] w fun e w' => ∃ g', e = .returned (.slice (some ⟨g', 0, none⟩) bss.flatten.length bss.flatten.length) /\ w.heap.size <= g' /\ Room w' g' bss.flatten.length bss.flatten /\ Below w.heap.size w w' := by
 have HL := hide hl
 have HN := hide hn
 obtain ⟨T, hTT⟩ : ∃ T, T = bss.flatten.length := ⟨_, rfl⟩
 rw [<- hTT] at hT ⊢
 have HT := hide hTT
 have hmk := BU T hT
 clear hl hn hTT
 go_enter Tryz.func147, Tryz.ntmps147
 go_wp2
 go_loopw [3, 11] (fun s i wr => ∃ k : Nat, k <= n /\ i = .int .i64 (k : Int) /\ s = .int .i64 (((S.pre bss k).length : Nat) : Int) /\ w = wr)
  (fun _ i _ => n - (intOf i).toNat)
 case atStart => exact ⟨0, by omega, rfl, rfl, rfl⟩
 case round =>
  obtain ⟨k, hk, rfl, rfl, rfl⟩ := hrel
  by_cases hlt : k < n
  ·obtain ⟨v, hc, hv⟩ := HL.out.2 k (by have := HN.out; omega)
   obtain ⟨ao, len, cap, rfl, hlen, hm⟩ := hv.form
   have hps : (S.pre bss (k + 1)).length = (S.pre bss k).length + len := by rw [S.pre_succ bss k (by have := HN.out; omega), List.length_append, hlen]
   have hpl := S.pre_le bss (k + 1)
   rw [<- HT.out, hps] at hpl
   obtain ⟨p, hp⟩ : ∃ p, p = (S.pre bss k).length := ⟨_, rfl⟩
   rw [<- hp] at hpl hps ⊢
   have q1 : (0 : Int) <= (k : Int) := by omega
   have q2 : (k : Int) < (n : Int) := by omega
   have q3 : IntKind.i64.wrap ((p : Int) + (len : Int)) = (p : Int) + (len : Int) := by rw [IntKind.wrap_i64]; omega
   have q4 : IntKind.i64.wrap ((k : Int) + 1) = (k : Int) + 1 := by rw [IntKind.wrap_i64]; omega
   have PS := hide hps
   clear hp hv hlen hps
   go_wp2
   exact ⟨⟨k + 1, by omega, by simp, by rw [PS.out]; simp, trivial⟩, by simp [intOf]; omega⟩
  ·obtain rfl : k = n := by omega
   have hpn : (S.pre bss k).length = T := by rw [HN.out, S.pre_all, HT.out]
   rw [hpn]
   clear hpn hlt hk
   go_wp2
   generalize hW0 : w.alloc _ = W0
   have R0 : Room W0 w.heap.size T [] := by rw [<- hW0]; exact Bv w T
   have B0 : Below w.heap.size w W0 := by rw [<- hW0]; exact ba ..
   have RH := hide R0
   have BH := hide B0
   clear hW0 R0 B0
   go_loopw [6, 24] (fun s i wr => ∃ j : Nat, j <= k /\ i = .int .i64 (j : Int) /\ s = .slice (some ⟨w.heap.size, 0, none⟩) (S.pre bss j).length T /\ Room wr w.heap.size T (S.pre bss j) /\ Below w.heap.size w wr)
    (fun _ i _ => k - (intOf i).toNat)
   case atStart => exact ⟨0, by omega, rfl, rfl, RH.out, BH.out⟩
   case round =>
    obtain ⟨j, hj, rfl, rfl, hR, hB⟩ := hrel
    by_cases hlt : j < k
    ·obtain ⟨v, hc, hv⟩ := (HL.out.below hB (lr _)).2 j (by have := HN.out; omega)
     obtain ⟨ao, len, cap, rfl, hlen, hm⟩ := hv.form
     have hps := S.pre_succ bss j (by have := HN.out; omega)
     have hpl := S.pre_le bss (j + 1)
     rw [<- HT.out, hps, List.length_append] at hpl
     have q1 : (0 : Int) <= (j : Int) := by omega
     have q2 : (j : Int) < (k : Int) := by omega
     have q4 : IntKind.i64.wrap ((j : Int) + 1) = (j : Int) + 1 := by rw [IntKind.wrap_i64]; omega
     have PS := hide hps
     have RR := hide hR
     have BB := hide hB
     have SS := hide hv
     have PL := hide hpl
     clear hps hR hB hv hlen hm hpl
     go_wp2_with (at_builtin; (refine aA rfl (.tmp 28) (.tmp 29) 22 22 rfl _ _ rfl rfl (kV _ w.heap.size T _ (S.pre bss j) (bss.getD j []) 22 RR.out SS.out PL.out) ?_; rintro v' w' ⟨rfl, hR', hB'⟩))
     have hR2 := hide hR'
     have hlen2 := congrArg List.length PS.out
     rw [List.length_append, List.getD_eq_getElem?_getD] at hlen2
     exact ⟨⟨j + 1, by omega, by simp, by rw [hlen2], by rw [PS.out]; exact hR2.out, BB.out.trans hB'⟩, by simp [intOf]; omega⟩
    ·obtain rfl : j = k := by omega
     have hpn : S.pre bss j = bss.flatten := by rw [HN.out, S.pre_all]
     rw [hpn] at hR ⊢
     go_wp2
     go_ret
     exact ⟨_, by rw [HT.out]; rfl, lr _, hR, hB⟩
end Go.Proofs.YteealihknndclabGreatDoor
