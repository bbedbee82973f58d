/- Do: changes of a tree of one leaf. -/
import Derived.Test.YteealihknndclabGreatDoorEc
import Derived.Test.YteealihknndclabGreatDoorCd
import Derived.RangeFuncNested
import Derived.RangeFuncBound
import Derived.RangeFuncCalls
import Derived.RangeFuncLeaves
import Derived.Shelf.Abstract
import Derived.Shelf.RegionOpen
import Derived.OwnWalkIn
import Derived.TacticsInMore
import Derived.LoopNIn
import Derived.LoopIn
import Derived.Test.YteealihknndclabGreatDoorBase
import Derived.Test.YteealihknndclabGreatDoorBk
import Derived.WalkKit
import Derived.OneCell
import Derived.Deep.DeepCutAuto
import Derived.Test.YteealihknndclabGreatDoorBy
import Derived.BigQuiet
import Derived.Test.YteealihknndclabGreatDoorCc
import Derived.Lib.ConvBytes
namespace Go.Proofs.YteealihknndclabGreatDoor
open Go.RowKit

def BtO (w0 w : World) (o : Ow) (gt gs n : Nat) (es : List S.Ent) : Prop :=
 ∃ d p t pg, Bt1 w0 w o d p t pg es /\ jr w gt gs /\ eD w gs o /\ ¬ o.has gt /\ ¬ o.has gs /\ t <= n
theorem BtO.then {w0 w W : World} {o : Ow} {gt gs n : Nat} {es : List S.Ent} (h : BtO w0 w o gt gs n es) (hb : Below w.heap.size w W) : BtO w0 W o gt gs n es := by
 obtain ⟨d, p, t, pg, h1, h2, h3, h4, h5, h6⟩ := h
 exact ⟨d, p, t, pg, h1.then hb, (hb.block gt (aa h2)).trans h2, (hb.block gs (aa h3)).trans h3, h4, h5, h6⟩
theorem BtO.rds {w0 w : World} {o : Ow} {gt gs n : Nat} {es : List S.Ent} (h : BtO w0 w o gt gs n es) : ∃ pg, Rds w.heap.size w gs pg /\ jr w gt gs /\ S.nE pg es := by
 obtain ⟨d, p, t, pg, h1, h2, h3, _⟩ := h
 exact ⟨pg, h1.rds h3, h2, h1.leaf⟩
theorem BtO.below {w0 w : World} {o : Ow} {gt gs n : Nat} {es : List S.Ent} (h : BtO w0 w o gt gs n es) : Below w0.heap.size w0 w := by
 obtain ⟨d, p, t, pg, h1, _⟩ := h
 exact h1.pgs.below
set_option maxHeartbeats 16000000 in
set_option maxRecDepth 10000 in
theorem do_ok (w0 : World) (o : Ow) (gt gs n b off cap : Nat) (dc : List ChV) (cs : List S.Cg) (es : List S.Ent) (w : World) (h : BtO w0 w o gt gs n es) (h0 : ∀ j u, (dc.flatMap bg)[j]? = some u -> w.cell? ⟨b, off + j, none⟩ = some u) (hne : dc ≠ []) (hl19 : dc.length <= 19) (hcap : dc.length <= cap) (hg : (dc.all ChV.good) = true) (hcs : dL w dc cs) (hle : es.length <= 9000) (hmk : S.bC 0 (S.mrg es (S.lasts cs))) (hn : n + 2 < 18446744073709551616) :
  Calls Tryz.prog 21 #[.pointer (some ⟨gt, 0, none⟩), .slice (some ⟨b, off, none⟩) dc.length cap] w fun e w' => e = .returned (.int .i64 0) /\ ∃ o', o'.g = o.g /\ BtO w0 w' o' gt gs (n + 2) (S.mrg es (S.lasts cs)) /\ Chg o.has w w' /\ ∀ k, o'.has k -> o.has k \/ w.heap.size <= k := by
 have hels : Els bg w (.slice (some ⟨b, off, none⟩) dc.length cap) dc := Or.inr (Or.inr ⟨b, off, cap, rfl, hcap, by omega, by
  obtain ⟨x, r, rfl⟩ := List.exists_cons_of_ne_nil hne
  exact World.block_lt_of_cell? w _ (h0 0 (.slice x.ka x.kn x.kc) rfl), h0⟩)
 have HPM := hide (tL _ dc w hels)
 have HGD : Hid ((dc.all ChV.good && decide (dc.length <= 80)) = true) := by show (dc.all ChV.good && decide (dc.length <= 80)) = true; rw [hg, Bool.true_and]; exact decide_eq_true (by omega)
 have HNE := hide hne
 have HL19 := hide hl19
 have HCL := hide (show cs.length = dc.length from hcs.1.symm)
 have HLE := hide hle
 have HMK := hide hmk
 have HNT := hide hn
 obtain ⟨m, hm⟩ : ∃ m, m = dc.length := ⟨_, rfl⟩
 have HPOS : 0 < m := by rw [hm]; exact List.length_pos_iff.2 hne
 have q0 : ¬ (m : Int) = 0 := by omega
 rw [<- hm] at HPM HGD ⊢
 have HN := hide hm
 have HB := hide h
 have H00 := hide h0
 have HCS0 := hide hcs
 clear hels hg hne hl19 hcap hcs hle hmk hn hm h0 HPOS h
 go_enter Tryz.func21, Tryz.ntmps21
 go_wp2_with fail
 refine HPM.out.mono ?_
 rintro e w2 ⟨rfl, hb⟩
 rw [HGD.out]
 have HB2 := hide (HB.out.then hb)
 have HCS := hide (HCS0.out.below hb)
 have H0 : Hid (∀ j u, (dc.flatMap bg)[j]? = some u -> w2.cell? ⟨b, off + j, none⟩ = some u) := fun j u h => (hb.cell (p := ⟨b, off + j, none⟩) (World.block_lt_of_cell? _ _ (H00.out j u h))).trans (H00.out j u h)
 have HW2 := hide hb
 clear hb H00 HCS0 HPM
 go_upto_region 5 with fail
 obtain ⟨d, p, t, pg, hb1, htr, hst, ngt, ngs, htn⟩ := HB2.out
 have HB1 := hide hb1
 have HTR := hide htr
 have HST := hide hst
 have NGT := hide ngt
 have NGS := hide ngs
 have HTN := hide htn
 have HRD := hide (hb1.rds hst)
 have HLF := hide hb1.leaf
 clear hb1 htr hst ngt ngs htn HB HB2
 refine wp_region_noPanic ?_
 refine wp_region_held_drew (S := (fun W => Below w2.heap.size w2 W)) follows ((Below.refl _ _).drew) (fun hHeld => ?_)
 clear hHeld
 have hHeld : Below w2.heap.size w2 w2.drew := (Below.refl _ _).drew
 have CZ0 := hide hHeld
 generalize w2.drew = Z0 at CZ0 hHeld ⊢
 refine tq 0 ?_
 simp only [uA]
 refine tq 1 ?_
 simp only [uA]
 refine tq 2 ?_
 simp only [uA]
 refine tk 3 ?_ rfl (Or.inl ⟨by rfl, ?_⟩) ?_
 rotate_left
 ·intro w hSw
  have ct := (hSw.cell (p := ⟨gt, 0, none⟩) (aa HTR.out)).trans (lV HTR.out)
  clear hSw
  go_simp
  all_goals with_reducible rfl
 simp only [uA]
 refine tq 4 ?_
 simp only [uA]
 refine r1 5 fun K hK => ?_
 go_simp
 rw [HN.out]
 refine (Cb b off cap dc cs Z0 (fun j u h => (CZ0.out.cell (p := ⟨b, off + j, none⟩) (World.block_lt_of_cell? _ _ (H0.out j u h))).trans (H0.out j u h)) HNE.out HL19.out (HCS.out.below CZ0.out)).mono ?_
 rintro e Z1 ⟨⟨vl, dl, rfl, hel, hca, hone⟩, hbz⟩
 rw [<- HN.out]
 have CZ1 := hide (CZ0.out.trans (hbz.mono CZ0.out.size))
 have HEL := hide hel
 have HCA := hide hca
 clear hel hca hbz hone CZ0 hHeld
 refine hK.out _ _ CZ1.out (fun hHeld => ?_)
 clear hK K
 try simp only [uA]
 refine r1 6 fun K hK => ?_
 go_simp
 refine (F6 w2.heap.size gs pg es dl (S.lasts cs) vl Z1 (HRD.out.below CZ1.out) HLF.out HEL.out HCA.out (by have := HLE.out; have := HL19.out; have := S.vW cs; have := HCL.out; omega) HMK.out).mono ?_
 rintro e Z2 ⟨vs, q1, q2, rfl, hsh, hr1, hr2, hq1, hq2, hbz⟩
 have CZ2 := hide (CZ1.out.trans (hbz.mono CZ1.out.size))
 have SH := hide hsh
 have R1 := hide hr1
 have R2 := hide hr2
 have Q12 := hide (show w2.heap.size <= q1 /\ w2.heap.size <= q2 from ⟨ltr CZ1.out.size hq1, ltr CZ1.out.size hq2⟩)
 clear hsh hr1 hr2 hq1 hq2 hbz CZ1 hHeld HEL HCA
 refine hK.out _ _ CZ2.out (fun hHeld => ?_)
 clear hK K
 try simp only [uA]
 refine tq 7 ?_
 simp only [uA]
 refine tq 8 ?_
 simp only [uA]
 refine tq 9 ?_
 simp only [uA]
 refine tq 10 ?_
 simp only [uA]
 refine tq 11 ?_
 simp only [uA]
 refine wpAnyH_done (by kernel_rfl) ?_ _
 refine NoPanic.normal ?_
 clear hHeld
 have HTRZ := hide ((CZ2.out.block gt (aa HTR.out)).trans HTR.out)
 have HSTZ := hide (show eD Z2 gs o from (CZ2.out.block gs (aa HST.out)).trans HST.out)
 have HBZ := hide (HB1.out.then CZ2.out)
 have ct := lV HTRZ.out
 go_wp2_with fail
 have HP2 := Ev w0 Z2 o d p t gs _ 1 0 q1 q2 vs pg (S.ic (S.mrg es (S.lasts cs))) HBZ.out.pgs HSTZ.out SH.out R1.out R2.out (S.jh HMK.out 1) (S.jh HMK.out 0)
  (fun e => by have h1 := HB1.out.pgs.dk.dk.lt q1 e; have := Q12.out; omega) (fun e => by have h1 := HB1.out.pgs.dk.dk.lt q2 e; have := Q12.out; omega) (by omega) (by omega) (by omega) NGS.out (by have := HTN.out; have := HNT.out; omega)
 refine HP2.mono ?_
 clear HP2
 rintro e w4 ⟨rfl, o', d', ho, hpg, hst4, hch, hhas⟩
 have HO' := hide ho
 have HPG := hide (uI HMK.out HBZ.out.size 1 0 (Or.inr ⟨rfl, rfl⟩) hpg)
 have HS4 := hide hst4
 have HT4 := hide (show jr w4 gt gs from hch.row HTRZ.out NGT.out)
 have HCH := hide (show Chg o.has w w4 from (Chg.ofBelow' HW2.out).trans ((Chg.ofBelow' CZ2.out (p := o.has)).trans hch (fun _ _ e => e)) (fun _ _ e => e))
 have HHA : Hid (∀ k, o'.has k -> o.has k \/ w.heap.size <= k) := fun k hk => by
  rcases hhas k hk with e | e
  ·exact Or.inl e
  ·exact Or.inr (ltr HW2.out.size (ltr CZ2.out.size e))
 have NG4 : Hid (¬ o'.has gt /\ ¬ o'.has gs) := ⟨fun e => by
  rcases hhas gt e with e | e
  ·exact NGT.out e
  ·have := aa HTRZ.out; omega, fun e => by
  rcases hhas gs e with e | e
  ·exact NGS.out e
  ·have := aa HSTZ.out; omega⟩
 clear ho hpg hst4 hch hhas ct
 go_wp2_with fail
 go_ret
 exact ⟨rfl, o', HO'.out, ⟨d', p, t + 2, _, HPG.out, HT4.out, HS4.out, NG4.out.1, NG4.out.2, by have := HTN.out; omega⟩, HCH.out, HHA.out⟩
end Go.Proofs.YteealihknndclabGreatDoor
namespace Go.Proofs.YteealihknndclabGreatDoor
open Go.RowKit Go.Shelf

def oF {α : Type} (J : α -> World -> Prop) : Prop := ∀ s A B, J s A -> Below A.heap.size A B -> J s B
def uj {α : Type} (B : Nat) (J : α -> World -> Prop) : Prop := ∀ s A l o o', J s A -> B <= l -> A.heap[l]? = some o -> o.isCells = false -> J s (A.putObj l o')
def Gp {α : Type} (n : Nat) (P : Program) (g : Nat) (lb : Array Value) (encs : α -> Array Value) (q : Nat -> Prop) (R : List α -> α -> World -> Prop) (S Sp : List α -> Prop) (w : World) : Prop :=
 ∀ (l : Nat) (J Jx : List α -> World -> Prop) (W : World), Below w.heap.size w W -> oF J -> oF Jx ->
  (∀ pre x V, J pre V -> R pre x V -> YieldAt Fence.wide (n - 1) P l (encs x) V fun e V' => (e = .returned (.bool true) /\ J (pre ++ [x]) V' /\ Chg q V V') \/ (e = .returned (.bool false) /\ Jx (pre ++ [x]) V')) ->
  J [] W -> CallsIn Fence.wide n P g (#[.func (.yield l) #[] #[]] ++ lb) W fun e W' => (∃ v, e = .returned v) /\ ((∃ xs, S xs /\ J xs W') \/ (∃ pre, Sp pre /\ Jx pre W'))
def qM {α : Type} (q : Nat -> Prop) (I : List α -> World -> Prop) (Ix : Code -> List α -> World -> Prop) (ys : List α) (W : World) : Exit -> Act -> World -> Prop
 | .normal, _, W' => Chg q W W' /\ I ys W'
 | .ret, _, W' => Chg q W W' /\ Ix .ret ys W'
 | .exit id, _, W' => Chg q W W' /\ Ix (.exit id) ys W'
 | .goto t, _, W' => Chg q W W' /\ Ix (.goto t) ys W'
 | .panic _, _, _ => False
 | .outgrown, _, _ => False
theorem iU {W : World} {l k : Nat} {o : Obj} (hl : l < W.heap.size) : (W.putObj l o).heap[k]? = if k = l then some o else W.heap[k]? := by
 by_cases e : k = l
 ·rw [if_pos e, e]; exact World.putObj_heap_same hl
 ·rw [if_neg e]; exact World.putObj_heap_other e
theorem Chg.round {q : Nat -> Prop} {W V : World} {l : Nat} {b f : Obj} (hl : l < W.heap.size) (hf : W.heap[l]? = some f) (h : Chg q (W.putObj l b) V) : Chg q W (V.putObj l f) := by
 have hs : (W.putObj l b).heap.size = W.heap.size := World.putObj_size
 have hV : l < V.heap.size := by have := h.size; omega
 refine ⟨h.os, h.tape, h.output, by have := h.size; rw [World.putObj_size]; omega, fun k hk hn => ?_⟩
 rw [iU hV]
 by_cases e : k = l
 ·rw [if_pos e, e, hf]
 ·rw [if_neg e, h.block k (by omega) hn, iU hl, if_neg e]
end Go.Proofs.YteealihknndclabGreatDoor
namespace Go.Proofs.YteealihknndclabGreatDoor
open Go.RowKit
open Go.Shelf
attribute [local go_sem] Oper.semAt_some

theorem S.rank_nil (ks : List (List UInt8)) : S.rank ks [] = 0 := by
 unfold S.rank
 rw [List.countP_eq_zero]
 intro a _
 cases a <;> simp [S.bU, Lib.compareBytes]
def uP (x : EnV) : Array Value := #[.agg #[.slice x.ka x.kn x.kc, .slice x.va x.vn x.vc]]
theorem dw.past {p : Nat -> Prop} {B : Nat} {w W : World} {x : EnV} {e : S.Ent} (h : dw B w x e) (hc : Chg p w W) (hp : ∀ k, p k -> k < B) : dw B W x e := by
 obtain ⟨q, h1, h2, h3, h4, h5⟩ := h.key
 refine ⟨⟨q, h1, h2, h3, h4, hc.row h5 (fun e => by have := hp _ e; omega)⟩, ?_, h.page⟩
 rcases h.val with h6 | ⟨q2, h6, h7, h8, h9, h10, h11⟩
 ·exact Or.inl h6
 ·exact Or.inr ⟨q2, h6, h7, h8, h9, hc.row h10 (fun e => by have := hp _ e; omega), h11⟩
def jJ (B : Nat) (es : List S.Ent) (pre : List EnV) (x : EnV) (V : World) : Prop := ∃ e, es[pre.length]? = some e /\ dw B V x e
theorem jJ.bare (B b : Nat) (es : List S.Ent) (pre : List EnV) : uj b (jJ B es pre) := by
 rintro x A l o o' ⟨e, h1, h2⟩ _ hl ho
 have kp : ∀ {k : Nat} {c : Array Value} {t : TypeId} {f : Nat × Nat}, A.heap[k]? = some (.cells c t f) -> (A.putObj l o').heap[k]? = some (.cells c t f) := fun {k c t f} h => by
  have : k ≠ l := fun e => by rw [e, hl] at h; injection h with h; rw [h] at ho; cases ho
  exact (World.putObj_heap_other this).trans h
 obtain ⟨q, g1, g2, g3, g4, g5⟩ := h2.key
 refine ⟨e, h1, ⟨q, g1, g2, g3, g4, kp g5⟩, ?_, h2.page⟩
 rcases h2.val with h6 | ⟨q2, h6, h7, h8, h9, h10, h11⟩
 ·exact Or.inl h6
 ·exact Or.inr ⟨q2, h6, h7, h8, h9, kp h10, h11⟩
theorem ccell4 {w : World} {b off i : Nat} {x : EnV} (h : ∀ (r : Nat) u, (aR x)[r]? = some u -> w.cell? ⟨b, off + (i * 4 + r), none⟩ = some u) :
  w.cell? ⟨b, off + i * 4, none⟩ = some (.slice x.ka x.kn x.kc) /\ w.cell? ⟨b, off + i * 4 + 1, none⟩ = some (.slice x.va x.vn x.vc) /\ w.cell? ⟨b, off + i * 4 + 2, none⟩ = some (.int .i64 x.pg) /\ w.cell? ⟨b, off + i * 4 + 3, none⟩ = some (.pointer x.nd) :=
 ⟨h 0 _ rfl, by rw [Nat.add_assoc]; exact h 1 _ rfl, by rw [Nat.add_assoc]; exact h 2 _ rfl, by rw [Nat.add_assoc]; exact h 3 _ rfl⟩
theorem eU {w : World} {g : Nat} {a : Value} {t : TypeId} (h : w.heap[g]? = some (.cells #[a] t (0, 0))) : w.cell? ⟨g, 0, none⟩ = some a := by
 rw [cell_of_row w g 0 _ t _ h]; rfl
end Go.Proofs.YteealihknndclabGreatDoor
namespace Go.Proofs.YteealihknndclabGreatDoor
open Go.RowKit
theorem zL (W : World) : (binOp .eql 22 (.slice none 0 0) (.slice none 0 0)).run Tryz.prog W = .ok (.bool true) W := by
 have h : ∀ d : Nat, (Op.equalIn (d + 1) 22 (.slice none 0 0) (.slice none 0 0)).run Tryz.prog W = .ok true W := fun d => by
  simp [Op.equalIn, run_underlying Tryz.underlying22]
 simp only [binOp]
 simp [Op.equal, Op.maxDepth, h 9999]
set_option maxRecDepth 10000 in
theorem Dh (w : World) : Calls Tryz.prog 37 #[.slice none 0 0] w fun e w' => e = .returned (.slice none 0 0) /\ w = w' := by
 have e := zL
 go_enter Tryz.func37, Tryz.ntmps37
 go_wp2_with fail
 go_ret
 exact ⟨rfl, rfl⟩
set_option maxRecDepth 10000 in
theorem Af {w : World} {g : Nat} {v : Value} (h : w.heap[g]? = some (.cells #[v] 22 (0, 0))) (ao : Option Addr) (n c : Nat) :
  (Instr.storeAt 22 (.pointer (some ⟨g, 0, none⟩)) (.slice ao n c)).run Tryz.prog w = .ok () (w.setCell ⟨g, 0, none⟩ (.slice ao n c)) := by
 have e := eU h
 have f := frozen_of_row w g 0 _ _ h
 go_simp
open Go.Shelf
attribute [local go_sem] Oper.semAt_some
theorem SliceAt.past {p : Nat -> Prop} {w W : World} {v : Value} {bs : List UInt8} (h : SliceAt w v bs) (hc : Chg p w W) (hp : ∀ b off n c, v = .slice (some ⟨b, off, none⟩) n c -> ¬ p b) : SliceAt W v bs := by
 rcases h with h | h | ⟨b, off, cap, e, h1, h2, h3, h4⟩
 ·exact Or.inl h
 ·exact Or.inr (Or.inl h)
 ·have hb := hc.block b h3 (hp _ _ _ _ e)
  exact Or.inr (Or.inr ⟨b, off, cap, e, h1, h2, Nat.lt_of_lt_of_le h3 hc.size, fun j hj => (World.cell?_of_block hb).trans (h4 j hj)⟩)
def S.blw (ub : List UInt8) (key : List UInt8) : Bool := decide (ub.length = 0) || decide (Lib.compareBytes key ub < 0)
set_option maxRecDepth 10000 in
theorem uY (v u : Value) (xs ys : List UInt8) (w : World) (h1 : SliceAt w v xs) (h2 : SliceAt w u ys) : Calls Tryz.prog 39 #[v, u] w fun e w' => e = .returned (.bool (S.blw ys xs)) /\ w = w' := by
 obtain ⟨ao, l1, c1, rfl, z1, _⟩ := h1.form
 obtain ⟨bo, l2, c2, rfl, z2, b2⟩ := h2.form
 have H1 := hide h1
 have H2 := hide h2
 clear h1 h2
 go_enter Tryz.func39, Tryz.ntmps39
 by_cases e : l2 = 0
 ·subst e
  have r : S.blw ys xs = true := by unfold S.blw; rw [<- z2]; rfl
  rw [r]
  clear z2 r
  go_wp2_with fail
  go_ret
  exact ⟨rfl, rfl⟩
 ·have q1 : ¬ (l2 : Int) = 0 := by omega
  have q2 : decide ((l2 : Int) = 0) = false := decide_eq_false q1
  have r : S.blw ys xs = decide (Lib.compareBytes xs ys < 0) := by
   unfold S.blw
   rw [<- z2, decide_eq_false e, Bool.false_or]
  rw [r]
  clear r q1 q2 z1 z2 b2
  obtain ⟨m, rfl⟩ : ∃ m, l2 = m + 1 := ⟨l2 - 1, by omega⟩
  have q1 : ¬ ((m + 1 : Nat) : Int) = 0 := by omega
  have q2 : ¬ (m : Int) + 1 = 0 := by omega
  clear e
  go_wp2_with fail
  refine (iH _ _ xs ys w H1.out H2.out).mono ?_
  rintro e w1 ⟨rfl, rfl⟩
  go_wp2_with fail
  go_ret
  exact ⟨rfl, rfl⟩
def S.hand (es : List S.Ent) (fr ub : List UInt8) : List S.Ent := (es.drop (S.rank (es.map (·.key)) fr)).takeWhile (fun x => S.blw ub x.key)
theorem Ab {α : Type} (p : α -> Bool) : ∀ (l : List α) (k : Nat) (x : α), k <= (l.takeWhile p).length -> l[k]? = some x -> p x = true -> (l.takeWhile p)[k]? = some x /\ k + 1 <= (l.takeWhile p).length
 | [], k, x, _, h, _ => by simp at h
 | y :: l, k, x, hk, h, hp => by
  by_cases hy : p y = true
  ·rw [List.takeWhile_cons_of_pos hy] at hk ⊢
   cases k with
   | zero => simp at h; subst h; exact ⟨rfl, by simp⟩
   | succ k =>
    simp at hk h
    obtain ⟨h1, h2⟩ := Ab p l k x hk h hp
    exact ⟨by simpa using h1, by simp; omega⟩
  ·rw [List.takeWhile_cons_of_neg (by simpa using hy)] at hk ⊢
   simp at hk
   subst hk
   simp at h
   subst h
   exact absurd hp hy
theorem Ac {α : Type} (p : α -> Bool) : ∀ (l : List α) (k : Nat) (x : α), k <= (l.takeWhile p).length -> l[k]? = some x -> p x = false -> (l.takeWhile p).length = k
 | [], k, x, _, h, _ => by simp at h
 | y :: l, k, x, hk, h, hp => by
  by_cases hy : p y = true
  ·rw [List.takeWhile_cons_of_pos hy] at hk ⊢
   cases k with
   | zero => simp at h; subst h; rw [hy] at hp; cases hp
   | succ k =>
    simp at hk h
    simp [Ac p l k x hk h hp]
  ·rw [List.takeWhile_cons_of_neg (by simpa using hy)] at hk ⊢
   simp at hk
   simp [hk]
theorem tw_end {α : Type} (p : α -> Bool) (l : List α) (h : l.length <= (l.takeWhile p).length) : (l.takeWhile p).length = l.length := by
 have := (List.takeWhile_sublist p (l := l)).length_le
 omega
theorem Db {w : World} {ao : Option Addr} {n cap : Nat} {d : List EnV} (h : Els aR w (.slice ao n cap) d) (i : Nat) (hi : i <= n) :
  ∃ ao' cap', (∀ W, (Instr.slice 96 (.slice ao n cap) (some (.int .i64 (i : Int))) none none).run Tryz.prog W = .ok (.slice ao' (n - i) cap') W) /\ Els aR w (.slice ao' (n - i) cap') (d.drop i) /\ ∀ k, (Value.slice ao' (n - i) cap').ownBlock = some k -> (Value.slice ao n cap).ownBlock = some k := by
 obtain ⟨a2, c2, h1, h2⟩ := sO h i hi
 refine ⟨a2, c2, h1, h2, ?_⟩
 have hn : n <= cap := by
  rcases h with ⟨h, _⟩ | ⟨_, _, h, _⟩ | ⟨_, _, _, h, h3, _⟩ <;> injection h with _ h4 h5 <;> omega
 have h3 := h1 w
 rw [run_slice_l w 96 ao n cap qZ .i64 _ (by omega) (by omega), vF] at h3
 simp only [sliced] at h3
 injection h3 with h3 _
 injection h3 with h3 _ _
 intro k hk
 rw [<- h3] at hk
 split at hk
 ·cases ao with
  | none => simp [Value.ownBlock] at hk
  | some a => exact hk
 ·cases ao with
  | none => simp [Value.ownBlock] at hk
  | some a =>
   simp only [Option.map_some, Value.ownBlock, Option.some.injEq] at hk ⊢
   rw [<- hk]
   unfold Addr.add
   split <;> rfl
set_option maxHeartbeats 16000000 in
set_option maxRecDepth 100000 in
theorem rH (n : Nat) (vf vt : Value) (fr ub : List UInt8) (B gs gt g4 g5 g3 : Nat) (pg : Nat -> List UInt8) (es : List S.Ent) (q : Nat -> Prop) (w : World) (hr : Rds B w gs pg) (hl : S.nE pg es) (ht : jr w gt gs) (h4 : w.heap[g4]? = some (.cells #[vf] 22 (0, 0))) (h5 : w.heap[g5]? = some (.cells #[vt] 22 (0, 0))) (h3 : w.heap[g3]? = some (.cells #[.pointer (some ⟨gt, 0, none⟩)] 60 (0, 0)))
  (hq : ∀ k, q k -> k < w.heap.size) (hq5 : ¬ q g5) (hvf : SliceAt w vf fr) (hvt : SliceAt w vt ub) (hqt : ∀ b off n c, vt = .slice (some ⟨b, off, none⟩) n c -> ¬ q b) :
  Gp n Tryz.prog 38 #[.pointer (some ⟨g4, 0, none⟩), .pointer (some ⟨g5, 0, none⟩), .pointer (some ⟨g3, 0, none⟩)] uP q (jJ w.heap.size (S.hand es fr ub)) (fun xs => xs.length = (S.hand es fr ub).length) (fun _ => True) w := by
 intro l J Jx W hW hJ hJx hY h0
 obtain ⟨af, lf, cf, rfl, zf, _⟩ := hvf.form
 obtain ⟨at', lt', ct', rfl, zt, _⟩ := hvt.form
 have HVF := hide (hvf.below hW (lr _))
 have HVT := hide (hvt.below hW (lr _))
 have HQT := hide hqt
 obtain ⟨M, hM⟩ : ∃ M, M = (S.hand es fr ub).length := ⟨_, rfl⟩
 rw [<- hM]
 have HM := hide hM
 clear hvf hvt hqt hM zf zt
 have HR := hide (hr.below hW)
 have HL := hide hl
 have HT := hide (show jr W gt gs from (hW.block _ (aa ht)).trans ht)
 have R4 := hide ((hW.block _ (aa h4)).trans h4)
 have R5 := hide ((hW.block _ (aa h5)).trans h5)
 have R3 := hide ((hW.block _ (aa h3)).trans h3)
 have HY := hide hY
 have HWR := hide (show w.heap.size <= W.heap.size from hW.size)
 have HQ := hide (show (∀ k, q k -> k < W.heap.size) from fun k hk => Nat.lt_of_lt_of_le (hq k hk) hW.size)
 have HQ5 := hide hq5
 obtain ⟨N, hN⟩ : ∃ N, N = es.length := ⟨_, rfl⟩
 have HN := hide hN
 have HNL := hide (show N <= 254 by rw [hN]; exact hl.ok.len)
 have c4 := eU R4.out
 have c3 := eU R3.out
 have ct := lV HT.out
 clear hr hl ht h4 h5 h3 hY hq hN hW
 refine callsIn_of_wp Tryz.func38 rfl trivial ?_ rfl
 simp only [Tryz.ntmps38, List.size_toArray, List.length_cons, List.length_nil, Nat.reduceAdd, Nat.reduceSub, Array.replicate_succ, Array.replicate_zero, List.push_toArray, List.append_toArray, List.nil_append, List.cons_append]
 gi_wp2
 gi_loopw [5, 6] (fun s5 s6 wr => (s5 = .slice af lf cf /\ s6 = .bool true /\ wr = W) \/ (s6 = .bool false /\ ∃ xs, xs.length = M /\ J xs wr)) (fun _ s6 _ => match s6 with | .bool true => 1 | _ => 0)
 case atStart => exact Or.inl ⟨rfl, rfl, rfl⟩
 case round =>
  rcases hrel with ⟨rfl, rfl, rfl⟩ | ⟨rfl, xs, hxs, hJs⟩
  rotate_left
  ·gi_wp2
   go_end0
   exact ⟨⟨_, rfl⟩, .inl ⟨xs, hxs, hJs⟩⟩
  ·gi_wp2
   refine ⟨trivial, by simp [Fence.wide], (callsIn_wide.2 (xP B gs pg es _ wr HR.out HL.out ⟨_, _, _, rfl⟩)).mono ?_⟩
   rintro e w1 ⟨g, rfl, hn, hb⟩
   have NN := hide hn
   have HB1 := hide hb
   clear hn hb
   gi_wp2
   refine ⟨trivial, by simp [Fence.wide], (callsIn_wide.2 (sM g 0 _ es fr w1 (NN.out.node HL.out.ok.ent (by have := HL.out.ok.len; omega)) (HVF.out.below HB1.out (lr _)) HL.out.ok.up)).mono ?_⟩
   rintro e w2 ⟨rfl, hb⟩
   obtain ⟨r, hr⟩ : ∃ r, r = S.rank (es.map (·.key)) fr := ⟨_, rfl⟩
   rw [<- hr]
   have hrN : r <= N := by have := S.vL (es.map (·.key)) fr; rw [List.length_map, <- hr, <- HN.out] at this; exact this
   have HRK := hide hr
   clear hr
   have N2 := hide (NN.out.below hb)
   have HB2 := hide (HB1.out.trans (hb.mono HB1.out.size))
   clear hb NN HB1
   obtain ⟨v, d, h1, h2, h3, h4⟩ := N2.out.is
   obtain ⟨ao, cap, rfl⟩ := h2.form
   obtain ⟨g0, g1⟩ := aK h1
   have hd : d.length = N := h3.trans HN.out.symm
   have OB := hide (show ∀ k, (Value.slice ao N cap).ownBlock = some k -> ¬ q k from fun k hk hq => by rw [<- hd] at hk; have := (h2.blk hk).1; have := HQ.out k hq; omega)
   have ELS := hide (h2.els (by have := HNL.out; omega))
   rw [hd] at g1 ELS
   obtain ⟨ao2, cp2, SL, hels2, hown2⟩ := Db ELS.out r hrN
   have OB2 := hide (show ∀ k, (Value.slice ao2 (N - r) cp2).ownBlock = some k -> ¬ q k from fun k hk => OB.out k (hown2 k hk))
   clear ELS OB hown2
   have ELS := hide hels2
   clear hels2
   have hd2 : (d.drop r).length = N - r := by rw [List.length_drop, hd]
   have SLN : ∀ W, (Instr.slice 96 (.slice ao N cap) (some (.int .i64 (r : Int))) none none).run Tryz.prog W = .ok (.slice ao2 (N - r) cp2) W := SL
   clear SL
   have R5q := hide (show w2.heap[g5]? = some (.cells #[.slice at' lt' ct'] 22 (0, 0)) from (HB2.out.block _ (aa R5.out)).trans R5.out)
   have H4 := hide h4
   have HVT2 := hide (HVT.out.below HB2.out (lr _))
   have HD := hide hd2
   obtain ⟨L, hL⟩ : ∃ L, L = N - r := ⟨_, rfl⟩
   rw [<- hL] at HD ELS OB2 SLN
   have HLN := hide hL
   have HL0 := hide (show L <= 254 by have := HNL.out; omega)
   clear h1 h2 h3 h4 hd hd2 hL N2
   gi_wp2
   gi_loopw [49] (fun i wr => ∃ (k : Nat) (pre : List EnV), k <= L /\ k <= M /\ i = .int .i64 (k : Int) /\ pre.length = k /\ J pre wr /\ Chg q w2 wr) (fun i _ => L - (intOf i).toNat)
   case atStart => exact ⟨0, [], Nat.zero_le _, Nat.zero_le _, rfl, rfl, hJ _ _ _ h0 HB2.out, Chg.refl _ _⟩
   case round =>
    obtain ⟨k, pre, hk, hkM, rfl, hpre, hJs, hc⟩ := hrel
    by_cases hlt : k < L
    ·have q0 : (0 : Int) <= (k : Int) := by omega
     have q1 : (k : Int) < (L : Int) := by omega
     have qw : IntKind.i64.wrap ((k : Int) + 1) = (k : Int) + 1 := by rw [IntKind.wrap_i64]; have := HL0.out; omega
     obtain ⟨x, hx⟩ : ∃ x, (d.drop r)[k]? = some x := ⟨_, List.getElem?_eq_getElem (by rw [HD.out]; exact hlt)⟩
     obtain ⟨en, hen⟩ : ∃ en, (es.drop r)[k]? = some en := ⟨_, List.getElem?_eq_getElem (by rw [List.length_drop, <- HN.out, <- HLN.out]; exact hlt)⟩
     have EN := hide ((H4.out (r + k) x en (by rw [<- List.getElem?_drop]; exact hx) (by rw [<- List.getElem?_drop]; exact hen)).1.past hc (fun k hq => HQ.out k hq))
     obtain ⟨b, off, cp, hs, hcp, hbl, hcl⟩ := (ELS.out.chg hc OB2.out).at gB k x hx
     rw [HD.out] at hs hcp
     simp only [Value.slice.injEq] at hs
     obtain ⟨rfl, -, rfl⟩ := hs
     obtain ⟨t0, t1, t2, t3⟩ := ccell4 hcl
     have c5 : wr.cell? ⟨g5, 0, none⟩ = some (.slice at' lt' ct') := eU (hc.row R5q.out HQ5.out)
     have hg5 : g5 < wr.heap.size := aa (hc.row R5q.out HQ5.out)
     have HVV := hide (HVT2.out.past hc HQT.out)
     have hem := List.mem_of_getElem? hen
     have hent := HL.out.ok.ent en (List.mem_of_mem_drop hem)
     have KY := hide ((EN.out.is (by have := hent.1; omega) (by have := hent.2; omega)).key)
     clear hem hent
     by_cases hbw : S.blw ub en.key = true
     ·have htw := Ab (fun x : S.Ent => S.blw ub x.key) (es.drop r) k en (by rw [show (es.drop r).takeWhile (fun x : S.Ent => S.blw ub x.key) = S.hand es fr ub by unfold S.hand; rw [HRK.out], <- HM.out]; exact hkM) hen hbw
      rw [show (es.drop r).takeWhile (fun x : S.Ent => S.blw ub x.key) = S.hand es fr ub by unfold S.hand; rw [HRK.out], <- HM.out] at htw
      obtain ⟨htw, hkM1⟩ := htw
      obtain ⟨ka, kn, kc, va, vn, vc, px, nd⟩ := x
      obtain ⟨VN, hVN⟩ : ∃ V, V = wr.alloc (.cells #[.slice ka kn kc, .slice va vn vc, .int .i64 px, .pointer nd] 95 (0, 0)) := ⟨_, rfl⟩
      have bV : Below wr.heap.size wr VN := by rw [hVN]; exact (Below.refl _ wr).alloc (lr _) _
      obtain ⟨fn, tmps, assign, body, hy, hR⟩ := HY.out pre ⟨ka, kn, kc, va, vn, vc, px, nd⟩ VN (hJ _ _ _ hJs bV) ⟨en, by rw [hpre]; exact htw, (EN.out.below bV).mono HWR.out⟩
      simp only [uP] at hy
      have HK := hide (And.intro (And.intro hlt hkM1) hpre)
      have KY2 := hide (KY.out.below bV (lr _))
      have HV2 := hide (HVV.out.below bV (lr _))
      have HCV := hide (hc.trans (q := fun _ => False) (Chg.ofBelow' bV) (fun _ _ e => e.elim))
      subst hVN
      clear hx hen hcl hlt hk hJs hc bV htw hkM1
      gi_wp2
      refine ⟨trivial, by simp [Fence.wide], (callsIn_wide.2 (uY _ _ en.key ub _ KY2.out HV2.out)).mono ?_⟩
      rintro e w3 ⟨rfl, rfl⟩
      rw [hbw]
      gi_wp2
      refine ⟨by simp [Fence.wide], hR.mono ?_⟩
      rintro e W3 (⟨rfl, hJ3, hk3⟩ | ⟨rfl, hJx3⟩)
      ·gi_wp2
       go_roundw
       case rel => exact ⟨k + 1, _, by have := HK.out.1.1; omega, HK.out.1.2, rfl, by simp [HK.out.2], hJ3, HCV.out.trans hk3 (fun _ _ e => e)⟩
       case measure => have := HK.out.1.1; simp only [intOf]; omega
      ·gi_wp2
       refine bodyPost_ret (results_none rfl _ _ _) rfl ?_
       exact ⟨⟨_, rfl⟩, .inr ⟨_, trivial, hJx3⟩⟩
     ·have hbf : S.blw ub en.key = false := by simpa using hbw
      have htw := Ac (fun x : S.Ent => S.blw ub x.key) (es.drop r) k en (by rw [show (es.drop r).takeWhile (fun x : S.Ent => S.blw ub x.key) = S.hand es fr ub by unfold S.hand; rw [HRK.out], <- HM.out]; exact hkM) hen hbf
      rw [show (es.drop r).takeWhile (fun x : S.Ent => S.blw ub x.key) = S.hand es fr ub by unfold S.hand; rw [HRK.out], <- HM.out] at htw
      obtain ⟨ka, kn, kc, va, vn, vc, px, nd⟩ := x
      obtain ⟨VN, hVN⟩ : ∃ V, V = wr.alloc (.cells #[.slice ka kn kc, .slice va vn vc, .int .i64 px, .pointer nd] 95 (0, 0)) := ⟨_, rfl⟩
      have bV : Below wr.heap.size wr VN := by rw [hVN]; exact (Below.refl _ wr).alloc (lr _) _
      have JV := hide (hJ _ _ _ hJs bV)
      have HK := hide (hpre.trans htw.symm)
      have KY2 := hide (KY.out.below bV (lr _))
      have HV2 := hide (HVV.out.below bV (lr _))
      subst hVN
      clear hx hen hcl hlt hk hJs hc bV htw hbw
      gi_wp2
      refine ⟨trivial, by simp [Fence.wide], (callsIn_wide.2 (uY _ _ en.key ub _ KY2.out HV2.out)).mono ?_⟩
      rintro e w3 ⟨rfl, rfl⟩
      rw [hbf]
      gi_wp2
      refine ⟨fun f h => (by cases h), ?_⟩
      gi_wp2
      refine bodyPost_ret (results_none rfl _ _ _) rfl ?_
      exact ⟨⟨_, rfl⟩, .inl ⟨pre, HK.out, JV.out⟩⟩
    ·obtain rfl : k = L := by omega
     have q1 : ¬ (k : Int) < (k : Int) := by omega
     have hend : M = k := by
      have h9 := tw_end (fun x : S.Ent => S.blw ub x.key) (es.drop r) (by rw [show (es.drop r).takeWhile (fun x : S.Ent => S.blw ub x.key) = S.hand es fr ub by unfold S.hand; rw [HRK.out], <- HM.out, List.length_drop, <- HN.out, <- HLN.out]; exact hkM)
      rw [show (es.drop r).takeWhile (fun x : S.Ent => S.blw ub x.key) = S.hand es fr ub by unfold S.hand; rw [HRK.out], <- HM.out, List.length_drop, <- HN.out, <- HLN.out] at h9
      exact h9
     gi_wp2
     refine ⟨trivial, ?_⟩
     gi_wp2
     go_roundw
     case rel => exact Or.inr ⟨rfl, pre, hpre.trans hend.symm, hJs⟩
     case measure => simp
end Go.Proofs.YteealihknndclabGreatDoor
namespace Go.Proofs.YteealihknndclabGreatDoor
open Go.RowKit
def Cln (w w' : World) (xs : List UInt8) (v : Value) : Prop := SliceAt w' v xs /\ (∀ b off n c, v = .slice (some ⟨b, off, none⟩) n c -> w.heap.size <= b /\ b < w'.heap.size) /\ ∃ ao n c, v = .slice ao n c
theorem mD (v : Value) (xs : List UInt8) (w : World) (h : SliceAt w v xs) (hf : v = .slice none 0 0 \/ ∃ b off n c, v = .slice (some ⟨b, off, none⟩) n c) :
  Calls Tryz.prog 37 #[v] w fun e w' => ∃ v', e = .returned v' /\ Cln w w' xs v' /\ Below w.heap.size w w' := by
 rcases hf with rfl | ⟨b, off, n, c, rfl⟩
 ·refine (Dh w).mono ?_
  rintro e w' ⟨rfl, rfl⟩
  exact ⟨_, rfl, ⟨h, fun b off n c e => by simp at e, _, _, _, rfl⟩, Below.refl _ _⟩
 ·obtain ⟨ao, l, c', hv, hl, hm⟩ := h.form
  injection hv with hv1 hv2 hv3
  subst hv2
  refine (uT b off n c xs w h).mono ?_
  rintro e w' ⟨g, c2, rfl, hg, hr, hb⟩
  have hs := hr.sliceAt (by omega)
  rw [<- hl] at hs
  have hlt : g < w'.heap.size := by
   obtain ⟨cur, h9, _⟩ := hr
   exact aa h9
  exact ⟨_, rfl, ⟨hs, fun b off n c e => by simp only [Value.slice.injEq, Option.some.injEq, Addr.mk.injEq] at e; omega, _, _, _, rfl⟩, hb⟩
def lQ (w : World) (g3 g4 g5 gt : Nat) (v4 v5 : Value) (W : World) : Prop :=
 Below w.heap.size w W /\ W.heap[g3]? = some (.cells #[.pointer (some ⟨gt, 0, none⟩)] 60 (0, 0)) /\ W.heap[g4]? = some (.cells #[v4] 22 (0, 0)) /\ W.heap[g5]? = some (.cells #[v5] 22 (0, 0))
theorem lQ.then {w W W' : World} {g3 g4 g5 gt : Nat} {v4 v5 : Value} (h : lQ w g3 g4 g5 gt v4 v5 W) (hb : Below W.heap.size W W') : lQ w g3 g4 g5 gt v4 v5 W' :=
 ⟨h.1.trans (hb.mono h.1.size), (hb.block _ (aa h.2.1)).trans h.2.1, (hb.block _ (aa h.2.2.1)).trans h.2.2.1, (hb.block _ (aa h.2.2.2)).trans h.2.2.2⟩
theorem lQ.set4 {w W : World} {g3 g4 g5 gt : Nat} {v4 v5 : Value} (h : lQ w g3 g4 g5 gt v4 v5 W) (h4 : w.heap.size <= g4) (n3 : g3 ≠ g4) (n5 : g5 ≠ g4) (v : Value) : lQ w g3 g4 g5 gt v v5 (W.setCell ⟨g4, 0, none⟩ v) :=
 ⟨h.1.setCell (p := ⟨g4, 0, none⟩) h4 _, (heap_setCell_other _ _ _ _ n3).trans h.2.1, one_setCell h.2.2.1, (heap_setCell_other _ _ _ _ n5).trans h.2.2.2⟩
theorem lQ.set5 {w W : World} {g3 g4 g5 gt : Nat} {v4 v5 : Value} (h : lQ w g3 g4 g5 gt v4 v5 W) (h5 : w.heap.size <= g5) (n3 : g3 ≠ g5) (n4 : g4 ≠ g5) (v : Value) : lQ w g3 g4 g5 gt v4 v (W.setCell ⟨g5, 0, none⟩ v) :=
 ⟨h.1.setCell (p := ⟨g5, 0, none⟩) h5 _, (heap_setCell_other _ _ _ _ n3).trans h.2.1, (heap_setCell_other _ _ _ _ n4).trans h.2.2.1, one_setCell h.2.2.2⟩
theorem SliceAt.setOther {w : World} {v u : Value} {bs : List UInt8} {g : Nat} (h : SliceAt w v bs) (hp : ∀ b off n c, v = .slice (some ⟨b, off, none⟩) n c -> b ≠ g) : SliceAt (w.setCell ⟨g, 0, none⟩ u) v bs := by
 rcases h with h | h | ⟨b, off, cap, e, h1, h2, h3, h4⟩
 ·exact Or.inl h
 ·exact Or.inr (Or.inl h)
 ·exact Or.inr (Or.inr ⟨b, off, cap, e, h1, h2, by simpa using h3, fun j hj => (World.cell?_of_block (heap_setCell_other _ _ _ _ (hp _ _ _ _ e))).trans (h4 j hj)⟩)
set_option maxRecDepth 10000 in
theorem si {w : World} {g : Nat} {ao : Option Addr} {n c : Nat} (h : w.heap[g]? = some (.cells #[.slice ao n c] 22 (0, 0))) : (Instr.loadAt 22 (.pointer (some ⟨g, 0, none⟩))).run Tryz.prog w = .ok (.slice ao n c) w := by
 have e := eU h
 go_simp
set_option maxHeartbeats 4000000 in
set_option maxRecDepth 10000 in
theorem jR (gt : Nat) (vf vt : Value) (fr ub : List UInt8) (w : World) (hvf : SliceAt w vf fr) (hvt : SliceAt w vt ub) (hff : vf = .slice none 0 0 \/ ∃ b off n c, vf = .slice (some ⟨b, off, none⟩) n c) (hft : vt = .slice none 0 0 \/ ∃ b off n c, vt = .slice (some ⟨b, off, none⟩) n c) : Calls Tryz.prog 24 #[.pointer (some ⟨gt, 0, none⟩), vf, vt] w fun e w' =>
  ∃ g3 g4 g5 v4 v5, e = .returned (.func (.func 38) #[] #[.pointer (some ⟨g4, 0, none⟩), .pointer (some ⟨g5, 0, none⟩), .pointer (some ⟨g3, 0, none⟩)]) /\ lQ w g3 g4 g5 gt v4 v5 w' /\ w.heap.size <= g3 /\ w.heap.size <= g4 /\ w.heap.size <= g5 /\ Cln w w' fr v4 /\ Cln w w' ub v5 := by
 obtain ⟨af, lf, cf, rfl, zz1, zz2⟩ := hvf.form
 obtain ⟨at', lt', ct', rfl, zz3, zz4⟩ := hvt.form
 have HVF := hide hvf
 have HVT := hide hvt
 have HFF := hide hff
 have HFT := hide hft
 clear hvf hvt hff hft zz1 zz2 zz3 zz4
 obtain ⟨g3, h3⟩ : ∃ g, g = w.heap.size := ⟨_, rfl⟩
 obtain ⟨g4, h4⟩ : ∃ g, g = w.heap.size + 1 := ⟨_, rfl⟩
 obtain ⟨g5, h5⟩ : ∃ g, g = w.heap.size + 1 + 1 := ⟨_, rfl⟩
 go_enter Tryz.func24, Tryz.ntmps24
 go_upto_region 1 with fail
 have s1 : ∀ (W : World) o, (W.alloc o).heap.size = W.heap.size + 1 := fun W o => World.size_alloc W o
 have r3 : ((w.alloc (.cells #[.pointer (some ⟨gt, 0, none⟩)] 60 (0, 0)))).heap[g3]? = some (.cells #[.pointer (some ⟨gt, 0, none⟩)] 60 (0, 0)) := by rw [h3]; exact heap_alloc_new _ _
 have b3 := (Below.refl w.heap.size w).alloc (lr _) (.cells #[.pointer (some ⟨gt, 0, none⟩)] 60 (0, 0))
 obtain ⟨W3, hW3⟩ : ∃ W, W = w.alloc (.cells #[.pointer (some ⟨gt, 0, none⟩)] 60 (0, 0)) := ⟨_, rfl⟩
 have z3 : W3.heap.size = w.heap.size + 1 := by rw [hW3, s1]
 have r4 : (W3.alloc (.cells #[.slice af lf cf] 22 (0, 0))).heap[g4]? = some (.cells #[.slice af lf cf] 22 (0, 0)) := by rw [h4, <- z3]; exact heap_alloc_new _ _
 obtain ⟨W4, hW4⟩ : ∃ W, W = W3.alloc (.cells #[.slice af lf cf] 22 (0, 0)) := ⟨_, rfl⟩
 have z4 : W4.heap.size = w.heap.size + 1 + 1 := by rw [hW4, s1, z3]
 have r5 : (W4.alloc (.cells #[.slice at' lt' ct'] 22 (0, 0))).heap[g5]? = some (.cells #[.slice at' lt' ct'] 22 (0, 0)) := by rw [h5, <- z4]; exact heap_alloc_new _ _
 obtain ⟨W5, hW5⟩ : ∃ W, W = W4.alloc (.cells #[.slice at' lt' ct'] 22 (0, 0)) := ⟨_, rfl⟩
 rw [<- hW3] at r3 b3
 rw [<- hW4] at r4
 rw [<- hW5] at r5
 have c4 : Below W3.heap.size W3 W4 := by rw [hW4]; exact ba ..
 have c5 : Below W4.heap.size W4 W5 := by rw [hW5]; exact ba ..
 have HR0 := hide (show lQ w g3 g4 g5 gt (.slice af lf cf) (.slice at' lt' ct') W5.drew from ⟨((b3.trans (c4.mono (by omega))).trans (c5.mono (by omega))).drew, (c5.block _ (by omega)).trans ((c4.block _ (by omega)).trans r3), (c5.block _ (by omega)).trans r4, r5⟩)
 rw [<- h3, show g3 + 1 + 1 = g5 by omega, show g3 + 1 = g4 by omega, <- hW3, <- hW4, <- hW5]

 clear r3 r4 r5 b3 c4 c5 s1 hW3 hW4 hW5 z3 z4
 have G4 : w.heap.size <= g4 := by omega
 have G5 : w.heap.size <= g5 := by omega
 have G3 : w.heap.size <= g3 := by omega
 have NE : g3 ≠ g4 /\ g3 ≠ g5 /\ g4 ≠ g5 := by omega
 clear h3 h4 h5
 refine wp_region_noPanic ?_
 refine wp_region_held_drew (S := fun _ => True) follows trivial (fun hHeld => ?_)
 clear hHeld
 generalize W5.drew = Z0 at HR0 ⊢
 refine rdy [0, 2] ?_
 refine aB (o := ⟨_, _, _, _, _, _⟩) rfl rfl 22 (.tmp 4) rfl (.slice af lf cf) (si HR0.out.2.2.1) ?_ ⟨trivial, fun hHeld => ?_⟩
 rotate_left
 focus
  skip
  clear hHeld
  try simp only [uA]
  refine rdy [1, 2] ?_
  refine AllReadyH.cons (o := ⟨_, _, _, _, _, _⟩) rfl (fun K hK => ?_) ?_
  focus
   skip
   go_simp
   refine (mD _ fr _ (HVF.out.below HR0.out.1 (lr _)) HFF.out).mono ?_
   rintro e Z1 ⟨v4, rfl, ⟨c4, f4, a4, n4, cc4, rfl⟩, hb⟩
   have HR1 := hide (HR0.out.then hb)
   have HC4 := hide c4
   have F4 := hide (show ∀ b off n c, Value.slice a4 n4 cc4 = .slice (some ⟨b, off, none⟩) n c -> w.heap.size <= b /\ b ≠ g4 /\ b ≠ g5 /\ b < Z1.heap.size from fun b off n c e => by
    have h1 := f4 b off n c e
    have h2 := aa HR0.out.2.2.1
    have h3 := aa HR0.out.2.2.2
    have h4 := HR0.out.1.size
    exact ⟨by omega, by omega, by omega, by omega⟩)
   clear hb HR0 c4 f4
   refine hK.out _ _ trivial (fun hHeld => ?_)
   clear hK K hHeld
   try simp only [uA]
   refine rdy [2] ?_
   refine aB (o := ⟨_, _, _, _, _, _⟩) rfl rfl 22 (.tmp 5) rfl (.slice at' lt' ct') (si HR1.out.2.2.2) AllReadyH.nil ⟨trivial, fun hHeld => ?_⟩
   clear hHeld
   try simp only [uA]
  rotate_left
  focus
   skip
   refine aB (o := ⟨_, _, _, _, _, _⟩) rfl rfl 22 (.tmp 5) rfl (.slice at' lt' ct') (si HR0.out.2.2.2) AllReadyH.nil ⟨trivial, fun hHeld => ?_⟩
   clear hHeld
   try simp only [uA]
   refine r1 1 fun K hK => ?_
   go_simp
   refine (mD _ fr _ (HVF.out.below HR0.out.1 (lr _)) HFF.out).mono ?_
   rintro e Z1 ⟨v4, rfl, ⟨c4, f4, a4, n4, cc4, rfl⟩, hb⟩
   have HR1 := hide (HR0.out.then hb)
   have HC4 := hide c4
   have F4 := hide (show ∀ b off n c, Value.slice a4 n4 cc4 = .slice (some ⟨b, off, none⟩) n c -> w.heap.size <= b /\ b ≠ g4 /\ b ≠ g5 /\ b < Z1.heap.size from fun b off n c e => by
    have h1 := f4 b off n c e
    have h2 := aa HR0.out.2.2.1
    have h3 := aa HR0.out.2.2.2
    have h4 := HR0.out.1.size
    exact ⟨by omega, by omega, by omega, by omega⟩)
   clear hb HR0 c4 f4
   refine hK.out _ _ trivial (fun hHeld => ?_)
   clear hK K hHeld
   try simp only [uA]
 rotate_left 2
 focus
  skip
  refine aB (o := ⟨_, _, _, _, _, _⟩) rfl rfl 22 (.tmp 5) rfl (.slice at' lt' ct') (si HR0.out.2.2.2) AllReadyH.nil ⟨trivial, fun hHeld => ?_⟩
  clear hHeld
  try simp only [uA]
  refine rdy [0] ?_
  refine aB (o := ⟨_, _, _, _, _, _⟩) rfl rfl 22 (.tmp 4) rfl (.slice af lf cf) (si HR0.out.2.2.1) AllReadyH.nil ⟨trivial, fun hHeld => ?_⟩
  clear hHeld
  try simp only [uA]
  refine r1 1 fun K hK => ?_
  go_simp
  refine (mD _ fr _ (HVF.out.below HR0.out.1 (lr _)) HFF.out).mono ?_
  rintro e Z1 ⟨v4, rfl, ⟨c4, f4, a4, n4, cc4, rfl⟩, hb⟩
  have HR1 := hide (HR0.out.then hb)
  have HC4 := hide c4
  have F4 := hide (show ∀ b off n c, Value.slice a4 n4 cc4 = .slice (some ⟨b, off, none⟩) n c -> w.heap.size <= b /\ b ≠ g4 /\ b ≠ g5 /\ b < Z1.heap.size from fun b off n c e => by
   have h1 := f4 b off n c e
   have h2 := aa HR0.out.2.2.1
   have h3 := aa HR0.out.2.2.2
   have h4 := HR0.out.1.size
   exact ⟨by omega, by omega, by omega, by omega⟩)
  clear hb HR0 c4 f4
  refine hK.out _ _ trivial (fun hHeld => ?_)
  clear hK K hHeld
  try simp only [uA]
 all_goals
  refine r1 3 fun K hK => ?_
  go_simp
  refine (mD _ ub _ (HVT.out.below HR1.out.1 (lr _)) HFT.out).mono ?_
  rintro e Z2 ⟨v5, rfl, ⟨c5, f5, a5, n5, cc5, rfl⟩, hb⟩
  have HR2 := hide (HR1.out.then hb)
  have C4 := hide (HC4.out.below hb (lr _))
  have C5 := hide c5
  have F5 := hide (show ∀ b off n c, Value.slice a5 n5 cc5 = .slice (some ⟨b, off, none⟩) n c -> w.heap.size <= b /\ b ≠ g4 /\ b ≠ g5 /\ b < Z2.heap.size from fun b off n c e => by
   have h1 := f5 b off n c e
   have h2 := aa HR1.out.2.2.1
   have h3 := aa HR1.out.2.2.2
   have h4 := HR1.out.1.size
   exact ⟨by omega, by omega, by omega, by omega⟩)
  have SZ := hide hb.size
  clear hb HR1 HC4 c5 f5
  refine hK.out _ _ trivial (fun hHeld => ?_)
  clear hK K hHeld
  try simp only [uA]
  refine rdy [4] ?_
  refine dH (o := ⟨_, _, _, _, _, _⟩) rfl rfl 22 (.tmp 4) (.tmp 8) rfl _ (Af HR2.out.2.2.1 a4 n4 cc4) AllReadyH.nil ⟨trivial, fun hHeld => ?_⟩
  clear hHeld
  simp only [Act.put]
  refine rdy [5] ?_
  refine dH (o := ⟨_, _, _, _, _, _⟩) rfl rfl 22 (.tmp 5) (.tmp 10) rfl _ (Af (HR2.out.set4 G4 NE.1 NE.2.2.symm _).2.2.2 a5 n5 cc5) AllReadyH.nil ⟨trivial, fun hHeld => ?_⟩
  clear hHeld
  simp only [Act.put]
  have HR3 := hide ((HR2.out.set4 G4 NE.1 NE.2.2.symm (.slice a4 n4 cc4)).set5 G5 NE.2.1 NE.2.2 (.slice a5 n5 cc5))
  have D4 := hide (SliceAt.setOther (u := .slice a5 n5 cc5) (g := g5) (SliceAt.setOther (u := .slice a4 n4 cc4) (g := g4) C4.out (fun b off n c e => (F4.out b off n c e).2.1)) (fun b off n c e => (F4.out b off n c e).2.2.1))
  have D5 := hide (SliceAt.setOther (u := .slice a5 n5 cc5) (g := g5) (SliceAt.setOther (u := .slice a4 n4 cc4) (g := g4) C5.out (fun b off n c e => (F5.out b off n c e).2.1)) (fun b off n c e => (F5.out b off n c e).2.2.1))
  clear HR2 C4 C5
  refine wpAnyH_done (by kernel_rfl) ?_ _
  refine NoPanic.normal ?_
  go_wp2_with fail
  go_ret
  exact ⟨g3, g4, g5, _, _, rfl, HR3.out, G3, G4, G5, ⟨D4.out, fun b off n c e => ⟨(F4.out b off n c e).1, by have := (F4.out b off n c e).2.2.2; have := SZ.out; simp; omega⟩, _, _, _, rfl⟩, ⟨D5.out, fun b off n c e => ⟨(F5.out b off n c e).1, by have := (F5.out b off n c e).2.2.2; simp; omega⟩, _, _, _, rfl⟩⟩
end Go.Proofs.YteealihknndclabGreatDoor
namespace Go.Proofs.YteealihknndclabGreatDoor
open Go.RowKit Go.Shelf

theorem mG {α : Type} {n : Nat} {P : Program} {g : Operand} {ps : Array Tmp} {assign body : Code} {Q : Exit -> Act -> World -> Prop} {a : Act} {w w0 : World} {gf : Nat} {lb : Array Value} {encs : α -> Array Value} {q : Nat -> Prop} {R : List α -> α -> World -> Prop} {S Sp : List α -> Prop}
  (hg : a.eval g = .func (.func gf) #[] lb) (eg : ∀ args w, (callFunc gf args).run P w = .ok (.enter gf args) w) (hseq : Gp (n - 1) P gf lb encs q R S Sp w0) (hb0 : Below w0.heap.size w0 w) (hps : ∀ x, (encs x).size = ps.size) (hq : ∀ k, q k -> k < w.heap.size)
  (I : List α -> World -> Prop) (Ix : Code -> List α -> World -> Prop) (gI : oF I) (gIx : ∀ c, oF (Ix c)) (bI : uj w.heap.size I) (bIx : ∀ c, uj w.heap.size (Ix c)) (bR : ∀ pre, uj w.heap.size (R pre)) (gR : ∀ pre, oF (R pre)) (h0 : I [] w) (Ax : α -> Act -> World -> Prop) (bA : ∀ x, uj w.heap.size (Ax x))
  (hassign : ∀ (l : Nat) (pre : List α) (x : α) (W : World) (K : Act -> World -> Prop), I pre W -> R pre x W -> (∀ a' W', Below W.heap.size W W' -> Ax x a' W' -> K a' W') -> assign.wpIn (Fence.wide.inRound l) (n - 1 - 1) P (Exit.then K (fun _ _ _ => False)) { tmps := (ps.zip (encs x)).foldl (fun t (p, v) => t.setIfInBounds p v) a.tmps, defers := [] } W)
  (hbody : ∀ (l : Nat) (pre : List α) (x : α) (a' : Act) (W : World), I pre W -> R pre x W -> Ax x a' W -> body.wpIn (Fence.wide.inRound l) (n - 1 - 1) P (qM q I Ix (pre ++ [x]) W) a' W)
  (hdone : ∀ (D : Nat) (xs : List α) (W : World), w.heap.size <= D -> S xs -> I xs W -> W.heap[D]? = some (.deferred (some [])) -> Q .normal { a with defers := { target := .collected D, args := #[] } :: a.defers } W)
  (hstop : ∀ (D : Nat) (c : Code) (pre : List α) (W : World), w.heap.size <= D -> Sp pre -> Ix c pre W -> W.heap[D]? = some (.deferred (some [])) -> c.wpIn Fence.wide n P Q { a with defers := { target := .collected D, args := #[] } :: a.defers } W) :
  (Code.rangeFunc g ps assign body).wpIn Fence.wide n P Q a w := by
 refine wpIn_rangeFunc fun fn _ => ?_
 let rc : LoopState -> Option Code -> Obj := fun st pe => .loop { state := st, pending := pe, fn, tmps := a.tmps, params := ps, assign, body, defers := w.heap.size }
 obtain ⟨D, hD⟩ : ∃ D, D = w.heap.size := ⟨_, rfl⟩
 obtain ⟨l, hl⟩ : ∃ l, l = w.heap.size + 1 := ⟨_, rfl⟩
 obtain ⟨V, hV⟩ : ∃ V, V = (w.alloc (.deferred (some []))).alloc (rc .ready none) := ⟨_, rfl⟩
 have b1 : Below w.heap.size w (w.alloc (.deferred (some []))) := (Below.refl _ w).alloc (lr _) _
 have b2 : Below w.heap.size w V := by rw [hV]; exact b1.alloc b1.size _
 have rl : V.heap[l]? = some (rc .ready none) := by
  rw [hV, hl, <- World.size_alloc w (.deferred (some []))]
  exact World.alloc_heap_new _ _
 have rD : V.heap[D]? = some (.deferred (some [])) := by
  rw [hV, hD, Below.heap_alloc _ _ _ (by rw [World.size_alloc]; omega)]
  exact World.alloc_heap_new _ _
 have nq : ¬ q l := fun e => by have := hq l e; omega
 have nD : ¬ q D := fun e => by have := hq D e; omega
 have nlD : D ≠ l := by omega
 refine ⟨l, [{ target := .collected D, args := #[] }], V, { target := .fn (.func gf) lb, args := #[.func (.yield l) #[] #[]] }, V, gf, #[.func (.yield l) #[] #[]] ++ lb, V, ?_, ?_, fun _ _ => trivial, ?_, fun e => by simp [Fence.wide] at e, ?_⟩
 ·rw [hV, hl, hD]
  exact run_enterLoop_outer _ _ _ _ _
 ·simp only [resolve, hg]
  simp [go_sem]
 ·simp [invoke, go_sem, eg]
 ·let J : List α -> World -> Prop := fun pre W => I pre W /\ W.heap[l]? = some (rc .ready none) /\ W.heap[D]? = some (.deferred (some []))
  let Jx : List α -> World -> Prop := fun pre W => ∃ c, Ix c pre W /\ W.heap[l]? = some (rc .done (some c)) /\ W.heap[D]? = some (.deferred (some []))
  have kp : ∀ {A B : World} {k : Nat} {o : Obj}, A.heap[k]? = some o -> Below A.heap.size A B -> B.heap[k]? = some o := fun h b => (b.block _ (aa h)).trans h
  refine (hseq l J Jx V (hb0.trans (b2.mono hb0.size)) (fun s A B h b => ⟨gI s A B h.1 b, kp h.2.1 b, kp h.2.2 b⟩) (fun s A B h b => by obtain ⟨c, h1, h2, h3⟩ := h; exact ⟨c, gIx c s A B h1 b, kp h2 b, kp h3 b⟩) ?_ ⟨gI _ _ _ h0 b2, rl, rD⟩).mono ?_
  ·rintro pre x W0 ⟨hi0, hr0, hd0⟩ hR0
   have hy := run_yield (P := P) (args := encs x) hr0 (hps x)
   refine ⟨fn, _, assign, body, hy, roundIn_of_wpIn trivial (hassign l pre x W0 _ hi0 hR0 (fun a' W hbW hAx => ⟨_, run_beginRound (kp hr0 hbW) rfl, ?_⟩))⟩
   have hi := gI _ _ _ hi0 hbW
   have hr := kp hr0 hbW
   have hd := kp hd0 hbW
   have hR := gR pre _ _ _ hR0 hbW
   have lt := aa hr
   have cW : Chg q W0 W := (Chg.ofBelow' (p := fun _ => False) hbW).mono (fun _ _ e => e.elim)
   refine wpIn_mono (hbody l pre x a' _ (bI _ _ _ _ _ hi (by omega) hr rfl) (bR pre _ _ _ _ _ hR (by omega) hr rfl) (bA x _ _ _ _ _ hAx (by omega) hr rfl)) ?_
   have rb : (W.putObj l (rc .busy none)).heap[l]? = some (rc .busy none) := World.putObj_heap_same lt
   have rd : (W.putObj l (rc .busy none)).heap[D]? = some (.deferred (some [])) := (World.putObj_heap_other nlD).trans hd
   intro e a3 X hp
   cases e with
   | normal =>
    obtain ⟨c3, i3⟩ := hp
    have r3 := c3.row rb nq
    have d3 := c3.row rd nD
    exact ⟨_, _, run_endRound none r3, Or.inl ⟨rfl, ⟨bI _ _ _ _ _ i3 (by omega) r3 rfl, World.putObj_heap_same (aa r3), (World.putObj_heap_other nlD).trans d3⟩, cW.trans (Chg.round lt hr c3) (fun _ _ e => e)⟩⟩
   | ret =>
    obtain ⟨c3, i3⟩ := hp
    have r3 := c3.row rb nq
    exact ⟨_, _, run_endRound (some .ret) r3, Or.inr ⟨rfl, .ret, bIx _ _ _ _ _ _ i3 (by omega) r3 rfl, World.putObj_heap_same (aa r3), (World.putObj_heap_other nlD).trans (c3.row rd nD)⟩⟩
   | exit id =>
    obtain ⟨c3, i3⟩ := hp
    have r3 := c3.row rb nq
    exact ⟨_, _, run_endRound (some (.exit id)) r3, Or.inr ⟨rfl, .exit id, bIx _ _ _ _ _ _ i3 (by omega) r3 rfl, World.putObj_heap_same (aa r3), (World.putObj_heap_other nlD).trans (c3.row rd nD)⟩⟩
   | goto t =>
    obtain ⟨c3, i3⟩ := hp
    have r3 := c3.row rb nq
    exact ⟨_, _, run_endRound (some (.goto t)) r3, Or.inr ⟨rfl, .goto t, bIx _ _ _ _ _ _ i3 (by omega) r3 rfl, World.putObj_heap_same (aa r3), (World.putObj_heap_other nlD).trans (c3.row rd nD)⟩⟩
   | panic ch => exact hp.elim
   | outgrown => exact hp.elim
  ·rintro e X ⟨⟨v, rfl⟩, ⟨xs, hS, hi, hr, hd⟩ | ⟨pre, hSp, c, hi, hr, hd⟩⟩
   ·exact ⟨none, _, run_endLoop hr (by intro h; cases h), hdone D xs _ (by omega) hS (bI _ _ _ _ _ hi (by omega) hr rfl) ((World.putObj_heap_other nlD).trans hd)⟩
   ·exact ⟨some c, _, run_endLoop hr (by intro h; cases h), hstop D c pre _ (by omega) hSp (bIx _ _ _ _ _ _ hi (by omega) hr rfl) ((World.putObj_heap_other nlD).trans hd)⟩
end Go.Proofs.YteealihknndclabGreatDoor
namespace Go.Proofs.YteealihknndclabGreatDoor
open Go.RowKit
open Go.Shelf
attribute [local go_sem] Oper.semAt_some
theorem upon_in {l n : Nat} {o : Oper} {a : Act} {next next' : Act -> World -> Prop} {Q : Exit -> Act -> World -> Prop} {r : Result Next} (hn : ∀ a w, next a w -> next' a w) (h : o.upon Tryz.prog a next Q r) : o.uponIn (Fence.wide.inRound l) n Tryz.prog a next' Q r := by
 cases r with
 | ok x w' =>
  cases x with
  | value v => exact hn _ _ h
  | skip => exact hn _ _ h
  | defer d => exact hn _ _ h
  | enter f args =>
   refine ⟨fun e => by simp [Fence.wide, Fence.inRound] at e, (CallsIn.inRound l (callsIn_wide.2 h)).mono ?_⟩
   intro e w'' he
   cases e with
   | returned v => exact hn _ _ he
   | panicked c => exact he
   | outgrown => exact he
  | row row args =>
   refine ⟨fun e => by simp [Fence.wide, Fence.inRound] at e, fun c cs _ => ?_⟩
   obtain ⟨v, w'', hr, hs⟩ := h c cs
   exact ⟨v, w'', hn _ _ hr, stepsIn_wide.2 hs⟩
  | _ => exact h.elim
 | halt x w' =>
  cases x with
  | panic v => exact h
  | _ => exact h.elim
theorem xZ {l n : Nat} {md : Region.Mode} {ops : Array Oper} {Q : Exit -> Act -> World -> Prop} (hQ : ¬ LetsOut Q) (hd : ∀ (i : Nat) (o : Oper), ops[i]? = some o -> ∀ c, o.op ≠ .defer c) : ∀ (fuel : Nat) (listed : Array Bool) (a : Act) (w : World), wpAny Tryz.prog md ops Q fuel listed a w -> wpAnyIn (Fence.wide.inRound l) n Tryz.prog md ops Q fuel listed a w := by
 intro fuel
 induction fuel with
 | zero => intro listed a w h; exact h
 | succ fuel ih =>
  intro listed a w h
  refine ⟨h.1, fun i hi => ?_⟩
  have h2 := h.2 i hi
  unfold wpOp at h2
  unfold wpOpIn
  split
  ·rename_i ho
   rw [ho] at h2
   exact ih _ _ _ h2
  ·rename_i o ho
   rw [ho] at h2
   simp only at h2
   split
   ·rename_i hw
    rw [if_pos hw] at h2
    rcases h2 with h2 | ⟨_, h2⟩
    ·refine ⟨fun _ _ => trivial, ?_⟩
     rw [show (Fence.wide.inRound l).round = some l from rfl, Oper.semAt_some l _ _ (hd i o ho)]
     exact upon_in (fun a w h => ih _ a w h) h2
    ·exact absurd h2 hQ
   ·rename_i hw
    rw [if_neg hw] at h2
    exact ⟨fun _ _ => trivial, ih _ _ _ h2⟩
end Go.Proofs.YteealihknndclabGreatDoor
namespace Go.Proofs.YteealihknndclabGreatDoor
open Go.RowKit
theorem lit_new (w : World) (l : List UInt8) (C : Array Value) (n : Nat) (hC : C = S.v8 l) (hn : n = l.length) (hl : l.length <= 1000) (r : Nat × Nat) : Below w.heap.size w (w.alloc (.cells C 5 r)) /\ SliceAt (w.alloc (.cells C 5 r)) (.slice (some ⟨w.heap.size, 0, none⟩) n n) l := by
 subst hC hn
 refine ⟨ba .., Or.inr (Or.inr ⟨w.heap.size, 0, _, rfl, lr _, by omega, by simp, fun j hj => ?_⟩)⟩
 rw [Nat.zero_add, cell_of_row _ w.heap.size j (S.v8 l) 5 r (heap_alloc_new _ _)]
 simp [S.v8, hj]
theorem convK32 (w : World) (C : Array Value) (n c : Nat) : (convert 22 22 (.slice (some ⟨w.heap.size, 0, none⟩) n c)).run Tryz.prog (w.alloc (.cells C 5)) = .ok (.slice (some ⟨w.heap.size, 0, none⟩) n c) (w.alloc (.cells C 5 (C.size, C.size + 1))) := Lib.run_convert_bytes_const w 22 5 C n c Tryz.underlying22 Tryz.underlying5
theorem uu (W : World) (l : List UInt8) (hl : l.length <= 1000000) : ∃ c W', (convert 9 22 (.string ⟨l.toArray⟩)).run Tryz.prog W = .ok (.slice (some ⟨W.heap.size, 0, none⟩) l.length c) W' /\ SliceAt W' (.slice (some ⟨W.heap.size, 0, none⟩) l.length c) l /\ Below W.heap.size W W' := by
 have hsz : (⟨l.toArray⟩ : ByteArray).size = l.length := by simp [ByteArray.size]
 refine ⟨grownCap W (⟨l.toArray⟩ : ByteArray).size 0 5, Lib.bytesWorld W 5 ⟨l.toArray⟩, ?_, ?_, ?_⟩
 ·have := Lib.run_convert_string_bytes (P := Tryz.prog) W 9 22 5 ⟨l.toArray⟩ Tryz.underlying9 Tryz.underlying22 Tryz.underlying5
  rw [this, hsz]
 ·refine Or.inr (Or.inr ⟨W.heap.size, 0, _, rfl, ?_, by omega, by rw [Lib.bytesWorld_size]; omega, fun j hj => ?_⟩)
  ·rw [hsz]; exact grownCap_ge _ _ _ _
  ·rw [Nat.zero_add, Lib.bytesWorld_cell W 5 ⟨l.toArray⟩ j (by rw [hsz]; exact hj)]
   first | done | rfl | simp [hj]
 ·exact ⟨rfl, rfl, rfl, by rw [Lib.bytesWorld_size]; omega, fun k hk => Lib.bytesWorld_at_old W 5 _ k hk⟩
theorem ry {p : Nat -> Prop} {w W : World} {v : Value} {bs : List UInt8} (h : SliceAt w v bs) (hc : Chg p w W) (hp : ∀ a n c, v = .slice (some a) n c -> ¬ p a.block) : SliceAt W v bs := by
 rcases h with h | h | ⟨b, off, cap, rfl, h1, h2, h3, h4⟩
 ·exact Or.inl h
 ·exact Or.inr (Or.inl h)
 ·exact Or.inr (Or.inr ⟨b, off, cap, rfl, h1, h2, Nat.lt_of_lt_of_le h3 hc.size, fun j hj => (World.cell?_of_block (hc.block b h3 (hp _ _ _ rfl))).trans (h4 j hj)⟩)
theorem size34' : (Tryz.prog.info? 77).map (·.size) = some 3 := by kernel_rfl
theorem mF {w : World} {ops : Array Oper} {rest : List Oper} {o : Oper} {a : Act} {Q : Exit -> Act -> World -> Prop} (hgd : o.guard = none) (t : TypeId) (x y : Operand) (ho : o.op = .makeSlice t x y) (vx vy : Value) (hx : a.eval x = vx) (hy : a.eval y = vy) (v : Value) (w' : World)
  (hr : (Instr.makeSlice t vx vy).run Tryz.prog w = .ok v w') (h : wpList Tryz.prog ops Q rest (a.put o.dst v) w') : wpList Tryz.prog ops Q (o :: rest) a w :=
 wpList_plain hgd fun _ hK => by
  unfold Oper.wp execOp
  simp only [ho, Sem.run_bind, hx, hy, hr, Result.andThen_ok]
  exact hK _ _ h
theorem dz.lies {w : World} {u : Value} {bs : List UInt8} (h : dz w u bs) (hb : bs ≠ []) : ∃ g c cur, u = .slice (some ⟨g, 0, none⟩) bs.length c /\ w.heap[g]? = some (.cells cur 5 (0, 0)) /\ bs.length <= cur.size /\ bs.length <= c := by
 have hp := List.length_pos_iff.2 hb
 obtain ⟨h1, h2⟩ := h
 rcases h2 with ⟨h3, h4⟩ | ⟨g', cap', cur, h3, h4, h5, h6, h7, h8, h9⟩
 ·omega
 ·exact ⟨g', cap', cur, h3, h5, by omega, h6⟩
def Got (w : World) (lo : Nat) (u : Value) (bs : List UInt8) : Prop := (u = .slice none 0 0 /\ bs = []) \/ ∃ q, u = .slice (some ⟨q, 0, none⟩) bs.length bs.length /\ lo <= q /\ w.heap[q]? = some (.cells (S.v8 bs) 5 (0, 0))
theorem Got.sliceAt {w : World} {lo : Nat} {u : Value} {bs : List UInt8} (h : Got w lo u bs) (hl : bs.length <= 100000) : SliceAt w u bs := by
 rcases h with ⟨rfl, rfl⟩ | ⟨q, rfl, _, h3⟩
 ·exact Or.inl ⟨rfl, rfl⟩
 ·exact az h3 rfl (by omega)
theorem Got.form {w : World} {lo : Nat} {u : Value} {bs : List UInt8} (h : Got w lo u bs) : ∃ a c, u = .slice a bs.length c := by
 rcases h with ⟨rfl, rfl⟩ | ⟨q, rfl, _⟩
 ·exact ⟨none, 0, rfl⟩
 ·exact ⟨_, _, rfl⟩
end Go.Proofs.YteealihknndclabGreatDoor
