/- Do: changes of a tree of one leaf. -/
import Derived.Test.YteealihknndclabGreatDoorEc
import Derived.Test.YteealihknndclabGreatDoorCd
import Derived.RangeFuncNested
import Derived.RangeFuncBound
import Derived.RangeFuncCalls
import Derived.RangeFuncLeaves
import Derived.Shelf.Abstract
import Derived.Shelf.RegionOpen
import Derived.OwnWalkIn
import Derived.TacticsInMore
import Derived.LoopNIn
import Derived.LoopIn
import Derived.Test.YteealihknndclabGreatDoorBase
import Derived.Test.YteealihknndclabGreatDoorBk
import Derived.WalkKit
import Derived.OneCell
import Derived.Test.YteealihknndclabGreatDoorBy
import Derived.BigQuiet
import Derived.Test.YteealihknndclabGreatDoorCc
import Derived.Lib.ConvBytes
namespace Go.Proofs.YteealihknndclabGreatDoor
open Go.RowKit

def BtO (w0 w : World) (o : Ow) (gt gs n : Nat) (es : List S.Ent) : Prop :=
 ∃ d p t pg, Bt1 w0 w o d p t pg es /\ jL w gt gs /\ eB w gs o /\ ¬ o.has gt /\ ¬ o.has gs /\ t <= n
theorem BtO.then {w0 w W : World} {o : Ow} {gt gs n : Nat} {es : List S.Ent} (h : BtO w0 w o gt gs n es) (hb : Below w.heap.size w W) : BtO w0 W o gt gs n es := by
 obtain ⟨d, p, t, pg, h1, h2, h3, h4, h5, h6⟩ := h
 exact ⟨d, p, t, pg, h1.then hb, (hb.block gt (aa h2)).trans h2, (hb.block gs (aa h3)).trans h3, h4, h5, h6⟩
theorem BtO.rds {w0 w : World} {o : Ow} {gt gs n : Nat} {es : List S.Ent} (h : BtO w0 w o gt gs n es) : ∃ pg, Rds w.heap.size w gs pg /\ jL w gt gs /\ S.nW pg es := by
 obtain ⟨d, p, t, pg, h1, h2, h3, _⟩ := h
 exact ⟨pg, h1.rds h3, h2, h1.leaf⟩
theorem BtO.below {w0 w : World} {o : Ow} {gt gs n : Nat} {es : List S.Ent} (h : BtO w0 w o gt gs n es) : Below w0.heap.size w0 w := by
 obtain ⟨d, p, t, pg, h1, _⟩ := h
 exact h1.pgs.below
set_option maxHeartbeats 16000000 in
set_option maxRecDepth 10000 in
theorem do_ok (w0 : World) (o : Ow) (gt gs n b off cap : Nat) (dc : List ChV) (cs : List S.Cg) (es : List S.Ent) (w : World) (h : BtO w0 w o gt gs n es) (h0 : ∀ j u, (dc.flatMap aZ)[j]? = some u -> w.cell? ⟨b, off + j, none⟩ = some u) (hne : dc ≠ []) (hl19 : dc.length <= 19) (hcap : dc.length <= cap) (hg : (dc.all ChV.good) = true) (hcs : dI w dc cs) (hle : es.length <= 9000) (hmk : S.bB 0 (S.mrg es (S.lasts cs))) (hn : n + 2 < 18446744073709551616) :
  Calls Tryz.prog 21 #[.pointer (some ⟨gt, 0, none⟩), .slice (some ⟨b, off, none⟩) dc.length cap] w fun e w' => e = .returned (.int .i64 0) /\ ∃ o', o'.g = o.g /\ BtO w0 w' o' gt gs (n + 2) (S.mrg es (S.lasts cs)) /\ Chg o.has w w' /\ ∀ k, o'.has k -> o.has k \/ w.heap.size <= k := by
 have hels : Els aZ w (.slice (some ⟨b, off, none⟩) dc.length cap) dc := Or.inr (Or.inr ⟨b, off, cap, rfl, hcap, by omega, by
  obtain ⟨x, r, rfl⟩ := List.exists_cons_of_ne_nil hne
  exact World.block_lt_of_cell? w _ (h0 0 (.slice x.ka x.kn x.kc) rfl), h0⟩)
 have HPM := hide (sH _ dc w hels)
 have HGD : Hid ((dc.all ChV.good && decide (dc.length <= 80)) = true) := by show (dc.all ChV.good && decide (dc.length <= 80)) = true; rw [hg, Bool.true_and]; exact decide_eq_true (by omega)
 have HNE := hide hne
 have HL19 := hide hl19
 have HCL := hide (show cs.length = dc.length from hcs.1.symm)
 have HLE := hide hle
 have HMK := hide hmk
 have HNT := hide hn
 obtain ⟨m, hm⟩ : ∃ m, m = dc.length := ⟨_, rfl⟩
 have HPOS : 0 < m := by rw [hm]; exact List.length_pos_iff.2 hne
 have q0 : ¬ (m : Int) = 0 := by omega
 rw [<- hm] at HPM HGD ⊢
 have HN := hide hm
 have HB := hide h
 have H00 := hide h0
 have HCS0 := hide hcs
 clear hels hg hne hl19 hcap hcs hle hmk hn hm h0 HPOS h
 go_enter Tryz.func21, Tryz.ntmps21
 go_wp2_with fail
 refine HPM.out.mono ?_
 rintro e w2 ⟨rfl, hb⟩
 rw [HGD.out]
 have HB2 := hide (HB.out.then hb)
 have HCS := hide (HCS0.out.below hb)
 have H0 : Hid (∀ j u, (dc.flatMap aZ)[j]? = some u -> w2.cell? ⟨b, off + j, none⟩ = some u) := fun j u h => (hb.cell (p := ⟨b, off + j, none⟩) (World.block_lt_of_cell? _ _ (H00.out j u h))).trans (H00.out j u h)
 have HW2 := hide hb
 clear hb H00 HCS0 HPM
 go_upto_region 5 with fail
 obtain ⟨d, p, t, pg, hb1, htr, hst, ngt, ngs, htn⟩ := HB2.out
 have HB1 := hide hb1
 have HTR := hide htr
 have HST := hide hst
 have NGT := hide ngt
 have NGS := hide ngs
 have HTN := hide htn
 have HRD := hide (hb1.rds hst)
 have HLF := hide hb1.leaf
 clear hb1 htr hst ngt ngs htn HB HB2
 refine wp_region_noPanic ?_
 refine wp_region_held_drew (S := (fun W => Below w2.heap.size w2 W)) follows ((Below.refl _ _).drew) (fun hHeld => ?_)
 clear hHeld
 have hHeld : Below w2.heap.size w2 w2.drew := (Below.refl _ _).drew
 have CZ0 := hide hHeld
 generalize w2.drew = Z0 at CZ0 hHeld ⊢
 refine tq 0 ?_
 simp only [uA]
 refine tq 1 ?_
 simp only [uA]
 refine tq 2 ?_
 simp only [uA]
 refine tk 3 ?_ rfl (Or.inl ⟨by rfl, ?_⟩) ?_
 rotate_left
 ·intro w hSw
  have ct := (hSw.cell (p := ⟨gt, 0, none⟩) (aa HTR.out)).trans (lI HTR.out)
  clear hSw
  go_simp
  all_goals with_reducible rfl
 simp only [uA]
 refine tq 4 ?_
 simp only [uA]
 refine r1 5 fun K hK => ?_
 go_simp
 rw [HN.out]
 refine (Br b off cap dc cs Z0 (fun j u h => (CZ0.out.cell (p := ⟨b, off + j, none⟩) (World.block_lt_of_cell? _ _ (H0.out j u h))).trans (H0.out j u h)) HNE.out HL19.out (HCS.out.below CZ0.out)).mono ?_
 rintro e Z1 ⟨⟨vl, dl, rfl, hel, hca, hone⟩, hbz⟩
 rw [<- HN.out]
 have CZ1 := hide (CZ0.out.trans (hbz.mono CZ0.out.size))
 have HEL := hide hel
 have HCA := hide hca
 clear hel hca hbz hone CZ0 hHeld
 refine hK.out _ _ CZ1.out (fun hHeld => ?_)
 clear hK K
 try simp only [uA]
 refine r1 6 fun K hK => ?_
 go_simp
 refine (Fw w2.heap.size gs pg es dl (S.lasts cs) vl Z1 (HRD.out.below CZ1.out) HLF.out HEL.out HCA.out (by have := HLE.out; have := HL19.out; have := S.vC cs; have := HCL.out; omega) HMK.out).mono ?_
 rintro e Z2 ⟨vs, q1, q2, rfl, hsh, hr1, hr2, hq1, hq2, hbz⟩
 have CZ2 := hide (CZ1.out.trans (hbz.mono CZ1.out.size))
 have SH := hide hsh
 have R1 := hide hr1
 have R2 := hide hr2
 have Q12 := hide (show w2.heap.size <= q1 /\ w2.heap.size <= q2 from ⟨ltr CZ1.out.size hq1, ltr CZ1.out.size hq2⟩)
 clear hsh hr1 hr2 hq1 hq2 hbz CZ1 hHeld HEL HCA
 refine hK.out _ _ CZ2.out (fun hHeld => ?_)
 clear hK K
 try simp only [uA]
 refine tq 7 ?_
 simp only [uA]
 refine tq 8 ?_
 simp only [uA]
 refine tq 9 ?_
 simp only [uA]
 refine tq 10 ?_
 simp only [uA]
 refine tq 11 ?_
 simp only [uA]
 refine wpAnyH_done (by kernel_rfl) ?_ _
 refine NoPanic.normal ?_
 clear hHeld
 have HTRZ := hide ((CZ2.out.block gt (aa HTR.out)).trans HTR.out)
 have HSTZ := hide (show eB Z2 gs o from (CZ2.out.block gs (aa HST.out)).trans HST.out)
 have HBZ := hide (HB1.out.then CZ2.out)
 have ct := lI HTRZ.out
 go_wp2_with fail
 have HP2 := DY w0 Z2 o d p t gs _ 1 0 q1 q2 vs pg (S.gY (S.mrg es (S.lasts cs))) HBZ.out.pgs HSTZ.out SH.out R1.out R2.out (S.ja HMK.out 1) (S.ja HMK.out 0)
  (fun e => by have h1 := HB1.out.pgs.dk.dk.lt q1 e; have := Q12.out; omega) (fun e => by have h1 := HB1.out.pgs.dk.dk.lt q2 e; have := Q12.out; omega) (by omega) (by omega) (by omega) NGS.out (by have := HTN.out; have := HNT.out; omega)
 refine HP2.mono ?_
 clear HP2
 rintro e w4 ⟨rfl, o', d', ho, hpg, hst4, hch, hhas⟩
 have HO' := hide ho
 have HPG := hide (tZ HMK.out HBZ.out.size 1 0 (Or.inr ⟨rfl, rfl⟩) hpg)
 have HS4 := hide hst4
 have HT4 := hide (show jL w4 gt gs from hch.row HTRZ.out NGT.out)
 have HCH := hide (show Chg o.has w w4 from (Chg.ofBelow' HW2.out).trans ((Chg.ofBelow' CZ2.out (p := o.has)).trans hch (fun _ _ e => e)) (fun _ _ e => e))
 have HHA : Hid (∀ k, o'.has k -> o.has k \/ w.heap.size <= k) := fun k hk => by
  rcases hhas k hk with e | e
  ·exact Or.inl e
  ·exact Or.inr (ltr HW2.out.size (ltr CZ2.out.size e))
 have NG4 : Hid (¬ o'.has gt /\ ¬ o'.has gs) := ⟨fun e => by
  rcases hhas gt e with e | e
  ·exact NGT.out e
  ·have := aa HTRZ.out; omega, fun e => by
  rcases hhas gs e with e | e
  ·exact NGS.out e
  ·have := aa HSTZ.out; omega⟩
 clear ho hpg hst4 hch hhas ct
 go_wp2_with fail
 go_ret
 exact ⟨rfl, o', HO'.out, ⟨d', p, t + 2, _, HPG.out, HT4.out, HS4.out, NG4.out.1, NG4.out.2, by have := HTN.out; omega⟩, HCH.out, HHA.out⟩
end Go.Proofs.YteealihknndclabGreatDoor
namespace Go.Proofs.YteealihknndclabGreatDoor
open Go.RowKit Go.Shelf

def xV {α : Type} (J : α -> World -> Prop) : Prop := ∀ s A B, J s A -> Below A.heap.size A B -> J s B
def F3 {α : Type} (B : Nat) (J : α -> World -> Prop) : Prop := ∀ s A l o o', J s A -> B <= l -> A.heap[l]? = some o -> o.isCells = false -> J s (A.putObj l o')
def FT {α : Type} (n : Nat) (P : Program) (g : Nat) (lb : Array Value) (encs : α -> Array Value) (q : Nat -> Prop) (R : List α -> α -> World -> Prop) (S Sp : List α -> Prop) (w : World) : Prop :=
 ∀ (l : Nat) (J Jx : List α -> World -> Prop) (W : World), Below w.heap.size w W -> xV J -> xV Jx ->
  (∀ pre x V, J pre V -> R pre x V -> YieldAt Fence.wide (n - 1) P l (encs x) V fun e V' => (e = .returned (.bool true) /\ J (pre ++ [x]) V' /\ Chg q V V') \/ (e = .returned (.bool false) /\ Jx (pre ++ [x]) V')) ->
  J [] W -> CallsIn Fence.wide n P g (#[.func (.yield l) #[] #[]] ++ lb) W fun e W' => (∃ v, e = .returned v) /\ ((∃ xs, S xs /\ J xs W') \/ (∃ pre, Sp pre /\ Jx pre W'))
def memPost {α : Type} (q : Nat -> Prop) (I : List α -> World -> Prop) (Ix : Code -> List α -> World -> Prop) (ys : List α) (W : World) : Exit -> Act -> World -> Prop
 | .normal, _, W' => Chg q W W' /\ I ys W'
 | .ret, _, W' => Chg q W W' /\ Ix .ret ys W'
 | .exit id, _, W' => Chg q W W' /\ Ix (.exit id) ys W'
 | .goto t, _, W' => Chg q W W' /\ Ix (.goto t) ys W'
 | .panic _, _, _ => False
 | .outgrown, _, _ => False
theorem nz {W : World} {l k : Nat} {o : Obj} (hl : l < W.heap.size) : (W.putObj l o).heap[k]? = if k = l then some o else W.heap[k]? := by
 by_cases e : k = l
 ·rw [if_pos e, e]; exact World.putObj_heap_same hl
 ·rw [if_neg e]; exact World.putObj_heap_other e
theorem Chg.round {q : Nat -> Prop} {W V : World} {l : Nat} {b f : Obj} (hl : l < W.heap.size) (hf : W.heap[l]? = some f) (h : Chg q (W.putObj l b) V) : Chg q W (V.putObj l f) := by
 have hs : (W.putObj l b).heap.size = W.heap.size := World.putObj_size
 have hV : l < V.heap.size := by have := h.size; omega
 refine ⟨h.os, h.tape, h.output, by have := h.size; rw [World.putObj_size]; omega, fun k hk hn => ?_⟩
 rw [nz hV]
 by_cases e : k = l
 ·rw [if_pos e, e, hf]
 ·rw [if_neg e, h.block k (by omega) hn, nz hl, if_neg e]
end Go.Proofs.YteealihknndclabGreatDoor
namespace Go.Proofs.YteealihknndclabGreatDoor
open Go.RowKit
open Go.Shelf
attribute [local go_sem] Oper.semAt_some

theorem S.rank_nil (ks : List (List UInt8)) : S.rank ks [] = 0 := by
 unfold S.rank
 rw [List.countP_eq_zero]
 intro a _
 cases a <;> simp [S.cO, Lib.compareBytes]
def Ab (x : EnV) : Array Value := #[.agg #[.slice x.ka x.kn x.kc, .slice x.va x.vn x.vc]]
theorem dm.past {p : Nat -> Prop} {B : Nat} {w W : World} {x : EnV} {e : S.Ent} (h : dm B w x e) (hc : Chg p w W) (hp : ∀ k, p k -> k < B) : dm B W x e := by
 obtain ⟨q, h1, h2, h3, h4, h5⟩ := h.key
 refine ⟨⟨q, h1, h2, h3, h4, hc.row h5 (fun e => by have := hp _ e; omega)⟩, ?_, h.page⟩
 rcases h.val with h6 | ⟨q2, h6, h7, h8, h9, h10, h11⟩
 ·exact Or.inl h6
 ·exact Or.inr ⟨q2, h6, h7, h8, h9, hc.row h10 (fun e => by have := hp _ e; omega), h11⟩
def lD (B : Nat) (es : List S.Ent) (pre : List EnV) (x : EnV) (V : World) : Prop := ∃ e, es[pre.length]? = some e /\ dm B V x e
theorem lD.bare (B b : Nat) (es : List S.Ent) (pre : List EnV) : F3 b (lD B es pre) := by
 rintro x A l o o' ⟨e, h1, h2⟩ _ hl ho
 have kp : ∀ {k : Nat} {c : Array Value} {t : TypeId} {f : Nat × Nat}, A.heap[k]? = some (.cells c t f) -> (A.putObj l o').heap[k]? = some (.cells c t f) := fun {k c t f} h => by
  have : k ≠ l := fun e => by rw [e, hl] at h; injection h with h; rw [h] at ho; cases ho
  exact (World.putObj_heap_other this).trans h
 obtain ⟨q, g1, g2, g3, g4, g5⟩ := h2.key
 refine ⟨e, h1, ⟨q, g1, g2, g3, g4, kp g5⟩, ?_, h2.page⟩
 rcases h2.val with h6 | ⟨q2, h6, h7, h8, h9, h10, h11⟩
 ·exact Or.inl h6
 ·exact Or.inr ⟨q2, h6, h7, h8, h9, kp h10, h11⟩
theorem els_all {w : World} {ao : Option Addr} {n cap : Nat} {d : List EnV} (h : Els aS w (.slice ao n cap) d) :
  (∀ W, (Instr.slice 96 (.slice ao n cap) (some (.int .i64 0)) none none).run Tryz.prog W = .ok (.slice ao n cap) W) /\ True := by
 have hn : n <= cap \/ n = 0 := by
  rcases h with ⟨h, _⟩ | ⟨_, _, h, _⟩ | ⟨_, _, _, h, h1, _⟩ <;> injection h with _ h2 h3 <;> omega
 refine ⟨fun W => ?_, trivial⟩
 rw [show (0 : Int) = ((0 : Nat) : Int) from rfl, run_slice_l W 96 ao n cap qF .i64 _ (by omega) (by omega), uR]
 cases ao <;> simp [sliced, Addr.add]
theorem ccell4 {w : World} {b off i : Nat} {x : EnV} (h : ∀ (r : Nat) u, (aS x)[r]? = some u -> w.cell? ⟨b, off + (i * 4 + r), none⟩ = some u) :
  w.cell? ⟨b, off + i * 4, none⟩ = some (.slice x.ka x.kn x.kc) /\ w.cell? ⟨b, off + i * 4 + 1, none⟩ = some (.slice x.va x.vn x.vc) /\ w.cell? ⟨b, off + i * 4 + 2, none⟩ = some (.int .i64 x.pg) /\ w.cell? ⟨b, off + i * 4 + 3, none⟩ = some (.pointer x.nd) :=
 ⟨h 0 _ rfl, by rw [Nat.add_assoc]; exact h 1 _ rfl, by rw [Nat.add_assoc]; exact h 2 _ rfl, by rw [Nat.add_assoc]; exact h 3 _ rfl⟩
theorem fK {w : World} {g : Nat} {a : Value} {t : TypeId} (h : w.heap[g]? = some (.cells #[a] t (0, 0))) : w.cell? ⟨g, 0, none⟩ = some a := by
 rw [cell_of_row w g 0 _ t _ h]; rfl
set_option maxHeartbeats 16000000 in
set_option maxRecDepth 100000 in
theorem AX (n : Nat) (B gs gt g4 g5 g3 : Nat) (pg : Nat -> List UInt8) (es : List S.Ent) (q : Nat -> Prop) (w : World) (hr : Rds B w gs pg) (hl : S.nW pg es) (ht : jL w gt gs) (h4 : w.heap[g4]? = some (.cells #[.slice none 0 0] 22 (0, 0))) (h5 : w.heap[g5]? = some (.cells #[.slice none 0 0] 22 (0, 0))) (h3 : w.heap[g3]? = some (.cells #[.pointer (some ⟨gt, 0, none⟩)] 60 (0, 0)))
  (hq : ∀ k, q k -> k < w.heap.size) (hq5 : ¬ q g5) :
  FT n Tryz.prog 38 #[.pointer (some ⟨g4, 0, none⟩), .pointer (some ⟨g5, 0, none⟩), .pointer (some ⟨g3, 0, none⟩)] Ab q (lD w.heap.size es) (fun xs => xs.length = es.length) (fun _ => True) w := by
 intro l J Jx W hW hJ hJx hY h0
 have HR := hide (hr.below hW)
 have HL := hide hl
 have HT := hide (show jL W gt gs from (hW.block _ (aa ht)).trans ht)
 have R4 := hide ((hW.block _ (aa h4)).trans h4)
 have R5 := hide ((hW.block _ (aa h5)).trans h5)
 have R3 := hide ((hW.block _ (aa h3)).trans h3)
 have HY := hide hY
 have HWR := hide (show w.heap.size <= W.heap.size from hW.size)
 have HQ := hide (show (∀ k, q k -> k < W.heap.size) from fun k hk => Nat.lt_of_lt_of_le (hq k hk) hW.size)
 have HQ5 := hide hq5
 obtain ⟨N, hN⟩ : ∃ N, N = es.length := ⟨_, rfl⟩
 have HN := hide hN
 have HNL := hide (show N <= 254 by rw [hN]; exact hl.ok.len)
 have c4 := fK R4.out
 have c3 := fK R3.out
 have ct := lI HT.out
 clear hr hl ht h4 h5 h3 hY hq hN hW
 refine callsIn_of_wp Tryz.func38 rfl trivial ?_ rfl
 simp only [Tryz.ntmps38, List.size_toArray, List.length_cons, List.length_nil, Nat.reduceAdd, Nat.reduceSub, Array.replicate_succ, Array.replicate_zero, List.push_toArray, List.append_toArray, List.nil_append, List.cons_append]
 gi_wp2
 gi_loopw [5, 6] (fun s5 s6 wr => (s5 = .slice none 0 0 /\ s6 = .bool true /\ wr = W) \/ (s6 = .bool false /\ ∃ xs, xs.length = N /\ J xs wr)) (fun _ s6 _ => match s6 with | .bool true => 1 | _ => 0)
 case atStart => exact Or.inl ⟨rfl, rfl, rfl⟩
 case round =>
  rcases hrel with ⟨rfl, rfl, rfl⟩ | ⟨rfl, xs, hxs, hJs⟩
  rotate_left
  ·gi_wp2
   go_end0
   exact ⟨⟨_, rfl⟩, .inl ⟨xs, by rw [hxs, HN.out], hJs⟩⟩
  ·gi_wp2
   refine ⟨trivial, by simp [Fence.wide], (callsIn_wide.2 (xq B gs pg es _ wr HR.out HL.out ⟨_, _, _, rfl⟩)).mono ?_⟩
   rintro e w1 ⟨g, rfl, hn, hb⟩
   have NN := hide hn
   have HB1 := hide hb
   clear hn hb
   gi_wp2
   refine ⟨trivial, by simp [Fence.wide], (callsIn_wide.2 (rM g 0 _ es [] w1 (NN.out.node HL.out.ok.ent (by have := HL.out.ok.len; omega)) (Or.inl ⟨rfl, rfl⟩) HL.out.ok.up)).mono ?_⟩
   rintro e w2 ⟨rfl, hb⟩
   rw [S.rank_nil]
   have N2 := hide (NN.out.below hb)
   have HB2 := hide (HB1.out.trans (hb.mono HB1.out.size))
   clear hb NN HB1
   obtain ⟨v, d, h1, h2, h3, h4⟩ := N2.out.is
   obtain ⟨ao, cap, rfl⟩ := h2.form
   obtain ⟨g0, g1⟩ := aJ h1
   have hd : d.length = N := h3.trans HN.out.symm
   have OB := hide (show ∀ k, (Value.slice ao N cap).ownBlock = some k -> ¬ q k from fun k hk hq => by rw [<- hd] at hk; have := (h2.blk hk).1; have := HQ.out k hq; omega)
   have ELS := hide (h2.els (by have := HNL.out; omega))
   rw [hd] at g1 ELS
   have SL := (els_all ELS.out).1
   have R5q := hide (show w2.heap[g5]? = some (.cells #[.slice none 0 0] 22 (0, 0)) from (HB2.out.block _ (aa R5.out)).trans R5.out)
   have H4 := hide h4
   have HD := hide hd
   clear h1 h2 h3 h4 hd N2
   gi_wp2
   gi_loopw [49] (fun i wr => ∃ (k : Nat) (pre : List EnV), k <= N /\ i = .int .i64 (k : Int) /\ pre.length = k /\ J pre wr /\ Chg q w2 wr) (fun i _ => N - (intOf i).toNat)
   case atStart => exact ⟨0, [], Nat.zero_le _, rfl, rfl, hJ _ _ _ h0 HB2.out, Chg.refl _ _⟩
   case round =>
    obtain ⟨k, pre, hk, rfl, hpre, hJs, hc⟩ := hrel
    by_cases hlt : k < N
    ·have q0 : (0 : Int) <= (k : Int) := by omega
     have q1 : (k : Int) < (N : Int) := by omega
     have qw : IntKind.i64.wrap ((k : Int) + 1) = (k : Int) + 1 := by rw [IntKind.wrap_i64]; have := HNL.out; omega
     obtain ⟨x, hx⟩ : ∃ x, d[k]? = some x := ⟨_, List.getElem?_eq_getElem (by rw [HD.out]; exact hlt)⟩
     obtain ⟨en, hen⟩ : ∃ en, es[k]? = some en := ⟨_, List.getElem?_eq_getElem (by rw [<- HN.out]; exact hlt)⟩
     have EN := hide ((H4.out k x en hx hen).1.past hc (fun k hq => HQ.out k hq))
     obtain ⟨b, off, cp, hs, hcp, hbl, hcl⟩ := (ELS.out.chg hc OB.out).at gq k x hx
     rw [HD.out] at hs hcp
     simp only [Value.slice.injEq] at hs
     obtain ⟨rfl, -, rfl⟩ := hs
     obtain ⟨t0, t1, t2, t3⟩ := ccell4 hcl
     have c5 : wr.cell? ⟨g5, 0, none⟩ = some (.slice none 0 0) := fK (hc.row R5q.out HQ5.out)
     have hg5 : g5 < wr.heap.size := aa (hc.row R5q.out HQ5.out)
     obtain ⟨ka, kn, kc, va, vn, vc, px, nd⟩ := x
     obtain ⟨VN, hVN⟩ : ∃ V, V = wr.alloc (.cells #[.slice ka kn kc, .slice va vn vc, .int .i64 px, .pointer nd] 95 (0, 0)) := ⟨_, rfl⟩
     have bV : Below wr.heap.size wr VN := by rw [hVN]; exact (Below.refl _ wr).alloc (lr _) _
     obtain ⟨fn, tmps, assign, body, hy, hR⟩ := HY.out pre ⟨ka, kn, kc, va, vn, vc, px, nd⟩ VN (hJ _ _ _ hJs bV) ⟨en, by rw [hpre]; exact hen, (EN.out.below bV).mono HWR.out⟩
     simp only [Ab] at hy
     have HK := hide (And.intro hlt hpre)
     have HCV := hide (hc.trans (q := fun _ => False) (Chg.ofBelow' bV) (fun _ _ e => e.elim))
     subst hVN
     clear hx hen hcl hlt hk hJs hc bV
     gi_wp2
     refine ⟨trivial, by simp [Fence.wide], (callsIn_wide.2 (uE _ _ ⟨_, _, _, rfl⟩)).mono ?_⟩
     rintro e w3 ⟨rfl, rfl⟩
     gi_wp2
     refine ⟨by simp [Fence.wide], hR.mono ?_⟩
     rintro e W3 (⟨rfl, hJ3, hk3⟩ | ⟨rfl, hJx3⟩)
     ·gi_wp2
      go_roundw
      case rel => exact ⟨k + 1, _, by have := HK.out; omega, rfl, by simp [HK.out.2], hJ3, HCV.out.trans hk3 (fun _ _ e => e)⟩
      case measure => have := HK.out; simp only [intOf]; omega
     ·gi_wp2
      refine bodyPost_ret (results_none rfl _ _ _) rfl ?_
      exact ⟨⟨_, rfl⟩, .inr ⟨_, trivial, hJx3⟩⟩
    ·obtain rfl : k = N := by omega
     have q1 : ¬ (k : Int) < (k : Int) := by omega
     gi_wp2
     refine ⟨trivial, ?_⟩
     gi_wp2
     go_roundw
     case rel => exact Or.inr ⟨rfl, pre, hpre, hJs⟩
     case measure => simp
end Go.Proofs.YteealihknndclabGreatDoor
namespace Go.Proofs.YteealihknndclabGreatDoor
open Go.RowKit
theorem zl (W : World) : (binOp .eql 22 (.slice none 0 0) (.slice none 0 0)).run Tryz.prog W = .ok (.bool true) W := by
 have h : ∀ d : Nat, (Op.equalIn (d + 1) 22 (.slice none 0 0) (.slice none 0 0)).run Tryz.prog W = .ok true W := fun d => by
  simp [Op.equalIn, run_underlying Tryz.underlying22]
 simp only [binOp]
 simp [Op.equal, Op.maxDepth, h 9999]
set_option maxRecDepth 10000 in
theorem uu (w : World) : Calls Tryz.prog 37 #[.slice none 0 0] w fun e w' => e = .returned (.slice none 0 0) /\ w = w' := by
 have e := zl
 go_enter Tryz.func37, Tryz.ntmps37
 go_wp2_with fail
 go_ret
 exact ⟨rfl, rfl⟩
set_option maxRecDepth 10000 in
theorem zI {w : World} {g : Nat} {v : Value} (h : w.heap[g]? = some (.cells #[v] 22 (0, 0))) (ao : Option Addr) (n c : Nat) :
  (Instr.storeAt 22 (.pointer (some ⟨g, 0, none⟩)) (.slice ao n c)).run Tryz.prog w = .ok () (w.setCell ⟨g, 0, none⟩ (.slice ao n c)) := by
 have e := fK h
 have f := frozen_of_row w g 0 _ _ h
 go_simp
def RgS (w : World) (g3 g4 g5 gt : Nat) (W : World) : Prop :=
 Below w.heap.size w W /\ W.heap[g3]? = some (.cells #[.pointer (some ⟨gt, 0, none⟩)] 60 (0, 0)) /\ W.heap[g4]? = some (.cells #[.slice none 0 0] 22 (0, 0)) /\ W.heap[g5]? = some (.cells #[.slice none 0 0] 22 (0, 0))
theorem RgS.set4 {w W : World} {g3 g4 g5 gt : Nat} (h : RgS w g3 g4 g5 gt W) (h4 : w.heap.size <= g4) (n3 : g3 ≠ g4) (n5 : g5 ≠ g4) : RgS w g3 g4 g5 gt (W.setCell ⟨g4, 0, none⟩ (.slice none 0 0)) :=
 ⟨h.1.setCell (p := ⟨g4, 0, none⟩) h4 _, (heap_setCell_other _ _ _ _ n3).trans h.2.1, one_setCell h.2.2.1, (heap_setCell_other _ _ _ _ n5).trans h.2.2.2⟩
theorem RgS.set5 {w W : World} {g3 g4 g5 gt : Nat} (h : RgS w g3 g4 g5 gt W) (h5 : w.heap.size <= g5) (n3 : g3 ≠ g5) (n4 : g4 ≠ g5) : RgS w g3 g4 g5 gt (W.setCell ⟨g5, 0, none⟩ (.slice none 0 0)) :=
 ⟨h.1.setCell (p := ⟨g5, 0, none⟩) h5 _, (heap_setCell_other _ _ _ _ n3).trans h.2.1, (heap_setCell_other _ _ _ _ n4).trans h.2.2.1, one_setCell h.2.2.2⟩
set_option maxHeartbeats 4000000 in
set_option maxRecDepth 10000 in
theorem AY (gt : Nat) (w : World) : Calls Tryz.prog 24 #[.pointer (some ⟨gt, 0, none⟩), .slice none 0 0, .slice none 0 0] w fun e w' =>
  ∃ g3 g4 g5, e = .returned (.func (.func 38) #[] #[.pointer (some ⟨g4, 0, none⟩), .pointer (some ⟨g5, 0, none⟩), .pointer (some ⟨g3, 0, none⟩)]) /\ RgS w g3 g4 g5 gt w' /\ w.heap.size <= g3 /\ w.heap.size <= g4 /\ w.heap.size <= g5 := by
 obtain ⟨g3, h3⟩ : ∃ g, g = w.heap.size := ⟨_, rfl⟩
 obtain ⟨g4, h4⟩ : ∃ g, g = w.heap.size + 1 := ⟨_, rfl⟩
 obtain ⟨g5, h5⟩ : ∃ g, g = w.heap.size + 1 + 1 := ⟨_, rfl⟩
 go_enter Tryz.func24, Tryz.ntmps24
 go_upto_region 1 with fail
 have s1 : ∀ (W : World) o, (W.alloc o).heap.size = W.heap.size + 1 := fun W o => World.size_alloc W o
 have r3 : ((w.alloc (.cells #[.pointer (some ⟨gt, 0, none⟩)] 60 (0, 0)))).heap[g3]? = some (.cells #[.pointer (some ⟨gt, 0, none⟩)] 60 (0, 0)) := by rw [h3]; exact heap_alloc_new _ _
 have b3 := (Below.refl w.heap.size w).alloc (lr _) (.cells #[.pointer (some ⟨gt, 0, none⟩)] 60 (0, 0))
 obtain ⟨W3, hW3⟩ : ∃ W, W = w.alloc (.cells #[.pointer (some ⟨gt, 0, none⟩)] 60 (0, 0)) := ⟨_, rfl⟩
 have z3 : W3.heap.size = w.heap.size + 1 := by rw [hW3, s1]
 have r4 : (W3.alloc (.cells #[.slice none 0 0] 22 (0, 0))).heap[g4]? = some (.cells #[.slice none 0 0] 22 (0, 0)) := by rw [h4, <- z3]; exact heap_alloc_new _ _
 obtain ⟨W4, hW4⟩ : ∃ W, W = W3.alloc (.cells #[.slice none 0 0] 22 (0, 0)) := ⟨_, rfl⟩
 have z4 : W4.heap.size = w.heap.size + 1 + 1 := by rw [hW4, s1, z3]
 have r5 : (W4.alloc (.cells #[.slice none 0 0] 22 (0, 0))).heap[g5]? = some (.cells #[.slice none 0 0] 22 (0, 0)) := by rw [h5, <- z4]; exact heap_alloc_new _ _
 obtain ⟨W5, hW5⟩ : ∃ W, W = W4.alloc (.cells #[.slice none 0 0] 22 (0, 0)) := ⟨_, rfl⟩
 rw [<- hW3] at r3 b3
 rw [<- hW4] at r4
 rw [<- hW5] at r5
 have c4 : Below W3.heap.size W3 W4 := by rw [hW4]; exact ba ..
 have c5 : Below W4.heap.size W4 W5 := by rw [hW5]; exact ba ..
 have HR0 := hide (show RgS w g3 g4 g5 gt W5.drew from ⟨((b3.trans (c4.mono (by omega))).trans (c5.mono (by omega))).drew, (c5.block _ (by omega)).trans ((c4.block _ (by omega)).trans r3), (c5.block _ (by omega)).trans r4, r5⟩)
 rw [<- h3, show g3 + 1 + 1 = g5 by omega, show g3 + 1 = g4 by omega, <- hW3, <- hW4, <- hW5]

 clear r3 r4 r5 b3 c4 c5 s1 hW3 hW4 hW5 z3 z4
 have G4 : w.heap.size <= g4 := by omega
 have G5 : w.heap.size <= g5 := by omega
 have G3 : w.heap.size <= g3 := by omega
 have NE : g3 ≠ g4 /\ g3 ≠ g5 /\ g4 ≠ g5 := by omega
 clear h3 h4 h5
 refine wp_region_noPanic ?_
 refine wp_region_held_drew (S := (fun W => RgS w g3 g4 g5 gt W)) follows HR0.out (fun hHeld => ?_)
 refine tk 0 ?_ rfl (Or.inl ⟨by rfl, ?_⟩) ?_
 rotate_left
 ·intro w hSw
  have e4 := fK hSw.2.2.1
  have e5 := fK hSw.2.2.2
  clear hSw
  go_simp
  all_goals with_reducible rfl
 simp only [uA]
 refine tk 2 ?_ rfl (Or.inl ⟨by rfl, ?_⟩) ?_
 rotate_left
 ·intro w hSw
  have e4 := fK hSw.2.2.1
  have e5 := fK hSw.2.2.2
  clear hSw
  go_simp
  all_goals with_reducible rfl
 simp only [uA]
 refine r1 1 fun K hK => ?_
 go_simp
 refine (uu _).mono ?_
 rintro e Z1 ⟨rfl, rfl⟩
 refine hK.out _ _ hHeld (fun hHeld => ?_)
 clear hK K
 try simp only [uA]
 refine r1 3 fun K hK => ?_
 go_simp
 refine (uu _).mono ?_
 rintro e Z2 ⟨rfl, rfl⟩
 refine hK.out _ _ hHeld (fun hHeld => ?_)
 clear hK K
 try simp only [uA]
 refine rdy [4] ?_
 refine dU (o := ⟨_, _, _, _, _, _⟩) rfl rfl 22 (.tmp 4) (.tmp 8) rfl _ (zI hHeld.2.2.1 none 0 0) AllReadyH.nil ⟨hHeld.set4 (by omega) (by omega) (by omega), fun rF => ?_⟩
 clear hHeld
 have hHeld := rF
 clear rF
 simp only [Act.put]
 refine rdy [5] ?_
 refine dU (o := ⟨_, _, _, _, _, _⟩) rfl rfl 22 (.tmp 5) (.tmp 10) rfl _ (zI hHeld.2.2.2 none 0 0) AllReadyH.nil ⟨hHeld.set5 (by omega) (by omega) (by omega), fun rF => ?_⟩
 clear hHeld
 have hHeld := rF
 clear rF
 simp only [Act.put]
 refine wpAnyH_done (by kernel_rfl) ?_ _
 refine NoPanic.normal ?_
 go_wp2_with fail
 go_ret
 exact ⟨g3, g4, g5, rfl, hHeld, G3, G4, G5⟩
end Go.Proofs.YteealihknndclabGreatDoor
namespace Go.Proofs.YteealihknndclabGreatDoor
open Go.RowKit Go.Shelf

theorem sD {α : Type} {n : Nat} {P : Program} {g : Operand} {ps : Array Tmp} {assign body : Code} {Q : Exit -> Act -> World -> Prop} {a : Act} {w w0 : World} {gf : Nat} {lb : Array Value} {encs : α -> Array Value} {q : Nat -> Prop} {R : List α -> α -> World -> Prop} {S Sp : List α -> Prop}
  (hg : a.eval g = .func (.func gf) #[] lb) (eg : ∀ args w, (callFunc gf args).run P w = .ok (.enter gf args) w) (hseq : FT (n - 1) P gf lb encs q R S Sp w0) (hb0 : Below w0.heap.size w0 w) (hps : ∀ x, (encs x).size = ps.size) (hq : ∀ k, q k -> k < w.heap.size)
  (I : List α -> World -> Prop) (Ix : Code -> List α -> World -> Prop) (gI : xV I) (gIx : ∀ c, xV (Ix c)) (bI : F3 w.heap.size I) (bIx : ∀ c, F3 w.heap.size (Ix c)) (bR : ∀ pre, F3 w.heap.size (R pre)) (gR : ∀ pre, xV (R pre)) (h0 : I [] w) (Ax : α -> Act -> World -> Prop) (bA : ∀ x, F3 w.heap.size (Ax x))
  (hassign : ∀ (l : Nat) (pre : List α) (x : α) (W : World) (K : Act -> World -> Prop), I pre W -> R pre x W -> (∀ a' W', Below W.heap.size W W' -> Ax x a' W' -> K a' W') -> assign.wpIn (Fence.wide.inRound l) (n - 1 - 1) P (Exit.then K (fun _ _ _ => False)) { tmps := (ps.zip (encs x)).foldl (fun t (p, v) => t.setIfInBounds p v) a.tmps, defers := [] } W)
  (hbody : ∀ (l : Nat) (pre : List α) (x : α) (a' : Act) (W : World), I pre W -> R pre x W -> Ax x a' W -> body.wpIn (Fence.wide.inRound l) (n - 1 - 1) P (memPost q I Ix (pre ++ [x]) W) a' W)
  (hdone : ∀ (D : Nat) (xs : List α) (W : World), w.heap.size <= D -> S xs -> I xs W -> W.heap[D]? = some (.deferred (some [])) -> Q .normal { a with defers := { target := .collected D, args := #[] } :: a.defers } W)
  (hstop : ∀ (D : Nat) (c : Code) (pre : List α) (W : World), w.heap.size <= D -> Sp pre -> Ix c pre W -> W.heap[D]? = some (.deferred (some [])) -> c.wpIn Fence.wide n P Q { a with defers := { target := .collected D, args := #[] } :: a.defers } W) :
  (Code.rangeFunc g ps assign body).wpIn Fence.wide n P Q a w := by
 refine wpIn_rangeFunc fun fn _ => ?_
 let rc : LoopState -> Option Code -> Obj := fun st pe => .loop { state := st, pending := pe, fn, tmps := a.tmps, params := ps, assign, body, defers := w.heap.size }
 obtain ⟨D, hD⟩ : ∃ D, D = w.heap.size := ⟨_, rfl⟩
 obtain ⟨l, hl⟩ : ∃ l, l = w.heap.size + 1 := ⟨_, rfl⟩
 obtain ⟨V, hV⟩ : ∃ V, V = (w.alloc (.deferred (some []))).alloc (rc .ready none) := ⟨_, rfl⟩
 have b1 : Below w.heap.size w (w.alloc (.deferred (some []))) := (Below.refl _ w).alloc (lr _) _
 have b2 : Below w.heap.size w V := by rw [hV]; exact b1.alloc b1.size _
 have rl : V.heap[l]? = some (rc .ready none) := by
  rw [hV, hl, <- World.size_alloc w (.deferred (some []))]
  exact World.alloc_heap_new _ _
 have rD : V.heap[D]? = some (.deferred (some [])) := by
  rw [hV, hD, Below.heap_alloc _ _ _ (by rw [World.size_alloc]; omega)]
  exact World.alloc_heap_new _ _
 have nq : ¬ q l := fun e => by have := hq l e; omega
 have nD : ¬ q D := fun e => by have := hq D e; omega
 have nlD : D ≠ l := by omega
 refine ⟨l, [{ target := .collected D, args := #[] }], V, { target := .fn (.func gf) lb, args := #[.func (.yield l) #[] #[]] }, V, gf, #[.func (.yield l) #[] #[]] ++ lb, V, ?_, ?_, fun _ _ => trivial, ?_, fun e => by simp [Fence.wide] at e, ?_⟩
 ·rw [hV, hl, hD]
  exact run_enterLoop_outer _ _ _ _ _
 ·simp only [resolve, hg]
  simp [go_sem]
 ·simp [invoke, go_sem, eg]
 ·let J : List α -> World -> Prop := fun pre W => I pre W /\ W.heap[l]? = some (rc .ready none) /\ W.heap[D]? = some (.deferred (some []))
  let Jx : List α -> World -> Prop := fun pre W => ∃ c, Ix c pre W /\ W.heap[l]? = some (rc .done (some c)) /\ W.heap[D]? = some (.deferred (some []))
  have kp : ∀ {A B : World} {k : Nat} {o : Obj}, A.heap[k]? = some o -> Below A.heap.size A B -> B.heap[k]? = some o := fun h b => (b.block _ (aa h)).trans h
  refine (hseq l J Jx V (hb0.trans (b2.mono hb0.size)) (fun s A B h b => ⟨gI s A B h.1 b, kp h.2.1 b, kp h.2.2 b⟩) (fun s A B h b => by obtain ⟨c, h1, h2, h3⟩ := h; exact ⟨c, gIx c s A B h1 b, kp h2 b, kp h3 b⟩) ?_ ⟨gI _ _ _ h0 b2, rl, rD⟩).mono ?_
  ·rintro pre x W0 ⟨hi0, hr0, hd0⟩ hR0
   have hy := run_yield (P := P) (args := encs x) hr0 (hps x)
   refine ⟨fn, _, assign, body, hy, roundIn_of_wpIn trivial (hassign l pre x W0 _ hi0 hR0 (fun a' W hbW hAx => ⟨_, run_beginRound (kp hr0 hbW) rfl, ?_⟩))⟩
   have hi := gI _ _ _ hi0 hbW
   have hr := kp hr0 hbW
   have hd := kp hd0 hbW
   have hR := gR pre _ _ _ hR0 hbW
   have lt := aa hr
   have cW : Chg q W0 W := (Chg.ofBelow' (p := fun _ => False) hbW).mono (fun _ _ e => e.elim)
   refine wpIn_mono (hbody l pre x a' _ (bI _ _ _ _ _ hi (by omega) hr rfl) (bR pre _ _ _ _ _ hR (by omega) hr rfl) (bA x _ _ _ _ _ hAx (by omega) hr rfl)) ?_
   have rb : (W.putObj l (rc .busy none)).heap[l]? = some (rc .busy none) := World.putObj_heap_same lt
   have rd : (W.putObj l (rc .busy none)).heap[D]? = some (.deferred (some [])) := (World.putObj_heap_other nlD).trans hd
   intro e a3 X hp
   cases e with
   | normal =>
    obtain ⟨c3, i3⟩ := hp
    have r3 := c3.row rb nq
    have d3 := c3.row rd nD
    exact ⟨_, _, run_endRound none r3, Or.inl ⟨rfl, ⟨bI _ _ _ _ _ i3 (by omega) r3 rfl, World.putObj_heap_same (aa r3), (World.putObj_heap_other nlD).trans d3⟩, cW.trans (Chg.round lt hr c3) (fun _ _ e => e)⟩⟩
   | ret =>
    obtain ⟨c3, i3⟩ := hp
    have r3 := c3.row rb nq
    exact ⟨_, _, run_endRound (some .ret) r3, Or.inr ⟨rfl, .ret, bIx _ _ _ _ _ _ i3 (by omega) r3 rfl, World.putObj_heap_same (aa r3), (World.putObj_heap_other nlD).trans (c3.row rd nD)⟩⟩
   | exit id =>
    obtain ⟨c3, i3⟩ := hp
    have r3 := c3.row rb nq
    exact ⟨_, _, run_endRound (some (.exit id)) r3, Or.inr ⟨rfl, .exit id, bIx _ _ _ _ _ _ i3 (by omega) r3 rfl, World.putObj_heap_same (aa r3), (World.putObj_heap_other nlD).trans (c3.row rd nD)⟩⟩
   | goto t =>
    obtain ⟨c3, i3⟩ := hp
    have r3 := c3.row rb nq
    exact ⟨_, _, run_endRound (some (.goto t)) r3, Or.inr ⟨rfl, .goto t, bIx _ _ _ _ _ _ i3 (by omega) r3 rfl, World.putObj_heap_same (aa r3), (World.putObj_heap_other nlD).trans (c3.row rd nD)⟩⟩
   | panic ch => exact hp.elim
   | outgrown => exact hp.elim
  ·rintro e X ⟨⟨v, rfl⟩, ⟨xs, hS, hi, hr, hd⟩ | ⟨pre, hSp, c, hi, hr, hd⟩⟩
   ·exact ⟨none, _, run_endLoop hr (by intro h; cases h), hdone D xs _ (by omega) hS (bI _ _ _ _ _ hi (by omega) hr rfl) ((World.putObj_heap_other nlD).trans hd)⟩
   ·exact ⟨some c, _, run_endLoop hr (by intro h; cases h), hstop D c pre _ (by omega) hSp (bIx _ _ _ _ _ _ hi (by omega) hr rfl) ((World.putObj_heap_other nlD).trans hd)⟩
end Go.Proofs.YteealihknndclabGreatDoor
namespace Go.Proofs.YteealihknndclabGreatDoor
open Go.RowKit
open Go.Shelf
attribute [local go_sem] Oper.semAt_some
theorem upon_in {l n : Nat} {o : Oper} {a : Act} {next next' : Act -> World -> Prop} {Q : Exit -> Act -> World -> Prop} {r : Result Next} (hn : ∀ a w, next a w -> next' a w) (h : o.upon Tryz.prog a next Q r) : o.uponIn (Fence.wide.inRound l) n Tryz.prog a next' Q r := by
 cases r with
 | ok x w' =>
  cases x with
  | value v => exact hn _ _ h
  | skip => exact hn _ _ h
  | defer d => exact hn _ _ h
  | enter f args =>
   refine ⟨fun e => by simp [Fence.wide, Fence.inRound] at e, (CallsIn.inRound l (callsIn_wide.2 h)).mono ?_⟩
   intro e w'' he
   cases e with
   | returned v => exact hn _ _ he
   | panicked c => exact he
   | outgrown => exact he
  | row row args =>
   refine ⟨fun e => by simp [Fence.wide, Fence.inRound] at e, fun c cs _ => ?_⟩
   obtain ⟨v, w'', hr, hs⟩ := h c cs
   exact ⟨v, w'', hn _ _ hr, stepsIn_wide.2 hs⟩
  | _ => exact h.elim
 | halt x w' =>
  cases x with
  | panic v => exact h
  | _ => exact h.elim
theorem xC {l n : Nat} {md : Region.Mode} {ops : Array Oper} {Q : Exit -> Act -> World -> Prop} (hQ : ¬ LetsOut Q) (hd : ∀ (i : Nat) (o : Oper), ops[i]? = some o -> ∀ c, o.op ≠ .defer c) : ∀ (fuel : Nat) (listed : Array Bool) (a : Act) (w : World), wpAny Tryz.prog md ops Q fuel listed a w -> wpAnyIn (Fence.wide.inRound l) n Tryz.prog md ops Q fuel listed a w := by
 intro fuel
 induction fuel with
 | zero => intro listed a w h; exact h
 | succ fuel ih =>
  intro listed a w h
  refine ⟨h.1, fun i hi => ?_⟩
  have h2 := h.2 i hi
  unfold wpOp at h2
  unfold wpOpIn
  split
  ·rename_i ho
   rw [ho] at h2
   exact ih _ _ _ h2
  ·rename_i o ho
   rw [ho] at h2
   simp only at h2
   split
   ·rename_i hw
    rw [if_pos hw] at h2
    rcases h2 with h2 | ⟨_, h2⟩
    ·refine ⟨fun _ _ => trivial, ?_⟩
     rw [show (Fence.wide.inRound l).round = some l from rfl, Oper.semAt_some l _ _ (hd i o ho)]
     exact upon_in (fun a w h => ih _ a w h) h2
    ·exact absurd h2 hQ
   ·rename_i hw
    rw [if_neg hw] at h2
    exact ⟨fun _ _ => trivial, ih _ _ _ h2⟩
end Go.Proofs.YteealihknndclabGreatDoor
namespace Go.Proofs.YteealihknndclabGreatDoor
open Go.RowKit
theorem lit_new (w : World) (l : List UInt8) (C : Array Value) (n : Nat) (hC : C = S.v8 l) (hn : n = l.length) (hl : l.length <= 1000) (r : Nat × Nat) : Below w.heap.size w (w.alloc (.cells C 5 r)) /\ SliceAt (w.alloc (.cells C 5 r)) (.slice (some ⟨w.heap.size, 0, none⟩) n n) l := by
 subst hC hn
 refine ⟨ba .., Or.inr (Or.inr ⟨w.heap.size, 0, _, rfl, lr _, by omega, by simp, fun j hj => ?_⟩)⟩
 rw [Nat.zero_add, cell_of_row _ w.heap.size j (S.v8 l) 5 r (heap_alloc_new _ _)]
 simp [S.v8, hj]
theorem convK32 (w : World) (C : Array Value) (n c : Nat) : (convert 22 22 (.slice (some ⟨w.heap.size, 0, none⟩) n c)).run Tryz.prog (w.alloc (.cells C 5)) = .ok (.slice (some ⟨w.heap.size, 0, none⟩) n c) (w.alloc (.cells C 5 (C.size, C.size + 1))) := Lib.run_convert_bytes_const w 22 5 C n c Tryz.underlying22 Tryz.underlying5
theorem tL (W : World) (l : List UInt8) (hl : l.length <= 1000000) : ∃ c W', (convert 9 22 (.string ⟨l.toArray⟩)).run Tryz.prog W = .ok (.slice (some ⟨W.heap.size, 0, none⟩) l.length c) W' /\ SliceAt W' (.slice (some ⟨W.heap.size, 0, none⟩) l.length c) l /\ Below W.heap.size W W' := by
 have hsz : (⟨l.toArray⟩ : ByteArray).size = l.length := by simp [ByteArray.size]
 refine ⟨grownCap W (⟨l.toArray⟩ : ByteArray).size 0 5, Lib.bytesWorld W 5 ⟨l.toArray⟩, ?_, ?_, ?_⟩
 ·have := Lib.run_convert_string_bytes (P := Tryz.prog) W 9 22 5 ⟨l.toArray⟩ Tryz.underlying9 Tryz.underlying22 Tryz.underlying5
  rw [this, hsz]
 ·refine Or.inr (Or.inr ⟨W.heap.size, 0, _, rfl, ?_, by omega, by rw [Lib.bytesWorld_size]; omega, fun j hj => ?_⟩)
  ·rw [hsz]; exact grownCap_ge _ _ _ _
  ·rw [Nat.zero_add, Lib.bytesWorld_cell W 5 ⟨l.toArray⟩ j (by rw [hsz]; exact hj)]
   first | done | rfl | simp [hj]
 ·exact ⟨rfl, rfl, rfl, by rw [Lib.bytesWorld_size]; omega, fun k hk => Lib.bytesWorld_at_old W 5 _ k hk⟩
theorem qI {p : Nat -> Prop} {w W : World} {v : Value} {bs : List UInt8} (h : SliceAt w v bs) (hc : Chg p w W) (hp : ∀ a n c, v = .slice (some a) n c -> ¬ p a.block) : SliceAt W v bs := by
 rcases h with h | h | ⟨b, off, cap, rfl, h1, h2, h3, h4⟩
 ·exact Or.inl h
 ·exact Or.inr (Or.inl h)
 ·exact Or.inr (Or.inr ⟨b, off, cap, rfl, h1, h2, Nat.lt_of_lt_of_le h3 hc.size, fun j hj => (World.cell?_of_block (hc.block b h3 (hp _ _ _ rfl))).trans (h4 j hj)⟩)
theorem size34' : (Tryz.prog.info? 77).map (·.size) = some 3 := by kernel_rfl
theorem lY {w : World} {ops : Array Oper} {rest : List Oper} {o : Oper} {a : Act} {Q : Exit -> Act -> World -> Prop} (hgd : o.guard = none) (t : TypeId) (x y : Operand) (ho : o.op = .makeSlice t x y) (vx vy : Value) (hx : a.eval x = vx) (hy : a.eval y = vy) (v : Value) (w' : World)
  (hr : (Instr.makeSlice t vx vy).run Tryz.prog w = .ok v w') (h : wpList Tryz.prog ops Q rest (a.put o.dst v) w') : wpList Tryz.prog ops Q (o :: rest) a w :=
 wpList_plain hgd fun _ hK => by
  unfold Oper.wp execOp
  simp only [ho, Sem.run_bind, hx, hy, hr, Result.andThen_ok]
  exact hK _ _ h
theorem dD.lies {w : World} {u : Value} {bs : List UInt8} (h : dD w u bs) (hb : bs ≠ []) : ∃ g c cur, u = .slice (some ⟨g, 0, none⟩) bs.length c /\ w.heap[g]? = some (.cells cur 5 (0, 0)) /\ bs.length <= cur.size /\ bs.length <= c := by
 have hp := List.length_pos_iff.2 hb
 obtain ⟨h1, h2⟩ := h
 rcases h2 with ⟨h3, h4⟩ | ⟨g', cap', cur, h3, h4, h5, h6, h7, h8, h9⟩
 ·omega
 ·exact ⟨g', cap', cur, h3, h5, by omega, h6⟩
def Got (w : World) (lo : Nat) (u : Value) (bs : List UInt8) : Prop := (u = .slice none 0 0 /\ bs = []) \/ ∃ q, u = .slice (some ⟨q, 0, none⟩) bs.length bs.length /\ lo <= q /\ w.heap[q]? = some (.cells (S.v8 bs) 5 (0, 0))
theorem Got.sliceAt {w : World} {lo : Nat} {u : Value} {bs : List UInt8} (h : Got w lo u bs) (hl : bs.length <= 100000) : SliceAt w u bs := by
 rcases h with ⟨rfl, rfl⟩ | ⟨q, rfl, _, h3⟩
 ·exact Or.inl ⟨rfl, rfl⟩
 ·exact ay h3 rfl (by omega)
theorem Got.form {w : World} {lo : Nat} {u : Value} {bs : List UInt8} (h : Got w lo u bs) : ∃ a c, u = .slice a bs.length c := by
 rcases h with ⟨rfl, rfl⟩ | ⟨q, rfl, _⟩
 ·exact ⟨none, 0, rfl⟩
 ·exact ⟨_, _, rfl⟩
def pu (w : World) (gk gt : Nat) (b : Int) : Prop := w.heap[gk]? = some (.cells #[.pointer (some ⟨gt, 0, none⟩), .int .i64 b] 62 (0, 0))
theorem pu.below {w W : World} {gk gt : Nat} {b : Int} (h : pu w gk gt b) (hb : Below w.heap.size w W) : pu W gk gt b := (hb.block gk (aa h)).trans h
theorem jb (a b : Option Addr) (n m c d : Nat) (hn : n <= 1000000) (hm : m <= 1000000) (w : World) :
  Calls Tryz.prog 27 #[.slice a n c, .slice b m d] w fun e w' => e = .returned (.int .i64 ((n + m : Nat) : Int)) /\ w' = w := by
 have q : IntKind.i64.wrap ((n : Int) + (m : Int)) = ((n + m : Nat) : Int) := by rw [IntKind.wrap_i64]; omega
 go_enter Tryz.func27, Tryz.ntmps27
 go_wp2
 go_ret
 exact ⟨rfl, rfl⟩
set_option maxHeartbeats 4000000 in
set_option maxRecDepth 10000 in
theorem nJ (s : UInt8) (v : Value) (xs : List UInt8) (w : World) (hv : SliceAt w v xs) (hl : xs.length <= 1000000) :
  Calls Tryz.prog 23 #[.int .u8 (s.toNat : Int), v] w fun e w' => ∃ g c, e = .returned (.slice (some ⟨g, 0, none⟩) (s :: xs).length c) /\ w.heap.size <= g /\ g < w'.heap.size /\ (∀ W, W.heap[g]? = w'.heap[g]? -> SliceAt W (.slice (some ⟨g, 0, none⟩) (s :: xs).length c) (s :: xs)) /\ Below w.heap.size w w' := by
 obtain ⟨a0, l0, c0, rfl, hl0, hm0⟩ := hv.form
 have HV := hide hv
 obtain ⟨w2, hw2⟩ : ∃ w2, w2 = w.alloc (.cells #[.int .u8 (s.toNat : Int)] 5) := ⟨_, rfl⟩
 have b2 : Below w.heap.size w w2 := by rw [hw2]; exact ba ..
 have r2 : w2.heap[w.heap.size]? = some (.cells #[.int .u8 (s.toNat : Int)] 5 (0, 0)) := by rw [hw2]; exact heap_alloc_new _ _
 have U2 : dD w2 (.slice (some ⟨w.heap.size, 0, none⟩) 1 1) [s] := ⟨rfl, Or.inr ⟨w.heap.size, 1, _, rfl, Nat.zero_le _, r2, lr _, by simp [maxLen], rfl, rfl⟩⟩
 have APP := hide (bu w2 (.slice (some ⟨w.heap.size, 0, none⟩) 1 1) (.slice a0 l0 c0) [s] xs 22 U2 (hv.below b2 (lr _)) (by simp; omega))
 obtain ⟨Y, hY⟩ : ∃ Y, Y = s :: xs := ⟨_, rfl⟩
 have YN : Hid (Y ≠ []) := by show Y ≠ []; rw [hY]; simp
 have YL : Hid (Y.length <= 1000001) := by show Y.length <= _; rw [hY]; simp; omega
 rw [show [s] ++ xs = Y from hY.symm] at APP
 rw [<- hY]
 have B2 := hide b2
 have HW2 := hide hw2
 clear b2 r2 hw2 U2 hv hl hl0 hm0 HV hY
 go_enter Tryz.func23, Tryz.ntmps23
 go_wp2_with (at_builtin; (rw [<- HW2.out]; refine az rfl (.tmp 6) (.tmp 7) 22 22 rfl _ _ rfl rfl APP.out ?_; rintro v3 w3 ⟨hu3, hg3, ho3⟩; have U3 := hide hu3; have G3 := hide hg3; have O3 := hide ho3; clear hu3 hg3 ho3; obtain ⟨gi, ci, cur3, hv3, hr3, hn3, hc3⟩ := U3.out.lies YN.out; subst hv3; have R3 := hide hr3; clear hr3))
 go_ret
 have hgi : w.heap.size <= gi := by
  rcases O3.out gi rfl with e | e
  ·simp only [Value.ownBlock, Option.some.injEq] at e; omega
  ·exact ltr B2.out.size e
 have c3' : Chg (fun k => k = w.heap.size) w2 w3 := (Chg.refl _ _).grown G3.out (fun k _ e => by simp only [Value.ownBlock, Option.some.injEq] at e; exact e.symm)
 exact ⟨gi, ci, rfl, hgi, aa R3.out, fun W hW => (U3.out.kept (w' := W) (fun k hk => by (simp only [Value.ownBlock, Option.some.injEq] at hk; subst hk; exact hW))).sliceAt (by have := YL.out; omega), B2.out.trans (c3'.below _ B2.out.size (fun k hk e => by omega))⟩
theorem Bt (B gk gt gs : Nat) (b : Int) (pg : Nat -> List UInt8) (es : List S.Ent) (s : UInt8) (kv : Value) (key : List UInt8) (w : World) (hr : Rds B w gs pg) (ht : jL w gt gs) (hl : S.nW pg es) (hs : pu w gk gt b) (hk : SliceAt w kv key) (hkl : key.length <= 1000000) :
  Calls Tryz.prog 8 #[.pointer (some ⟨gk, 0, none⟩), .int .u8 (s.toNat : Int), kv] w fun e w' => ∃ v ok, e = .returned (.tuple #[v, .bool ok]) /\ GotIs w.heap.size w' es (s :: key) v ok /\ Below w.heap.size w w' := by
 obtain ⟨a0, l0, c0, rfl, hl0, hm0⟩ := hk.form
 have HR := hide hr
 have HT := hide ht
 have HL := hide hl
 have HK := hide hk
 have HKL := hide hkl
 have HS := hide hs
 clear hr ht hl hk hl0 hm0 hkl hs
 go_enter Tryz.func8, Tryz.ntmps8
 go_upto_region 1 with fail
 refine wp_region_noPanic ?_
 refine wp_region_held_drew (S := (fun W => pu W gk gt b)) follows HS.out (fun hHeld => ?_)
 have RZ := hide (HR.out.below ((Below.refl w.heap.size w).drew))
 have TZ : Hid (jL w.drew gt gs) := HT.out
 have KZ : Hid (SliceAt w.drew (.slice a0 l0 c0) key) := HK.out
 have BZ : Hid (Below w.heap.size w w.drew) := (Below.refl _ _).drew
 clear HR HT HK HS
 generalize w.drew = Z0 at RZ TZ KZ BZ hHeld ⊢
 refine tq 0 ?_
 simp only [uA]
 refine tq 1 ?_
 simp only [uA]
 refine tq 2 ?_
 simp only [uA]
 refine tk 3 ?_ rfl (Or.inl ⟨by rfl, ?_⟩) ?_
 rotate_left
 ·intro w hSw
  have c0 := (aJ hSw).1
  clear hSw
  go_simp
  all_goals with_reducible rfl
 simp only [uA]
 refine tq 4 ?_
 simp only [uA]
 refine tq 5 ?_
 simp only [uA]
 refine r1 6 fun K hK => ?_
 go_simp
 refine (nJ s _ key Z0 KZ.out HKL.out).mono ?_
 rintro e Z1 ⟨g1, cp1, rfl, hg, hrow, hs1, b1⟩
 have R1 := hide (RZ.out.below b1)
 have T1 : Hid (jL Z1 gt gs) := (b1.block _ (aa TZ.out)).trans TZ.out
 have S1 := hide (hs1 Z1 rfl)
 have B1 := hide (BZ.out.trans (b1.mono BZ.out.size))
 have hk1 := hHeld.below b1
 clear hg hrow hs1 b1 RZ TZ KZ BZ hHeld
 refine hK.out _ _ hk1 (fun hHeld => ?_)
 clear hK K hk1
 try simp only [uA]
 refine r1 7 fun K hK => ?_
 go_simp
 refine (get_0 B gt gs pg es _ (s :: key) Z1 R1.out T1.out HL.out S1.out).mono ?_
 rintro e Z2 ⟨v, ok, rfl, sO, b2⟩
 have GT := hide sO
 have B2 := hide (B1.out.trans (b2.mono B1.out.size))
 have hk2 := hHeld.below b2
 have S12 := hide (B1.out.size)
 clear sO b2 R1 T1 S1 B1 hHeld
 refine hK.out _ _ hk2 (fun hHeld => ?_)
 clear hK K hk2
 try simp only [uA]
 refine tq 8 ?_
 simp only [uA]
 refine tq 9 ?_
 simp only [uA]
 refine tq 10 ?_
 simp only [uA]
 refine tq 11 ?_
 simp only [uA]
 refine wpAnyH_done (by kernel_rfl) ?_ _
 refine NoPanic.normal ?_
 clear hHeld
 go_wp2_with fail
 go_ret2
 exact ⟨v, ok, rfl, ⟨fun x hx hk => ⟨(GT.out.yes x hx hk).1, (GT.out.yes x hx hk).2.imp_right (fun ⟨q, h1, h2, h3⟩ => ⟨q, h1, ltr S12.out h2, h3⟩)⟩, GT.out.no⟩, B2.out⟩
theorem nK (B gk gt gs : Nat) (b : Int) (pg : Nat -> List UInt8) (es : List S.Ent) (kv : Value) (key : List UInt8) (w : World) (hr : Rds B w gs pg) (ht : jL w gt gs) (hl : S.nW pg es) (hs : pu w gk gt b) (hk : SliceAt w kv key) (hkl : key.length <= 1000000) :
  Calls Tryz.prog 30 #[.pointer (some ⟨gk, 0, none⟩), kv] w fun e w' => ∃ n : Nat, e = .returned (.int .i64 (n : Int)) /\ (∀ x ∈ es, x.key = key -> n = key.length + x.val.length) /\ (key ∉ es.map (·.key) -> n = 0) /\ Below w.heap.size w w' := by
 obtain ⟨a0, l0, c0, rfl, hl0, hm0⟩ := hk.form
 obtain ⟨c1, c2⟩ := aJ hs
 have HR := hide hr
 have HT := hide ht
 have HL := hide hl
 have HK := hide hk
 have HKL := hide hkl
 have HL0 := hide hl0
 clear hr ht hl hk hl0 hm0 hkl hs
 go_enter Tryz.func30, Tryz.ntmps30
 go_wp2_with fail
 refine (get_0 B gt gs pg es _ key w HR.out HT.out HL.out HK.out).mono ?_
 rintro e w1 ⟨v, ok, rfl, sO, b1⟩
 by_cases hin : ∃ x ∈ es, x.key = key
 ·obtain ⟨x, hx, hxk⟩ := hin
  obtain ⟨rfl, hv⟩ := sO.yes x hx hxk
  have hvl := (HL.out.ok.ent x hx).val
  obtain ⟨av, cv, hvf⟩ : ∃ a c, v = .slice a x.val.length c := by
   rcases hv with ⟨h1, h2⟩ | ⟨q, h1, _⟩
   ·exact ⟨none, 0, by rw [h1, h2]; rfl⟩
   ·exact ⟨_, _, h1⟩
  subst hvf
  have B1 := hide b1
  have HX := hide (And.intro hx hxk)
  have HVL := hide hvl
  clear sO hv b1 c1 c2 hx hxk hvl
  go_wp2_with fail
  refine (jb _ _ _ _ _ _ (by have := HL0.out; have := HKL.out; omega) (by have := HVL.out; omega) w1).mono ?_
  rintro e w2 ⟨rfl, rfl⟩
  go_wp2_with fail
  go_ret
  refine ⟨_, rfl, fun y hy hyk => ?_, fun hno => ?_, B1.out⟩
  ·have e1 : x = y := by
    obtain ⟨i, hi, rfl⟩ := List.mem_iff_getElem.1 HX.out.1
    obtain ⟨j, hj, rfl⟩ := List.mem_iff_getElem.1 hy
    have := HL.out.ok.same hi hj (HX.out.2.trans hyk.symm)
    subst this; rfl
   rw [<- e1, HL0.out]
  ·exact absurd (List.mem_map.2 ⟨x, HX.out.1, HX.out.2⟩) hno
 ·have hno : key ∉ es.map (·.key) := fun h => by
   obtain ⟨x, hx, hk⟩ := List.mem_map.1 h
   exact hin ⟨x, hx, hk⟩
  obtain ⟨rfl, rfl⟩ := sO.no hno
  have B1 := hide b1
  have HIN := hide hin
  clear sO b1 c1 c2 hno hin
  go_wp2_with fail
  go_ret
  exact ⟨0, rfl, fun y hy hyk => absurd ⟨y, hy, hyk⟩ HIN.out, fun _ => rfl, B1.out⟩
set_option maxHeartbeats 4000000 in
set_option maxRecDepth 10000 in
theorem Ey (w0 w : World) (o : Ow) (d : S.Dk) (p t : Nat) (pg : Nat -> List UInt8) (es : List S.Ent) (h : Bt1 w0 w o d p t pg es) (b : Int) (h0 : 0 <= b) (h1 : b <= 98304) :
  Calls Tryz.prog 17 #[o.ptr, .int .i64 b] w fun e w' => ∃ gk gt gs, e = .returned (.tuple #[.pointer (some ⟨gk, 0, none⟩), .int .i64 0]) /\ pu w' gk gt b /\ jL w' gt gs /\ eB w' gs o /\ w.heap.size <= gk /\ w.heap.size <= gt /\ w.heap.size <= gs /\ Below w.heap.size w w' := by
 have q1 : ¬ (b < 0) := by omega
 have q2 : ¬ (98304 < b) := by omega
 have H := hide h
 have hp : o.ptr = .pointer (some ⟨o.g, 0, none⟩) := rfl
 clear h h0 h1
 rw [hp]
 go_enter Tryz.func17, Tryz.ntmps17
 go_wp2_with fail
 rw [<- hp]
 refine (open_0 w0 w o d p t pg es H.out).mono ?_
 rintro e w1 ⟨gt, gs, rfl, ht, hs, l1, l2, b1⟩
 have HT := hide ht
 have HS := hide hs
 have HL := hide (And.intro l1 l2)
 have B1 := hide b1
 clear ht hs l1 l2 b1 hp
 go_wp2_with fail
 go_ret2
 have b2 : Below w1.heap.size w1 (w1.alloc (.cells #[.pointer (some ⟨gt, 0, none⟩), .int .i64 b] 62)) := ba ..
 exact ⟨_, gt, gs, rfl, heap_alloc_new _ _, (b2.block _ (aa HT.out)).trans HT.out, (b2.block _ (aa HS.out)).trans HS.out, B1.out.size, HL.out.1, HL.out.2, B1.out.trans (b2.mono B1.out.size)⟩
theorem vD (w0 w : World) (o : Ow) (n : Nat) (hn : 7680 <= n) (hd : Dsk w o (S.Dk.new n)) (ho : ∀ k, o.has k -> w0.heap.size <= k) (hb : Below w0.heap.size w0 w) (h0 : 1 < w0.heap.size) :
  Calls Tryz.prog 16 #[o.ptr] w fun e w' => e = .returned (.int .i64 0) /\ ∃ o' d' pg, o'.g = o.g /\ Bt1 w0 w' o' d' 0 2 pg [] := by
 have PF := hide (zb w0 w o n hn hd ho hb h0)
 have hp : o.ptr = .pointer (some ⟨o.g, 0, none⟩) := rfl
 clear hn hd ho hb h0
 rw [hp] at PF ⊢
 go_enter Tryz.func16, Tryz.ntmps16
 go_wp2_with fail
 refine PF.out.mono ?_
 rintro e w1 ⟨rfl, h⟩
 have H := hide h
 clear h
 go_wp2_with fail
 go_ret
 exact ⟨rfl, H.out⟩
def KvO (w0 w : World) (o : Ow) (gk gt gs n : Nat) (b : Int) (es : List S.Ent) : Prop := BtO w0 w o gt gs n es /\ pu w gk gt b /\ ¬ o.has gk /\ w0.heap.size <= gk /\ w0.heap.size <= gt /\ w0.heap.size <= gs
theorem KvO.then {w0 w W : World} {o : Ow} {gk gt gs n : Nat} {b : Int} {es : List S.Ent} (h : KvO w0 w o gk gt gs n b es) (hb : Below w.heap.size w W) : KvO w0 W o gk gt gs n b es := ⟨h.1.then hb, h.2.1.below hb, h.2.2⟩
set_option maxHeartbeats 8000000 in
set_option maxRecDepth 10000 in
theorem pU (b : Int) (h0 : 0 <= b) (h2 : b <= 98304) (w : World) (hK : KAt w) (h1 : 1 < w.heap.size) :
  Calls Tryz.prog 6 #[.int .i64 b] w fun e w' => ∃ o gk gt gs, e = .returned (.tuple #[o.ptr, .pointer (some ⟨gk, 0, none⟩), .bool true]) /\ KvO w w' o gk gt gs 2 b [] := by
 have HK := hide hK
 have HP : Hid (1 < w.heap.size) := h1
 have HB := hide (And.intro h0 h2)
 clear hK h1 h0 h2
 go_enter Tryz.func6, Tryz.ntmps6
 go_wp2_with fail
 refine (new_any 8192 w (by omega) (by omega)).mono ?_
 rintro e w1 ⟨o, rfl, hd, ho, b1⟩
 have D1 : Hid (Dsk w1 o (S.Dk.new 8192)) := ⟨hd, HK.out.below b1 HK.out.pos, fun e => by have := ho 1 e; have := HP.out; omega⟩
 have O1 := hide ho
 have B1 := hide b1
 have gP : o.ptr = .pointer (some ⟨o.g, 0, none⟩) := rfl
 rw [gP]
 clear hd ho b1
 go_wp2_with fail
 rw [<- gP]
 refine (vD w w1 o 8192 (by omega) D1.out O1.out B1.out HP.out).mono ?_
 rintro e w2 ⟨rfl, o2, d2, pg, hg2, hb2⟩
 have P2 := hide hb2
 have hp2' : o2.ptr = o.ptr := by unfold Ow.ptr; rw [hg2]
 have HG2 := hide hg2
 have HP2 := hide hp2'
 clear hb2 hp2' hg2 gP
 rw [<- HP2.out]
 go_wp2_with fail
 refine (Ey w w2 o2 d2 0 2 pg [] P2.out b HB.out.1 HB.out.2).mono ?_
 rintro e w3 ⟨gk, gt, gs, rfl, hk, ht, hs, hgk, hgt, hgs, hb⟩
 have hpt : o2.ptr = .pointer (some ⟨o2.g, 0, none⟩) := rfl
 have RES : Hid (KvO w w3 o2 gk gt gs 2 b []) := ⟨⟨d2, 0, 2, pg, P2.out.then hb, ht, hs, fun e => by have := P2.out.pgs.dk.dk.lt gt e; omega, fun e => by have := P2.out.pgs.dk.dk.lt gs e; omega, lr _⟩, hk, fun e => by have := P2.out.pgs.dk.dk.lt gk e; omega, ltr P2.out.pgs.below.size hgk, ltr P2.out.pgs.below.size hgt, ltr P2.out.pgs.below.size hgs⟩
 clear hk ht hs hgk hgt hgs hb
 go_wp2_with fail
 exact bodyPost_ret (v := .tuple #[o2.ptr, .pointer (some ⟨gk, 0, none⟩), .bool true]) (by simp [results, Tryz.results6]; rfl) rfl ⟨o2, gk, gt, gs, rfl, RES.out⟩
end Go.Proofs.YteealihknndclabGreatDoor
