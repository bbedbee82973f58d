/- Do: changes of a tree of one leaf. -/
import Derived.Test.YteealihknndclaaGreatDoorEc
import Derived.Test.YteealihknndclaaGreatDoorCd
import Derived.RangeFuncNested
import Derived.RangeFuncBound
import Derived.RangeFuncCalls
import Derived.RangeFuncLeaves
import Derived.Shelf.Abstract
import Derived.Shelf.RegionOpen
import Derived.OwnWalkIn
import Derived.TacticsInMore
import Derived.LoopNIn
import Derived.LoopIn
import Derived.Test.YteealihknndclaaGreatDoorBase
import Derived.Test.YteealihknndclaaGreatDoorBk
import Derived.WalkKit
import Derived.OneCell
import Derived.Test.YteealihknndclaaGreatDoorBy
import Derived.BigQuiet
namespace Go.Proofs.YteealihknndclaaGreatDoor
open Go.RowKit

def BtO (w0 w : World) (o : Ow) (gt gs n : Nat) (es : List S.Ent) : Prop :=
 ∃ d p t pg, Bt1 w0 w o d p t pg es /\ kL w gt gs /\ dX w gs o /\ ¬ o.has gt /\ ¬ o.has gs /\ t <= n
theorem BtO.then {w0 w W : World} {o : Ow} {gt gs n : Nat} {es : List S.Ent} (h : BtO w0 w o gt gs n es) (hb : Below w.heap.size w W) : BtO w0 W o gt gs n es := by
 obtain ⟨d, p, t, pg, h1, h2, h3, h4, h5, h6⟩ := h
 exact ⟨d, p, t, pg, h1.then hb, (hb.block gt (aa h2)).trans h2, (hb.block gs (aa h3)).trans h3, h4, h5, h6⟩
theorem BtO.rds {w0 w : World} {o : Ow} {gt gs n : Nat} {es : List S.Ent} (h : BtO w0 w o gt gs n es) : ∃ pg, Rds w.heap.size w gs pg /\ kL w gt gs /\ S.nU pg es := by
 obtain ⟨d, p, t, pg, h1, h2, h3, _⟩ := h
 exact ⟨pg, h1.rds h3, h2, h1.leaf⟩
theorem BtO.below {w0 w : World} {o : Ow} {gt gs n : Nat} {es : List S.Ent} (h : BtO w0 w o gt gs n es) : Below w0.heap.size w0 w := by
 obtain ⟨d, p, t, pg, h1, _⟩ := h
 exact h1.pgs.below
set_option maxHeartbeats 16000000 in
set_option maxRecDepth 10000 in
theorem do_ok (w0 : World) (o : Ow) (gt gs n b off cap : Nat) (dc : List ChV) (cs : List S.Cg) (es : List S.Ent) (w : World) (h : BtO w0 w o gt gs n es) (h0 : ∀ j u, (dc.flatMap aQ)[j]? = some u -> w.cell? ⟨b, off + j, none⟩ = some u) (hne : dc ≠ []) (hl19 : dc.length <= 19) (hcap : dc.length <= cap) (hg : (dc.all ChV.good) = true) (hcs : fD w dc cs) (hle : es.length <= 9000) (hmk : S.bS 0 (S.mrg es (S.lasts cs))) (hn : n + 2 < 18446744073709551616) :
  Calls Tryz.prog 12 #[.pointer (some ⟨gt, 0, none⟩), .slice (some ⟨b, off, none⟩) dc.length cap] w fun e w' => e = .returned (.int .i64 0) /\ ∃ o', o'.g = o.g /\ BtO w0 w' o' gt gs (n + 2) (S.mrg es (S.lasts cs)) /\ Chg o.has w w' /\ ∀ k, o'.has k -> o.has k \/ w.heap.size <= k := by
 have hels : Els aQ w (.slice (some ⟨b, off, none⟩) dc.length cap) dc := Or.inr (Or.inr ⟨b, off, cap, rfl, hcap, by omega, by
  obtain ⟨x, r, rfl⟩ := List.exists_cons_of_ne_nil hne
  exact World.block_lt_of_cell? w _ (h0 0 (.slice x.ka x.kn x.kc) rfl), h0⟩)
 have HPM := hide (sI _ dc w hels)
 have HGD : Hid ((dc.all ChV.good && decide (dc.length <= 80)) = true) := by show (dc.all ChV.good && decide (dc.length <= 80)) = true; rw [hg, Bool.true_and]; exact decide_eq_true (by omega)
 have HNE := hide hne
 have HL19 := hide hl19
 have HCL := hide (show cs.length = dc.length from hcs.1.symm)
 have HLE := hide hle
 have HMK := hide hmk
 have HNT := hide hn
 obtain ⟨m, hm⟩ : ∃ m, m = dc.length := ⟨_, rfl⟩
 have HPOS : 0 < m := by rw [hm]; exact List.length_pos_iff.2 hne
 have q0 : ¬ (m : Int) = 0 := by omega
 rw [<- hm] at HPM HGD ⊢
 have HN := hide hm
 have HB := hide h
 have H00 := hide h0
 have HCS0 := hide hcs
 clear hels hg hne hl19 hcap hcs hle hmk hn hm h0 HPOS h
 go_enter Tryz.func12, Tryz.ntmps12
 go_wp2_with fail
 refine HPM.out.mono ?_
 rintro e w2 ⟨rfl, hb⟩
 rw [HGD.out]
 have HB2 := hide (HB.out.then hb)
 have HCS := hide (HCS0.out.below hb)
 have H0 : Hid (∀ j u, (dc.flatMap aQ)[j]? = some u -> w2.cell? ⟨b, off + j, none⟩ = some u) := fun j u h => (hb.cell (p := ⟨b, off + j, none⟩) (World.block_lt_of_cell? _ _ (H00.out j u h))).trans (H00.out j u h)
 have HW2 := hide hb
 clear hb H00 HCS0 HPM
 go_upto_region 5 with fail
 obtain ⟨d, p, t, pg, hb1, htr, hst, ngt, ngs, htn⟩ := HB2.out
 have HB1 := hide hb1
 have HTR := hide htr
 have HST := hide hst
 have NGT := hide ngt
 have NGS := hide ngs
 have HTN := hide htn
 have HRD := hide (hb1.rds hst)
 have HLF := hide hb1.leaf
 clear hb1 htr hst ngt ngs htn HB HB2
 refine wp_region_noPanic ?_
 refine wp_region_held_drew (S := (fun W => Below w2.heap.size w2 W)) follows ((Below.refl _ _).drew) (fun hHeld => ?_)
 clear hHeld
 have hHeld : Below w2.heap.size w2 w2.drew := (Below.refl _ _).drew
 have CZ0 := hide hHeld
 generalize w2.drew = Z0 at CZ0 hHeld ⊢
 refine tq 0 ?_
 simp only [uA]
 refine tq 1 ?_
 simp only [uA]
 refine tq 2 ?_
 simp only [uA]
 refine tk 3 ?_ rfl (Or.inl ⟨by rfl, ?_⟩) ?_
 rotate_left
 ·intro w hSw
  have ct := (hSw.cell (p := ⟨gt, 0, none⟩) (aa HTR.out)).trans (jO HTR.out)
  clear hSw
  go_simp
  all_goals with_reducible rfl
 simp only [uA]
 refine tq 4 ?_
 simp only [uA]
 refine r1 5 fun K hK => ?_
 go_simp
 rw [HN.out]
 refine (BO b off cap dc cs Z0 (fun j u h => (CZ0.out.cell (p := ⟨b, off + j, none⟩) (World.block_lt_of_cell? _ _ (H0.out j u h))).trans (H0.out j u h)) HNE.out HL19.out (HCS.out.below CZ0.out)).mono ?_
 rintro e Z1 ⟨⟨vl, dl, rfl, hel, hca, hone⟩, hbz⟩
 rw [<- HN.out]
 have CZ1 := hide (CZ0.out.trans (hbz.mono CZ0.out.size))
 have HEL := hide hel
 have HCA := hide hca
 clear hel hca hbz hone CZ0 hHeld
 refine hK.out _ _ CZ1.out (fun hHeld => ?_)
 clear hK K
 try simp only [uA]
 refine r1 6 fun K hK => ?_
 go_simp
 refine (FT w2.heap.size gs pg es dl (S.lasts cs) vl Z1 (HRD.out.below CZ1.out) HLF.out HEL.out HCA.out (by have := HLE.out; have := HL19.out; have := S.vJ cs; have := HCL.out; omega) HMK.out).mono ?_
 rintro e Z2 ⟨vs, q1, q2, rfl, hsh, hr1, hr2, hq1, hq2, hbz⟩
 have CZ2 := hide (CZ1.out.trans (hbz.mono CZ1.out.size))
 have SH := hide hsh
 have R1 := hide hr1
 have R2 := hide hr2
 have Q12 := hide (show w2.heap.size <= q1 /\ w2.heap.size <= q2 from ⟨ltr CZ1.out.size hq1, ltr CZ1.out.size hq2⟩)
 clear hsh hr1 hr2 hq1 hq2 hbz CZ1 hHeld HEL HCA
 refine hK.out _ _ CZ2.out (fun hHeld => ?_)
 clear hK K
 try simp only [uA]
 refine tq 7 ?_
 simp only [uA]
 refine tq 8 ?_
 simp only [uA]
 refine tq 9 ?_
 simp only [uA]
 refine tq 10 ?_
 simp only [uA]
 refine tq 11 ?_
 simp only [uA]
 refine wpAnyH_done (by kernel_rfl) ?_ _
 refine NoPanic.normal ?_
 clear hHeld
 have HTRZ := hide ((CZ2.out.block gt (aa HTR.out)).trans HTR.out)
 have HSTZ := hide (show dX Z2 gs o from (CZ2.out.block gs (aa HST.out)).trans HST.out)
 have HBZ := hide (HB1.out.then CZ2.out)
 have ct := jO HTRZ.out
 go_wp2_with fail
 have HP2 := Er w0 Z2 o d p t gs _ 1 0 q1 q2 vs pg (S.gY (S.mrg es (S.lasts cs))) HBZ.out.pgs HSTZ.out SH.out R1.out R2.out (S.jb HMK.out 1) (S.jb HMK.out 0)
  (fun e => by have h1 := HB1.out.pgs.dk.dk.lt q1 e; have := Q12.out; omega) (fun e => by have h1 := HB1.out.pgs.dk.dk.lt q2 e; have := Q12.out; omega) (by omega) (by omega) (by omega) NGS.out (by have := HTN.out; have := HNT.out; omega)
 refine HP2.mono ?_
 clear HP2
 rintro e w4 ⟨rfl, o', d', ho, hpg, Cn, hch, hhas⟩
 have HO' := hide ho
 have HPG := hide (uf HMK.out HBZ.out.size 1 0 (Or.inr ⟨rfl, rfl⟩) hpg)
 have HS4 := hide Cn
 have HT4 := hide (show kL w4 gt gs from hch.row HTRZ.out NGT.out)
 have HCH := hide (show Chg o.has w w4 from (Chg.ofBelow' HW2.out).trans ((Chg.ofBelow' CZ2.out (p := o.has)).trans hch (fun _ _ e => e)) (fun _ _ e => e))
 have HHA : Hid (∀ k, o'.has k -> o.has k \/ w.heap.size <= k) := fun k hk => by
  rcases hhas k hk with e | e
  ·exact Or.inl e
  ·exact Or.inr (ltr HW2.out.size (ltr CZ2.out.size e))
 have NG4 : Hid (¬ o'.has gt /\ ¬ o'.has gs) := ⟨fun e => by
  rcases hhas gt e with e | e
  ·exact NGT.out e
  ·have := aa HTRZ.out; omega, fun e => by
  rcases hhas gs e with e | e
  ·exact NGS.out e
  ·have := aa HSTZ.out; omega⟩
 clear ho hpg Cn hch hhas ct
 go_wp2_with fail
 go_ret
 exact ⟨rfl, o', HO'.out, ⟨d', p, t + 2, _, HPG.out, HT4.out, HS4.out, NG4.out.1, NG4.out.2, by have := HTN.out; omega⟩, HCH.out, HHA.out⟩
end Go.Proofs.YteealihknndclaaGreatDoor
namespace Go.Proofs.YteealihknndclaaGreatDoor
open Go.RowKit Go.Shelf

def yt {α : Type} (J : α -> World -> Prop) : Prop := ∀ s A B, J s A -> Below A.heap.size A B -> J s B
def Gs {α : Type} (B : Nat) (J : α -> World -> Prop) : Prop := ∀ s A l o o', J s A -> B <= l -> A.heap[l]? = some o -> o.isCells = false -> J s (A.putObj l o')
def Gf {α : Type} (n : Nat) (P : Program) (g : Nat) (lb : Array Value) (encs : α -> Array Value) (q : Nat -> Prop) (R : List α -> α -> World -> Prop) (S Sp : List α -> Prop) (w : World) : Prop :=
 ∀ (l : Nat) (J Jx : List α -> World -> Prop) (W : World), Below w.heap.size w W -> yt J -> yt Jx ->
  (∀ pre x V, J pre V -> R pre x V -> YieldAt Fence.wide (n - 1) P l (encs x) V fun e V' => (e = .returned (.bool true) /\ J (pre ++ [x]) V' /\ Chg q V V') \/ (e = .returned (.bool false) /\ Jx (pre ++ [x]) V')) ->
  J [] W -> CallsIn Fence.wide n P g (#[.func (.yield l) #[] #[]] ++ lb) W fun e W' => (∃ v, e = .returned v) /\ ((∃ xs, S xs /\ J xs W') \/ (∃ pre, Sp pre /\ Jx pre W'))
def memPost {α : Type} (q : Nat -> Prop) (I : List α -> World -> Prop) (Ix : Code -> List α -> World -> Prop) (ys : List α) (W : World) : Exit -> Act -> World -> Prop
 | .normal, _, W' => Chg q W W' /\ I ys W'
 | .ret, _, W' => Chg q W W' /\ Ix .ret ys W'
 | .exit id, _, W' => Chg q W W' /\ Ix (.exit id) ys W'
 | .goto t, _, W' => Chg q W W' /\ Ix (.goto t) ys W'
 | .panic _, _, _ => False
 | .outgrown, _, _ => False
theorem nA {W : World} {l k : Nat} {o : Obj} (hl : l < W.heap.size) : (W.putObj l o).heap[k]? = if k = l then some o else W.heap[k]? := by
 by_cases e : k = l
 ·rw [if_pos e, e]; exact World.putObj_heap_same hl
 ·rw [if_neg e]; exact World.putObj_heap_other e
theorem Chg.round {q : Nat -> Prop} {W V : World} {l : Nat} {b f : Obj} (hl : l < W.heap.size) (hf : W.heap[l]? = some f) (h : Chg q (W.putObj l b) V) : Chg q W (V.putObj l f) := by
 have hs : (W.putObj l b).heap.size = W.heap.size := World.putObj_size
 have hV : l < V.heap.size := by have := h.size; omega
 refine ⟨h.os, h.tape, h.output, by have := h.size; rw [World.putObj_size]; omega, fun k hk hn => ?_⟩
 rw [nA hV]
 by_cases e : k = l
 ·rw [if_pos e, e, hf]
 ·rw [if_neg e, h.block k (by omega) hn, nA hl, if_neg e]
end Go.Proofs.YteealihknndclaaGreatDoor
namespace Go.Proofs.YteealihknndclaaGreatDoor
open Go.RowKit
open Go.Shelf
attribute [local go_sem] Oper.semAt_some

theorem S.rank_nil (ks : List (List UInt8)) : S.rank ks [] = 0 := by
 unfold S.rank
 rw [List.countP_eq_zero]
 intro a _
 cases a <;> simp [S.ek, Lib.compareBytes]
def um (x : EnV) : Array Value := #[.agg #[.slice x.ka x.kn x.kc, .slice x.va x.vn x.vc]]
theorem dm.past {p : Nat -> Prop} {B : Nat} {w W : World} {x : EnV} {e : S.Ent} (h : dm B w x e) (hc : Chg p w W) (hp : ∀ k, p k -> k < B) : dm B W x e := by
 obtain ⟨q, h1, h2, h3, h4, h5⟩ := h.key
 refine ⟨⟨q, h1, h2, h3, h4, hc.row h5 (fun e => by have := hp _ e; omega)⟩, ?_, h.page⟩
 rcases h.val with h6 | ⟨q2, h6, h7, h8, h9, h10, h11⟩
 ·exact Or.inl h6
 ·exact Or.inr ⟨q2, h6, h7, h8, h9, hc.row h10 (fun e => by have := hp _ e; omega), h11⟩
def jC (B : Nat) (es : List S.Ent) (pre : List EnV) (x : EnV) (V : World) : Prop := ∃ e, es[pre.length]? = some e /\ dm B V x e
theorem jC.bare (B b : Nat) (es : List S.Ent) (pre : List EnV) : Gs b (jC B es pre) := by
 rintro x A l o o' ⟨e, h1, h2⟩ _ hl ho
 have kp : ∀ {k : Nat} {c : Array Value} {t : TypeId} {f : Nat × Nat}, A.heap[k]? = some (.cells c t f) -> (A.putObj l o').heap[k]? = some (.cells c t f) := fun {k c t f} h => by
  have : k ≠ l := fun e => by rw [e, hl] at h; injection h with h; rw [h] at ho; cases ho
  exact (World.putObj_heap_other this).trans h
 obtain ⟨q, g1, g2, g3, g4, g5⟩ := h2.key
 refine ⟨e, h1, ⟨q, g1, g2, g3, g4, kp g5⟩, ?_, h2.page⟩
 rcases h2.val with h6 | ⟨q2, h6, h7, h8, h9, h10, h11⟩
 ·exact Or.inl h6
 ·exact Or.inr ⟨q2, h6, h7, h8, h9, kp h10, h11⟩
theorem els_all {w : World} {ao : Option Addr} {n cap : Nat} {d : List EnV} (h : Els aV w (.slice ao n cap) d) :
  (∀ W, (Instr.slice 122 (.slice ao n cap) (some (.int .i64 0)) none none).run Tryz.prog W = .ok (.slice ao n cap) W) /\ True := by
 have hn : n <= cap \/ n = 0 := by
  rcases h with ⟨h, _⟩ | ⟨_, _, h, _⟩ | ⟨_, _, _, h, h1, _⟩ <;> injection h with _ h2 h3 <;> omega
 refine ⟨fun W => ?_, trivial⟩
 rw [show (0 : Int) = ((0 : Nat) : Int) from rfl, run_slice_l W 122 ao n cap qD .i64 _ (by omega) (by omega), uW]
 cases ao <;> simp [sliced, Addr.add]
theorem ccell4 {w : World} {b off i : Nat} {x : EnV} (h : ∀ (r : Nat) u, (aV x)[r]? = some u -> w.cell? ⟨b, off + (i * 4 + r), none⟩ = some u) :
  w.cell? ⟨b, off + i * 4, none⟩ = some (.slice x.ka x.kn x.kc) /\ w.cell? ⟨b, off + i * 4 + 1, none⟩ = some (.slice x.va x.vn x.vc) /\ w.cell? ⟨b, off + i * 4 + 2, none⟩ = some (.int .i64 x.pg) /\ w.cell? ⟨b, off + i * 4 + 3, none⟩ = some (.pointer x.nd) :=
 ⟨h 0 _ rfl, by rw [Nat.add_assoc]; exact h 1 _ rfl, by rw [Nat.add_assoc]; exact h 2 _ rfl, by rw [Nat.add_assoc]; exact h 3 _ rfl⟩
theorem bU {w : World} {g : Nat} {a : Value} {t : TypeId} (h : w.heap[g]? = some (.cells #[a] t (0, 0))) : w.cell? ⟨g, 0, none⟩ = some a := by
 rw [cell_of_row w g 0 _ t _ h]; rfl
set_option maxHeartbeats 16000000 in
set_option maxRecDepth 100000 in
theorem tT (n : Nat) (B gs gt g4 g5 g3 : Nat) (pg : Nat -> List UInt8) (es : List S.Ent) (q : Nat -> Prop) (w : World) (hr : Rds B w gs pg) (hl : S.nU pg es) (ht : kL w gt gs) (h4 : w.heap[g4]? = some (.cells #[.slice none 0 0] 32 (0, 0))) (h5 : w.heap[g5]? = some (.cells #[.slice none 0 0] 32 (0, 0))) (h3 : w.heap[g3]? = some (.cells #[.pointer (some ⟨gt, 0, none⟩)] 23 (0, 0)))
  (hq : ∀ k, q k -> k < w.heap.size) (hq5 : ¬ q g5) :
  Gf n Tryz.prog 51 #[.pointer (some ⟨g4, 0, none⟩), .pointer (some ⟨g5, 0, none⟩), .pointer (some ⟨g3, 0, none⟩)] um q (jC w.heap.size es) (fun xs => xs.length = es.length) (fun _ => True) w := by
 intro l J Jx W hW hJ hJx hY h0
 have HR := hide (hr.below hW)
 have HL := hide hl
 have HT := hide (show kL W gt gs from (hW.block _ (aa ht)).trans ht)
 have R4 := hide ((hW.block _ (aa h4)).trans h4)
 have R5 := hide ((hW.block _ (aa h5)).trans h5)
 have R3 := hide ((hW.block _ (aa h3)).trans h3)
 have HY := hide hY
 have HWR := hide (show w.heap.size <= W.heap.size from hW.size)
 have HQ := hide (show (∀ k, q k -> k < W.heap.size) from fun k hk => Nat.lt_of_lt_of_le (hq k hk) hW.size)
 have HQ5 := hide hq5
 obtain ⟨N, hN⟩ : ∃ N, N = es.length := ⟨_, rfl⟩
 have HN := hide hN
 have HNL := hide (show N <= 254 by rw [hN]; exact hl.ok.len)
 have c4 := bU R4.out
 have c3 := bU R3.out
 have ct := jO HT.out
 clear hr hl ht h4 h5 h3 hY hq hN hW
 refine callsIn_of_wp Tryz.func51 rfl trivial ?_ rfl
 simp only [Tryz.ntmps51, List.size_toArray, List.length_cons, List.length_nil, Nat.reduceAdd, Nat.reduceSub, Array.replicate_succ, Array.replicate_zero, List.push_toArray, List.append_toArray, List.nil_append, List.cons_append]
 gi_wp2
 gi_loopw [5, 6] (fun s5 s6 wr => (s5 = .slice none 0 0 /\ s6 = .bool true /\ wr = W) \/ (s6 = .bool false /\ ∃ xs, xs.length = N /\ J xs wr)) (fun _ s6 _ => match s6 with | .bool true => 1 | _ => 0)
 case atStart => exact Or.inl ⟨rfl, rfl, rfl⟩
 case round =>
  rcases hrel with ⟨rfl, rfl, rfl⟩ | ⟨rfl, xs, hxs, hJs⟩
  rotate_left
  ·gi_wp2
   go_end0
   exact ⟨⟨_, rfl⟩, .inl ⟨xs, by rw [hxs, HN.out], hJs⟩⟩
  ·gi_wp2
   refine ⟨trivial, by simp [Fence.wide], (callsIn_wide.2 (xz B gs pg es _ wr HR.out HL.out ⟨_, _, _, rfl⟩)).mono ?_⟩
   rintro e w1 ⟨g, rfl, hn, hb⟩
   have NN := hide hn
   have HB1 := hide hb
   clear hn hb
   gi_wp2
   refine ⟨trivial, by simp [Fence.wide], (callsIn_wide.2 (rM g 0 _ es [] w1 (NN.out.node HL.out.ok.ent (by have := HL.out.ok.len; omega)) (Or.inl ⟨rfl, rfl⟩) HL.out.ok.up)).mono ?_⟩
   rintro e w2 ⟨rfl, hb⟩
   rw [S.rank_nil]
   have N2 := hide (NN.out.below hb)
   have HB2 := hide (HB1.out.trans (hb.mono HB1.out.size))
   clear hb NN HB1
   obtain ⟨v, d, h1, h2, h3, h4⟩ := N2.out.is
   obtain ⟨ao, cap, rfl⟩ := h2.form
   obtain ⟨g0, g1⟩ := aR h1
   have hd : d.length = N := h3.trans HN.out.symm
   have OB := hide (show ∀ k, (Value.slice ao N cap).ownBlock = some k -> ¬ q k from fun k hk hq => by rw [<- hd] at hk; have := (h2.blk hk).1; have := HQ.out k hq; omega)
   have ELS := hide (h2.els (by have := HNL.out; omega))
   rw [hd] at g1 ELS
   have SL := (els_all ELS.out).1
   have R5q := hide (show w2.heap[g5]? = some (.cells #[.slice none 0 0] 32 (0, 0)) from (HB2.out.block _ (aa R5.out)).trans R5.out)
   have H4 := hide h4
   have HD := hide hd
   clear h1 h2 h3 h4 hd N2
   gi_wp2
   gi_loopw [49] (fun i wr => ∃ (k : Nat) (pre : List EnV), k <= N /\ i = .int .i64 (k : Int) /\ pre.length = k /\ J pre wr /\ Chg q w2 wr) (fun i _ => N - (intOf i).toNat)
   case atStart => exact ⟨0, [], Nat.zero_le _, rfl, rfl, hJ _ _ _ h0 HB2.out, Chg.refl _ _⟩
   case round =>
    obtain ⟨k, pre, hk, rfl, hpre, hJs, hc⟩ := hrel
    by_cases hlt : k < N
    ·have q0 : (0 : Int) <= (k : Int) := by omega
     have q1 : (k : Int) < (N : Int) := by omega
     have qw : IntKind.i64.wrap ((k : Int) + 1) = (k : Int) + 1 := by rw [IntKind.wrap_i64]; have := HNL.out; omega
     obtain ⟨x, hx⟩ : ∃ x, d[k]? = some x := ⟨_, List.getElem?_eq_getElem (by rw [HD.out]; exact hlt)⟩
     obtain ⟨en, hen⟩ : ∃ en, es[k]? = some en := ⟨_, List.getElem?_eq_getElem (by rw [<- HN.out]; exact hlt)⟩
     have EN := hide ((H4.out k x en hx hen).1.past hc (fun k hq => HQ.out k hq))
     obtain ⟨b, off, cp, hs, hcp, hbl, hcl⟩ := (ELS.out.chg hc OB.out).at fV k x hx
     rw [HD.out] at hs hcp
     simp only [Value.slice.injEq] at hs
     obtain ⟨rfl, -, rfl⟩ := hs
     obtain ⟨t0, t1, t2, t3⟩ := ccell4 hcl
     have c5 : wr.cell? ⟨g5, 0, none⟩ = some (.slice none 0 0) := bU (hc.row R5q.out HQ5.out)
     have hg5 : g5 < wr.heap.size := aa (hc.row R5q.out HQ5.out)
     obtain ⟨ka, kn, kc, va, vn, vc, px, nd⟩ := x
     obtain ⟨VN, hVN⟩ : ∃ V, V = wr.alloc (.cells #[.slice ka kn kc, .slice va vn vc, .int .i64 px, .pointer nd] 126 (0, 0)) := ⟨_, rfl⟩
     have bV : Below wr.heap.size wr VN := by rw [hVN]; exact (Below.refl _ wr).alloc (lr _) _
     obtain ⟨fn, tmps, assign, body, hy, hR⟩ := HY.out pre ⟨ka, kn, kc, va, vn, vc, px, nd⟩ VN (hJ _ _ _ hJs bV) ⟨en, by rw [hpre]; exact hen, (EN.out.below bV).mono HWR.out⟩
     simp only [um] at hy
     have HK := hide (And.intro hlt hpre)
     have HCV := hide (hc.trans (q := fun _ => False) (Chg.ofBelow' bV) (fun _ _ e => e.elim))
     subst hVN
     clear hx hen hcl hlt hk hJs hc bV
     gi_wp2
     refine ⟨trivial, by simp [Fence.wide], (callsIn_wide.2 (uI _ _ ⟨_, _, _, rfl⟩)).mono ?_⟩
     rintro e w3 ⟨rfl, rfl⟩
     gi_wp2
     refine ⟨by simp [Fence.wide], hR.mono ?_⟩
     rintro e W3 (⟨rfl, hJ3, hk3⟩ | ⟨rfl, hJx3⟩)
     ·gi_wp2
      go_roundw
      case rel => exact ⟨k + 1, _, by have := HK.out; omega, rfl, by simp [HK.out.2], hJ3, HCV.out.trans hk3 (fun _ _ e => e)⟩
      case measure => have := HK.out; simp only [intOf]; omega
     ·gi_wp2
      refine bodyPost_ret (results_none rfl _ _ _) rfl ?_
      exact ⟨⟨_, rfl⟩, .inr ⟨_, trivial, hJx3⟩⟩
    ·obtain rfl : k = N := by omega
     have q1 : ¬ (k : Int) < (k : Int) := by omega
     gi_wp2
     refine ⟨trivial, ?_⟩
     gi_wp2
     go_roundw
     case rel => exact Or.inr ⟨rfl, pre, hpre, hJs⟩
     case measure => simp
end Go.Proofs.YteealihknndclaaGreatDoor
namespace Go.Proofs.YteealihknndclaaGreatDoor
open Go.RowKit
theorem zC (W : World) : (binOp .eql 32 (.slice none 0 0) (.slice none 0 0)).run Tryz.prog W = .ok (.bool true) W := by
 have h : ∀ d : Nat, (Op.equalIn (d + 1) 32 (.slice none 0 0) (.slice none 0 0)).run Tryz.prog W = .ok true W := fun d => by
  simp [Op.equalIn, run_underlying Tryz.underlying32]
 simp only [binOp]
 simp [Op.equal, Op.maxDepth, h 9999]
set_option maxRecDepth 10000 in
theorem uw (w : World) : Calls Tryz.prog 50 #[.slice none 0 0] w fun e w' => e = .returned (.slice none 0 0) /\ w = w' := by
 have e := zC
 go_enter Tryz.func50, Tryz.ntmps50
 go_wp2_with fail
 go_ret
 exact ⟨rfl, rfl⟩
set_option maxRecDepth 10000 in
theorem zU {w : World} {g : Nat} {v : Value} (h : w.heap[g]? = some (.cells #[v] 32 (0, 0))) (ao : Option Addr) (n c : Nat) :
  (Instr.storeAt 32 (.pointer (some ⟨g, 0, none⟩)) (.slice ao n c)).run Tryz.prog w = .ok () (w.setCell ⟨g, 0, none⟩ (.slice ao n c)) := by
 have e := bU h
 have f := frozen_of_row w g 0 _ _ h
 go_simp
def RgS (w : World) (g3 g4 g5 gt : Nat) (W : World) : Prop :=
 Below w.heap.size w W /\ W.heap[g3]? = some (.cells #[.pointer (some ⟨gt, 0, none⟩)] 23 (0, 0)) /\ W.heap[g4]? = some (.cells #[.slice none 0 0] 32 (0, 0)) /\ W.heap[g5]? = some (.cells #[.slice none 0 0] 32 (0, 0))
theorem RgS.set4 {w W : World} {g3 g4 g5 gt : Nat} (h : RgS w g3 g4 g5 gt W) (h4 : w.heap.size <= g4) (n3 : g3 ≠ g4) (n5 : g5 ≠ g4) : RgS w g3 g4 g5 gt (W.setCell ⟨g4, 0, none⟩ (.slice none 0 0)) :=
 ⟨h.1.setCell (p := ⟨g4, 0, none⟩) h4 _, (heap_setCell_other _ _ _ _ n3).trans h.2.1, one_setCell h.2.2.1, (heap_setCell_other _ _ _ _ n5).trans h.2.2.2⟩
theorem RgS.set5 {w W : World} {g3 g4 g5 gt : Nat} (h : RgS w g3 g4 g5 gt W) (h5 : w.heap.size <= g5) (n3 : g3 ≠ g5) (n4 : g4 ≠ g5) : RgS w g3 g4 g5 gt (W.setCell ⟨g5, 0, none⟩ (.slice none 0 0)) :=
 ⟨h.1.setCell (p := ⟨g5, 0, none⟩) h5 _, (heap_setCell_other _ _ _ _ n3).trans h.2.1, (heap_setCell_other _ _ _ _ n4).trans h.2.2.1, one_setCell h.2.2.2⟩
set_option maxHeartbeats 4000000 in
set_option maxRecDepth 10000 in
theorem oJ (gt : Nat) (w : World) : Calls Tryz.prog 19 #[.pointer (some ⟨gt, 0, none⟩), .slice none 0 0, .slice none 0 0] w fun e w' =>
  ∃ g3 g4 g5, e = .returned (.func (.func 51) #[] #[.pointer (some ⟨g4, 0, none⟩), .pointer (some ⟨g5, 0, none⟩), .pointer (some ⟨g3, 0, none⟩)]) /\ RgS w g3 g4 g5 gt w' /\ w.heap.size <= g3 /\ w.heap.size <= g4 /\ w.heap.size <= g5 := by
 obtain ⟨g3, h3⟩ : ∃ g, g = w.heap.size := ⟨_, rfl⟩
 obtain ⟨g4, h4⟩ : ∃ g, g = w.heap.size + 1 := ⟨_, rfl⟩
 obtain ⟨g5, h5⟩ : ∃ g, g = w.heap.size + 1 + 1 := ⟨_, rfl⟩
 go_enter Tryz.func19, Tryz.ntmps19
 go_upto_region 1 with fail
 have s1 : ∀ (W : World) o, (W.alloc o).heap.size = W.heap.size + 1 := fun W o => World.size_alloc W o
 have r3 : ((w.alloc (.cells #[.pointer (some ⟨gt, 0, none⟩)] 23 (0, 0)))).heap[g3]? = some (.cells #[.pointer (some ⟨gt, 0, none⟩)] 23 (0, 0)) := by rw [h3]; exact heap_alloc_new _ _
 have b3 := (Below.refl w.heap.size w).alloc (lr _) (.cells #[.pointer (some ⟨gt, 0, none⟩)] 23 (0, 0))
 obtain ⟨W3, hW3⟩ : ∃ W, W = w.alloc (.cells #[.pointer (some ⟨gt, 0, none⟩)] 23 (0, 0)) := ⟨_, rfl⟩
 have z3 : W3.heap.size = w.heap.size + 1 := by rw [hW3, s1]
 have r4 : (W3.alloc (.cells #[.slice none 0 0] 32 (0, 0))).heap[g4]? = some (.cells #[.slice none 0 0] 32 (0, 0)) := by rw [h4, <- z3]; exact heap_alloc_new _ _
 obtain ⟨W4, hW4⟩ : ∃ W, W = W3.alloc (.cells #[.slice none 0 0] 32 (0, 0)) := ⟨_, rfl⟩
 have z4 : W4.heap.size = w.heap.size + 1 + 1 := by rw [hW4, s1, z3]
 have r5 : (W4.alloc (.cells #[.slice none 0 0] 32 (0, 0))).heap[g5]? = some (.cells #[.slice none 0 0] 32 (0, 0)) := by rw [h5, <- z4]; exact heap_alloc_new _ _
 obtain ⟨W5, hW5⟩ : ∃ W, W = W4.alloc (.cells #[.slice none 0 0] 32 (0, 0)) := ⟨_, rfl⟩
 rw [<- hW3] at r3 b3
 rw [<- hW4] at r4
 rw [<- hW5] at r5
 have c4 : Below W3.heap.size W3 W4 := by rw [hW4]; exact ba ..
 have c5 : Below W4.heap.size W4 W5 := by rw [hW5]; exact ba ..
 have HR0 := hide (show RgS w g3 g4 g5 gt W5.drew from ⟨((b3.trans (c4.mono (by omega))).trans (c5.mono (by omega))).drew, (c5.block _ (by omega)).trans ((c4.block _ (by omega)).trans r3), (c5.block _ (by omega)).trans r4, r5⟩)
 rw [<- h3, show g3 + 1 + 1 = g5 by omega, show g3 + 1 = g4 by omega, <- hW3, <- hW4, <- hW5]

 clear r3 r4 r5 b3 c4 c5 s1 hW3 hW4 hW5 z3 z4
 have G4 : w.heap.size <= g4 := by omega
 have G5 : w.heap.size <= g5 := by omega
 have G3 : w.heap.size <= g3 := by omega
 have NE : g3 ≠ g4 /\ g3 ≠ g5 /\ g4 ≠ g5 := by omega
 clear h3 h4 h5
 refine wp_region_noPanic ?_
 refine wp_region_held_drew (S := (fun W => RgS w g3 g4 g5 gt W)) follows HR0.out (fun hHeld => ?_)
 refine tk 0 ?_ rfl (Or.inl ⟨by rfl, ?_⟩) ?_
 rotate_left
 ·intro w hSw
  have e4 := bU hSw.2.2.1
  have e5 := bU hSw.2.2.2
  clear hSw
  go_simp
  all_goals with_reducible rfl
 simp only [uA]
 refine tk 2 ?_ rfl (Or.inl ⟨by rfl, ?_⟩) ?_
 rotate_left
 ·intro w hSw
  have e4 := bU hSw.2.2.1
  have e5 := bU hSw.2.2.2
  clear hSw
  go_simp
  all_goals with_reducible rfl
 simp only [uA]
 refine r1 1 fun K hK => ?_
 go_simp
 refine (uw _).mono ?_
 rintro e Z1 ⟨rfl, rfl⟩
 refine hK.out _ _ hHeld (fun hHeld => ?_)
 clear hK K
 try simp only [uA]
 refine r1 3 fun K hK => ?_
 go_simp
 refine (uw _).mono ?_
 rintro e Z2 ⟨rfl, rfl⟩
 refine hK.out _ _ hHeld (fun hHeld => ?_)
 clear hK K
 try simp only [uA]
 refine rdy [4] ?_
 refine fe (o := ⟨_, _, _, _, _, _⟩) rfl rfl 32 (.tmp 4) (.tmp 8) rfl _ (zU hHeld.2.2.1 none 0 0) AllReadyH.nil ⟨hHeld.set4 (by omega) (by omega) (by omega), fun ll => ?_⟩
 clear hHeld
 have hHeld := ll
 clear ll
 simp only [Act.put]
 refine rdy [5] ?_
 refine fe (o := ⟨_, _, _, _, _, _⟩) rfl rfl 32 (.tmp 5) (.tmp 10) rfl _ (zU hHeld.2.2.2 none 0 0) AllReadyH.nil ⟨hHeld.set5 (by omega) (by omega) (by omega), fun ll => ?_⟩
 clear hHeld
 have hHeld := ll
 clear ll
 simp only [Act.put]
 refine wpAnyH_done (by kernel_rfl) ?_ _
 refine NoPanic.normal ?_
 go_wp2_with fail
 go_ret
 exact ⟨g3, g4, g5, rfl, hHeld, G3, G4, G5⟩
end Go.Proofs.YteealihknndclaaGreatDoor
namespace Go.Proofs.YteealihknndclaaGreatDoor
open Go.RowKit Go.Shelf

theorem l6 {α : Type} {n : Nat} {P : Program} {g : Operand} {ps : Array Tmp} {assign body : Code} {Q : Exit -> Act -> World -> Prop} {a : Act} {w w0 : World} {gf : Nat} {lb : Array Value} {encs : α -> Array Value} {q : Nat -> Prop} {R : List α -> α -> World -> Prop} {S Sp : List α -> Prop}
  (hg : a.eval g = .func (.func gf) #[] lb) (eg : ∀ args w, (callFunc gf args).run P w = .ok (.enter gf args) w) (hseq : Gf (n - 1) P gf lb encs q R S Sp w0) (hb0 : Below w0.heap.size w0 w) (hps : ∀ x, (encs x).size = ps.size) (hq : ∀ k, q k -> k < w.heap.size)
  (I : List α -> World -> Prop) (Ix : Code -> List α -> World -> Prop) (gI : yt I) (gIx : ∀ c, yt (Ix c)) (bI : Gs w.heap.size I) (bIx : ∀ c, Gs w.heap.size (Ix c)) (bR : ∀ pre, Gs w.heap.size (R pre)) (gR : ∀ pre, yt (R pre)) (h0 : I [] w) (Ax : α -> Act -> World -> Prop) (bA : ∀ x, Gs w.heap.size (Ax x))
  (hassign : ∀ (l : Nat) (pre : List α) (x : α) (W : World) (K : Act -> World -> Prop), I pre W -> R pre x W -> (∀ a' W', Below W.heap.size W W' -> Ax x a' W' -> K a' W') -> assign.wpIn (Fence.wide.inRound l) (n - 1 - 1) P (Exit.then K (fun _ _ _ => False)) { tmps := (ps.zip (encs x)).foldl (fun t (p, v) => t.setIfInBounds p v) a.tmps, defers := [] } W)
  (hbody : ∀ (l : Nat) (pre : List α) (x : α) (a' : Act) (W : World), I pre W -> R pre x W -> Ax x a' W -> body.wpIn (Fence.wide.inRound l) (n - 1 - 1) P (memPost q I Ix (pre ++ [x]) W) a' W)
  (hdone : ∀ (D : Nat) (xs : List α) (W : World), w.heap.size <= D -> S xs -> I xs W -> W.heap[D]? = some (.deferred (some [])) -> Q .normal { a with defers := { target := .collected D, args := #[] } :: a.defers } W)
  (hstop : ∀ (D : Nat) (c : Code) (pre : List α) (W : World), w.heap.size <= D -> Sp pre -> Ix c pre W -> W.heap[D]? = some (.deferred (some [])) -> c.wpIn Fence.wide n P Q { a with defers := { target := .collected D, args := #[] } :: a.defers } W) :
  (Code.rangeFunc g ps assign body).wpIn Fence.wide n P Q a w := by
 refine wpIn_rangeFunc fun fn _ => ?_
 let rc : LoopState -> Option Code -> Obj := fun st pe => .loop { state := st, pending := pe, fn, tmps := a.tmps, params := ps, assign, body, defers := w.heap.size }
 obtain ⟨D, hD⟩ : ∃ D, D = w.heap.size := ⟨_, rfl⟩
 obtain ⟨l, hl⟩ : ∃ l, l = w.heap.size + 1 := ⟨_, rfl⟩
 obtain ⟨V, hV⟩ : ∃ V, V = (w.alloc (.deferred (some []))).alloc (rc .ready none) := ⟨_, rfl⟩
 have b1 : Below w.heap.size w (w.alloc (.deferred (some []))) := (Below.refl _ w).alloc (lr _) _
 have b2 : Below w.heap.size w V := by rw [hV]; exact b1.alloc b1.size _
 have rl : V.heap[l]? = some (rc .ready none) := by
  rw [hV, hl, <- World.size_alloc w (.deferred (some []))]
  exact World.alloc_heap_new _ _
 have rD : V.heap[D]? = some (.deferred (some [])) := by
  rw [hV, hD, Below.heap_alloc _ _ _ (by rw [World.size_alloc]; omega)]
  exact World.alloc_heap_new _ _
 have nq : ¬ q l := fun e => by have := hq l e; omega
 have nD : ¬ q D := fun e => by have := hq D e; omega
 have nlD : D ≠ l := by omega
 refine ⟨l, [{ target := .collected D, args := #[] }], V, { target := .fn (.func gf) lb, args := #[.func (.yield l) #[] #[]] }, V, gf, #[.func (.yield l) #[] #[]] ++ lb, V, ?_, ?_, fun _ _ => trivial, ?_, fun e => by simp [Fence.wide] at e, ?_⟩
 ·rw [hV, hl, hD]
  exact run_enterLoop_outer _ _ _ _ _
 ·simp only [resolve, hg]
  simp [go_sem]
 ·simp [invoke, go_sem, eg]
 ·let J : List α -> World -> Prop := fun pre W => I pre W /\ W.heap[l]? = some (rc .ready none) /\ W.heap[D]? = some (.deferred (some []))
  let Jx : List α -> World -> Prop := fun pre W => ∃ c, Ix c pre W /\ W.heap[l]? = some (rc .done (some c)) /\ W.heap[D]? = some (.deferred (some []))
  have kp : ∀ {A B : World} {k : Nat} {o : Obj}, A.heap[k]? = some o -> Below A.heap.size A B -> B.heap[k]? = some o := fun h b => (b.block _ (aa h)).trans h
  refine (hseq l J Jx V (hb0.trans (b2.mono hb0.size)) (fun s A B h b => ⟨gI s A B h.1 b, kp h.2.1 b, kp h.2.2 b⟩) (fun s A B h b => by obtain ⟨c, h1, h2, h3⟩ := h; exact ⟨c, gIx c s A B h1 b, kp h2 b, kp h3 b⟩) ?_ ⟨gI _ _ _ h0 b2, rl, rD⟩).mono ?_
  ·rintro pre x W0 ⟨hi0, hr0, hd0⟩ hR0
   have hy := run_yield (P := P) (args := encs x) hr0 (hps x)
   refine ⟨fn, _, assign, body, hy, roundIn_of_wpIn trivial (hassign l pre x W0 _ hi0 hR0 (fun a' W hbW hAx => ⟨_, run_beginRound (kp hr0 hbW) rfl, ?_⟩))⟩
   have hi := gI _ _ _ hi0 hbW
   have hr := kp hr0 hbW
   have hd := kp hd0 hbW
   have hR := gR pre _ _ _ hR0 hbW
   have lt := aa hr
   have cW : Chg q W0 W := (Chg.ofBelow' (p := fun _ => False) hbW).mono (fun _ _ e => e.elim)
   refine wpIn_mono (hbody l pre x a' _ (bI _ _ _ _ _ hi (by omega) hr rfl) (bR pre _ _ _ _ _ hR (by omega) hr rfl) (bA x _ _ _ _ _ hAx (by omega) hr rfl)) ?_
   have rb : (W.putObj l (rc .busy none)).heap[l]? = some (rc .busy none) := World.putObj_heap_same lt
   have rd : (W.putObj l (rc .busy none)).heap[D]? = some (.deferred (some [])) := (World.putObj_heap_other nlD).trans hd
   intro e a3 X hp
   cases e with
   | normal =>
    obtain ⟨c3, i3⟩ := hp
    have r3 := c3.row rb nq
    have d3 := c3.row rd nD
    exact ⟨_, _, run_endRound none r3, Or.inl ⟨rfl, ⟨bI _ _ _ _ _ i3 (by omega) r3 rfl, World.putObj_heap_same (aa r3), (World.putObj_heap_other nlD).trans d3⟩, cW.trans (Chg.round lt hr c3) (fun _ _ e => e)⟩⟩
   | ret =>
    obtain ⟨c3, i3⟩ := hp
    have r3 := c3.row rb nq
    exact ⟨_, _, run_endRound (some .ret) r3, Or.inr ⟨rfl, .ret, bIx _ _ _ _ _ _ i3 (by omega) r3 rfl, World.putObj_heap_same (aa r3), (World.putObj_heap_other nlD).trans (c3.row rd nD)⟩⟩
   | exit id =>
    obtain ⟨c3, i3⟩ := hp
    have r3 := c3.row rb nq
    exact ⟨_, _, run_endRound (some (.exit id)) r3, Or.inr ⟨rfl, .exit id, bIx _ _ _ _ _ _ i3 (by omega) r3 rfl, World.putObj_heap_same (aa r3), (World.putObj_heap_other nlD).trans (c3.row rd nD)⟩⟩
   | goto t =>
    obtain ⟨c3, i3⟩ := hp
    have r3 := c3.row rb nq
    exact ⟨_, _, run_endRound (some (.goto t)) r3, Or.inr ⟨rfl, .goto t, bIx _ _ _ _ _ _ i3 (by omega) r3 rfl, World.putObj_heap_same (aa r3), (World.putObj_heap_other nlD).trans (c3.row rd nD)⟩⟩
   | panic ch => exact hp.elim
   | outgrown => exact hp.elim
  ·rintro e X ⟨⟨v, rfl⟩, ⟨xs, hS, hi, hr, hd⟩ | ⟨pre, hSp, c, hi, hr, hd⟩⟩
   ·exact ⟨none, _, run_endLoop hr (by intro h; cases h), hdone D xs _ (by omega) hS (bI _ _ _ _ _ hi (by omega) hr rfl) ((World.putObj_heap_other nlD).trans hd)⟩
   ·exact ⟨some c, _, run_endLoop hr (by intro h; cases h), hstop D c pre _ (by omega) hSp (bIx _ _ _ _ _ _ hi (by omega) hr rfl) ((World.putObj_heap_other nlD).trans hd)⟩
end Go.Proofs.YteealihknndclaaGreatDoor
namespace Go.Proofs.YteealihknndclaaGreatDoor
open Go.RowKit
open Go.Shelf
attribute [local go_sem] Oper.semAt_some
theorem upon_in {l n : Nat} {o : Oper} {a : Act} {next next' : Act -> World -> Prop} {Q : Exit -> Act -> World -> Prop} {r : Result Next} (hn : ∀ a w, next a w -> next' a w) (h : o.upon Tryz.prog a next Q r) : o.uponIn (Fence.wide.inRound l) n Tryz.prog a next' Q r := by
 cases r with
 | ok x w' =>
  cases x with
  | value v => exact hn _ _ h
  | skip => exact hn _ _ h
  | defer d => exact hn _ _ h
  | enter f args =>
   refine ⟨fun e => by simp [Fence.wide, Fence.inRound] at e, (CallsIn.inRound l (callsIn_wide.2 h)).mono ?_⟩
   intro e w'' he
   cases e with
   | returned v => exact hn _ _ he
   | panicked c => exact he
   | outgrown => exact he
  | row row args =>
   refine ⟨fun e => by simp [Fence.wide, Fence.inRound] at e, fun c cs _ => ?_⟩
   obtain ⟨v, w'', hr, hs⟩ := h c cs
   exact ⟨v, w'', hn _ _ hr, stepsIn_wide.2 hs⟩
  | _ => exact h.elim
 | halt x w' =>
  cases x with
  | panic v => exact h
  | _ => exact h.elim
theorem xJ {l n : Nat} {md : Region.Mode} {ops : Array Oper} {Q : Exit -> Act -> World -> Prop} (hQ : ¬ LetsOut Q) (hd : ∀ (i : Nat) (o : Oper), ops[i]? = some o -> ∀ c, o.op ≠ .defer c) : ∀ (fuel : Nat) (listed : Array Bool) (a : Act) (w : World), wpAny Tryz.prog md ops Q fuel listed a w -> wpAnyIn (Fence.wide.inRound l) n Tryz.prog md ops Q fuel listed a w := by
 intro fuel
 induction fuel with
 | zero => intro listed a w h; exact h
 | succ fuel ih =>
  intro listed a w h
  refine ⟨h.1, fun i hi => ?_⟩
  have h2 := h.2 i hi
  unfold wpOp at h2
  unfold wpOpIn
  split
  ·rename_i ho
   rw [ho] at h2
   exact ih _ _ _ h2
  ·rename_i o ho
   rw [ho] at h2
   simp only at h2
   split
   ·rename_i hw
    rw [if_pos hw] at h2
    rcases h2 with h2 | ⟨_, h2⟩
    ·refine ⟨fun _ _ => trivial, ?_⟩
     rw [show (Fence.wide.inRound l).round = some l from rfl, Oper.semAt_some l _ _ (hd i o ho)]
     exact upon_in (fun a w h => ih _ a w h) h2
    ·exact absurd h2 hQ
   ·rename_i hw
    rw [if_neg hw] at h2
    exact ⟨fun _ _ => trivial, ih _ _ _ h2⟩
theorem jD {l' n : Nat} {id : Nat} {Q : Exit -> Act -> World -> Prop} {a : Act} {w : World} {l : List Oper} (hQ : ¬ LetsOut Q) (hd : ∀ (i : Nat) (o : Oper), l.toArray[i]? = some o -> ∀ c, o.op ≠ .defer c) (hm : Tryz.prog.follows .mixedOrders = true) (hB : Region.lexB .any l.toArray = true)
  (h : wpQuiet Tryz.prog l.toArray (fun w' => ∃ n, w' = w.drewN n) (fun a' => ∀ w', (∃ n, w' = w.drewN n) -> Q .normal a' w') l a) : (Code.region id l.toArray true).wpIn (Fence.wide.inRound l') n Tryz.prog Q a w := by
 simp only [Region.lexB, Bool.and_eq_true] at hB
 refine wpIn_region_any hm (xJ hQ hd _ _ _ _ (wpAny_of_quiet (C := fun w' => ∃ n, w' = w.drewN n) (Q := fun a' => ∀ w', (∃ n, w' = w.drewN n) -> Q .normal a' w') (fun _ w' hw' h => h w' hw') _ _ _ _ ⟨1, rfl⟩ ?_))
 have := wpAnyQ_lex (C := fun w' => ∃ n, w' = w.drewN n) (md := .any) hB.1 l 0 (Array.replicate l.length false) a (by simp) (by simpa using hB.2) h
 simpa using this
def uK (w : World) (v : Value) (es : List S.Ent) : Prop :=
 ∃ ao cap, v = .slice ao es.length cap /\ ∀ (i : Nat) e, es[i]? = some e -> ∃ b off ka kn kc va vn vc, ao = some ⟨b, off, none⟩ /\ b < w.heap.size /\ w.cell? ⟨b, off + i * 2, none⟩ = some (.slice ka kn kc) /\ w.cell? ⟨b, off + i * 2 + 1, none⟩ = some (.slice va vn vc) /\ SliceAt w (.slice ka kn kc) e.key /\ SliceAt w (.slice va vn vc) e.val
theorem uK.below {w W : World} {v : Value} {es : List S.Ent} (h : uK w v es) (hb : Below w.heap.size w W) : uK W v es := by
 obtain ⟨ao, cap, h1, h2⟩ := h
 refine ⟨ao, cap, h1, fun i e he => ?_⟩
 obtain ⟨b, off, ka, kn, kc, va, vn, vc, g1, g2, g3, g4, g5, g6⟩ := h2 i e he
 exact ⟨b, off, ka, kn, kc, va, vn, vc, g1, Nat.lt_of_lt_of_le g2 hb.size, (hb.cell (p := ⟨b, off + i * 2, none⟩) g2).trans g3, (hb.cell (p := ⟨b, off + i * 2 + 1, none⟩) g2).trans g4, g5.below hb (lr _), g6.below hb (lr _)⟩
end Go.Proofs.YteealihknndclaaGreatDoor
namespace Go.Proofs.YteealihknndclaaGreatDoor
open Go.RowKit
open Go.Shelf
attribute [local go_sem] Oper.semAt_some
theorem Chg.putObj {p : Nat -> Prop} {w W : World} {l : Nat} {o' : Obj} (h : Chg p w W) (hl : w.heap.size <= l) : Chg p w (W.putObj l o') := by
 refine ⟨h.os, h.tape, h.output, by rw [World.putObj_size]; exact h.size, fun k hk hn => ?_⟩
 rw [World.putObj_heap_other (by omega)]
 exact h.block k hk hn
theorem gL {W : World} {l g : Nat} {o o' : Obj} {cs : Array Value} {t : TypeId} {fr : Nat × Nat} (hg : W.heap[g]? = some (.cells cs t fr)) (hl : W.heap[l]? = some o) (hn : o.isCells = false) : (W.putObj l o').heap[g]? = some (.cells cs t fr) := by
 by_cases e : g = l
 ·subst e; rw [hg] at hl; injection hl with hl; rw [<- hl] at hn; simp [Obj.isCells] at hn
 ·rw [World.putObj_heap_other e]; exact hg
theorem kF {n : Nat} {w W : World} {l : Nat} {o' : Obj} (h : Below n w W) (hl : n <= l) : Below n w (W.putObj l o') :=
 ⟨h.os, h.tape, h.output, by rw [World.putObj_size]; exact h.size, fun k hk => by rw [World.putObj_heap_other (by omega)]; exact h.block k hk⟩
theorem rO (f : Fn) (x y : Array Value) (W : World) : (binOp .eql 43 (.func f x y) .nilFunc).run Tryz.prog W = .ok (.bool false) W := by
 have h : ∀ d : Nat, (Op.equalIn (d + 1) 43 (.func f x y) .nilFunc).run Tryz.prog W = .ok false W := fun d => by
  simp [Op.equalIn, run_underlying Tryz.underlying43]
 simp only [binOp]
 simp [Op.equal, Op.maxDepth, h 9999]
def noDef (o : Oper) : Bool := match o.op with | .defer _ => false | _ => true
theorem xq {l : List Oper} (h : l.all noDef = true) (i : Nat) (o : Oper) (ho : l.toArray[i]? = some o) (c : Call) : o.op ≠ .defer c := fun e => by
 have := List.all_eq_true.1 h o (List.mem_of_getElem? (by simpa using ho))
 rw [noDef, e] at this
 cases this
theorem Fj (a : List UInt8) : Op.bytesLess a [] = false := by cases a <;> simp [Op.bytesLess]
set_option maxRecDepth 10000 in
theorem store4 {w : World} {g : Nat} {v : Value} (h : w.heap[g]? = some (.cells #[v] 4 (0, 0))) (x : Bool) :
  (Instr.storeAt 4 (.pointer (some ⟨g, 0, none⟩)) (.bool x)).run Tryz.prog w = .ok () (w.setCell ⟨g, 0, none⟩ (.bool x)) := by
 have e := bU h
 have f := frozen_of_row w g 0 _ _ h
 go_simp
set_option maxRecDepth 10000 in
theorem load4 {w : World} {g : Nat} {x : Bool} (h : w.heap[g]? = some (.cells #[.bool x] 4 (0, 0))) : (loadVar 4 ⟨g, 0, none⟩).run Tryz.prog w = .ok (.bool x) w := by
 have e := bU h
 go_simp
theorem qM {fn : Func} {p : Tmp} {ty : TypeId} (h : fn.results = #[.cell p ty]) (tmps : Array Value) (w : World) (g : Nat) (v : Value)
  (hp : tmps.getD p undef = .pointer (some ⟨g, 0, none⟩)) (hl : (loadVar ty ⟨g, 0, none⟩).run Tryz.prog w = .ok v w) :
  (results fn tmps).run Tryz.prog w = .ok v w := by
 have hp' : tmps[p]?.getD undef = .pointer (some ⟨g, 0, none⟩) := by simpa using hp
 simp [results, h, hp', asAddr, hl]
theorem tZ {P : Program} {c : Code} {Q : Exit -> Act -> World -> Prop} {a : Act} {w : World} (h : ∀ T, T = a.tmps -> c.wp P Q { tmps := T, defers := a.defers } w) : c.wp P Q a w := h a.tmps rfl
theorem jC.grows (B : Nat) (es : List S.Ent) (pre : List EnV) (x : EnV) {V W : World} (h : jC B es pre x V) (hb : Below V.heap.size V W) : jC B es pre x W := by
 obtain ⟨e, h1, h2⟩ := h
 exact ⟨e, h1, h2.below hb⟩
set_option maxHeartbeats 16000000 in
set_option maxRecDepth 100000 in
theorem yP (B gs gt : Nat) (pg : Nat -> List UInt8) (es : List S.Ent) (v : Value) (w : World) (hr : Rds B w gs pg) (hl : S.nU pg es) (ht : kL w gt gs) (hv : uK w v es) :
  Calls Tryz.prog 22 #[.pointer (some ⟨gt, 0, none⟩), .slice none 0 0, .slice none 0 0, v] w fun e w' => e = .returned (.bool true) /\ Below w.heap.size w w' := by
 obtain ⟨vo, vc, hvv, _⟩ := id hv
 have HR := hide hr
 have HL := hide hl
 have HT := hide ht
 have HV := hide hv
 obtain ⟨N, hN⟩ : ∃ N, N = es.length := ⟨_, rfl⟩
 rw [<- hN] at hvv
 subst hvv
 have HN := hide hN
 have HNL := hide (show N <= 254 by rw [hN]; exact hl.ok.len)
 rename_i hvv2
 clear hr hl ht hv hN hvv2
 refine (callsIn_wide (n := 3)).1 ?_
 refine callsIn_of_wp_marks Tryz.func22 rfl trivial ?_ rfl
 refine wpIn_wide.2 ?_
 simp only [Tryz.ntmps22, List.size_toArray, List.length_cons, List.length_nil, Nat.reduceAdd, Nat.reduceSub, Array.replicate_succ, Array.replicate_zero, List.push_toArray, List.append_toArray, List.nil_append, List.cons_append]
 go_upto_region 1 with fail
 generalize hW0 : w.alloc _ = W0
 generalize hW1 : W0.alloc _ = W1
 generalize hW2 : W1.alloc _ = W2
 generalize hW3 : W2.alloc _ = W3
 have s0 : W0.heap.size = w.heap.size + 1 := by rw [<- hW0]; simp
 have s1 : W1.heap.size = w.heap.size + 1 + 1 := by rw [<- hW1]; simp [s0]
 have s2 : W2.heap.size = w.heap.size + 1 + 1 + 1 := by rw [<- hW2]; simp [s1]
 have s3 : W3.heap.size = w.heap.size + 1 + 1 + 1 + 1 := by rw [<- hW3]; simp [s2]
 have B0 : Below w.heap.size w W0 := by rw [<- hW0]; exact ba ..
 have B1 : Below W0.heap.size W0 W1 := by rw [<- hW1]; exact ba ..
 have B2 : Below W1.heap.size W1 W2 := by rw [<- hW2]; exact ba ..
 have B3 : Below W2.heap.size W2 W3 := by rw [<- hW3]; exact ba ..
 have r0 : W0.heap[w.heap.size]? = some (.cells #[.slice none 0 0] 32 (0, 0)) := by rw [<- hW0]; exact heap_alloc_new _ _
 have r1 : W1.heap[w.heap.size + 1]? = some (.cells #[.slice none 0 0] 32 (0, 0)) := by rw [<- hW1, <- s0]; exact heap_alloc_new _ _
 have r2 : W2.heap[w.heap.size + 1 + 1]? = some (.cells #[.slice vo N vc] 49 (0, 0)) := by rw [<- hW2, <- s1]; exact heap_alloc_new _ _
 have r3 : W3.heap[w.heap.size + 1 + 1 + 1]? = some (.cells #[.bool false] 4 (0, 0)) := by rw [<- hW3, <- s2]; exact heap_alloc_new _ _
 obtain ⟨f0, hf0⟩ : ∃ g, g = w.heap.size := ⟨_, rfl⟩
 obtain ⟨f1, hf1⟩ : ∃ g, g = w.heap.size + 1 := ⟨_, rfl⟩
 obtain ⟨f2, hf2⟩ : ∃ g, g = w.heap.size + 1 + 1 := ⟨_, rfl⟩
 obtain ⟨f3, hf3⟩ : ∃ g, g = w.heap.size + 1 + 1 + 1 := ⟨_, rfl⟩
 have BB := hide (show Below w.heap.size w W3 from ((B0.trans (B1.mono (by omega))).trans (B2.mono (by omega))).trans (B3.mono (by omega)))
 have F0 := hide (show W3.heap[f0]? = some (.cells #[.slice none 0 0] 32 (0, 0)) by rw [hf0]; exact (B3.block _ (by omega)).trans ((B2.block _ (by omega)).trans ((B1.block _ (by omega)).trans r0)))
 have F1 := hide (show W3.heap[f1]? = some (.cells #[.slice none 0 0] 32 (0, 0)) by rw [hf1]; exact (B3.block _ (by omega)).trans ((B2.block _ (by omega)).trans r1))
 have F2 := hide (show W3.heap[f2]? = some (.cells #[.slice vo N vc] 49 (0, 0)) by rw [hf2]; exact (B3.block _ (by omega)).trans r2)
 have F3 := hide (show W3.heap[f3]? = some (.cells #[.bool false] 4 (0, 0)) by rw [hf3]; exact r3)
 have FG := hide (show w.heap.size <= f3 /\ f0 ≠ f3 /\ f1 ≠ f3 /\ f2 ≠ f3 by omega)
 rw [<- hf3, <- hf2, <- hf1, <- hf0]
 clear hW0 hW1 hW2 hW3 s0 s1 s2 s3 B0 B1 B2 B3 r0 r1 r2 r3 hf0 hf1 hf2 hf3
 have c0 := bU F0.out
 have c1 := bU F1.out
 go_wp2_with fail
 refine (oJ gt W3).mono ?_
 rintro e w2 ⟨g3, g4, g5, rfl, hs, l3, l4, l5⟩
 have RS := hide hs
 have LS := hide (And.intro l3 (And.intro l4 l5))
 clear hs l3 l4 l5 c0 c1
 have hnil := rO
 go_wp2_with fail
 generalize hW4 : w2.alloc _ = W4
 obtain ⟨gk, hgk⟩ : ∃ g, g = w2.heap.size := ⟨_, rfl⟩
 rw [<- hgk]
 have B4 : Below w2.heap.size w2 W4 := by rw [<- hW4]; exact ba ..
 have K0 := hide (show W4.heap[gk]? = some (.cells #[.int .i64 ((0 : Nat) : Int)] 3 (0, 0)) by rw [hgk, <- hW4]; exact heap_alloc_new _ _)
 have B34 := hide (show Below W3.heap.size W3 W4 from RS.out.1.trans (B4.mono RS.out.1.size))
 have E0 := hide ((B34.out.block _ (aa F0.out)).trans F0.out)
 have E1 := hide ((B34.out.block _ (aa F1.out)).trans F1.out)
 have E2 := hide ((B34.out.block _ (aa F2.out)).trans F2.out)
 have E3 := hide ((B34.out.block _ (aa F3.out)).trans F3.out)
 have GK := hide (show f0 ≠ gk /\ f1 ≠ gk /\ f2 ≠ gk /\ f3 ≠ gk /\ g5 ≠ gk by
  have := aa F0.out; have := aa F1.out; have := aa F2.out; have := aa F3.out; have := aa RS.out.2.2.2; have := RS.out.1.size; omega)
 have BW := hide (show Below w.heap.size w W4 from BB.out.trans (B34.out.mono BB.out.size))
 have HR4 := hide (HR.out.below BW.out)
 have HT4 := hide (show kL W4 gt gs from (BW.out.block _ (aa HT.out)).trans HT.out)
 have HV4 := hide (HV.out.below BW.out)
 have HSEQ := hide (tT 1 B gs gt g4 g5 g3 pg es (fun k => k = gk) W4 HR4.out HL.out HT4.out ((B4.block _ (aa RS.out.2.2.1)).trans RS.out.2.2.1) ((B4.block _ (aa RS.out.2.2.2)).trans RS.out.2.2.2) ((B4.block _ (aa RS.out.2.1)).trans RS.out.2.1)
  (fun k hk => by rw [hk]; exact aa K0.out) GK.out.2.2.2.2)
 have GKW := hide (show w.heap.size <= gk by have := RS.out.1.size; have := BB.out.size; omega)
 clear hW4 hgk B4 F0 F1 F2 F3 RS LS BB B34 HR HT hnil
 refine tZ (fun T hT => ?_)
 have HTT := hide hT
 clear hT
 refine (wpIn_wide (n := 2)).1 (l6 (n := 2) (w0 := W4) (gf := 51) (lb := #[.pointer (some ⟨g4, 0, none⟩), .pointer (some ⟨g5, 0, none⟩), .pointer (some ⟨g3, 0, none⟩)]) (by rw [HTT.out]; rfl) (enters_of Tryz.func51 (by kernel_rfl) rfl) HSEQ.out (Below.refl _ _) (fun _ => rfl) (fun k hk => by rw [hk]; exact aa K0.out)
  (fun pre W => W.heap[gk]? = some (.cells #[.int .i64 ((pre.length : Nat) : Int)] 3 (0, 0)) /\ Chg (fun k => k = gk) W4 W) (fun _ _ _ => False)
  (fun s A B h hb => ⟨(hb.block _ (aa h.1)).trans h.1, h.2.trans (q := fun _ => False) (Chg.ofBelow' hb) (fun _ _ e => e.elim)⟩) (fun c s A B h hb => h) (fun s A l o o' h hl ho hc => ⟨gL h.1 ho hc, h.2.putObj hl⟩) (fun c s A l o o' h hl ho hc => h) (fun pre => jC.bare _ _ es pre) (fun pre s A B h hb => jC.grows _ es pre s h hb) ⟨K0.out, Chg.refl _ _⟩
  (fun x a' W => ∃ gx, W.heap[gx]? = some (.cells #[.slice x.ka x.kn x.kc, .slice x.va x.vn x.vc] 46 (0, 0)) /\ a' = { tmps := (T.setIfInBounds 19 (.agg #[.slice x.ka x.kn x.kc, .slice x.va x.vn x.vc])).setIfInBounds 11 (.pointer (some ⟨gx, 0, none⟩)), defers := [] })
  (fun x s A l o o' h hl ho hc => by obtain ⟨gx, h1, h2⟩ := h; exact ⟨gx, gL h1 ho hc, h2⟩) ?assign ?body ?done ?stop)
 case assign =>
  rintro l pre x W K ⟨hI1, hI2⟩ hp hK
  obtain ⟨ka, kn, kc, va, vn, vc', px, nd⟩ := x
  have hT2 : ∀ (T : Array Value), ((#[19] : Array Tmp).zip (um ⟨ka, kn, kc, va, vn, vc', px, nd⟩)).foldl (fun t (p, v) => t.setIfInBounds p v) T = T.setIfInBounds 19 (.agg #[.slice ka kn kc, .slice va vn vc']) := fun T => by simp [um]
  rw [hT2]
  have hK2 := hK _ (W.alloc (.cells #[.slice ka kn kc, .slice va vn vc'] 46 (0, 0))) ((Below.refl _ W).alloc (lr _) _) ⟨W.heap.size, heap_alloc_new _ _, rfl⟩
  clear hK hT2 hp hI1 hI2
  have HK2 := hide hK2
  clear hK2
  have hT := HTT.out
  subst hT
  simp only [List.setIfInBounds_toArray, List.set_cons_zero, List.set_cons_succ] at HK2 ⊢
  gi_wp2
  exact HK2.out
 case body =>
  rintro l pre x a' W ⟨hI1, hI2⟩ ⟨en, hen, hnew⟩ ⟨gx, hgx, rfl⟩
  obtain ⟨ka, kn, kc, va, vn, vc', px, nd⟩ := x
  obtain ⟨k, hk⟩ : ∃ k, k = pre.length := ⟨_, rfl⟩
  rw [<- hk] at hI1 hen
  have hlt : k < N := by rw [HN.out]; exact (List.getElem?_eq_some_iff.1 hen).1
  have eok := HL.out.ok.ent en (List.mem_of_getElem? hen)
  have his := hnew.is (by have := eok.key; omega) (by have := eok.val; omega)
  have BWW : Below w.heap.size w W := BW.out.trans (hI2.below w.heap.size BW.out.size (fun k hk e => by have := GKW.out; omega))
  obtain ⟨vo', vc3, hv1, hv2⟩ := HV.out.below BWW
  simp only [Value.slice.injEq] at hv1
  obtain ⟨rfl, -, rfl⟩ := hv1
  obtain ⟨b, off, ka2, kn2, kc2, va2, vn2, vc2, rfl, hb, e1, e2, s1, s2⟩ := hv2 k en hen
  obtain ⟨KS, hKS⟩ : ∃ s, s = (⟨en.key.toArray⟩ : ByteArray) := ⟨_, rfl⟩
  obtain ⟨VS, hVS⟩ : ∃ s, s = (⟨en.val.toArray⟩ : ByteArray) := ⟨_, rfl⟩
  obtain ⟨ES, hES⟩ : ∃ s, s = (⟨([] : List UInt8).toArray⟩ : ByteArray) := ⟨_, rfl⟩
  have k1 : ∀ m, (convert 32 9 (.slice ka kn kc)).run Tryz.prog (W.drewN m) = .ok (.string KS) (W.drewN m) := fun m => by rw [hKS]; exact aP (show SliceAt (W.drewN m) _ _ from his.key)
  have k2 : ∀ m, (convert 32 9 (.slice va vn vc')).run Tryz.prog (W.drewN m) = .ok (.string VS) (W.drewN m) := fun m => by rw [hVS]; exact aP (show SliceAt (W.drewN m) _ _ from his.val)
  have k3 : ∀ m, (convert 32 9 (.slice ka2 kn2 kc2)).run Tryz.prog (W.drewN m) = .ok (.string KS) (W.drewN m) := fun m => by rw [hKS]; exact aP (show SliceAt (W.drewN m) _ _ from s1)
  have k4 : ∀ m, (convert 32 9 (.slice va2 vn2 vc2)).run Tryz.prog (W.drewN m) = .ok (.string VS) (W.drewN m) := fun m => by rw [hVS]; exact aP (show SliceAt (W.drewN m) _ _ from s2)
  have k5 : ∀ m, (convert 32 9 (.slice none 0 0)).run Tryz.prog (W.drewN m) = .ok (.string ES) (W.drewN m) := fun m => by rw [hES]; exact aP (Or.inl ⟨rfl, rfl⟩)
  have k12 : ∀ m p, (convert 32 9 (.slice ka kn kc)).run Tryz.prog ((W.drewN m).drewN p) = .ok (.string KS) ((W.drewN m).drewN p) := fun m p => by rw [hKS]; exact aP (show SliceAt ((W.drewN m).drewN p) _ _ from his.key)
  have k22 : ∀ m p, (convert 32 9 (.slice va vn vc')).run Tryz.prog ((W.drewN m).drewN p) = .ok (.string VS) ((W.drewN m).drewN p) := fun m p => by rw [hVS]; exact aP (show SliceAt ((W.drewN m).drewN p) _ _ from his.val)
  have k32 : ∀ m p, (convert 32 9 (.slice ka2 kn2 kc2)).run Tryz.prog ((W.drewN m).drewN p) = .ok (.string KS) ((W.drewN m).drewN p) := fun m p => by rw [hKS]; exact aP (show SliceAt ((W.drewN m).drewN p) _ _ from s1)
  have k42 : ∀ m p, (convert 32 9 (.slice va2 vn2 vc2)).run Tryz.prog ((W.drewN m).drewN p) = .ok (.string VS) ((W.drewN m).drewN p) := fun m p => by rw [hVS]; exact aP (show SliceAt ((W.drewN m).drewN p) _ _ from s2)
  have k52 : ∀ m p, (convert 32 9 (.slice none 0 0)).run Tryz.prog ((W.drewN m).drewN p) = .ok (.string ES) ((W.drewN m).drewN p) := fun m p => by rw [hES]; exact aP (Or.inl ⟨rfl, rfl⟩)
  have less : Op.bytesLess KS.toList ES.toList = false := by
   rw [show ES.toList = [] by rw [hES]; first | kernel_rfl | simp [ByteArray.toList, ByteArray.toList.loop]]
   exact Fj _
  have c10 := bU hI1
  have fz10 := frozen_of_row W gk 0 _ _ hI1
  have c7 := bU (hI2.row E2.out GK.out.2.2.1)
  have c5 := bU (hI2.row E0.out GK.out.1)
  have c6 := bU (hI2.row E1.out GK.out.2.1)
  obtain ⟨cp0, cp1⟩ := aR hgx
  have q0 : (0 : Int) <= (k : Int) := by omega
  have q1 : (k : Int) < (N : Int) := by omega
  have q2 : ¬ (N : Int) <= (k : Int) := by omega
  have q3 : ¬ (k : Int) ≥ (N : Int) := by omega
  have q4 : decide ((k : Int) ≥ (N : Int)) = false := decide_eq_false q3
  have q5 : decide ((N : Int) <= (k : Int)) = false := decide_eq_false q2
  have q6 : ¬ N <= k := by omega
  have qw : IntKind.i64.wrap ((k : Int) + 1) = (k : Int) + 1 := by rw [IntKind.wrap_i64]; have := HNL.out; omega
  have HK := hide hk
  have HI1 := hide hI1
  clear hKS hVS hES hlt eok his BWW hv2 hen hnew hb s1 s2 hk hgx
  have hT := HTT.out
  subst hT
  simp only [List.setIfInBounds_toArray, List.set_cons_zero, List.set_cons_succ]
  gi_wp2
  gi_loopw [20] (fun _ wr => wr = W) (fun _ _ => 0)
  case atStart => rfl
  case round =>
   subst hrel
   gi_wp2
   refine jD (fun h => by obtain ⟨_, _, h⟩ := h; exact h) (xq (by kernel_rfl)) (by kernel_rfl) (by kernel_rfl) ?_
   repeat (go_big_quiet_step (fail))
   refine wpQuiet_nil ?_
   intro _ hw'
   obtain ⟨nq, rfl⟩ := hw'
   gi_wp2
   refine jD (fun h => by obtain ⟨_, _, h⟩ := h; exact h) (xq (by kernel_rfl)) (by kernel_rfl) (by kernel_rfl) ?_
   repeat (go_big_quiet_step (fail))
   refine wpQuiet_nil ?_
   intro _ hw'
   obtain ⟨np, rfl⟩ := hw'
   gi_wp2
   have CF : Chg (fun k => k = gk) wr ((wr.drewN (nq + np)).setCell ⟨gk, 0, none⟩ (.int .i64 ((k : Int) + 1))) := ((Chg.refl (fun k => k = gk) wr).drewN (nq + np)).setCell gk 0 _ (fun _ => rfl)
   refine ⟨CF, ?_, hI2.trans CF (fun k hk e => e)⟩
   rw [List.length_append, <- HK.out]
   exact one_setCell (show (wr.drewN (nq + np)).heap[gk]? = _ from HI1.out)
 case done =>
  rintro D xs W hD hxs ⟨hI1, hI2⟩ hKD
  have hxs' : xs.length = N := hxs.trans HN.out.symm
  rw [hxs'] at hI1
  have c10 := bU hI1
  have c7 := bU (hI2.row E2.out GK.out.2.2.1)
  have R10 := hide hI1
  have R7 := hide (hI2.row E2.out GK.out.2.2.1)
  have F3 := hide (hI2.row E3.out GK.out.2.2.2.1)
  have KD := hide hKD
  have BWW := hide (BW.out.trans (hI2.below w.heap.size BW.out.size (fun k hk e => by have := GKW.out; omega)))
  have HD := hide (show w.heap.size <= D from ltr BW.out.size hD)
  clear hI1 hI2 hKD hxs hxs' hD
  have hT := HTT.out
  subst hT
  go_wp2_with fail
  go_loopw [80] (fun _ wr => wr = W) (fun _ _ => 0)
  case atStart => rfl
  case round =>
  subst hrel
  go_wp2_with fail
  go_quiet (fail)
  go_wp2_with fail
  have K10 : Hid ((wr.drewN nq).heap[gk]? = some (.cells #[.int .i64 ((N : Nat) : Int)] 3 (0, 0))) := R10.out
  have K7 : Hid ((wr.drewN nq).heap[f2]? = some (.cells #[.slice vo N vc] 49 (0, 0))) := R7.out
  have G3' : Hid ((wr.drewN nq).heap[f3]? = some (.cells #[.bool false] 4 (0, 0))) := F3.out
  have KY : Hid ((wr.drewN nq).heap[D]? = some (.deferred (some []))) := KD.out
  have BY : Hid (Below w.heap.size w (wr.drewN nq)) := ⟨BWW.out.os, BWW.out.tape, BWW.out.output, BWW.out.size, BWW.out.block⟩
  clear c10 c7
  generalize wr.drewN nq = Y at K10 K7 G3' KY BY ⊢
  refine wp_region_noPanic ?_
  refine wp_region_held_drew (S := (fun Z => Chg (fun k => k = f3) Y Z)) follows ((Chg.refl _ _).drew) (fun hHeld => ?_)
  clear hHeld
  have hHeld : Chg (fun k => k = f3) Y Y.drew := (Chg.refl _ _).drew
  have G3 : Hid (Y.drew.heap[f3]? = some (.cells #[.bool false] 4 (0, 0))) := G3'.out
  have KZ : Hid (Y.drew.heap[D]? = some (.deferred (some []))) := KY.out
  generalize Y.drew = Z0 at hHeld G3 KZ ⊢
  refine tk 0 ?_ rfl (Or.inl ⟨by rfl, ?_⟩) ?_
  rotate_left
  ·intro w hSw
   have e10 := bU (hSw.row K10.out (fun e => GK.out.2.2.2.1 e.symm))
   have e7 := bU (hSw.row K7.out FG.out.2.2.2)
   clear hSw
   go_simp
   all_goals with_reducible rfl
  simp only [uA]
  refine tk 1 ?_ rfl (Or.inl ⟨by rfl, ?_⟩) ?_
  rotate_left
  ·intro w hSw
   have e10 := bU (hSw.row K10.out (fun e => GK.out.2.2.2.1 e.symm))
   have e7 := bU (hSw.row K7.out FG.out.2.2.2)
   clear hSw
   go_simp
   all_goals with_reducible rfl
  simp only [uA]
  refine tq 2 ?_
  simp only [uA]
  refine tq 3 ?_
  simp only [uA]
  refine tq 4 ?_
  simp only [uA]
  refine tk 5 undef rfl (Or.inr ⟨by rfl, rfl⟩) ?_
  simp only [uA]
  refine tk 6 undef rfl (Or.inr ⟨by rfl, rfl⟩) ?_
  simp only [uA]
  refine tk 7 undef rfl (Or.inr ⟨by rfl, rfl⟩) ?_
  simp only [uA]
  refine tk 8 undef rfl (Or.inr ⟨by rfl, rfl⟩) ?_
  simp only [uA]
  refine tk 9 undef rfl (Or.inr ⟨by rfl, rfl⟩) ?_
  simp only [uA]
  refine tk 10 undef rfl (Or.inr ⟨by rfl, rfl⟩) ?_
  simp only [uA]
  refine tk 11 undef rfl (Or.inr ⟨by rfl, rfl⟩) ?_
  simp only [uA]
  refine tk 12 undef rfl (Or.inr ⟨by rfl, rfl⟩) ?_
  simp only [uA]
  refine tk 13 undef rfl (Or.inr ⟨by rfl, rfl⟩) ?_
  simp only [uA]
  refine tk 14 undef rfl (Or.inr ⟨by rfl, rfl⟩) ?_
  simp only [uA]
  refine tk 15 undef rfl (Or.inr ⟨by rfl, rfl⟩) ?_
  simp only [uA]
  refine tk 16 undef rfl (Or.inr ⟨by rfl, rfl⟩) ?_
  simp only [uA]
  refine tk 17 undef rfl (Or.inr ⟨by rfl, rfl⟩) ?_
  simp only [uA]
  refine tk 18 undef rfl (Or.inr ⟨by rfl, rfl⟩) ?_
  simp only [uA]
  refine tq 19 ?_
  simp only [uA]
  refine rdy [20] ?_
  refine fe (o := ⟨_, _, _, _, _, _⟩) rfl rfl 4 (.tmp 8) (.tmp 116) rfl _ (store4 G3.out true) AllReadyH.nil ⟨hHeld.setCell f3 0 _ (fun _ => rfl), fun ll => ?_⟩
  simp only [Act.put]
  refine wpAnyH_done (by kernel_rfl) ?_ _
  refine NoPanic.normal ?_
  have ND : D ≠ f3 := fun e => by have h1 := KZ.out; rw [e, G3.out] at h1; cases h1
  have r3 : (Z0.setCell ⟨f3, 0, none⟩ (.bool true)).heap[f3]? = some (.cells #[.bool true] 4 (0, 0)) := one_setCell G3.out
  have rD : (Z0.setCell ⟨f3, 0, none⟩ (.bool true)).heap[D]? = some (.deferred (some [])) := (heap_setCell_other _ _ _ _ ND).trans KZ.out
  have bZ : Below w.heap.size w (Z0.setCell ⟨f3, 0, none⟩ (.bool true)) := BY.out.trans (ll.below w.heap.size BY.out.size (fun k hk e => by have := FG.out.1; omega))
  generalize Z0.setCell ⟨f3, 0, none⟩ (.bool true) = Z1 at r3 rD bZ ⊢
  have R3 := hide r3
  have RD := hide rD
  have BZ := hide bZ
  clear r3 rD bZ hHeld ll G3 KZ
  go_wp2_with fail
  refine ⟨by simp, .inl ⟨_, _, rfl, run_takeDeferred RD.out, ?_⟩⟩
  exact ⟨.bool true, qM Tryz.results22 _ _ f3 _ rfl (load4 (gL R3.out RD.out rfl)), rfl, kF BZ.out HD.out⟩
 case stop =>
  rintro D c pre W _ _ h _
  exact h.elim
end Go.Proofs.YteealihknndclaaGreatDoor
