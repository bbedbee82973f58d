/- Keep: a list of bytes is kept in a book, with a copy; older ones may be let go; nothing beside the book changes. -/
import Derived.Test.YteealihknndclaaGreatDoorEi
import Derived.Deep.DeepCutAuto
namespace Go.Proofs.YteealihknndclaaGreatDoor
open Go.RowKit
def Aw (w : World) (gB : Nat) (vl vw v1 : Value) (es : List Entry) (ao : Option Addr) (cap : Nat) (bs : List UInt8) (W : World) : Prop :=
 ∃ u v2, W.heap[gB]? = some (.cells #[v1, v2, .int .i64 (hw es), .bool false] 55 (0, 0)) /\ Fr gB vl vw w W /\ Lists W v1 (es.map Entry.val ++ [.slice ao bs.length cap]) /\ Lists W v2 (es.map Entry.u ++ [u]) /\ bu W u bs /\
  (∀ k, u.ownBlock = some k -> w.heap.size <= k /\ v1.ownBlock ≠ some k /\ v2.ownBlock ≠ some k) /\ (∀ k, v2.ownBlock = some k -> vw.ownBlock = some k \/ w.heap.size <= k) /\ (∀ k, v2.ownBlock = some k -> v1.ownBlock ≠ some k)
theorem vK {w X : World} {gB base top cap : Nat} {ao : Option Addr} {vl vw v1 v2 u : Value} {es : List Entry} {bs : List UInt8} (hbk : Hid (aO w gB base top vl vw es)) (hv1 : Hid (∀ k, v1.ownBlock = some k -> vl.ownBlock = some k \/ w.heap.size <= k))
  (R : Hid (X.heap[gB]? = some (.cells #[v1, vw, .int .i64 (hw es), .bool false] 55 (0, 0)))) (F : Hid (Fr gB vl vw w X)) (L : Hid (Lists X v1 (es.map Entry.val ++ [.slice ao bs.length cap]))) (V : Hid (Lists X v2 (es.map Entry.u ++ [u])))
  (U : Hid (bu X u bs)) (UB : Hid (∀ k, u.ownBlock = some k -> w.heap.size <= k /\ v1.ownBlock ≠ some k /\ vw.ownBlock ≠ some k)) (HV2 : Hid (∀ k, v2.ownBlock = some k -> vw.ownBlock = some k \/ (w.heap.size <= k /\ v1.ownBlock ≠ some k /\ u.ownBlock ≠ some k))) :
  Aw w gB vl vw v1 es ao cap bs (X.setCell ⟨gB, 1, none⟩ v2) := by
 have hb1 : ∀ k, v1.ownBlock = some k -> k ≠ gB := fun k hk => by
  rcases hv1.out k hk with h' | h'
  ·exact (hbk.out.vlSep k h').2.2
  ·have := hbk.out.hi; have := hbk.out.top_le; omega
 have hb2 : ∀ k, v2.ownBlock = some k -> k ≠ gB := fun k hk => by
  rcases HV2.out k hk with h' | h'
  ·exact (hbk.out.vwSep k h').2.2.1
  ·have := hbk.out.hi; have := hbk.out.top_le; omega
 have hb3 : ∀ k, u.ownBlock = some k -> k ≠ gB := fun k hk => by have := (UB.out k hk).1; have := hbk.out.hi; have := hbk.out.top_le; omega
 refine ⟨u, v2, by rw [heap_setCell_same _ _ _ _ _ _ R.out]; rfl, F.out.setCell 1 v2, L.out.kept (fun k hk => heap_setCell_other _ _ _ _ (hb1 k hk)), V.out.kept (fun k hk => heap_setCell_other _ _ _ _ (hb2 k hk)), U.out.kept (fun k hk => heap_setCell_other _ _ _ _ (hb3 k hk)), fun k hk => ⟨(UB.out k hk).1, (UB.out k hk).2.1, fun e => ?_⟩, fun k hk => ?_, fun k hk e => ?_⟩
 ·rcases HV2.out k e with h' | h'
  ·exact (UB.out k hk).2.2 h'
  ·exact h'.2.2 hk
 ·rcases HV2.out k hk with h' | h'
  ·exact Or.inl h'
  ·exact Or.inr h'.1
 ·rcases HV2.out k hk with h' | h'
  ·rcases hv1.out k e with h2 | h2
   ·exact (hbk.out.vwSep k h').2.2.2 h2
   ·exact absurd (hbk.out.was.lt h') (by omega)
  ·exact h'.2.1 e
structure jf (H : Nat -> Prop) (vl vw : Value) (es : List Entry) : Prop where
 vl : ∀ k, vl.ownBlock = some k -> ¬ H k
 vw : ∀ k, vw.ownBlock = some k -> ¬ H k
 ents : ∀ e ∈ es, (∀ b, e.g = some b -> ¬ H b) /\ ∀ k, e.u.ownBlock = some k -> ¬ H k
def ym (base top : Nat) (w W : World) : Prop := Below base w W /\ ∀ k, top <= k -> k < w.heap.size -> W.heap[k]? = w.heap[k]?
structure lL (gB : Nat) (vl vw : Value) (w : World) (vl' vw' : Value) (W : World) : Prop where
 fr : Fr gB vl vw w W
 ol : ∀ k, vl'.ownBlock = some k -> vl.ownBlock = some k \/ w.heap.size <= k
 ow : ∀ k, vw'.ownBlock = some k -> vw.ownBlock = some k \/ w.heap.size <= k
set_option maxHeartbeats 4000000 in
set_option maxRecDepth 100000 in
theorem xD (H : Nat -> Prop) (gB base top cap : Nat) (g : Option Nat) (ao : Option Addr) (vl vw : Value) (bs : List UInt8) (es : List Entry) (w : World) (hbk : aO w gB base top vl vw es) (hr : Ed w g cap bs) (hao : ao = yg g) (hno : ∀ b, g = some b -> b ≠ gB /\ vl.ownBlock ≠ some b /\ vw.ownBlock ≠ some b /\ ∀ e ∈ es, e.g ≠ some b) (hbase : ∀ b, g = some b -> base <= b) (hcap : cap <= 9223372036854775807) (hbl0 : bs.length <= 140737488355328) (vN : es.length < 100) (hH : jf H vl vw es) (hHn : ∀ k, w.heap.size <= k -> ¬ H k) (hHg : ∀ b, g = some b -> ¬ H b) :
  Calls Tryz.prog 24 #[.pointer (some ⟨gB, 0, none⟩), .slice ao bs.length cap] w fun e w' => e = .returned (.tuple #[]) /\ (∃ vl' vw' es', aO w' gB base w'.heap.size vl' vw' es' /\ es'.length <= es.length + 1 /\ jf H vl' vw' es' /\ lL gB vl vw w vl' vw' w') := by
 have HH := hide hH
 have HHN := hide hHn
 have HHG := hide hHg
 clear hH hHn hHg
 have HBK := hide hbk
 have HR := hide hr
 have HAO := hide hao
 clear hao
 have HB : Hid (bs.length <= 140737488355328) := hbl0
 have HN : Hid ((es.map Entry.u).length <= 1000000) := by show (es.map Entry.u).length <= 1000000; rw [List.length_map]; omega
 have HM : Hid ((es.map Entry.val).length <= 1000000) := by show (es.map Entry.val).length <= 1000000; rw [List.length_map]; omega
 have c0 := (az hbk.row).1
 have hsz := hbk.hi
 have htl := hbk.top_le
 clear hbk hr
 go_enter Tryz.func24, Tryz.ntmps24
 go_wp2_with (at_builtin; (refine av rfl (.tmp 8) (.tmp 10) 53 53 rfl _ _ rfl rfl (eO _ vl _ w.heap.size (es.map Entry.val) 53 (HBK.out.lists.kept (fun k hk => heap_alloc_old _ _ (HBK.out.lists.lt hk))) (heap_alloc_new _ _) rfl HM.out) ?_; rintro v0 w1 ⟨hL1, hg1, ho1⟩; obtain ⟨ao1, cc1, hv1⟩ := hL1.shape; subst hv1; have hr1 : w1.heap[gB]? = some (.cells #[vl, vw, .int .i64 (hw es), .bool false] 55 (0, 0)) := (hg1.block gB (by simp; omega) (fun e => (HBK.out.vlSep gB e.symm).2.2 rfl)).trans ((heap_alloc_old _ _ (by omega)).trans HBK.out.row); have c0' := (az hr1).1; have f0' := frozen_of_row _ _ 0 _ _ hr1))
 simp only [List.length_append, List.length_map, List.length_singleton] at hL1 ho1
 try simp only [List.length_append, List.length_map, List.length_singleton]
 generalize hv1 : Value.slice ao1 (es.length + 1) cc1 = v1 at *
 generalize hW1 : World.setCell w1 ⟨gB, 0, none⟩ v1 = W1
 have HV1 : Hid (∀ k, v1.ownBlock = some k -> vl.ownBlock = some k \/ w.heap.size <= k) := fun k hk => by
  rcases ho1 with h' | h'
  ·exact Or.inl (h' ▸ hk)
  ·rw [hk] at h'
   have := Option.some.inj h'
   right
   rw [this]
   simp
 have hv1B : ∀ k, v1.ownBlock = some k -> k ≠ gB := fun k hk => by
  rcases HV1.out k hk with h' | h'
  ·exact (HBK.out.vlSep k h').2.2
  ·omega
 have hfr : Fr gB vl vw w w1 := ((Fr.refl gB vl vw w).alloc _).grown hg1 (fun k _ h => Or.inl h)
 have R : Hid (W1.heap[gB]? = some (.cells #[v1, vw, .int .i64 (hw es), .bool false] 55 (0, 0))) := by
  show W1.heap[gB]? = some (.cells #[v1, vw, .int .i64 (hw es), .bool false] 55 (0, 0))
  rw [<- hW1, heap_setCell_same _ _ _ _ _ _ hr1]
  rfl
 have F : Hid (Fr gB vl vw w W1) := by rw [<- hW1]; exact hfr.setCell 0 v1
 have L : Hid (Lists W1 v1 (es.map Entry.val ++ [.slice ao bs.length cap])) := by
  rw [<- hW1]
  exact hL1.kept (fun k hk => heap_setCell_other _ _ _ _ (hv1B k hk))
 have V : Hid (Lists W1 vw (es.map Entry.u)) := by
  rw [<- hW1]
  exact HBK.out.was.kept (fun k hk => (heap_setCell_other _ _ _ _ (HBK.out.vwSep k hk).2.2.1).trans ((hg1.block k (by have := HBK.out.was.lt hk; simp; omega) (fun e => (HBK.out.vwSep k hk).2.2.2 e.symm)).trans (heap_alloc_old _ _ (HBK.out.was.lt hk))))
 have RL : Hid (Ed W1 g cap bs) := HR.out.same fun b e => F.out.block b (by obtain ⟨cur, q1, _⟩ := HR.out.1 b e; exact aa q1) (hno b e).1 (hno b e).2.1 (hno b e).2.2.1
 clear hv1 hW1 hr1 hL1 hg1 ho1 hfr hv1B c0 c0' f0'
 go_cut [] from 14 (fun wc => Aw w gB vl vw v1 es ao cap bs wc)
 case first =>
  refine wp_region_noPanic ?_
  refine wp_region_held_drew (S := (fun _ => True)) follows trivial (fun hHeld => ?_)
  have R0 : Hid (W1.drew.heap[gB]? = some (.cells #[v1, vw, .int .i64 (hw es), .bool false] 55 (0, 0))) := R
  have F0 : Hid (Fr gB vl vw w W1.drew) := F.out.drew
  have L0 : Hid (Lists W1.drew v1 (es.map Entry.val ++ [.slice ao bs.length cap])) := L
  have V0 : Hid (Lists W1.drew vw (es.map Entry.u)) := V
  have RL0 : Hid (Ed W1.drew g cap bs) := ⟨RL.out.1, RL.out.2⟩
  clear R F L V RL
  have R := R0
  have F := F0
  have L := L0
  have V := V0
  have RL := RL0
  clear R0 F0 L0 V0 RL0
  generalize W1.drew = W2 at *
  refine tq 0 ?_
  simp only [uA]
  refine tq 1 ?_
  simp only [uA]
  refine tq 2 ?_
  simp only [uA]
  refine tq 3 ?_
  simp only [uA]
  refine tq 5 ?_
  simp only [uA]
  refine rdy [4, 6] ?_
  refine AllReadyH.cons (o := ⟨_, _, _, _, _, _⟩) rfl (fun K hK => ?_) ?_
  ·skip
   have c1 := (az R.out).2.1
   go_simp
   refine hK.out _ _ trivial (fun hHeld => ?_)
   clear hK K c1
   try simp only [uA]
   refine rdy [6] ?_
   refine aS (o := ⟨_, _, _, _, _, _⟩) rfl rfl _ _ 32 32 rfl _ _ rfl rfl (run_copy_nil _ _ bs 32 (RL.out.sliceAt HAO.out HB.out) HB.out) AllReadyH.nil ?_
   rintro u0 X2 ⟨hu, hg, hub⟩
   obtain ⟨aou, cu, rfl⟩ := hu.shape
   refine ⟨trivial, fun hHeld => ?_⟩
   try simp only [uA]
   have R2 := hide ((hg.block gB (aa R.out) (by simp)).trans R.out)
   have F2 := hide (F.out.grown hg (fun k _ h => by simp at h))
   have L2 := hide (L.out.kept (fun k hk => hg.block k (L.out.lt hk) (by simp)))
   have V2 := hide (V.out.kept (fun k hk => hg.block k (V.out.lt hk) (by simp)))
   have RL2 := hide (RL.out.kept fun k hk => hg.block k hk (by simp))
   have U := hide hu
   have UB : Hid (∀ k, (Value.slice aou bs.length cu).ownBlock = some k -> w.heap.size <= k /\ v1.ownBlock ≠ some k /\ vw.ownBlock ≠ some k) := fun k hk => ⟨ltr F.out.size (hub k hk), fun e => absurd (L.out.lt e) (by have := hub k hk; omega), fun e => absurd (V.out.lt e) (by have := hub k hk; omega)⟩
   clear R F L V RL hu hg hub
   have R := R2
   have F := F2
   have L := L2
   have V := V2
   have RL := RL2
   clear R2 F2 L2 V2 RL2
   refine r1 7 fun K hK => ?_
   go_simp
   refine hK.out _ _ trivial (fun hHeld => ?_)
   clear hK K
   try simp only [uA]
   generalize hW : World.alloc X2 _ = X3 at *
   have R2 : Hid (X3.heap[gB]? = some (.cells #[v1, vw, .int .i64 (hw es), .bool false] 55 (0, 0))) := by rw [<- hW]; exact (heap_alloc_old _ _ (aa R.out)).trans R.out
   have F2 : Hid (Fr gB vl vw w X3) := by rw [<- hW]; exact F.out.alloc _
   have L2 : Hid (Lists X3 v1 (es.map Entry.val ++ [.slice ao bs.length cap])) := by rw [<- hW]; exact L.out.kept (fun k hk => heap_alloc_old _ _ (L.out.lt hk))
   have V2 : Hid (Lists X3 vw (es.map Entry.u)) := by rw [<- hW]; exact V.out.kept (fun k hk => heap_alloc_old _ _ (V.out.lt hk))
   have U2 : Hid (bu X3 (Value.slice aou bs.length cu) bs) := by rw [<- hW]; exact U.out.kept (fun k hk => heap_alloc_old _ _ (U.out.lt hk))
   have N : Hid (X3.heap[X2.heap.size]? = some (.cells #[(Value.slice aou bs.length cu)] 32 (0, 0))) := by rw [<- hW]; exact heap_alloc_new _ _
   have UL : Hid (∀ k, (Value.slice aou bs.length cu).ownBlock = some k -> k < X3.heap.size) := fun k hk => U2.out.lt hk
   clear hW R F L V U RL
   have R := R2
   have F := F2
   have L := L2
   have V := V2
   have U := U2
   clear R2 F2 L2 V2 U2
   generalize X2.heap.size = gx at *
   refine rdy [8] ?_
   refine aS (o := ⟨_, _, _, _, _, _⟩) rfl rfl _ _ 53 53 rfl _ _ rfl rfl (eO _ vw (Value.slice aou bs.length cu) gx (es.map Entry.u) 53 V.out N.out U.out.one HN.out) AllReadyH.nil ?_
   rintro v2 X4 ⟨hV, hg, ho⟩
   obtain ⟨ao2, cc2, rfl⟩ := hV.shape
   obtain ⟨v2, hv2⟩ : ∃ v2, v2 = Value.slice ao2 (es.map Entry.u ++ [(Value.slice aou bs.length cu)]).length cc2 := ⟨_, rfl⟩
   rw [<- hv2] at hV ho
   refine ⟨trivial, fun hHeld => ?_⟩
   try simp only [uA]
   have hne : vw.ownBlock ≠ some gB := fun e => (HBK.out.vwSep gB e).2.2.1 rfl
   have pU : ∀ k, v1.ownBlock = some k -> vw.ownBlock ≠ some k := fun k hk e => by rcases HV1.out k hk with h' | h'; exact (HBK.out.vwSep k e).2.2.2 h'; exact absurd (HBK.out.was.lt e) (by omega)
   have R2 := hide ((hg.block gB (aa R.out) (fun e => hne e.symm)).trans R.out)
   have F2 := hide (F.out.grown hg (fun k _ h => Or.inr h))
   have L2 := hide (L.out.kept (fun k hk => hg.block k (L.out.lt hk) (fun e => pU k hk e.symm)))
   have U2 := hide (U.out.kept (fun k hk => hg.block k (U.out.lt hk) (fun e => (UB.out k hk).2.2 e.symm)))
   have V2 := hide hV
   have HV2 : Hid (∀ k, v2.ownBlock = some k -> vw.ownBlock = some k \/ (w.heap.size <= k /\ v1.ownBlock ≠ some k /\ (Value.slice aou bs.length cu).ownBlock ≠ some k)) := fun k hk => by
    rcases ho with h' | h'
    ·exact Or.inl (h' ▸ hk)
    ·rw [hk] at h'
     have hk2 := Option.some.inj h'
     exact Or.inr ⟨by rw [hk2]; exact F.out.size, fun e => absurd (L.out.lt e) (by omega), fun e => absurd (U.out.lt e) (by omega)⟩
   clear R F L V U hV hg ho N UL
   have R := R2
   have F := F2
   have L := L2
   have V := V2
   have U := U2
   clear R2 F2 L2 V2 U2 pU
   refine tq 9 ?_
   simp only [uA]
   refine tq 10 ?_
   simp only [uA]
   refine r1 11 fun K hK => ?_
   have c1 := (az R.out).2.1
   have f1 := frozen_of_row _ _ 1 _ _ R.out
   go_simp
   refine hK.out _ _ trivial (fun hHeld => ?_)
   clear hK K c1 f1
   try simp only [uA]
   refine wpAnyH_done (by kernel_rfl) ?_ _
   refine NoPanic.normal ?_
   go_wp2_with fail
   go_meet
   simp only [List.length_append, List.length_map, List.length_singleton] at hv2
   try rw [<- hv2]
   exact vK HBK HV1 R F L V U UB HV2
  refine aS (o := ⟨_, _, _, _, _, _⟩) rfl rfl _ _ 32 32 rfl _ _ rfl rfl (run_copy_nil _ _ bs 32 (RL.out.sliceAt HAO.out HB.out) HB.out) AllReadyH.nil ?_
  rintro u0 X5 ⟨hu, hg, hub⟩
  obtain ⟨aou, cu, rfl⟩ := hu.shape
  refine ⟨trivial, fun hHeld => ?_⟩
  try simp only [uA]
  have R2 := hide ((hg.block gB (aa R.out) (by simp)).trans R.out)
  have F2 := hide (F.out.grown hg (fun k _ h => by simp at h))
  have L2 := hide (L.out.kept (fun k hk => hg.block k (L.out.lt hk) (by simp)))
  have V2 := hide (V.out.kept (fun k hk => hg.block k (V.out.lt hk) (by simp)))
  have RL2 := hide (RL.out.kept fun k hk => hg.block k hk (by simp))
  have U := hide hu
  have UB : Hid (∀ k, (Value.slice aou bs.length cu).ownBlock = some k -> w.heap.size <= k /\ v1.ownBlock ≠ some k /\ vw.ownBlock ≠ some k) := fun k hk => ⟨ltr F.out.size (hub k hk), fun e => absurd (L.out.lt e) (by have := hub k hk; omega), fun e => absurd (V.out.lt e) (by have := hub k hk; omega)⟩
  clear R F L V RL hu hg hub
  have R := R2
  have F := F2
  have L := L2
  have V := V2
  have RL := RL2
  clear R2 F2 L2 V2 RL2
  refine rdy [4, 7] ?_
  refine AllReadyH.cons (o := ⟨_, _, _, _, _, _⟩) rfl (fun K hK => ?_) ?_
  ·skip
   have c1 := (az R.out).2.1
   go_simp
   refine hK.out _ _ trivial (fun hHeld => ?_)
   clear hK K c1
   try simp only [uA]
   refine r1 7 fun K hK => ?_
   go_simp
   refine hK.out _ _ trivial (fun hHeld => ?_)
   clear hK K
   try simp only [uA]
   generalize hW : World.alloc X5 _ = X7 at *
   have R2 : Hid (X7.heap[gB]? = some (.cells #[v1, vw, .int .i64 (hw es), .bool false] 55 (0, 0))) := by rw [<- hW]; exact (heap_alloc_old _ _ (aa R.out)).trans R.out
   have F2 : Hid (Fr gB vl vw w X7) := by rw [<- hW]; exact F.out.alloc _
   have L2 : Hid (Lists X7 v1 (es.map Entry.val ++ [.slice ao bs.length cap])) := by rw [<- hW]; exact L.out.kept (fun k hk => heap_alloc_old _ _ (L.out.lt hk))
   have V2 : Hid (Lists X7 vw (es.map Entry.u)) := by rw [<- hW]; exact V.out.kept (fun k hk => heap_alloc_old _ _ (V.out.lt hk))
   have U2 : Hid (bu X7 (Value.slice aou bs.length cu) bs) := by rw [<- hW]; exact U.out.kept (fun k hk => heap_alloc_old _ _ (U.out.lt hk))
   have N : Hid (X7.heap[X5.heap.size]? = some (.cells #[(Value.slice aou bs.length cu)] 32 (0, 0))) := by rw [<- hW]; exact heap_alloc_new _ _
   have UL : Hid (∀ k, (Value.slice aou bs.length cu).ownBlock = some k -> k < X7.heap.size) := fun k hk => U2.out.lt hk
   clear hW R F L V U RL
   have R := R2
   have F := F2
   have L := L2
   have V := V2
   have U := U2
   clear R2 F2 L2 V2 U2
   generalize X5.heap.size = gx at *
   refine rdy [8] ?_
   refine aS (o := ⟨_, _, _, _, _, _⟩) rfl rfl _ _ 53 53 rfl _ _ rfl rfl (eO _ vw (Value.slice aou bs.length cu) gx (es.map Entry.u) 53 V.out N.out U.out.one HN.out) AllReadyH.nil ?_
   rintro v2 X8 ⟨hV, hg, ho⟩
   obtain ⟨ao2, cc2, rfl⟩ := hV.shape
   obtain ⟨v2, hv2⟩ : ∃ v2, v2 = Value.slice ao2 (es.map Entry.u ++ [(Value.slice aou bs.length cu)]).length cc2 := ⟨_, rfl⟩
   rw [<- hv2] at hV ho
   refine ⟨trivial, fun hHeld => ?_⟩
   try simp only [uA]
   have hne : vw.ownBlock ≠ some gB := fun e => (HBK.out.vwSep gB e).2.2.1 rfl
   have pU : ∀ k, v1.ownBlock = some k -> vw.ownBlock ≠ some k := fun k hk e => by rcases HV1.out k hk with h' | h'; exact (HBK.out.vwSep k e).2.2.2 h'; exact absurd (HBK.out.was.lt e) (by omega)
   have R2 := hide ((hg.block gB (aa R.out) (fun e => hne e.symm)).trans R.out)
   have F2 := hide (F.out.grown hg (fun k _ h => Or.inr h))
   have L2 := hide (L.out.kept (fun k hk => hg.block k (L.out.lt hk) (fun e => pU k hk e.symm)))
   have U2 := hide (U.out.kept (fun k hk => hg.block k (U.out.lt hk) (fun e => (UB.out k hk).2.2 e.symm)))
   have V2 := hide hV
   have HV2 : Hid (∀ k, v2.ownBlock = some k -> vw.ownBlock = some k \/ (w.heap.size <= k /\ v1.ownBlock ≠ some k /\ (Value.slice aou bs.length cu).ownBlock ≠ some k)) := fun k hk => by
    rcases ho with h' | h'
    ·exact Or.inl (h' ▸ hk)
    ·rw [hk] at h'
     have hk2 := Option.some.inj h'
     exact Or.inr ⟨by rw [hk2]; exact F.out.size, fun e => absurd (L.out.lt e) (by omega), fun e => absurd (U.out.lt e) (by omega)⟩
   clear R F L V U hV hg ho N UL
   have R := R2
   have F := F2
   have L := L2
   have V := V2
   have U := U2
   clear R2 F2 L2 V2 U2 pU
   refine tq 9 ?_
   simp only [uA]
   refine tq 10 ?_
   simp only [uA]
   refine r1 11 fun K hK => ?_
   have c1 := (az R.out).2.1
   have f1 := frozen_of_row _ _ 1 _ _ R.out
   go_simp
   refine hK.out _ _ trivial (fun hHeld => ?_)
   clear hK K c1 f1
   try simp only [uA]
   refine wpAnyH_done (by kernel_rfl) ?_ _
   refine NoPanic.normal ?_
   go_wp2_with fail
   go_meet
   simp only [List.length_append, List.length_map, List.length_singleton] at hv2
   try rw [<- hv2]
   exact vK HBK HV1 R F L V U UB HV2
  refine c1 fun K hK => ?_
  go_simp
  refine hK.out _ _ trivial (fun hHeld => ?_)
  clear hK K
  try simp only [uA]
  generalize hW : World.alloc X5 _ = X9 at *
  have R2 : Hid (X9.heap[gB]? = some (.cells #[v1, vw, .int .i64 (hw es), .bool false] 55 (0, 0))) := by rw [<- hW]; exact (heap_alloc_old _ _ (aa R.out)).trans R.out
  have F2 : Hid (Fr gB vl vw w X9) := by rw [<- hW]; exact F.out.alloc _
  have L2 : Hid (Lists X9 v1 (es.map Entry.val ++ [.slice ao bs.length cap])) := by rw [<- hW]; exact L.out.kept (fun k hk => heap_alloc_old _ _ (L.out.lt hk))
  have V2 : Hid (Lists X9 vw (es.map Entry.u)) := by rw [<- hW]; exact V.out.kept (fun k hk => heap_alloc_old _ _ (V.out.lt hk))
  have U2 : Hid (bu X9 (Value.slice aou bs.length cu) bs) := by rw [<- hW]; exact U.out.kept (fun k hk => heap_alloc_old _ _ (U.out.lt hk))
  have N : Hid (X9.heap[X5.heap.size]? = some (.cells #[(Value.slice aou bs.length cu)] 32 (0, 0))) := by rw [<- hW]; exact heap_alloc_new _ _
  have UL : Hid (∀ k, (Value.slice aou bs.length cu).ownBlock = some k -> k < X9.heap.size) := fun k hk => U2.out.lt hk
  clear hW R F L V U RL
  have R := R2
  have F := F2
  have L := L2
  have V := V2
  have U := U2
  clear R2 F2 L2 V2 U2
  generalize X5.heap.size = gx at *
  refine r1 4 fun K hK => ?_
  have c1 := (az R.out).2.1
  go_simp
  refine hK.out _ _ trivial (fun hHeld => ?_)
  clear hK K c1
  try simp only [uA]
  refine rdy [8] ?_
  refine aS (o := ⟨_, _, _, _, _, _⟩) rfl rfl _ _ 53 53 rfl _ _ rfl rfl (eO _ vw (Value.slice aou bs.length cu) gx (es.map Entry.u) 53 V.out N.out U.out.one HN.out) AllReadyH.nil ?_
  rintro v2 X11 ⟨hV, hg, ho⟩
  obtain ⟨ao2, cc2, rfl⟩ := hV.shape
  obtain ⟨v2, hv2⟩ : ∃ v2, v2 = Value.slice ao2 (es.map Entry.u ++ [(Value.slice aou bs.length cu)]).length cc2 := ⟨_, rfl⟩
  rw [<- hv2] at hV ho
  refine ⟨trivial, fun hHeld => ?_⟩
  try simp only [uA]
  have hne : vw.ownBlock ≠ some gB := fun e => (HBK.out.vwSep gB e).2.2.1 rfl
  have pU : ∀ k, v1.ownBlock = some k -> vw.ownBlock ≠ some k := fun k hk e => by rcases HV1.out k hk with h' | h'; exact (HBK.out.vwSep k e).2.2.2 h'; exact absurd (HBK.out.was.lt e) (by omega)
  have R2 := hide ((hg.block gB (aa R.out) (fun e => hne e.symm)).trans R.out)
  have F2 := hide (F.out.grown hg (fun k _ h => Or.inr h))
  have L2 := hide (L.out.kept (fun k hk => hg.block k (L.out.lt hk) (fun e => pU k hk e.symm)))
  have U2 := hide (U.out.kept (fun k hk => hg.block k (U.out.lt hk) (fun e => (UB.out k hk).2.2 e.symm)))
  have V2 := hide hV
  have HV2 : Hid (∀ k, v2.ownBlock = some k -> vw.ownBlock = some k \/ (w.heap.size <= k /\ v1.ownBlock ≠ some k /\ (Value.slice aou bs.length cu).ownBlock ≠ some k)) := fun k hk => by
   rcases ho with h' | h'
   ·exact Or.inl (h' ▸ hk)
   ·rw [hk] at h'
    have hk2 := Option.some.inj h'
    exact Or.inr ⟨by rw [hk2]; exact F.out.size, fun e => absurd (L.out.lt e) (by omega), fun e => absurd (U.out.lt e) (by omega)⟩
  clear R F L V U hV hg ho N UL
  have R := R2
  have F := F2
  have L := L2
  have V := V2
  have U := U2
  clear R2 F2 L2 V2 U2 pU
  refine tq 9 ?_
  simp only [uA]
  refine tq 10 ?_
  simp only [uA]
  refine r1 11 fun K hK => ?_
  have c1 := (az R.out).2.1
  have f1 := frozen_of_row _ _ 1 _ _ R.out
  go_simp
  refine hK.out _ _ trivial (fun hHeld => ?_)
  clear hK K c1 f1
  try simp only [uA]
  refine wpAnyH_done (by kernel_rfl) ?_ _
  refine NoPanic.normal ?_
  go_wp2_with fail
  go_meet
  simp only [List.length_append, List.length_map, List.length_singleton] at hv2
  try rw [<- hv2]
  exact vK HBK HV1 R F L V U UB HV2

 case rest =>
  obtain ⟨u, v2, r, f, l, v, uu, ub, hv2, hs⟩ := hcut
  have c2 := (az r).2.2.1
  have f2 := frozen_of_row _ _ 2 _ _ r
  obtain ⟨hd, hhd⟩ : ∃ hd, hd = hw es := ⟨_, rfl⟩
  rw [<- hhd] at c2 r
  obtain ⟨H1, q1⟩ : ∃ H1, IntKind.i64.wrap ((hd : Int) + (cap : Int)) = H1 := ⟨_, rfl⟩
  obtain ⟨H2, q2⟩ : ∃ H2, IntKind.i64.wrap (H1 + 1) = H2 := ⟨_, rfl⟩
  have HQ : Hid (hw (es ++ [⟨g, cap, bs, u⟩]) = H2) := by
   show hw (es ++ [⟨g, cap, bs, u⟩]) = H2
   rw [<- q2, <- q1, hhd]
   exact hw_more es ⟨g, cap, bs, u⟩
  have A := hide r
  have B := hide f
  have C := hide l
  have D := hide v
  have E1 := hide uu
  have E2 := hide ub
  have E3 := hide hv2
  have E4 := hide hs
  have HD := hide hhd
  clear r f l v uu ub hv2 hs hhd
  go_wp2
  generalize hW3 : World.setCell wc ⟨gB, 2, none⟩ _ = W3
  have BK : Hid (aO W3 gB base W3.heap.size v1 v2 (es ++ [⟨g, cap, bs, u⟩])) := by
   have hb1 : ∀ k, v1.ownBlock = some k -> k ≠ gB := fun k hk => by
    rcases HV1.out k hk with h' | h'
    ·exact (HBK.out.vlSep k h').2.2
    ·omega
   have hb2 : ∀ k, v2.ownBlock = some k -> k ≠ gB := fun k hk => by
    rcases E3.out k hk with h' | h'
    ·exact (HBK.out.vwSep k h').2.2.1
    ·omega
   refine HBK.out.more HR.out HAO.out hno hbase hcap hbl0 ?_ ?_ ?_ ?_ HV1.out E3.out E4.out ?_ E2.out vN
   ·rw [<- hW3, heap_setCell_same _ _ _ _ _ _ A.out, HQ.out]
    rfl
   ·rw [<- hW3]; exact B.out.setCell 2 _
   ·rw [<- hW3]; exact C.out.kept fun k hk => heap_setCell_other _ _ _ _ (hb1 k hk)
   ·rw [<- hW3]; exact D.out.kept fun k hk => heap_setCell_other _ _ _ _ (hb2 k hk)
   ·rw [<- hW3]; exact E1.out.kept fun k hk => heap_setCell_other _ _ _ _ (by have := (E2.out k hk).1; show k ≠ gB; omega)
  have BL : Hid (lL gB vl vw w v1 v2 W3) := ⟨by rw [<- hW3]; exact B.out.setCell 2 _, HV1.out, E3.out⟩
  have HTG : Hid (gB < top) := HBK.out.hi
  have BN : Hid (jf H v1 v2 (es ++ [⟨g, cap, bs, u⟩])) := ⟨fun k hk => by rcases HV1.out k hk with h' | h'; exact HH.out.vl k h'; exact HHN.out k h', fun k hk => by rcases E3.out k hk with h' | h'; exact HH.out.vw k h'; exact HHN.out k h', fun e he => by
   rcases List.mem_append.1 he with h' | h'
   ·exact HH.out.ents e h'
   ·rw [List.mem_singleton.1 h']; exact ⟨HHG.out, fun k hk => HHN.out k (E2.out k hk).1⟩⟩
  have HLE : Hid ((es ++ [(⟨g, cap, bs, u⟩ : Entry)]).length <= es.length + 1) := by show (es ++ [(⟨g, cap, bs, u⟩ : Entry)]).length <= es.length + 1; simp
  generalize es ++ [(⟨g, cap, bs, u⟩ : Entry)] = es1 at *
  clear hW3 A B C D E1 E2 E3 E4 HD c2 f2 q1 q2 HQ HR HB HN HM HV1 hno hbase
  go_loopw [36] (fun _ wr => ∃ vl' vw' es', aO wr gB base W3.heap.size vl' vw' es' /\ es'.length <= es.length + 1 /\ lL gB vl vw w vl' vw' wr /\ jf H vl' vw' es') (fun _ wr => Fp wr gB)
  case atStart => exact ⟨v1, v2, es1, BK.out, HLE.out, BL.out, BN.out⟩
  case round =>
   obtain ⟨vl', vw', es', hbk, hle, hbl⟩ := hrel
   clear BK BL HLE BN
   obtain ⟨aol, cl, hvl⟩ := hbk.lists.shape
   obtain ⟨aow, cw, hvw⟩ := hbk.was.shape
   rw [List.length_map] at hvl hvw
   subst hvl hvw
   obtain ⟨n, hn⟩ : ∃ n, n = es'.length := ⟨_, rfl⟩
   obtain ⟨hd, hhd⟩ : ∃ hd, hd = hw es' := ⟨_, rfl⟩
   have c4 := az hbk.row
   rw [<- hn, <- hhd] at c4
   obtain ⟨c0, c1, c2, c3⟩ := c4
   have hfw := hbk.few
   have hn4 : ¬ ((4000 : Int) < (n : Int)) := by omega
   by_cases h1 : 1 < n
   ·have p1 : (1 : Int) < (n : Int) := by omega
    by_cases h2 : (1000000 : Int) < (hd : Int)
    ·obtain ⟨e, es2, rfl⟩ : ∃ e es2, es' = e :: es2 := by
      cases es' with
      | nil => simp at hn; omega
      | cons e es2 => exact ⟨e, es2, rfl⟩
     rw [List.length_cons] at hn
     obtain ⟨gl, ol, cl', hx, hcl, hcell⟩ := hbk.lists.at 0 (by simp)
     obtain ⟨gw, ow, cw', hy, hcw, rE⟩ := hbk.was.at 0 (by simp)
     simp only [Value.slice.injEq, List.length_map, List.length_cons, true_and] at hx hy hcl hcw
     obtain ⟨rfl, rfl⟩ := hx
     obtain ⟨rfl, rfl⟩ := hy
     have hen := hbk.ents e (List.mem_cons_self)
     have hbs : e.bs.length <= 140737488355328 := hen.bsl
     obtain ⟨aou, cu, hus⟩ := hen.cp.shape
     have d1 : wr.cell? ⟨gl, ol, none⟩ = some (.slice (yg e.g) e.bs.length e.cap) := hcell
     have d2 : wr.cell? ⟨gw, ow, none⟩ = some (.slice aou e.bs.length cu) := by rw [<- hus]; exact rE
     have S1 := hide (hen.ed.sliceAt rfl hbs)
     have S2 : Hid (SliceAt wr (.slice aou e.bs.length cu) e.bs) := by rw [<- hus]; exact hen.cp.sliceAt hbs
     have hcape := hen.capl
     have hglB : gl ≠ gB := (hbk.vlSep gl rfl).2.2
     have BK := hide hbk
     have HLE := hide hle
     have HBL := hide hbl
     have HN2 := hide hn
     have HHD := hide hhd
     have e0 : (0 : Int) < (n : Int) := by omega
     have k1 : ¬ cl = 1 := by omega
     have k2 : ¬ cw = 1 := by omega
     clear hbk hle hbl hcell rE hen hus hhd
     have Eh : Hid (wr.heap[gB]? = some (.cells #[(.slice (some ⟨gl, ol, none⟩) n cl), (.slice (some ⟨gw, ow, none⟩) n cw), .int .i64 (hd : Int), .bool false] 55 (0, 0))) := by show wr.heap[gB]? = _; rw [HN2.out, HHD.out]; exact BK.out.row
     go_wp2
     refine wp_region_noPanic ?_
     refine wp_region_held_drew (S := (fun w' => Still wr w')) follows ((Still.refl _).drew) (fun hHeld => ?_)
     refine tq 0 ?_
     simp only [uA]
     refine tq 1 ?_
     simp only [uA]
     refine tq 2 ?_
     simp only [uA]
     refine tq 3 ?_
     simp only [uA]
     refine tk 4 ?_ rfl (Or.inl ⟨by rfl, ?_⟩) ?_
     rotate_left
     ·intro w hSw
      have h3 := Still.cell hSw c3
      clear hSw
      go_simp
      all_goals with_reducible rfl
     simp only [uA]
     refine tq 5 ?_
     simp only [uA]
     refine tq 6 ?_
     simp only [uA]
     refine tq 7 ?_
     simp only [uA]
     refine tq 8 ?_
     simp only [uA]
     refine tk 9 ?_ rfl (Or.inl ⟨by rfl, ?_⟩) ?_
     rotate_left
     ·intro w hSw
      have h3 := Still.cell hSw c0
      clear hSw
      go_simp
      all_goals with_reducible rfl
     simp only [uA]
     refine tq 10 ?_
     simp only [uA]
     refine tk 11 ?_ rfl (Or.inl ⟨by rfl, ?_⟩) ?_
     rotate_left
     ·intro w hSw
      have h3 := Still.cell hSw d1
      clear hSw
      go_simp
      all_goals with_reducible rfl
     simp only [uA]
     refine tq 12 ?_
     simp only [uA]
     refine tq 13 ?_
     simp only [uA]
     refine tq 14 ?_
     simp only [uA]
     refine tk 15 ?_ rfl (Or.inl ⟨by rfl, ?_⟩) ?_
     rotate_left
     ·intro w hSw
      have h3 := Still.cell hSw c1
      clear hSw
      go_simp
      all_goals with_reducible rfl
     simp only [uA]
     refine tq 16 ?_
     simp only [uA]
     refine tk 17 ?_ rfl (Or.inl ⟨by rfl, ?_⟩) ?_
     rotate_left
     ·intro w hSw
      have h3 := Still.cell hSw d2
      clear hSw
      go_simp
      all_goals with_reducible rfl
     simp only [uA]
     refine r1 18 fun K hK => ?_
     go_simp
     refine (wI _ _ e.bs _ (S1.out.of_heap hHeld.1) (S2.out.of_heap hHeld.1)).mono ?_
     rintro e' w5 ⟨rfl, hst⟩
     have hk := Still.trans hHeld hst
     clear hst hHeld
     go_wp2_with fail
     refine hK.out _ _ ?_ (fun hHeld => ?_)
     ·exact hk
     clear hK K hk
     try simp only [uA]
     refine tq 19 ?_
     simp only [uA]
     refine tq 20 ?_
     simp only [uA]
     refine tq 21 ?_
     simp only [uA]
     refine tq 22 ?_
     simp only [uA]
     refine r1 23 fun K hK => ?_
     have rw5 : w5.heap[gB]? = some (.cells #[(.slice (some ⟨gl, ol, none⟩) n cl), (.slice (some ⟨gw, ow, none⟩) n cw), .int .i64 (hd : Int), .bool false] 55 (0, 0)) := by rw [hHeld.1]; exact Eh.out
     have h3 := (az rw5).2.2.2
     have f3 := frozen_of_row _ _ 3 _ _ rw5
     go_simp
     refine hK.out _ _ (Still.trans hHeld (ma rw5 rfl)) (fun lh => ?_)
     clear hK K h3 f3
     try simp only [uA]
     refine wpAnyH_done (by kernel_rfl) ?_ _
     refine NoPanic.normal ?_
     generalize World.setCell w5 ⟨gB, 3, none⟩ _ = W4 at *
     clear rw5 hHeld
     clear w5
     go_wp2
     refine wp_region_noPanic ?_
     refine wp_region_held_drew (S := (fun w' => Only gB wr w' /\ ∃ h : Int, w'.heap[gB]? = some (.cells #[(.slice (some ⟨gl, ol, none⟩) n cl), (.slice (some ⟨gw, ow, none⟩) n cw), .int .i64 h, .bool false] 55 (0, 0)))) follows ⟨lh.only.drew, _, (by show W4.heap[gB]? = _; rw [lh.1]; exact Eh.out)⟩ (fun hHeld => ?_)
     refine tq 0 ?_
     simp only [uA]
     refine tq 1 ?_
     simp only [uA]
     refine tq 2 ?_
     simp only [uA]
     refine tq 3 ?_
     simp only [uA]
     refine tq 5 ?_
     simp only [uA]
     refine tq 6 ?_
     simp only [uA]
     refine tq 7 ?_
     simp only [uA]
     refine tk 8 ?_ rfl (Or.inl ⟨by rfl, ?_⟩) ?_
     rotate_left
     ·intro w hSw
      obtain ⟨_, hq⟩ := hSw.2
      have h3 := (az hq).1
      clear hq
      clear hSw
      go_simp
      all_goals with_reducible rfl
     simp only [uA]
     refine tq 9 ?_
     simp only [uA]
     refine tk 10 ?_ rfl (Or.inl ⟨by rfl, ?_⟩) ?_
     rotate_left
     ·intro w hSw
      have h3 := hSw.1.cell d1 hglB
      clear hSw
      go_simp
      all_goals with_reducible rfl
     simp only [uA]
     refine tq 11 ?_
     simp only [uA]
     refine r1 4 fun K hK => ?_
     have h3 : W4.drew.cell? ⟨gB, 2, none⟩ = some (.int .i64 (hd : Int)) := (az (show W4.drew.heap[gB]? = _ by show W4.heap[gB]? = _; rw [lh.1]; exact Eh.out)).2.2.1
     go_simp
     refine hK.out _ _ hHeld (fun hHeld => ?_)
     clear hK K h3
     try simp only [uA]
     obtain ⟨H3, q1⟩ : ∃ H3, IntKind.i64.wrap ((hd : Int) - (e.cap : Int)) = H3 := ⟨_, rfl⟩
     obtain ⟨H4, q2⟩ : ∃ H4, IntKind.i64.wrap (H3 - 1) = H4 := ⟨_, rfl⟩
     have HDC : Hid (hw es2 = H4) := by
      show hw es2 = H4
      rw [<- q2, <- q1, HHD.out]
      exact hw_less es2 e
     refine tq 12 ?_
     simp only [uA]
     refine tq 13 ?_
     simp only [uA]
     refine tq 14 ?_
     simp only [uA]
     refine tq 15 ?_
     simp only [uA]
     refine r1 16 fun K hK => ?_
     have rw6 : W4.heap[gB]? = some (.cells #[(.slice (some ⟨gl, ol, none⟩) n cl), (.slice (some ⟨gw, ow, none⟩) n cw), .int .i64 (hd : Int), .bool false] 55 (0, 0)) := by rw [lh.1]; exact Eh.out
     have h3 : W4.drew.cell? ⟨gB, 2, none⟩ = _ := (az rw6).2.2.1
     have f3 : W4.drew.frozen? ⟨gB, 2, none⟩ = false := frozen_of_row _ _ 2 _ _ rw6
     go_simp
     refine hK.out _ _ ⟨(lh.only.setCell 2 _).drew, _, (by show (World.setCell W4 ⟨gB, 2, none⟩ _).heap[gB]? = _; rw [heap_setCell_same _ _ _ _ _ _ rw6]; rfl)⟩ (fun FE => ?_)
     clear hK K h3 f3
     try simp only [uA]
     refine wpAnyH_done (by kernel_rfl) ?_ _
     refine NoPanic.normal ?_
     have Eg : (World.drew (World.setCell W4 ⟨gB, 2, none⟩ (.int .i64 H4))).heap[gB]? = some (.cells #[(.slice (some ⟨gl, ol, none⟩) n cl), (.slice (some ⟨gw, ow, none⟩) n cw), .int .i64 H4, .bool false] 55 (0, 0)) := by show (World.setCell W4 ⟨gB, 2, none⟩ _).heap[gB]? = _; rw [heap_setCell_same _ _ _ _ _ _ rw6]; rfl
     have on5 := FE.1
     generalize World.drew (World.setCell W4 ⟨gB, 2, none⟩ _) = W5 at *
     clear rw6 hHeld lh FE c0 c1 c2 c3 d1 d2
     have c4 := az Eg
     obtain ⟨c0, c1, c2, c3⟩ := c4
     have f0 := frozen_of_row _ _ 0 _ _ Eg
     have f1 := frozen_of_row _ _ 1 _ _ Eg
     have g1 : (1 : Int) <= (n : Int) := by omega
     have ON5 := hide on5
     have ROW5 := hide Eg
     clear on5 Eg Eh
     go_wp2
     have on6 : Only gB wr (World.setCell (World.setCell W5 ⟨gB, 0, none⟩ (.slice (some ⟨gl, ol + 1, none⟩) es2.length (cl - 1))) ⟨gB, 1, none⟩ (.slice (some ⟨gw, ow + 1, none⟩) es2.length (cw - 1))) := (ON5.out.setCell 0 _).setCell 1 _
     have row6 : (World.setCell (World.setCell W5 ⟨gB, 0, none⟩ (.slice (some ⟨gl, ol + 1, none⟩) es2.length (cl - 1))) ⟨gB, 1, none⟩ (.slice (some ⟨gw, ow + 1, none⟩) es2.length (cw - 1))).heap[gB]? = some (.cells #[(.slice (some ⟨gl, ol + 1, none⟩) es2.length (cl - 1)), (.slice (some ⟨gw, ow + 1, none⟩) es2.length (cw - 1)), .int .i64 (hw es2), .bool false] 55 (0, 0)) := by
      have q := heap_setCell_same _ _ 0 _ _ (.slice (some ⟨gl, ol + 1, none⟩) es2.length (cl - 1)) ROW5.out
      rw [heap_setCell_same _ _ 1 _ _ _ q]
      rw [<- HDC.out]
      rfl
     generalize World.setCell (World.setCell W5 ⟨gB, 0, none⟩ _) ⟨gB, 1, none⟩ _ = W6 at *
     have hle2 := HLE.out
     rw [List.length_cons] at hle2
     refine ⟨⟨_, _, es2, BK.out.drop k1 k2 on6 row6, by omega, ⟨⟨on6.os.trans HBL.out.1.fr.os, on6.tape.trans HBL.out.1.fr.tape, on6.output.trans HBL.out.1.fr.output, by rw [on6.size]; exact HBL.out.1.fr.size, fun k hk h1 h2 h3 => (on6.block k h1).trans (HBL.out.1.fr.block k hk h1 h2 h3)⟩, fun k hk => HBL.out.1.ol k hk, fun k hk => HBL.out.1.ow k hk⟩, ⟨fun k hk => HBL.out.2.vl k hk, fun k hk => HBL.out.2.vw k hk, fun x hx => HBL.out.2.ents x (List.mem_cons_of_mem _ hx)⟩⟩, ?_⟩
     rw [xx (az row6).1, xx (az BK.out.row).1]
     exact Nat.lt_succ_self _
    ·go_wp2
     exact bodyPost_end (results_none rfl _ _ _) rfl ⟨rfl, ⟨_, _, es', hbk.raise hbk.top_le (lr _), hle, hbl.2, hbl.1⟩⟩
   ·have p1 : ¬ ((1 : Int) < (n : Int)) := by omega
    go_wp2
    exact bodyPost_end (results_none rfl _ _ _) rfl ⟨rfl, ⟨_, _, es', hbk.raise hbk.top_le (lr _), hle, hbl.2, hbl.1⟩⟩
theorem getD_map {α : Type} {es : List α} (f : α -> Value) {k : Nat} (h : k < es.length) : (es.map f).getD k default = f es[k] := by
 rw [List.getD_eq_getElem?_getD, List.getElem?_map, List.getElem?_eq_getElem h]; rfl
set_option maxHeartbeats 4000000 in
set_option maxRecDepth 100000 in
theorem yc (gB base top : Nat) (vl vw : Value) (es : List Entry) (w : World) (hbk : aO w gB base top vl vw es) :
  Calls Tryz.prog 56 #[.pointer (some ⟨gB, 0, none⟩)] w fun e w' => e = .returned (.bool true) /\ Still w w' := by
 obtain ⟨aol, cl, hvl⟩ := hbk.lists.shape
 obtain ⟨aow, cw, hvw⟩ := hbk.was.shape
 rw [List.length_map] at hvl hvw
 subst hvl hvw
 obtain ⟨n, hn⟩ : ∃ n, n = es.length := ⟨_, rfl⟩
 have hnb : n <= 100 := by rw [hn]; exact hbk.few
 have HN := hide hn
 have HBK := hide hbk
 clear hbk
 rw [<- hn] at HBK
 clear hn
 go_enter Tryz.func56, Tryz.ntmps56
 go_wp2
 go_loopw [3] (fun i wr => ∃ k : Nat, k <= n /\ i = .int .i64 (k : Int) /\ Still w wr) (fun i _ => n - (intOf i).toNat)
 case atStart => exact ⟨0, by omega, rfl, Still.refl _⟩
 case round =>
  obtain ⟨k, hk, rfl, hst⟩ := hrel
  have hbk := HBK.out.still hst
  have ROW := hide hbk.row
  have c4 := az hbk.row
  obtain ⟨c0, c1, c2, c3⟩ := c4
  have ST := hide hst
  by_cases hlt : k < n
  ·have hke : k < es.length := by have := HN.out; omega
   obtain ⟨gl, ol, cl', hx, hcl, hcell⟩ := hbk.lists.at k (by rw [List.length_map]; exact hke)
   obtain ⟨gw, ow, cw', hy, hcw, rE⟩ := hbk.was.at k (by rw [List.length_map]; exact hke)
   rw [getD_map _ hke] at hcell rE
   simp only [Value.slice.injEq, List.length_map] at hx hy hcl hcw
   obtain ⟨rfl, _, rfl⟩ := hx
   obtain ⟨rfl, _, rfl⟩ := hy
   have hen := hbk.ents es[k] (List.getElem_mem hke)
   obtain ⟨e, he⟩ : ∃ e, e = es[k] := ⟨_, rfl⟩
   rw [<- he] at hcell rE hen
   have hbs : e.bs.length <= 140737488355328 := hen.bsl
   obtain ⟨aou, cu, hus⟩ := hen.cp.shape
   have d1 : wr.cell? ⟨gl, ol + k, none⟩ = some (.slice (yg e.g) e.bs.length e.cap) := hcell
   have d2 : wr.cell? ⟨gw, ow + k, none⟩ = some (.slice aou e.bs.length cu) := by rw [<- hus]; exact rE
   have S1 := hide (hen.ed.sliceAt rfl hbs)
   have S2 : Hid (SliceAt wr (.slice aou e.bs.length cu) e.bs) := by rw [<- hus]; exact hen.cp.sliceAt hbs
   have q1 : (0 : Int) <= (k : Int) := by omega
   have q2 : (k : Int) < (n : Int) := by omega
   have q4 : IntKind.i64.wrap ((k : Int) + 1) = (k : Int) + 1 := by rw [IntKind.wrap_i64]; omega
   clear hbk hst hcell rE hen hus hcl hcw he hke
   go_wp2
   refine wp_region_noPanic ?_
   refine wp_region_held_drew (S := (fun w' => Still wr w')) follows ((Still.refl _).drew) (fun hHeld => ?_)
   refine tq 0 ?_
   simp only [uA]
   refine tq 1 ?_
   simp only [uA]
   refine tq 2 ?_
   simp only [uA]
   refine tq 3 ?_
   simp only [uA]
   refine tk 4 ?_ rfl (Or.inl ⟨by rfl, ?_⟩) ?_
   rotate_left
   ·intro w hSw
    have h3 := Still.cell hSw c3
    clear hSw
    go_simp
    all_goals with_reducible rfl
   simp only [uA]
   refine tq 5 ?_
   simp only [uA]
   refine tq 6 ?_
   simp only [uA]
   refine tq 7 ?_
   simp only [uA]
   refine tq 8 ?_
   simp only [uA]
   refine tk 9 ?_ rfl (Or.inl ⟨by rfl, ?_⟩) ?_
   rotate_left
   ·intro w hSw
    have h3 := Still.cell hSw c0
    clear hSw
    go_simp
    all_goals with_reducible rfl
   simp only [uA]
   refine tq 10 ?_
   simp only [uA]
   refine tq 11 ?_
   simp only [uA]
   refine tk 12 ?_ rfl (Or.inl ⟨by rfl, ?_⟩) ?_
   rotate_left
   ·intro w hSw
    have h3 := Still.cell hSw d1
    clear hSw
    go_simp
    all_goals with_reducible rfl
   simp only [uA]
   refine tq 13 ?_
   simp only [uA]
   refine tq 14 ?_
   simp only [uA]
   refine tq 15 ?_
   simp only [uA]
   refine tk 16 ?_ rfl (Or.inl ⟨by rfl, ?_⟩) ?_
   rotate_left
   ·intro w hSw
    have h3 := Still.cell hSw c1
    clear hSw
    go_simp
    all_goals with_reducible rfl
   simp only [uA]
   refine tq 17 ?_
   simp only [uA]
   refine tq 18 ?_
   simp only [uA]
   refine tk 19 ?_ rfl (Or.inl ⟨by rfl, ?_⟩) ?_
   rotate_left
   ·intro w hSw
    have h3 := Still.cell hSw d2
    clear hSw
    go_simp
    all_goals with_reducible rfl
   simp only [uA]
   refine r1 20 fun K hK => ?_
   go_simp
   refine (wI _ _ e.bs _ (S1.out.of_heap hHeld.1) (S2.out.of_heap hHeld.1)).mono ?_
   rintro e' w5 ⟨rfl, hst⟩
   have hk := Still.trans hHeld hst
   clear hst hHeld
   go_wp2_with fail
   refine hK.out _ _ ?_ (fun hHeld => ?_)
   ·exact hk
   clear hK K hk
   try simp only [uA]
   refine tq 21 ?_
   simp only [uA]
   refine tq 22 ?_
   simp only [uA]
   refine tq 23 ?_
   simp only [uA]
   refine tq 24 ?_
   simp only [uA]
   refine r1 25 fun K hK => ?_
   have rw5 : w5.heap[gB]? = _ := (congrArg (fun h => h[gB]?) hHeld.1).trans ROW.out
   have h3 := (az rw5).2.2.2
   have f3 := frozen_of_row _ _ 3 _ _ rw5
   go_simp
   refine hK.out _ _ (Still.trans hHeld (ma rw5 rfl)) (fun lh => ?_)
   clear hK K h3 f3
   try simp only [uA]
   refine wpAnyH_done (by kernel_rfl) ?_ _
   refine NoPanic.normal ?_
   generalize World.setCell w5 ⟨gB, 3, none⟩ _ = W4 at *
   clear rw5 hHeld
   clear w5
   go_wp2
   go_roundw
   case rel => exact ⟨k + 1, by omega, by go_num, Still.trans ST.out lh⟩
   case measure => simp [intOf]; omega
  ·obtain rfl : k = n := by omega
   clear hbk hst
   go_wp2
   go_ret
   exact ⟨rfl, ST.out⟩
def Marked (w : World) (g c k : Nat) : Prop := ∃ cur, w.heap[g]? = some (.cells cur 5 (0, 0)) /\ cur.size = c /\ ∀ i, i < c -> cur[i]? = some (.int .u8 (S.mark k i))
structure dQ (w W : World) (es : List Entry) (k : Nat) : Prop where
 os : W.os = w.os
 tape : W.tape = w.tape
 output : W.output = w.output
 size : W.heap.size = w.heap.size
 rest : ∀ b, (∀ e ∈ es, e.g ≠ some b) -> W.heap[b]? = w.heap[b]?
 done : ∀ j (h : j < es.length), j < k -> ∀ b, es[j].g = some b -> Marked W b es[j].cap j
 todo : ∀ j (h : j < es.length), k <= j -> ∀ b, es[j].g = some b -> W.heap[b]? = w.heap[b]?
theorem dQ.zero {w W : World} {es : List Entry} (h : Still w W) : dQ w W es 0 := ⟨h.2.1, h.2.2.1, h.2.2.2, by rw [h.1], fun _ _ => by rw [h.1], fun _ _ hj => by omega, fun _ _ _ _ _ => by rw [h.1]⟩
structure fH (o W : World) (g : Option Nat) (c k j : Nat) : Prop where
 os : W.os = o.os
 tape : W.tape = o.tape
 output : W.output = o.output
 size : W.heap.size = o.heap.size
 rest : ∀ b, g ≠ some b -> W.heap[b]? = o.heap[b]?
 row : ∀ b, g = some b -> ∃ cur, W.heap[b]? = some (.cells cur 5 (0, 0)) /\ cur.size = c /\ ∀ i, i < j -> cur[i]? = some (.int .u8 (S.mark k i))
theorem fH.step {o W : World} {g c k j : Nat} (h : fH o W (some g) c k j) (hj : j < c) : fH o (W.setCell ⟨g, j, none⟩ (.int .u8 (S.mark k j))) (some g) c k (j + 1) := by
 have hb := (Below.refl 0 W).setCell (p := ⟨g, j, none⟩) (Nat.zero_le _) (.int .u8 (S.mark k j))
 obtain ⟨cur, q1, q2, q3⟩ := h.row g rfl
 refine ⟨hb.os.trans h.os, hb.tape.trans h.tape, hb.output.trans h.output, (size_setCell W _ _).trans h.size, fun b hbn => (heap_setCell_other W ⟨g, j, none⟩ b _ (fun c => hbn (by rw [c]))).trans (h.rest b hbn), fun b hbg => ?_⟩
 obtain rfl : g = b := by simpa using hbg
 refine ⟨_, heap_setCell_same _ _ _ _ _ _ q1, by rw [Array.size_setIfInBounds]; exact q2, fun i hi => ?_⟩
 rw [Array.getElem?_setIfInBounds]
 by_cases hij : j = i
 ·subst hij
  rw [if_pos rfl, if_pos (by omega)]
 ·rw [if_neg hij]
  exact q3 i (by omega)
theorem fH.drewN {o W : World} {g : Option Nat} {c k j : Nat} (h : fH o W g c k j) (n : Nat) : fH o (W.drewN n) g c k j := ⟨h.os, h.tape, h.output, h.size, h.rest, h.row⟩
theorem tY {es : List Entry} (h : (es.filterMap Entry.g).Nodup) {i j : Nat} (hi : i < es.length) (hj : j < es.length) (hij : i ≠ j) {b : Nat} (hb : es[i].g = some b) : es[j].g ≠ some b := by
 intro e
 have h1 := List.pairwise_iff_getElem.1 (List.pairwise_filterMap.1 h)
 rcases Nat.lt_or_gt_of_ne hij with hl | hl
 ·exact h1 i j hi hj hl b hb b e rfl
 ·exact h1 j i hj hi hl b e b hb rfl
theorem dQ.next {w o W : World} {es : List Entry} {k : Nat} (h : dQ w o es k) (hk : k < es.length) (hn : (es.filterMap Entry.g).Nodup) (hi : fH o W es[k].g es[k].cap k es[k].cap) : dQ w W es (k + 1) := by
 refine ⟨hi.os.trans h.os, hi.tape.trans h.tape, hi.output.trans h.output, hi.size.trans h.size, fun b hb => (hi.rest b (hb _ (List.getElem_mem hk))).trans (h.rest b hb), fun j hj hjk b hb => ?_, fun j hj hjk b hb => ?_⟩
 ·by_cases e : j = k
  ·subst e
   exact hi.row b hb
  ·obtain ⟨cur, q1, q2⟩ := h.done j hj (by omega) b hb
   exact ⟨cur, (hi.rest _ (tY hn hj hk e hb)).trans q1, q2⟩
 ·exact (hi.rest _ (tY hn hj hk (by omega) hb)).trans (h.todo j hj (by omega) b hb)
theorem dQ.begin {w o : World} {es : List Entry} {k : Nat} (h : dQ w o es k) (hk : k < es.length) (hr : Ed w es[k].g es[k].cap es[k].bs) : fH o o es[k].g es[k].cap k 0 := by
 refine ⟨rfl, rfl, rfl, rfl, fun _ _ => rfl, fun b hb => ?_⟩
 obtain ⟨cur, q1, q2, _⟩ := hr.1 b hb
 exact ⟨cur, (h.todo k hk (lr _) b hb).trans q1, q2, fun i hi => by omega⟩
theorem aO.reads {w W : World} {gB base top : Nat} {vl vw : Value} {es : List Entry} {k : Nat} (h : aO w gB base top vl vw es) (hm : dQ w W es k) :
  W.heap[gB]? = some (.cells #[vl, vw, .int .i64 (hw es), .bool false] 55 (0, 0)) /\ Lists W vl (es.map Entry.val) :=
 ⟨(hm.rest gB (fun e he c => ((h.ents e he).at_ gB c).2.2.1 rfl)).trans h.row, h.lists.kept fun j hj => hm.rest j (fun e he c => ((h.ents e he).at_ j c).2.2.2.1 hj)⟩
theorem dQ.below {w W : World} {gB base top : Nat} {vl vw : Value} {es : List Entry} {k : Nat} (h : aO w gB base top vl vw es) (hm : dQ w W es k) : Below base w W :=
 ⟨hm.os, hm.tape, hm.output, by rw [hm.size]; exact lr _, fun j hj => hm.rest j (fun e he c => by have := ((h.ents e he).at_ j c).1; omega)⟩
set_option maxHeartbeats 4000000 in
set_option maxRecDepth 100000 in
theorem Dg (gB base top : Nat) (vl vw : Value) (es : List Entry) (w : World) (hbk : aO w gB base top vl vw es) :
  Calls Tryz.prog 25 #[.pointer (some ⟨gB, 0, none⟩), .func (.func 26) #[] #[]] w fun e w' => e = .returned (.bool true) /\ ym base top w w' /\ ∀ b, b ≠ gB -> (∀ e ∈ es, e.g ≠ some b) -> w'.heap[b]? = w.heap[b]? := by
 obtain ⟨aol, cl, hvl⟩ := hbk.lists.shape
 rw [List.length_map] at hvl
 subst hvl
 obtain ⟨n, hn⟩ : ∃ n, n = es.length := ⟨_, rfl⟩
 have hnb : n <= 100 := by rw [hn]; exact hbk.few
 have HN := hide hn
 have HBK := hide hbk
 clear hbk
 rw [<- hn] at HBK
 clear hn
 go_enter Tryz.func25, Tryz.ntmps25
 go_wp2_with fail
 refine (yc gB base top _ vw es w HBK.out).mono ?_
 rintro e0 w1 ⟨rfl, hst⟩
 have M0 : Hid (dQ w w1 es 0) := dQ.zero hst
 clear hst
 go_wp2_with fail
 go_loopw [5] (fun i wr => ∃ k : Nat, k <= n /\ i = .int .i64 (k : Int) /\ dQ w wr es k) (fun i _ => n - (intOf i).toNat)
 case atStart => exact ⟨0, by omega, rfl, M0.out⟩
 case round =>
  obtain ⟨k, hk, rfl, hm⟩ := hrel
  have hrd := HBK.out.reads hm
  have c0 := (az hrd.1).1
  have MM := hide hm
  by_cases hlt : k < n
  ·have hke : k < es.length := by have := HN.out; omega
   obtain ⟨gl, ol, cl', hx, hcl, hcell⟩ := hrd.2.at k (by rw [List.length_map]; exact hke)
   rw [getD_map _ hke] at hcell
   simp only [Value.slice.injEq, List.length_map] at hx hcl
   obtain ⟨rfl, hnn, rfl⟩ := hx
   clear hnn
   have hen := HBK.out.ents es[k] (List.getElem_mem hke)
   have HIN := hide (hm.begin hke hen.ed)
   have HNX : Hid (∀ W, fH wr W es[k].g es[k].cap k es[k].cap -> dQ w W es (k + 1)) := fun W hW => hm.next hke HBK.out.nodup hW
   obtain ⟨e, he⟩ : ∃ e, e = es[k] := ⟨_, rfl⟩
   rw [<- he] at hcell hen HIN HNX
   have hcape := hen.capl
   have hbl := hen.ed.le
   obtain ⟨ao, hao⟩ : ∃ ao, ao = yg e.g := ⟨_, rfl⟩
   have HAO := hide hao
   have HED := hide hen.ed
   have d1 : wr.cell? ⟨gl, ol + k, none⟩ = some (.slice ao e.bs.length e.cap) := by rw [hao]; exact hcell
   have q1 : (0 : Int) <= (k : Int) := by omega
   have q2 : (k : Int) < (n : Int) := by omega
   have q3 : (0 : Int) <= (e.cap : Int) := by omega
   have q4 : IntKind.i64.wrap ((k : Int) + 1) = (k : Int) + 1 := by rw [IntKind.wrap_i64]; omega
   clear hm hrd hcell hen he hke hcl hao
   go_wp2
   go_quiet (fail)
   go_wp2
   obtain ⟨wo, rfl⟩ : ∃ wo : World, wo = wr := ⟨_, rfl⟩
   go_loopw [7] (fun i wr => ∃ j : Nat, j <= e.cap /\ i = .int .i64 (j : Int) /\ fH wo wr e.g e.cap k j) (fun i _ => e.cap - (intOf i).toNat)
   case atStart => exact ⟨0, by omega, rfl, HIN.out.drewN _⟩
   case round =>
    obtain ⟨j, hj, rfl, hin⟩ := hrel
    by_cases hjl : j < e.cap
    ·obtain ⟨b, hb⟩ : ∃ b, e.g = some b := by
      cases hg : e.g with
      | none => have := HED.out.2 hg; omega
      | some b => exact ⟨b, rfl⟩
     obtain rfl : ao = some ⟨b, 0, none⟩ := by rw [HAO.out, hb]; rfl
     rw [hb] at hin
     obtain ⟨cur, r1, r2, r3⟩ := hin.row b rfl
     obtain ⟨x, hx⟩ : ∃ x, cur[j]? = some x := ⟨cur[j]'(by omega), Array.getElem?_eq_getElem (by omega)⟩
     have ce : wr.cell? ⟨b, j, none⟩ = some x := by rw [cell_of_row wr b j cur 5 (0, 0) r1]; exact hx
     have cf := frozen_of_row _ _ j _ _ r1
     have p1 : (0 : Int) <= (j : Int) := by omega
     have p2 : (j : Int) < (e.cap : Int) := by omega
     have p3 : IntKind.i64.wrap ((j : Int) + 1) = (j : Int) + 1 := by rw [IntKind.wrap_i64]; omega
     have ST := hide (hin.step hjl)
     rw [<- hb] at ST
     clear r1 r2 r3 hx hin c0 d1
     go_wp2_with fail
     refine (uE k j (by omega) (by omega) _).mono ?_
     rintro e' w5 ⟨rfl, rfl⟩
     go_wp2
     go_roundw
     case rel => exact ⟨j + 1, by omega, by go_num, ST.out⟩
     case measure => simp [intOf]; omega
    ·obtain rfl : e.cap = j := by omega
     have NX := hide (HNX.out wr hin)
     clear hin
     go_wp2
     go_roundw
     case rel => exact ⟨k + 1, by omega, by go_num, NX.out⟩
     case measure => simp [intOf]; omega
  ·obtain rfl : n = k := by omega
   clear hrd hm
   go_wp2
   obtain ⟨W3, rfl⟩ : ∃ W3 : World, W3 = wr := ⟨_, rfl⟩
   go_loopw [8] (fun i wr => ∃ k : Nat, k <= n /\ i = .int .i64 (k : Int) /\ Still W3 wr) (fun i _ => n - (intOf i).toNat)
   case atStart => exact ⟨0, by omega, rfl, Still.refl _⟩
   case round =>
    obtain ⟨k, hk, rfl, vM⟩ := hrel
    have hrd := HBK.out.reads MM.out
    have c0 := vM.cell (az hrd.1).1
    by_cases hlt : k < n
    ·have hke : k < es.length := by have := HN.out; omega
     obtain ⟨gl, ol, cl', hx, hcl, hcell⟩ := hrd.2.at k (by rw [List.length_map]; exact hke)
     rw [getD_map _ hke] at hcell
     simp only [Value.slice.injEq, List.length_map] at hx hcl
     obtain ⟨rfl, hnn, rfl⟩ := hx
     clear hnn
     have hen := HBK.out.ents es[k] (List.getElem_mem hke)
     have hmk := MM.out.done k hke (by omega)
     obtain ⟨e, he⟩ : ∃ e, e = es[k] := ⟨_, rfl⟩
     rw [<- he] at hcell hen hmk
     have hcape := hen.capl
     have hbl := hen.ed.le
     obtain ⟨ao, hao⟩ : ∃ ao, ao = yg e.g := ⟨_, rfl⟩
     have HAO := hide hao
     have HED := hide hen.ed
     have d1 : wr.cell? ⟨gl, ol + k, none⟩ = some (.slice ao e.bs.length e.cap) := by rw [hao]; exact vM.cell hcell
     have HMK := hide hmk
     have q1 : (0 : Int) <= (k : Int) := by omega
     have q2 : (k : Int) < (n : Int) := by omega
     have q3 : (0 : Int) <= (e.cap : Int) := by omega
     have q4 : IntKind.i64.wrap ((k : Int) + 1) = (k : Int) + 1 := by rw [IntKind.wrap_i64]; omega
     have ST3 := hide vM
     clear hrd hcell hen he hke hcl hmk vM hao
     go_wp2
     go_quiet (fail)
     go_wp2
     obtain ⟨wp, rfl⟩ : ∃ wp : World, wp = wr := ⟨_, rfl⟩
     go_loopw [10] (fun i wr => ∃ j : Nat, j <= e.cap /\ i = .int .i64 (j : Int) /\ Still W3 wr) (fun i _ => e.cap - (intOf i).toNat)
     case atStart => exact ⟨0, by omega, rfl, ST3.out.drew⟩
     case round =>
      obtain ⟨j, hj, rfl, Cn⟩ := hrel
      by_cases hjl : j < e.cap
      ·obtain ⟨b, hb⟩ : ∃ b, e.g = some b := by
        cases hg : e.g with
        | none => have := HED.out.2 hg; omega
        | some b => exact ⟨b, rfl⟩
       obtain rfl : ao = some ⟨b, 0, none⟩ := by rw [HAO.out, hb]; rfl
       obtain ⟨cur, r1, r2, r3⟩ := HMK.out b hb
       have d3 : wr.cell? ⟨b, j, none⟩ = some (.int .u8 (S.mark k j)) := Cn.cell (by rw [cell_of_row W3 b j cur 5 (0, 0) r1]; exact r3 j hjl)
       have p1 : (0 : Int) <= (j : Int) := by omega
       have p2 : (j : Int) < (e.cap : Int) := by omega
       have p3 : IntKind.i64.wrap ((j : Int) + 1) = (j : Int) + 1 := by rw [IntKind.wrap_i64]; omega
       clear r1 r2 r3 c0 d1
       go_wp2
       refine wp_region_noPanic ?_
       refine wp_region_held_drew (S := (fun w' => Still wr w')) follows ((Still.refl _).drew) (fun hHeld => ?_)
       refine tq 0 ?_
       simp only [uA]
       refine tq 1 ?_
       simp only [uA]
       refine tq 2 ?_
       simp only [uA]
       refine tk 3 ?_ rfl (Or.inl ⟨by rfl, ?_⟩) ?_
       rotate_left
       ·intro w hSw
        have h3 := Still.cell hSw d3
        clear hSw
        go_simp
        all_goals with_reducible rfl
       simp only [uA]
       refine tq 4 ?_
       simp only [uA]
       refine tq 5 ?_
       simp only [uA]
       refine tq 6 ?_
       simp only [uA]
       refine r1 7 fun K hK => ?_
       go_simp
       refine (uE k j (by omega) (by omega) _).mono ?_
       rintro e' w5 ⟨rfl, rfl⟩
       go_wp2_with fail
       refine hK.out _ _ hHeld (fun hHeld => ?_)
       clear hK K
       try simp only [uA]
       refine tq 8 ?_
       simp only [uA]
       refine wpAnyH_done (by kernel_rfl) ?_ _
       refine NoPanic.normal ?_
       go_wp2
       go_roundw
       case rel => exact ⟨j + 1, by omega, by go_num, Still.trans Cn hHeld⟩
       case measure => simp [intOf]; omega
      ·obtain rfl : e.cap = j := by omega
       go_wp2
       go_roundw
       case rel => exact ⟨k + 1, by omega, by go_num, Cn⟩
       case measure => simp [intOf]; omega
    ·obtain rfl : n = k := by omega
     have hrow : wr.heap[gB]? = _ := (congrArg (fun h => h[gB]?) vM.1).trans hrd.1
     have f0 := frozen_of_row _ _ 0 _ _ hrow
     have f1 := frozen_of_row _ _ 1 _ _ hrow
     have f2 := frozen_of_row _ _ 2 _ _ hrow
     have c1 := (az hrow).2.1
     have c2 := (az hrow).2.2.1
     have BB : Hid (Below base w wr) := (MM.out.below HBK.out).trans (vM.below base)
     have BT : Hid (∀ j, top <= j -> j < w.heap.size -> wr.heap[j]? = w.heap[j]?) := fun j hj _ => (congrArg (fun h => h[j]?) vM.1).trans (MM.out.rest j (fun e he c => by have := ((HBK.out.ents e he).at_ j c).2.1; omega))
     have BRS : Hid (∀ j, (∀ e ∈ es, e.g ≠ some j) -> wr.heap[j]? = w.heap[j]?) := fun j hj => (congrArg (fun h => h[j]?) vM.1).trans (MM.out.rest j hj)
     have HTG : Hid (gB < top) := HBK.out.hi
     have HLO : Hid (base <= gB) := HBK.out.lo
     clear hrd vM hrow
     go_wp2
     go_ret
     refine ⟨rfl, ⟨((BB.out.setCell HLO.out _).setCell HLO.out _).setCell HLO.out _, fun j hj hj2 => ?_⟩, fun j hne hj => ?_⟩
     ·have hne : j ≠ gB := by have := HTG.out; omega
      rw [heap_setCell_other _ _ _ _ hne, heap_setCell_other _ _ _ _ hne, heap_setCell_other _ _ _ _ hne]
      exact BT.out j hj hj2
     ·rw [heap_setCell_other _ _ _ _ hne, heap_setCell_other _ _ _ _ hne, heap_setCell_other _ _ _ _ hne]
      exact BRS.out j hj
end Go.Proofs.YteealihknndclaaGreatDoor
