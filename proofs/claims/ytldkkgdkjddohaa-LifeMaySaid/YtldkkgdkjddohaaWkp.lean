/- Keep: a list of bytes is kept in a book, with a copy; older ones may be let go; nothing beside the book changes. -/
import Derived.Test.YtldkkgdkjddohaaWt
import Derived.Deep.DeepCutAuto
namespace Go.Proofs.Ytldkkgdkjddohaa
open Go.RowKit
theorem Room.kept {w w' : World} {g cap : Nat} {bs : List Int} (h : Room w g cap bs) (hb : ∀ k, k < w.heap.size → w'.heap[k]? = w.heap[k]?) : Room w' g cap bs := by
  obtain ⟨cur, h1, h2⟩ := h
  exact ⟨cur, (hb g (block_lt_of_row h1)).trans h1, h2⟩
theorem Room.le {w : World} {g cap : Nat} {bs : List Int} (h : Room w g cap bs) : bs.length ≤ cap := by obtain ⟨cur, _, _, h3, _⟩ := h; exact h3
def KeepMid (w : World) (gB : Nat) (vl vw v1 : Value) (es : List Entry) (ao : Option Addr) (cap : Nat) (bs : List Int) (W : World) : Prop :=
  ∃ u v2, W.heap[gB]? = some (.cells #[v1, v2, .int .i64 (hw es), .bool false] 31 (0, 0)) ∧ Fr gB vl vw w W ∧ Lists W v1 (es.map Entry.val ++ [.slice ao bs.length cap]) ∧ Lists W v2 (es.map Entry.u ++ [u]) ∧ URow W u bs ∧
    (∀ k, u.ownBlock = some k → w.heap.size ≤ k ∧ v1.ownBlock ≠ some k ∧ v2.ownBlock ≠ some k) ∧ (∀ k, v2.ownBlock = some k → vw.ownBlock = some k ∨ w.heap.size ≤ k) ∧ (∀ k, v2.ownBlock = some k → v1.ownBlock ≠ some k)
theorem keepMid {w X : World} {gB base top cap : Nat} {ao : Option Addr} {vl vw v1 v2 u : Value} {es : List Entry} {bs : List Int} (hbk : Hid (BookIs w gB base top vl vw es)) (hv1 : Hid (∀ k, v1.ownBlock = some k → vl.ownBlock = some k ∨ w.heap.size ≤ k))
    (R : Hid (X.heap[gB]? = some (.cells #[v1, vw, .int .i64 (hw es), .bool false] 31 (0, 0)))) (F : Hid (Fr gB vl vw w X)) (L : Hid (Lists X v1 (es.map Entry.val ++ [.slice ao bs.length cap]))) (V : Hid (Lists X v2 (es.map Entry.u ++ [u])))
    (U : Hid (URow X u bs)) (UB : Hid (∀ k, u.ownBlock = some k → w.heap.size ≤ k ∧ v1.ownBlock ≠ some k ∧ vw.ownBlock ≠ some k)) (HV2 : Hid (∀ k, v2.ownBlock = some k → vw.ownBlock = some k ∨ (w.heap.size ≤ k ∧ v1.ownBlock ≠ some k ∧ u.ownBlock ≠ some k))) :
    KeepMid w gB vl vw v1 es ao cap bs (X.setCell ⟨gB, 1, none⟩ v2) := by
  have hb1 : ∀ k, v1.ownBlock = some k → k ≠ gB := fun k hk => by
    rcases hv1.out k hk with h' | h'
    · exact (hbk.out.vlSep k h').2.2
    · have := hbk.out.hi; have := hbk.out.top_le; omega
  have hb2 : ∀ k, v2.ownBlock = some k → k ≠ gB := fun k hk => by
    rcases HV2.out k hk with h' | h'
    · exact (hbk.out.vwSep k h').2.2.1
    · have := hbk.out.hi; have := hbk.out.top_le; omega
  have hb3 : ∀ k, u.ownBlock = some k → k ≠ gB := fun k hk => by have := (UB.out k hk).1; have := hbk.out.hi; have := hbk.out.top_le; omega
  refine ⟨u, v2, by rw [heap_setCell_same _ _ _ _ _ _ R.out]; rfl, F.out.setCell 1 v2, L.out.kept (fun k hk => heap_setCell_other _ _ _ _ (hb1 k hk)), V.out.kept (fun k hk => heap_setCell_other _ _ _ _ (hb2 k hk)), U.out.kept (fun k hk => heap_setCell_other _ _ _ _ (hb3 k hk)), fun k hk => ⟨(UB.out k hk).1, (UB.out k hk).2.1, fun e => ?_⟩, fun k hk => ?_, fun k hk e => ?_⟩
  · rcases HV2.out k e with h' | h'
    · exact (UB.out k hk).2.2 h'
    · exact h'.2.2 hk
  · rcases HV2.out k hk with h' | h'
    · exact Or.inl h'
    · exact Or.inr h'.1
  · rcases HV2.out k hk with h' | h'
    · rcases hv1.out k e with h2 | h2
      · exact (hbk.out.vwSep k h').2.2.2 h2
      · exact absurd (hbk.out.was.lt h') (by omega)
    · exact h'.2.1 e
/-- No block of a book is one of H. -/
structure BookNo (H : Nat → Prop) (vl vw : Value) (es : List Entry) : Prop where
  vl : ∀ k, vl.ownBlock = some k → ¬ H k
  vw : ∀ k, vw.ownBlock = some k → ¬ H k
  ents : ∀ e ∈ es, (∀ b, e.g = some b → ¬ H b) ∧ ∀ k, e.u.ownBlock = some k → ¬ H k
/-- What lies below the base, and what lies from a top on, is as it was. -/
def KeptFrom (base top : Nat) (w W : World) : Prop := Below base w W ∧ ∀ k, top ≤ k → k < w.heap.size → W.heap[k]? = w.heap[k]?
set_option maxHeartbeats 4000000 in
set_option maxRecDepth 100000 in
theorem keep_all (H : Nat → Prop) (gB base top cap : Nat) (g : Option Nat) (ao : Option Addr) (vl vw : Value) (bs : List Int) (es : List Entry) (w : World) (hbk : BookIs w gB base top vl vw es) (hr : Ed w g cap bs) (hao : ao = aoOf g) (htop : ∀ b, g = some b → top ≤ b) (hbase : ∀ b, g = some b → base ≤ b) (hcap : cap ≤ 9223372036854775807) (hbl0 : bs.length ≤ 100000) (hfew : es.length < 100) (hH : BookNo H vl vw es) (hHn : ∀ k, w.heap.size ≤ k → ¬ H k) (hHg : ∀ b, g = some b → ¬ H b) :
   Calls Try.prog 18 #[.pointer (some ⟨gB, 0, none⟩), .slice ao bs.length cap] w fun e w' => e = .returned (.tuple #[]) ∧ (∃ vl' vw' es', BookIs w' gB base w'.heap.size vl' vw' es' ∧ es'.length ≤ es.length + 1 ∧ BookNo H vl' vw' es') ∧ KeptFrom base top w w' := by
  have HH := hide hH
  have HHN := hide hHn
  have HHG := hide hHg
  clear hH hHn hHg
  have HBK := hide hbk
  have HR := hide hr
  have HAO := hide hao
  clear hao
  have HB : Hid (bs.length ≤ 100000) := hbl0
  have HN : Hid ((es.map Entry.u).length ≤ 1000000) := by show (es.map Entry.u).length ≤ 1000000; rw [List.length_map]; omega
  have HM : Hid ((es.map Entry.val).length ≤ 1000000) := by show (es.map Entry.val).length ≤ 1000000; rw [List.length_map]; omega
  have c0 := (cells4 hbk.row).1
  have hsz := hbk.hi
  have htl := hbk.top_le
  clear hbk hr
  go_enter Try.func18, Try.ntmps18
  go_wp2_with (at_builtin; (refine wpList_append_known rfl (.tmp 8) (.tmp 10) 29 29 rfl _ _ rfl rfl (run_append_list _ vl _ w.heap.size (es.map Entry.val) 29 (HBK.out.lists.kept (fun k hk => heap_alloc_old _ _ (HBK.out.lists.lt hk))) (heap_alloc_new _ _) rfl HM.out) ?_; rintro v0 w1 ⟨hL1, hg1, ho1⟩; obtain ⟨ao1, cc1, hv1⟩ := hL1.shape; subst hv1; have hr1 : w1.heap[gB]? = some (.cells #[vl, vw, .int .i64 (hw es), .bool false] 31 (0, 0)) := (hg1.block gB (by simp; omega) (fun e => (HBK.out.vlSep gB e.symm).2.2 rfl)).trans ((heap_alloc_old _ _ (by omega)).trans HBK.out.row); have c0' := (cells4 hr1).1; have f0' := frozen_of_row _ _ 0 _ _ hr1))
  simp only [List.length_append, List.length_map, List.length_singleton] at hL1 ho1
  try simp only [List.length_append, List.length_map, List.length_singleton]
  generalize hv1 : Value.slice ao1 (es.length + 1) cc1 = v1 at *
  generalize hW1 : World.setCell w1 ⟨gB, 0, none⟩ v1 = W1
  have HV1 : Hid (∀ k, v1.ownBlock = some k → vl.ownBlock = some k ∨ w.heap.size ≤ k) := fun k hk => by
    rcases ho1 with h' | h'
    · exact Or.inl (h' ▸ hk)
    · rw [hk] at h'
      have := Option.some.inj h'
      right
      rw [this]
      simp
  have hv1B : ∀ k, v1.ownBlock = some k → k ≠ gB := fun k hk => by
    rcases HV1.out k hk with h' | h'
    · exact (HBK.out.vlSep k h').2.2
    · omega
  have hfr : Fr gB vl vw w w1 := ((Fr.refl gB vl vw w).alloc _).grown hg1 (fun k _ h => Or.inl h)
  have R : Hid (W1.heap[gB]? = some (.cells #[v1, vw, .int .i64 (hw es), .bool false] 31 (0, 0))) := by
    show W1.heap[gB]? = some (.cells #[v1, vw, .int .i64 (hw es), .bool false] 31 (0, 0))
    rw [← hW1, heap_setCell_same _ _ _ _ _ _ hr1]
    rfl
  have F : Hid (Fr gB vl vw w W1) := by rw [← hW1]; exact hfr.setCell 0 v1
  have L : Hid (Lists W1 v1 (es.map Entry.val ++ [.slice ao bs.length cap])) := by
    rw [← hW1]
    exact hL1.kept (fun k hk => heap_setCell_other _ _ _ _ (hv1B k hk))
  have V : Hid (Lists W1 vw (es.map Entry.u)) := by
    rw [← hW1]
    exact HBK.out.was.kept (fun k hk => (heap_setCell_other _ _ _ _ (HBK.out.vwSep k hk).2.2.1).trans ((hg1.block k (by have := HBK.out.was.lt hk; simp; omega) (fun e => (HBK.out.vwSep k hk).2.2.2 e.symm)).trans (heap_alloc_old _ _ (HBK.out.was.lt hk))))
  have RL : Hid (Ed W1 g cap bs) := HR.out.same fun b e => F.out.block b (by obtain ⟨cur, q1, _⟩ := HR.out.1 b e; exact block_lt_of_row q1) (by have := htop b e; have := HBK.out.hi; omega) (fun c => by have := (HBK.out.vlSep b c).2.1; have := htop b e; omega) (fun c => by have := (HBK.out.vwSep b c).2.1; have := htop b e; omega)
  clear hv1 hW1 hr1 hL1 hg1 ho1 hfr hv1B c0 c0' f0'
  go_cut [] from 14 (fun wc => KeepMid w gB vl vw v1 es ao cap bs wc)
  case first =>
    refine wp_region_noPanic ?_
    refine wp_region_held_drew (S := (fun _ => True)) follows trivial (fun hHeld => ?_)
    have R0 : Hid (W1.drew.heap[gB]? = some (.cells #[v1, vw, .int .i64 (hw es), .bool false] 31 (0, 0))) := R
    have F0 : Hid (Fr gB vl vw w W1.drew) := F.out.drew
    have L0 : Hid (Lists W1.drew v1 (es.map Entry.val ++ [.slice ao bs.length cap])) := L
    have V0 : Hid (Lists W1.drew vw (es.map Entry.u)) := V
    have RL0 : Hid (Ed W1.drew g cap bs) := ⟨RL.out.1, RL.out.2⟩
    clear R F L V RL
    have R := R0
    have F := F0
    have L := L0
    have V := V0
    have RL := RL0
    clear R0 F0 L0 V0 RL0
    generalize W1.drew = W2 at *
    refine wpAnyH_take (i := 0) (oi := { dst := some 14, op := Op.move (Operand.tmp 0), type := 40, pos := "book.go:27", after := #[], guard := none }) (v := ?_) rfl (by kernel_rfl) (by kernel_rfl) (by kernel_rfl) (fun _ _ _ h => h) (Or.inl ⟨by rfl, ?_⟩) (by assumption) ?_
    rotate_left
    · intro w hSw
      clear hSw
      go_simp
      all_goals with_reducible rfl
    simp only [Act.put, List.setIfInBounds_toArray, List.set_cons_zero, List.set_cons_succ]
    refine wpAnyH_take (i := 1) (oi := { dst := some 15, op := Op.move (Operand.tmp 0), type := 40, pos := "book.go:27", after := #[], guard := none }) (v := ?_) rfl (by kernel_rfl) (by kernel_rfl) (by kernel_rfl) (fun _ _ _ h => h) (Or.inl ⟨by rfl, ?_⟩) (by assumption) ?_
    rotate_left
    · intro w hSw
      clear hSw
      go_simp
      all_goals with_reducible rfl
    simp only [Act.put, List.setIfInBounds_toArray, List.set_cons_zero, List.set_cons_succ]
    refine wpAnyH_take (i := 2) (oi := { dst := some 16, op := Op.nilCheck (Operand.tmp 15), type := 0, pos := "book.go:27", after := #[{ on := 1, ground := Ground.data }], guard := none }) (v := ?_) rfl (by kernel_rfl) (by kernel_rfl) (by kernel_rfl) (fun _ _ _ h => h) (Or.inl ⟨by rfl, ?_⟩) (by assumption) ?_
    rotate_left
    · intro w hSw
      clear hSw
      go_simp
      all_goals with_reducible rfl
    simp only [Act.put, List.setIfInBounds_toArray, List.set_cons_zero, List.set_cons_succ]
    refine wpAnyH_take (i := 3) (oi := { dst := some 17, op := Op.fieldAddr 31 (Operand.tmp 16) 1, type := 0, pos := "book.go:27", after := #[{ on := 2, ground := Ground.data }], guard := none }) (v := ?_) rfl (by kernel_rfl) (by kernel_rfl) (by kernel_rfl) (fun _ _ _ h => h) (Or.inl ⟨by rfl, ?_⟩) (by assumption) ?_
    rotate_left
    · intro w hSw
      clear hSw
      go_simp
      all_goals with_reducible rfl
    simp only [Act.put, List.setIfInBounds_toArray, List.set_cons_zero, List.set_cons_succ]
    refine wpAnyH_take (i := 5) (oi := { dst := some 19, op := Op.move (Operand.tmp 1), type := 22, pos := "book.go:27", after := #[], guard := none }) (v := ?_) rfl (by kernel_rfl) (by kernel_rfl) (by kernel_rfl) (fun _ _ _ h => h) (Or.inl ⟨by rfl, ?_⟩) (by assumption) ?_
    rotate_left
    · intro w hSw
      clear hSw
      go_simp
      all_goals with_reducible rfl
    simp only [Act.put, List.setIfInBounds_toArray, List.set_cons_zero, List.set_cons_succ]
    refine wpAnyH_ready (rs := [4, 6]) (by kernel_rfl) (by simp) ?_
    refine AllReadyH.cons (o := { dst := some 18, op := Op.load 29 (Operand.tmp 17), type := 29, pos := "book.go:27", after := #[{ on := 3, ground := Ground.data }], guard := none }) rfl (fun K hK => ?_) ?_
    · skip
      have c1 := (cells4 R.out).2.1
      go_simp
      refine hK.out _ _ trivial (fun hHeld => ?_)
      clear hK K c1
      try simp only [Act.put, List.setIfInBounds_toArray, List.set_cons_zero, List.set_cons_succ]
      refine wpAnyH_ready (rs := [6]) (by kernel_rfl) (by simp) ?_
      refine step_append (o := { dst := some 20, op := Op.call { callee := Callee.builtin Builtin.append, args := #[Operand.const (Value.slice none 0 0), Operand.tmp 19], argTypes := #[22, 22] }, type := 22, pos := "book.go:27", after := #[{ on := 5, ground := Ground.data }], guard := none }) rfl rfl _ _ 22 22 rfl _ _ rfl rfl (run_copy_nil _ _ bs 22 (RL.out.sliceAt HAO.out HB.out) HB.out) AllReadyH.nil ?_
      rintro u0 X2 ⟨hu, hg, hub⟩
      obtain ⟨aou, cu, rfl⟩ := hu.shape
      refine ⟨trivial, fun hHeld => ?_⟩
      try simp only [Act.put, List.setIfInBounds_toArray, List.set_cons_zero, List.set_cons_succ]
      have R2 := hide ((hg.block gB (block_lt_of_row R.out) (by simp)).trans R.out)
      have F2 := hide (F.out.grown hg (fun k _ h => by simp at h))
      have L2 := hide (L.out.kept (fun k hk => hg.block k (L.out.lt hk) (by simp)))
      have V2 := hide (V.out.kept (fun k hk => hg.block k (V.out.lt hk) (by simp)))
      have RL2 := hide (RL.out.kept fun k hk => hg.block k hk (by simp))
      have U := hide hu
      have UB : Hid (∀ k, (Value.slice aou bs.length cu).ownBlock = some k → w.heap.size ≤ k ∧ v1.ownBlock ≠ some k ∧ vw.ownBlock ≠ some k) := fun k hk => ⟨Nat.le_trans F.out.size (hub k hk), fun e => absurd (L.out.lt e) (by have := hub k hk; omega), fun e => absurd (V.out.lt e) (by have := hub k hk; omega)⟩
      clear R F L V RL hu hg hub
      have R := R2
      have F := F2
      have L := L2
      have V := V2
      have RL := RL2
      clear R2 F2 L2 V2 RL2
      refine wpAnyH_ready (rs := [7]) (by kernel_rfl) (by simp) ?_
      refine AllReadyH.cons (o := { dst := some 21, op := Op.buildSlice 29 1 #[(0, Operand.tmp 20)], type := 29, pos := "book.go:27", after := #[{ on := 6, ground := Ground.data }], guard := none }) rfl (fun K hK => ?_) AllReadyH.nil
      go_simp
      refine hK.out _ _ trivial (fun hHeld => ?_)
      clear hK K
      try simp only [Act.put, List.setIfInBounds_toArray, List.set_cons_zero, List.set_cons_succ]
      generalize hW : World.alloc X2 _ = X3 at *
      have R2 : Hid (X3.heap[gB]? = some (.cells #[v1, vw, .int .i64 (hw es), .bool false] 31 (0, 0))) := by rw [← hW]; exact (heap_alloc_old _ _ (block_lt_of_row R.out)).trans R.out
      have F2 : Hid (Fr gB vl vw w X3) := by rw [← hW]; exact F.out.alloc _
      have L2 : Hid (Lists X3 v1 (es.map Entry.val ++ [.slice ao bs.length cap])) := by rw [← hW]; exact L.out.kept (fun k hk => heap_alloc_old _ _ (L.out.lt hk))
      have V2 : Hid (Lists X3 vw (es.map Entry.u)) := by rw [← hW]; exact V.out.kept (fun k hk => heap_alloc_old _ _ (V.out.lt hk))
      have U2 : Hid (URow X3 (Value.slice aou bs.length cu) bs) := by rw [← hW]; exact U.out.kept (fun k hk => heap_alloc_old _ _ (U.out.lt hk))
      have N : Hid (X3.heap[X2.heap.size]? = some (.cells #[(Value.slice aou bs.length cu)] 22 (0, 0))) := by rw [← hW]; exact heap_alloc_new _ _
      have UL : Hid (∀ k, (Value.slice aou bs.length cu).ownBlock = some k → k < X3.heap.size) := fun k hk => U2.out.lt hk
      clear hW R F L V U RL
      have R := R2
      have F := F2
      have L := L2
      have V := V2
      have U := U2
      clear R2 F2 L2 V2 U2
      generalize X2.heap.size = gx at *
      refine wpAnyH_ready (rs := [8]) (by kernel_rfl) (by simp) ?_
      refine step_append (o := { dst := some 22, op := Op.call { callee := Callee.builtin Builtin.append, args := #[Operand.tmp 18, Operand.tmp 21], argTypes := #[29, 29] }, type := 29, pos := "book.go:27", after := #[{ on := 4, ground := Ground.data }, { on := 7, ground := Ground.data }, { on := 6, ground := Ground.chain }], guard := none }) rfl rfl _ _ 29 29 rfl _ _ rfl rfl (run_append_list _ vw (Value.slice aou bs.length cu) gx (es.map Entry.u) 29 V.out N.out U.out.one HN.out) AllReadyH.nil ?_
      rintro v2 X4 ⟨hV, hg, ho⟩
      obtain ⟨ao2, cc2, rfl⟩ := hV.shape
      obtain ⟨v2, hv2⟩ : ∃ v2, v2 = Value.slice ao2 (es.map Entry.u ++ [(Value.slice aou bs.length cu)]).length cc2 := ⟨_, rfl⟩
      rw [← hv2] at hV ho
      refine ⟨trivial, fun hHeld => ?_⟩
      try simp only [Act.put, List.setIfInBounds_toArray, List.set_cons_zero, List.set_cons_succ]
      have hne : vw.ownBlock ≠ some gB := fun e => (HBK.out.vwSep gB e).2.2.1 rfl
      have hsepv : ∀ k, v1.ownBlock = some k → vw.ownBlock ≠ some k := fun k hk e => by rcases HV1.out k hk with h' | h'; exact (HBK.out.vwSep k e).2.2.2 h'; exact absurd (HBK.out.was.lt e) (by omega)
      have R2 := hide ((hg.block gB (block_lt_of_row R.out) (fun e => hne e.symm)).trans R.out)
      have F2 := hide (F.out.grown hg (fun k _ h => Or.inr h))
      have L2 := hide (L.out.kept (fun k hk => hg.block k (L.out.lt hk) (fun e => hsepv k hk e.symm)))
      have U2 := hide (U.out.kept (fun k hk => hg.block k (U.out.lt hk) (fun e => (UB.out k hk).2.2 e.symm)))
      have V2 := hide hV
      have HV2 : Hid (∀ k, v2.ownBlock = some k → vw.ownBlock = some k ∨ (w.heap.size ≤ k ∧ v1.ownBlock ≠ some k ∧ (Value.slice aou bs.length cu).ownBlock ≠ some k)) := fun k hk => by
        rcases ho with h' | h'
        · exact Or.inl (h' ▸ hk)
        · rw [hk] at h'
          have hk2 := Option.some.inj h'
          exact Or.inr ⟨by rw [hk2]; exact F.out.size, fun e => absurd (L.out.lt e) (by omega), fun e => absurd (U.out.lt e) (by omega)⟩
      clear R F L V U hV hg ho N UL
      have R := R2
      have F := F2
      have L := L2
      have V := V2
      have U := U2
      clear R2 F2 L2 V2 U2 hsepv
      refine wpAnyH_take (i := 9) (oi := { dst := some 23, op := Op.nilCheck (Operand.tmp 14), type := 0, pos := "book.go:27", after := #[{ on := 0, ground := Ground.data }, { on := 0, ground := Ground.phase }, { on := 1, ground := Ground.phase }, { on := 2, ground := Ground.phase }, { on := 3, ground := Ground.phase }, { on := 4, ground := Ground.phase }, { on := 5, ground := Ground.phase }, { on := 6, ground := Ground.phase }, { on := 7, ground := Ground.phase }, { on := 8, ground := Ground.phase }], guard := none }) (v := ?_) rfl (by kernel_rfl) (by kernel_rfl) (by kernel_rfl) (fun _ _ _ h => h) (Or.inl ⟨by rfl, ?_⟩) (by assumption) ?_
      rotate_left
      · intro w hSw
        clear hSw
        go_simp
        all_goals with_reducible rfl
      simp only [Act.put, List.setIfInBounds_toArray, List.set_cons_zero, List.set_cons_succ]
      refine wpAnyH_take (i := 10) (oi := { dst := some 24, op := Op.fieldAddr 31 (Operand.tmp 23) 1, type := 0, pos := "book.go:27", after := #[{ on := 9, ground := Ground.data }, { on := 0, ground := Ground.phase }, { on := 1, ground := Ground.phase }, { on := 2, ground := Ground.phase }, { on := 3, ground := Ground.phase }, { on := 4, ground := Ground.phase }, { on := 5, ground := Ground.phase }, { on := 6, ground := Ground.phase }, { on := 7, ground := Ground.phase }, { on := 8, ground := Ground.phase }], guard := none }) (v := ?_) rfl (by kernel_rfl) (by kernel_rfl) (by kernel_rfl) (fun _ _ _ h => h) (Or.inl ⟨by rfl, ?_⟩) (by assumption) ?_
      rotate_left
      · intro w hSw
        clear hSw
        go_simp
        all_goals with_reducible rfl
      simp only [Act.put, List.setIfInBounds_toArray, List.set_cons_zero, List.set_cons_succ]
      refine wpAnyH_ready (rs := [11]) (by kernel_rfl) (by simp) ?_
      refine AllReadyH.cons (o := { dst := none, op := Op.store 29 (Operand.tmp 24) (Operand.tmp 22), type := 0, pos := "book.go:27", after := #[{ on := 10, ground := Ground.data }, { on := 8, ground := Ground.data }, { on := 8, ground := Ground.chain }, { on := 0, ground := Ground.phase }, { on := 1, ground := Ground.phase }, { on := 2, ground := Ground.phase }, { on := 3, ground := Ground.phase }, { on := 4, ground := Ground.phase }, { on := 5, ground := Ground.phase }, { on := 6, ground := Ground.phase }, { on := 7, ground := Ground.phase }, { on := 8, ground := Ground.phase }], guard := none }) rfl (fun K hK => ?_) AllReadyH.nil
      have c1 := (cells4 R.out).2.1
      have f1 := frozen_of_row _ _ 1 _ _ R.out
      go_simp
      refine hK.out _ _ trivial (fun hHeld => ?_)
      clear hK K c1 f1
      try simp only [Act.put, List.setIfInBounds_toArray, List.set_cons_zero, List.set_cons_succ]
      refine wpAnyH_done (by kernel_rfl) ?_ _
      refine NoPanic.normal ?_
      go_wp2_with fail
      go_meet
      simp only [List.length_append, List.length_map, List.length_singleton] at hv2
      try rw [← hv2]
      exact keepMid HBK HV1 R F L V U UB HV2
    refine step_append (o := { dst := some 20, op := Op.call { callee := Callee.builtin Builtin.append, args := #[Operand.const (Value.slice none 0 0), Operand.tmp 19], argTypes := #[22, 22] }, type := 22, pos := "book.go:27", after := #[{ on := 5, ground := Ground.data }], guard := none }) rfl rfl _ _ 22 22 rfl _ _ rfl rfl (run_copy_nil _ _ bs 22 (RL.out.sliceAt HAO.out HB.out) HB.out) AllReadyH.nil ?_
    rintro u0 X5 ⟨hu, hg, hub⟩
    obtain ⟨aou, cu, rfl⟩ := hu.shape
    refine ⟨trivial, fun hHeld => ?_⟩
    try simp only [Act.put, List.setIfInBounds_toArray, List.set_cons_zero, List.set_cons_succ]
    have R2 := hide ((hg.block gB (block_lt_of_row R.out) (by simp)).trans R.out)
    have F2 := hide (F.out.grown hg (fun k _ h => by simp at h))
    have L2 := hide (L.out.kept (fun k hk => hg.block k (L.out.lt hk) (by simp)))
    have V2 := hide (V.out.kept (fun k hk => hg.block k (V.out.lt hk) (by simp)))
    have RL2 := hide (RL.out.kept fun k hk => hg.block k hk (by simp))
    have U := hide hu
    have UB : Hid (∀ k, (Value.slice aou bs.length cu).ownBlock = some k → w.heap.size ≤ k ∧ v1.ownBlock ≠ some k ∧ vw.ownBlock ≠ some k) := fun k hk => ⟨Nat.le_trans F.out.size (hub k hk), fun e => absurd (L.out.lt e) (by have := hub k hk; omega), fun e => absurd (V.out.lt e) (by have := hub k hk; omega)⟩
    clear R F L V RL hu hg hub
    have R := R2
    have F := F2
    have L := L2
    have V := V2
    have RL := RL2
    clear R2 F2 L2 V2 RL2
    refine wpAnyH_ready (rs := [4, 7]) (by kernel_rfl) (by simp) ?_
    refine AllReadyH.cons (o := { dst := some 18, op := Op.load 29 (Operand.tmp 17), type := 29, pos := "book.go:27", after := #[{ on := 3, ground := Ground.data }], guard := none }) rfl (fun K hK => ?_) ?_
    · skip
      have c1 := (cells4 R.out).2.1
      go_simp
      refine hK.out _ _ trivial (fun hHeld => ?_)
      clear hK K c1
      try simp only [Act.put, List.setIfInBounds_toArray, List.set_cons_zero, List.set_cons_succ]
      refine wpAnyH_ready (rs := [7]) (by kernel_rfl) (by simp) ?_
      refine AllReadyH.cons (o := { dst := some 21, op := Op.buildSlice 29 1 #[(0, Operand.tmp 20)], type := 29, pos := "book.go:27", after := #[{ on := 6, ground := Ground.data }], guard := none }) rfl (fun K hK => ?_) AllReadyH.nil
      go_simp
      refine hK.out _ _ trivial (fun hHeld => ?_)
      clear hK K
      try simp only [Act.put, List.setIfInBounds_toArray, List.set_cons_zero, List.set_cons_succ]
      generalize hW : World.alloc X5 _ = X7 at *
      have R2 : Hid (X7.heap[gB]? = some (.cells #[v1, vw, .int .i64 (hw es), .bool false] 31 (0, 0))) := by rw [← hW]; exact (heap_alloc_old _ _ (block_lt_of_row R.out)).trans R.out
      have F2 : Hid (Fr gB vl vw w X7) := by rw [← hW]; exact F.out.alloc _
      have L2 : Hid (Lists X7 v1 (es.map Entry.val ++ [.slice ao bs.length cap])) := by rw [← hW]; exact L.out.kept (fun k hk => heap_alloc_old _ _ (L.out.lt hk))
      have V2 : Hid (Lists X7 vw (es.map Entry.u)) := by rw [← hW]; exact V.out.kept (fun k hk => heap_alloc_old _ _ (V.out.lt hk))
      have U2 : Hid (URow X7 (Value.slice aou bs.length cu) bs) := by rw [← hW]; exact U.out.kept (fun k hk => heap_alloc_old _ _ (U.out.lt hk))
      have N : Hid (X7.heap[X5.heap.size]? = some (.cells #[(Value.slice aou bs.length cu)] 22 (0, 0))) := by rw [← hW]; exact heap_alloc_new _ _
      have UL : Hid (∀ k, (Value.slice aou bs.length cu).ownBlock = some k → k < X7.heap.size) := fun k hk => U2.out.lt hk
      clear hW R F L V U RL
      have R := R2
      have F := F2
      have L := L2
      have V := V2
      have U := U2
      clear R2 F2 L2 V2 U2
      generalize X5.heap.size = gx at *
      refine wpAnyH_ready (rs := [8]) (by kernel_rfl) (by simp) ?_
      refine step_append (o := { dst := some 22, op := Op.call { callee := Callee.builtin Builtin.append, args := #[Operand.tmp 18, Operand.tmp 21], argTypes := #[29, 29] }, type := 29, pos := "book.go:27", after := #[{ on := 4, ground := Ground.data }, { on := 7, ground := Ground.data }, { on := 6, ground := Ground.chain }], guard := none }) rfl rfl _ _ 29 29 rfl _ _ rfl rfl (run_append_list _ vw (Value.slice aou bs.length cu) gx (es.map Entry.u) 29 V.out N.out U.out.one HN.out) AllReadyH.nil ?_
      rintro v2 X8 ⟨hV, hg, ho⟩
      obtain ⟨ao2, cc2, rfl⟩ := hV.shape
      obtain ⟨v2, hv2⟩ : ∃ v2, v2 = Value.slice ao2 (es.map Entry.u ++ [(Value.slice aou bs.length cu)]).length cc2 := ⟨_, rfl⟩
      rw [← hv2] at hV ho
      refine ⟨trivial, fun hHeld => ?_⟩
      try simp only [Act.put, List.setIfInBounds_toArray, List.set_cons_zero, List.set_cons_succ]
      have hne : vw.ownBlock ≠ some gB := fun e => (HBK.out.vwSep gB e).2.2.1 rfl
      have hsepv : ∀ k, v1.ownBlock = some k → vw.ownBlock ≠ some k := fun k hk e => by rcases HV1.out k hk with h' | h'; exact (HBK.out.vwSep k e).2.2.2 h'; exact absurd (HBK.out.was.lt e) (by omega)
      have R2 := hide ((hg.block gB (block_lt_of_row R.out) (fun e => hne e.symm)).trans R.out)
      have F2 := hide (F.out.grown hg (fun k _ h => Or.inr h))
      have L2 := hide (L.out.kept (fun k hk => hg.block k (L.out.lt hk) (fun e => hsepv k hk e.symm)))
      have U2 := hide (U.out.kept (fun k hk => hg.block k (U.out.lt hk) (fun e => (UB.out k hk).2.2 e.symm)))
      have V2 := hide hV
      have HV2 : Hid (∀ k, v2.ownBlock = some k → vw.ownBlock = some k ∨ (w.heap.size ≤ k ∧ v1.ownBlock ≠ some k ∧ (Value.slice aou bs.length cu).ownBlock ≠ some k)) := fun k hk => by
        rcases ho with h' | h'
        · exact Or.inl (h' ▸ hk)
        · rw [hk] at h'
          have hk2 := Option.some.inj h'
          exact Or.inr ⟨by rw [hk2]; exact F.out.size, fun e => absurd (L.out.lt e) (by omega), fun e => absurd (U.out.lt e) (by omega)⟩
      clear R F L V U hV hg ho N UL
      have R := R2
      have F := F2
      have L := L2
      have V := V2
      have U := U2
      clear R2 F2 L2 V2 U2 hsepv
      refine wpAnyH_take (i := 9) (oi := { dst := some 23, op := Op.nilCheck (Operand.tmp 14), type := 0, pos := "book.go:27", after := #[{ on := 0, ground := Ground.data }, { on := 0, ground := Ground.phase }, { on := 1, ground := Ground.phase }, { on := 2, ground := Ground.phase }, { on := 3, ground := Ground.phase }, { on := 4, ground := Ground.phase }, { on := 5, ground := Ground.phase }, { on := 6, ground := Ground.phase }, { on := 7, ground := Ground.phase }, { on := 8, ground := Ground.phase }], guard := none }) (v := ?_) rfl (by kernel_rfl) (by kernel_rfl) (by kernel_rfl) (fun _ _ _ h => h) (Or.inl ⟨by rfl, ?_⟩) (by assumption) ?_
      rotate_left
      · intro w hSw
        clear hSw
        go_simp
        all_goals with_reducible rfl
      simp only [Act.put, List.setIfInBounds_toArray, List.set_cons_zero, List.set_cons_succ]
      refine wpAnyH_take (i := 10) (oi := { dst := some 24, op := Op.fieldAddr 31 (Operand.tmp 23) 1, type := 0, pos := "book.go:27", after := #[{ on := 9, ground := Ground.data }, { on := 0, ground := Ground.phase }, { on := 1, ground := Ground.phase }, { on := 2, ground := Ground.phase }, { on := 3, ground := Ground.phase }, { on := 4, ground := Ground.phase }, { on := 5, ground := Ground.phase }, { on := 6, ground := Ground.phase }, { on := 7, ground := Ground.phase }, { on := 8, ground := Ground.phase }], guard := none }) (v := ?_) rfl (by kernel_rfl) (by kernel_rfl) (by kernel_rfl) (fun _ _ _ h => h) (Or.inl ⟨by rfl, ?_⟩) (by assumption) ?_
      rotate_left
      · intro w hSw
        clear hSw
        go_simp
        all_goals with_reducible rfl
      simp only [Act.put, List.setIfInBounds_toArray, List.set_cons_zero, List.set_cons_succ]
      refine wpAnyH_ready (rs := [11]) (by kernel_rfl) (by simp) ?_
      refine AllReadyH.cons (o := { dst := none, op := Op.store 29 (Operand.tmp 24) (Operand.tmp 22), type := 0, pos := "book.go:27", after := #[{ on := 10, ground := Ground.data }, { on := 8, ground := Ground.data }, { on := 8, ground := Ground.chain }, { on := 0, ground := Ground.phase }, { on := 1, ground := Ground.phase }, { on := 2, ground := Ground.phase }, { on := 3, ground := Ground.phase }, { on := 4, ground := Ground.phase }, { on := 5, ground := Ground.phase }, { on := 6, ground := Ground.phase }, { on := 7, ground := Ground.phase }, { on := 8, ground := Ground.phase }], guard := none }) rfl (fun K hK => ?_) AllReadyH.nil
      have c1 := (cells4 R.out).2.1
      have f1 := frozen_of_row _ _ 1 _ _ R.out
      go_simp
      refine hK.out _ _ trivial (fun hHeld => ?_)
      clear hK K c1 f1
      try simp only [Act.put, List.setIfInBounds_toArray, List.set_cons_zero, List.set_cons_succ]
      refine wpAnyH_done (by kernel_rfl) ?_ _
      refine NoPanic.normal ?_
      go_wp2_with fail
      go_meet
      simp only [List.length_append, List.length_map, List.length_singleton] at hv2
      try rw [← hv2]
      exact keepMid HBK HV1 R F L V U UB HV2
    refine AllReadyH.cons (o := { dst := some 21, op := Op.buildSlice 29 1 #[(0, Operand.tmp 20)], type := 29, pos := "book.go:27", after := #[{ on := 6, ground := Ground.data }], guard := none }) rfl (fun K hK => ?_) AllReadyH.nil
    go_simp
    refine hK.out _ _ trivial (fun hHeld => ?_)
    clear hK K
    try simp only [Act.put, List.setIfInBounds_toArray, List.set_cons_zero, List.set_cons_succ]
    generalize hW : World.alloc X5 _ = X9 at *
    have R2 : Hid (X9.heap[gB]? = some (.cells #[v1, vw, .int .i64 (hw es), .bool false] 31 (0, 0))) := by rw [← hW]; exact (heap_alloc_old _ _ (block_lt_of_row R.out)).trans R.out
    have F2 : Hid (Fr gB vl vw w X9) := by rw [← hW]; exact F.out.alloc _
    have L2 : Hid (Lists X9 v1 (es.map Entry.val ++ [.slice ao bs.length cap])) := by rw [← hW]; exact L.out.kept (fun k hk => heap_alloc_old _ _ (L.out.lt hk))
    have V2 : Hid (Lists X9 vw (es.map Entry.u)) := by rw [← hW]; exact V.out.kept (fun k hk => heap_alloc_old _ _ (V.out.lt hk))
    have U2 : Hid (URow X9 (Value.slice aou bs.length cu) bs) := by rw [← hW]; exact U.out.kept (fun k hk => heap_alloc_old _ _ (U.out.lt hk))
    have N : Hid (X9.heap[X5.heap.size]? = some (.cells #[(Value.slice aou bs.length cu)] 22 (0, 0))) := by rw [← hW]; exact heap_alloc_new _ _
    have UL : Hid (∀ k, (Value.slice aou bs.length cu).ownBlock = some k → k < X9.heap.size) := fun k hk => U2.out.lt hk
    clear hW R F L V U RL
    have R := R2
    have F := F2
    have L := L2
    have V := V2
    have U := U2
    clear R2 F2 L2 V2 U2
    generalize X5.heap.size = gx at *
    refine wpAnyH_ready (rs := [4]) (by kernel_rfl) (by simp) ?_
    refine AllReadyH.cons (o := { dst := some 18, op := Op.load 29 (Operand.tmp 17), type := 29, pos := "book.go:27", after := #[{ on := 3, ground := Ground.data }], guard := none }) rfl (fun K hK => ?_) AllReadyH.nil
    have c1 := (cells4 R.out).2.1
    go_simp
    refine hK.out _ _ trivial (fun hHeld => ?_)
    clear hK K c1
    try simp only [Act.put, List.setIfInBounds_toArray, List.set_cons_zero, List.set_cons_succ]
    refine wpAnyH_ready (rs := [8]) (by kernel_rfl) (by simp) ?_
    refine step_append (o := { dst := some 22, op := Op.call { callee := Callee.builtin Builtin.append, args := #[Operand.tmp 18, Operand.tmp 21], argTypes := #[29, 29] }, type := 29, pos := "book.go:27", after := #[{ on := 4, ground := Ground.data }, { on := 7, ground := Ground.data }, { on := 6, ground := Ground.chain }], guard := none }) rfl rfl _ _ 29 29 rfl _ _ rfl rfl (run_append_list _ vw (Value.slice aou bs.length cu) gx (es.map Entry.u) 29 V.out N.out U.out.one HN.out) AllReadyH.nil ?_
    rintro v2 X11 ⟨hV, hg, ho⟩
    obtain ⟨ao2, cc2, rfl⟩ := hV.shape
    obtain ⟨v2, hv2⟩ : ∃ v2, v2 = Value.slice ao2 (es.map Entry.u ++ [(Value.slice aou bs.length cu)]).length cc2 := ⟨_, rfl⟩
    rw [← hv2] at hV ho
    refine ⟨trivial, fun hHeld => ?_⟩
    try simp only [Act.put, List.setIfInBounds_toArray, List.set_cons_zero, List.set_cons_succ]
    have hne : vw.ownBlock ≠ some gB := fun e => (HBK.out.vwSep gB e).2.2.1 rfl
    have hsepv : ∀ k, v1.ownBlock = some k → vw.ownBlock ≠ some k := fun k hk e => by rcases HV1.out k hk with h' | h'; exact (HBK.out.vwSep k e).2.2.2 h'; exact absurd (HBK.out.was.lt e) (by omega)
    have R2 := hide ((hg.block gB (block_lt_of_row R.out) (fun e => hne e.symm)).trans R.out)
    have F2 := hide (F.out.grown hg (fun k _ h => Or.inr h))
    have L2 := hide (L.out.kept (fun k hk => hg.block k (L.out.lt hk) (fun e => hsepv k hk e.symm)))
    have U2 := hide (U.out.kept (fun k hk => hg.block k (U.out.lt hk) (fun e => (UB.out k hk).2.2 e.symm)))
    have V2 := hide hV
    have HV2 : Hid (∀ k, v2.ownBlock = some k → vw.ownBlock = some k ∨ (w.heap.size ≤ k ∧ v1.ownBlock ≠ some k ∧ (Value.slice aou bs.length cu).ownBlock ≠ some k)) := fun k hk => by
      rcases ho with h' | h'
      · exact Or.inl (h' ▸ hk)
      · rw [hk] at h'
        have hk2 := Option.some.inj h'
        exact Or.inr ⟨by rw [hk2]; exact F.out.size, fun e => absurd (L.out.lt e) (by omega), fun e => absurd (U.out.lt e) (by omega)⟩
    clear R F L V U hV hg ho N UL
    have R := R2
    have F := F2
    have L := L2
    have V := V2
    have U := U2
    clear R2 F2 L2 V2 U2 hsepv
    refine wpAnyH_take (i := 9) (oi := { dst := some 23, op := Op.nilCheck (Operand.tmp 14), type := 0, pos := "book.go:27", after := #[{ on := 0, ground := Ground.data }, { on := 0, ground := Ground.phase }, { on := 1, ground := Ground.phase }, { on := 2, ground := Ground.phase }, { on := 3, ground := Ground.phase }, { on := 4, ground := Ground.phase }, { on := 5, ground := Ground.phase }, { on := 6, ground := Ground.phase }, { on := 7, ground := Ground.phase }, { on := 8, ground := Ground.phase }], guard := none }) (v := ?_) rfl (by kernel_rfl) (by kernel_rfl) (by kernel_rfl) (fun _ _ _ h => h) (Or.inl ⟨by rfl, ?_⟩) (by assumption) ?_
    rotate_left
    · intro w hSw
      clear hSw
      go_simp
      all_goals with_reducible rfl
    simp only [Act.put, List.setIfInBounds_toArray, List.set_cons_zero, List.set_cons_succ]
    refine wpAnyH_take (i := 10) (oi := { dst := some 24, op := Op.fieldAddr 31 (Operand.tmp 23) 1, type := 0, pos := "book.go:27", after := #[{ on := 9, ground := Ground.data }, { on := 0, ground := Ground.phase }, { on := 1, ground := Ground.phase }, { on := 2, ground := Ground.phase }, { on := 3, ground := Ground.phase }, { on := 4, ground := Ground.phase }, { on := 5, ground := Ground.phase }, { on := 6, ground := Ground.phase }, { on := 7, ground := Ground.phase }, { on := 8, ground := Ground.phase }], guard := none }) (v := ?_) rfl (by kernel_rfl) (by kernel_rfl) (by kernel_rfl) (fun _ _ _ h => h) (Or.inl ⟨by rfl, ?_⟩) (by assumption) ?_
    rotate_left
    · intro w hSw
      clear hSw
      go_simp
      all_goals with_reducible rfl
    simp only [Act.put, List.setIfInBounds_toArray, List.set_cons_zero, List.set_cons_succ]
    refine wpAnyH_ready (rs := [11]) (by kernel_rfl) (by simp) ?_
    refine AllReadyH.cons (o := { dst := none, op := Op.store 29 (Operand.tmp 24) (Operand.tmp 22), type := 0, pos := "book.go:27", after := #[{ on := 10, ground := Ground.data }, { on := 8, ground := Ground.data }, { on := 8, ground := Ground.chain }, { on := 0, ground := Ground.phase }, { on := 1, ground := Ground.phase }, { on := 2, ground := Ground.phase }, { on := 3, ground := Ground.phase }, { on := 4, ground := Ground.phase }, { on := 5, ground := Ground.phase }, { on := 6, ground := Ground.phase }, { on := 7, ground := Ground.phase }, { on := 8, ground := Ground.phase }], guard := none }) rfl (fun K hK => ?_) AllReadyH.nil
    have c1 := (cells4 R.out).2.1
    have f1 := frozen_of_row _ _ 1 _ _ R.out
    go_simp
    refine hK.out _ _ trivial (fun hHeld => ?_)
    clear hK K c1 f1
    try simp only [Act.put, List.setIfInBounds_toArray, List.set_cons_zero, List.set_cons_succ]
    refine wpAnyH_done (by kernel_rfl) ?_ _
    refine NoPanic.normal ?_
    go_wp2_with fail
    go_meet
    simp only [List.length_append, List.length_map, List.length_singleton] at hv2
    try rw [← hv2]
    exact keepMid HBK HV1 R F L V U UB HV2

  case rest =>
    obtain ⟨u, v2, r, f, l, v, uu, ub, hv2, hs⟩ := hcut
    have c2 := (cells4 r).2.2.1
    have f2 := frozen_of_row _ _ 2 _ _ r
    obtain ⟨hd, hhd⟩ : ∃ hd, hd = hw es := ⟨_, rfl⟩
    rw [← hhd] at c2 r
    obtain ⟨H1, q1⟩ : ∃ H1, IntKind.i64.wrap ((hd : Int) + (cap : Int)) = H1 := ⟨_, rfl⟩
    obtain ⟨H2, q2⟩ : ∃ H2, IntKind.i64.wrap (H1 + 1) = H2 := ⟨_, rfl⟩
    have HQ : Hid (hw (es ++ [⟨g, cap, bs, u⟩]) = H2) := by
      show hw (es ++ [⟨g, cap, bs, u⟩]) = H2
      rw [← q2, ← q1, hhd]
      exact hw_more es ⟨g, cap, bs, u⟩
    have A := hide r
    have B := hide f
    have C := hide l
    have D := hide v
    have E1 := hide uu
    have E2 := hide ub
    have E3 := hide hv2
    have E4 := hide hs
    have HD := hide hhd
    clear r f l v uu ub hv2 hs hhd
    go_wp2
    generalize hW3 : World.setCell wc ⟨gB, 2, none⟩ _ = W3
    have BK : Hid (BookIs W3 gB base W3.heap.size v1 v2 (es ++ [⟨g, cap, bs, u⟩])) := by
      have hb1 : ∀ k, v1.ownBlock = some k → k ≠ gB := fun k hk => by
        rcases HV1.out k hk with h' | h'
        · exact (HBK.out.vlSep k h').2.2
        · omega
      have hb2 : ∀ k, v2.ownBlock = some k → k ≠ gB := fun k hk => by
        rcases E3.out k hk with h' | h'
        · exact (HBK.out.vwSep k h').2.2.1
        · omega
      refine HBK.out.more HR.out HAO.out htop hbase hcap hbl0 ?_ ?_ ?_ ?_ HV1.out E3.out E4.out ?_ E2.out hfew
      · rw [← hW3, heap_setCell_same _ _ _ _ _ _ A.out, HQ.out]
        rfl
      · rw [← hW3]; exact B.out.setCell 2 _
      · rw [← hW3]; exact C.out.kept fun k hk => heap_setCell_other _ _ _ _ (hb1 k hk)
      · rw [← hW3]; exact D.out.kept fun k hk => heap_setCell_other _ _ _ _ (hb2 k hk)
      · rw [← hW3]; exact E1.out.kept fun k hk => heap_setCell_other _ _ _ _ (by have := (E2.out k hk).1; show k ≠ gB; omega)
    have BL : Hid (KeptFrom base top w W3) := by
      have hfr : Fr gB vl vw w W3 := by rw [← hW3]; exact B.out.setCell 2 _
      exact ⟨hfr.below HBK.out, fun k hk hk2 => hfr.block k hk2 (by have := HBK.out.hi; omega) (fun e => by have := (HBK.out.vlSep k e).2.1; omega) (fun e => by have := (HBK.out.vwSep k e).2.1; omega)⟩
    have HTG : Hid (gB < top) := HBK.out.hi
    have BN : Hid (BookNo H v1 v2 (es ++ [⟨g, cap, bs, u⟩])) := ⟨fun k hk => by rcases HV1.out k hk with h' | h'; exact HH.out.vl k h'; exact HHN.out k h', fun k hk => by rcases E3.out k hk with h' | h'; exact HH.out.vw k h'; exact HHN.out k h', fun e he => by
      rcases List.mem_append.1 he with h' | h'
      · exact HH.out.ents e h'
      · rw [List.mem_singleton.1 h']; exact ⟨HHG.out, fun k hk => HHN.out k (E2.out k hk).1⟩⟩
    have HLE : Hid ((es ++ [(⟨g, cap, bs, u⟩ : Entry)]).length ≤ es.length + 1) := by show (es ++ [(⟨g, cap, bs, u⟩ : Entry)]).length ≤ es.length + 1; simp
    generalize es ++ [(⟨g, cap, bs, u⟩ : Entry)] = es1 at *
    clear hW3 A B C D E1 E2 E3 E4 HD c2 f2 q1 q2 HQ HR HB HN HM HV1 htop hbase
    go_loopw [36] (fun _ wr => ∃ vl' vw' es', BookIs wr gB base W3.heap.size vl' vw' es' ∧ es'.length ≤ es.length + 1 ∧ KeptFrom base top w wr ∧ BookNo H vl' vw' es') (fun _ wr => lenAt wr gB)
    case atStart => exact ⟨v1, v2, es1, BK.out, HLE.out, BL.out, BN.out⟩
    case round =>
      obtain ⟨vl', vw', es', hbk, hle, hbl⟩ := hrel
      clear BK BL HLE BN
      obtain ⟨aol, cl, hvl⟩ := hbk.lists.shape
      obtain ⟨aow, cw, hvw⟩ := hbk.was.shape
      rw [List.length_map] at hvl hvw
      subst hvl hvw
      obtain ⟨n, hn⟩ : ∃ n, n = es'.length := ⟨_, rfl⟩
      obtain ⟨hd, hhd⟩ : ∃ hd, hd = hw es' := ⟨_, rfl⟩
      have c4 := cells4 hbk.row
      rw [← hn, ← hhd] at c4
      obtain ⟨c0, c1, c2, c3⟩ := c4
      have hfw := hbk.few
      have hn4 : ¬ ((4000 : Int) < (n : Int)) := by omega
      by_cases h1 : 1 < n
      · have p1 : (1 : Int) < (n : Int) := by omega
        by_cases h2 : (1000000 : Int) < (hd : Int)
        · obtain ⟨e, es2, rfl⟩ : ∃ e es2, es' = e :: es2 := by
            cases es' with
            | nil => simp at hn; omega
            | cons e es2 => exact ⟨e, es2, rfl⟩
          rw [List.length_cons] at hn
          obtain ⟨gl, ol, cl', hx, hcl, hcell⟩ := hbk.lists.at 0 (by simp)
          obtain ⟨gw, ow, cw', hy, hcw, hcelw⟩ := hbk.was.at 0 (by simp)
          simp only [Value.slice.injEq, List.length_map, List.length_cons, true_and] at hx hy hcl hcw
          obtain ⟨rfl, rfl⟩ := hx
          obtain ⟨rfl, rfl⟩ := hy
          have hen := hbk.ents e (List.mem_cons_self)
          have hbs : e.bs.length ≤ 100000 := hen.bsl
          obtain ⟨aou, cu, hus⟩ := hen.cp.shape
          have d1 : wr.cell? ⟨gl, ol, none⟩ = some (.slice (aoOf e.g) e.bs.length e.cap) := hcell
          have d2 : wr.cell? ⟨gw, ow, none⟩ = some (.slice aou e.bs.length cu) := by rw [← hus]; exact hcelw
          have S1 := hide (hen.ed.sliceAt rfl hbs)
          have S2 : Hid (SliceAt wr (.slice aou e.bs.length cu) e.bs) := by rw [← hus]; exact hen.cp.sliceAt hbs
          have hcape := hen.capl
          have hglB : gl ≠ gB := (hbk.vlSep gl rfl).2.2
          have BK := hide hbk
          have HLE := hide hle
          have HBL := hide hbl
          have HN2 := hide hn
          have HHD := hide hhd
          have e0 : (0 : Int) < (n : Int) := by omega
          have k1 : ¬ cl = 1 := by omega
          have k2 : ¬ cw = 1 := by omega
          clear hbk hle hbl hcell hcelw hen hus hhd
          have row4 : Hid (wr.heap[gB]? = some (.cells #[(.slice (some ⟨gl, ol, none⟩) n cl), (.slice (some ⟨gw, ow, none⟩) n cw), .int .i64 (hd : Int), .bool false] 31 (0, 0))) := by show wr.heap[gB]? = _; rw [HN2.out, HHD.out]; exact BK.out.row
          go_wp2
          refine wp_region_noPanic ?_
          refine wp_region_held_drew (S := (fun w' => Still wr w')) follows ((Still.refl _).drew) (fun hHeld => ?_)
          refine wpAnyH_take (i := 0) (oi := { dst := some 57, op := Op.move (Operand.tmp 0), type := 40, pos := "book.go:30", after := #[], guard := none }) (v := ?_) rfl (by kernel_rfl) (by kernel_rfl) (by kernel_rfl) (fun _ _ _ h => h) (Or.inl ⟨by rfl, ?_⟩) (by assumption) ?_
          rotate_left
          · intro w hSw
            clear hSw
            go_simp
            all_goals with_reducible rfl
          simp only [Act.put, List.setIfInBounds_toArray, List.set_cons_zero, List.set_cons_succ]
          refine wpAnyH_take (i := 1) (oi := { dst := some 58, op := Op.move (Operand.tmp 0), type := 40, pos := "book.go:30", after := #[], guard := none }) (v := ?_) rfl (by kernel_rfl) (by kernel_rfl) (by kernel_rfl) (fun _ _ _ h => h) (Or.inl ⟨by rfl, ?_⟩) (by assumption) ?_
          rotate_left
          · intro w hSw
            clear hSw
            go_simp
            all_goals with_reducible rfl
          simp only [Act.put, List.setIfInBounds_toArray, List.set_cons_zero, List.set_cons_succ]
          refine wpAnyH_take (i := 2) (oi := { dst := some 59, op := Op.nilCheck (Operand.tmp 58), type := 0, pos := "book.go:30", after := #[{ on := 1, ground := Ground.data }], guard := none }) (v := ?_) rfl (by kernel_rfl) (by kernel_rfl) (by kernel_rfl) (fun _ _ _ h => h) (Or.inl ⟨by rfl, ?_⟩) (by assumption) ?_
          rotate_left
          · intro w hSw
            clear hSw
            go_simp
            all_goals with_reducible rfl
          simp only [Act.put, List.setIfInBounds_toArray, List.set_cons_zero, List.set_cons_succ]
          refine wpAnyH_take (i := 3) (oi := { dst := some 60, op := Op.fieldAddr 31 (Operand.tmp 59) 3, type := 0, pos := "book.go:30", after := #[{ on := 2, ground := Ground.data }], guard := none }) (v := ?_) rfl (by kernel_rfl) (by kernel_rfl) (by kernel_rfl) (fun _ _ _ h => h) (Or.inl ⟨by rfl, ?_⟩) (by assumption) ?_
          rotate_left
          · intro w hSw
            clear hSw
            go_simp
            all_goals with_reducible rfl
          simp only [Act.put, List.setIfInBounds_toArray, List.set_cons_zero, List.set_cons_succ]
          refine wpAnyH_take (i := 4) (oi := { dst := some 61, op := Op.load 4 (Operand.tmp 60), type := 4, pos := "book.go:30", after := #[{ on := 3, ground := Ground.data }], guard := none }) (v := ?_) rfl (by kernel_rfl) (by kernel_rfl) (by kernel_rfl) (fun _ _ _ h => h) (Or.inl ⟨by rfl, ?_⟩) (by assumption) ?_
          rotate_left
          · intro w hSw
            have h3 := Still.cell hSw c3
            clear hSw
            go_simp
            all_goals with_reducible rfl
          simp only [Act.put, List.setIfInBounds_toArray, List.set_cons_zero, List.set_cons_succ]
          refine wpAnyH_take (i := 5) (oi := { dst := some 62, op := Op.move (Operand.tmp 61), type := 4, pos := "book.go:30", after := #[{ on := 4, ground := Ground.data }], guard := none }) (v := ?_) rfl (by kernel_rfl) (by kernel_rfl) (by kernel_rfl) (fun _ _ _ h => h) (Or.inl ⟨by rfl, ?_⟩) (by assumption) ?_
          rotate_left
          · intro w hSw
            clear hSw
            go_simp
            all_goals with_reducible rfl
          simp only [Act.put, List.setIfInBounds_toArray, List.set_cons_zero, List.set_cons_succ]
          refine wpAnyH_take (i := 6) (oi := { dst := some 63, op := Op.move (Operand.tmp 0), type := 40, pos := "book.go:30", after := #[{ on := 5, ground := Ground.guard }], guard := some (5, false) }) (v := ?_) rfl (by kernel_rfl) (by kernel_rfl) (by kernel_rfl) (fun _ _ _ h => h) (Or.inl ⟨by rfl, ?_⟩) (by assumption) ?_
          rotate_left
          · intro w hSw
            clear hSw
            go_simp
            all_goals with_reducible rfl
          simp only [Act.put, List.setIfInBounds_toArray, List.set_cons_zero, List.set_cons_succ]
          refine wpAnyH_take (i := 7) (oi := { dst := some 64, op := Op.nilCheck (Operand.tmp 63), type := 0, pos := "book.go:30", after := #[{ on := 6, ground := Ground.data }, { on := 5, ground := Ground.guard }], guard := some (5, false) }) (v := ?_) rfl (by kernel_rfl) (by kernel_rfl) (by kernel_rfl) (fun _ _ _ h => h) (Or.inl ⟨by rfl, ?_⟩) (by assumption) ?_
          rotate_left
          · intro w hSw
            clear hSw
            go_simp
            all_goals with_reducible rfl
          simp only [Act.put, List.setIfInBounds_toArray, List.set_cons_zero, List.set_cons_succ]
          refine wpAnyH_take (i := 8) (oi := { dst := some 65, op := Op.fieldAddr 31 (Operand.tmp 64) 0, type := 0, pos := "book.go:30", after := #[{ on := 7, ground := Ground.data }, { on := 5, ground := Ground.guard }], guard := some (5, false) }) (v := ?_) rfl (by kernel_rfl) (by kernel_rfl) (by kernel_rfl) (fun _ _ _ h => h) (Or.inl ⟨by rfl, ?_⟩) (by assumption) ?_
          rotate_left
          · intro w hSw
            clear hSw
            go_simp
            all_goals with_reducible rfl
          simp only [Act.put, List.setIfInBounds_toArray, List.set_cons_zero, List.set_cons_succ]
          refine wpAnyH_take (i := 9) (oi := { dst := some 66, op := Op.load 29 (Operand.tmp 65), type := 29, pos := "book.go:30", after := #[{ on := 8, ground := Ground.data }, { on := 5, ground := Ground.guard }], guard := some (5, false) }) (v := ?_) rfl (by kernel_rfl) (by kernel_rfl) (by kernel_rfl) (fun _ _ _ h => h) (Or.inl ⟨by rfl, ?_⟩) (by assumption) ?_
          rotate_left
          · intro w hSw
            have h3 := Still.cell hSw c0
            clear hSw
            go_simp
            all_goals with_reducible rfl
          simp only [Act.put, List.setIfInBounds_toArray, List.set_cons_zero, List.set_cons_succ]
          refine wpAnyH_take (i := 10) (oi := { dst := some 67, op := Op.indexAddr 29 (Operand.tmp 66) (Operand.const (Value.int IntKind.i64 0)), type := 0, pos := "book.go:30", after := #[{ on := 9, ground := Ground.data }, { on := 5, ground := Ground.guard }], guard := some (5, false) }) (v := ?_) rfl (by kernel_rfl) (by kernel_rfl) (by kernel_rfl) (fun _ _ _ h => h) (Or.inl ⟨by rfl, ?_⟩) (by assumption) ?_
          rotate_left
          · intro w hSw
            clear hSw
            go_simp
            all_goals with_reducible rfl
          simp only [Act.put, List.setIfInBounds_toArray, List.set_cons_zero, List.set_cons_succ]
          refine wpAnyH_take (i := 11) (oi := { dst := some 68, op := Op.load 22 (Operand.tmp 67), type := 22, pos := "book.go:30", after := #[{ on := 10, ground := Ground.data }, { on := 5, ground := Ground.guard }], guard := some (5, false) }) (v := ?_) rfl (by kernel_rfl) (by kernel_rfl) (by kernel_rfl) (fun _ _ _ h => h) (Or.inl ⟨by rfl, ?_⟩) (by assumption) ?_
          rotate_left
          · intro w hSw
            have h3 := Still.cell hSw d1
            clear hSw
            go_simp
            all_goals with_reducible rfl
          simp only [Act.put, List.setIfInBounds_toArray, List.set_cons_zero, List.set_cons_succ]
          refine wpAnyH_take (i := 12) (oi := { dst := some 69, op := Op.move (Operand.tmp 0), type := 40, pos := "book.go:30", after := #[{ on := 5, ground := Ground.guard }], guard := some (5, false) }) (v := ?_) rfl (by kernel_rfl) (by kernel_rfl) (by kernel_rfl) (fun _ _ _ h => h) (Or.inl ⟨by rfl, ?_⟩) (by assumption) ?_
          rotate_left
          · intro w hSw
            clear hSw
            go_simp
            all_goals with_reducible rfl
          simp only [Act.put, List.setIfInBounds_toArray, List.set_cons_zero, List.set_cons_succ]
          refine wpAnyH_take (i := 13) (oi := { dst := some 70, op := Op.nilCheck (Operand.tmp 69), type := 0, pos := "book.go:30", after := #[{ on := 12, ground := Ground.data }, { on := 5, ground := Ground.guard }], guard := some (5, false) }) (v := ?_) rfl (by kernel_rfl) (by kernel_rfl) (by kernel_rfl) (fun _ _ _ h => h) (Or.inl ⟨by rfl, ?_⟩) (by assumption) ?_
          rotate_left
          · intro w hSw
            clear hSw
            go_simp
            all_goals with_reducible rfl
          simp only [Act.put, List.setIfInBounds_toArray, List.set_cons_zero, List.set_cons_succ]
          refine wpAnyH_take (i := 14) (oi := { dst := some 71, op := Op.fieldAddr 31 (Operand.tmp 70) 1, type := 0, pos := "book.go:30", after := #[{ on := 13, ground := Ground.data }, { on := 5, ground := Ground.guard }], guard := some (5, false) }) (v := ?_) rfl (by kernel_rfl) (by kernel_rfl) (by kernel_rfl) (fun _ _ _ h => h) (Or.inl ⟨by rfl, ?_⟩) (by assumption) ?_
          rotate_left
          · intro w hSw
            clear hSw
            go_simp
            all_goals with_reducible rfl
          simp only [Act.put, List.setIfInBounds_toArray, List.set_cons_zero, List.set_cons_succ]
          refine wpAnyH_take (i := 15) (oi := { dst := some 72, op := Op.load 29 (Operand.tmp 71), type := 29, pos := "book.go:30", after := #[{ on := 14, ground := Ground.data }, { on := 5, ground := Ground.guard }], guard := some (5, false) }) (v := ?_) rfl (by kernel_rfl) (by kernel_rfl) (by kernel_rfl) (fun _ _ _ h => h) (Or.inl ⟨by rfl, ?_⟩) (by assumption) ?_
          rotate_left
          · intro w hSw
            have h3 := Still.cell hSw c1
            clear hSw
            go_simp
            all_goals with_reducible rfl
          simp only [Act.put, List.setIfInBounds_toArray, List.set_cons_zero, List.set_cons_succ]
          refine wpAnyH_take (i := 16) (oi := { dst := some 73, op := Op.indexAddr 29 (Operand.tmp 72) (Operand.const (Value.int IntKind.i64 0)), type := 0, pos := "book.go:30", after := #[{ on := 15, ground := Ground.data }, { on := 5, ground := Ground.guard }], guard := some (5, false) }) (v := ?_) rfl (by kernel_rfl) (by kernel_rfl) (by kernel_rfl) (fun _ _ _ h => h) (Or.inl ⟨by rfl, ?_⟩) (by assumption) ?_
          rotate_left
          · intro w hSw
            clear hSw
            go_simp
            all_goals with_reducible rfl
          simp only [Act.put, List.setIfInBounds_toArray, List.set_cons_zero, List.set_cons_succ]
          refine wpAnyH_take (i := 17) (oi := { dst := some 74, op := Op.load 22 (Operand.tmp 73), type := 22, pos := "book.go:30", after := #[{ on := 16, ground := Ground.data }, { on := 5, ground := Ground.guard }], guard := some (5, false) }) (v := ?_) rfl (by kernel_rfl) (by kernel_rfl) (by kernel_rfl) (fun _ _ _ h => h) (Or.inl ⟨by rfl, ?_⟩) (by assumption) ?_
          rotate_left
          · intro w hSw
            have h3 := Still.cell hSw d2
            clear hSw
            go_simp
            all_goals with_reducible rfl
          simp only [Act.put, List.setIfInBounds_toArray, List.set_cons_zero, List.set_cons_succ]
          refine wpAnyH_ready (rs := [18]) (by kernel_rfl) (by simp) ?_
          refine AllReadyH.cons (o := { dst := some 75, op := Op.call { callee := Callee.value (Operand.func 23), args := #[Operand.tmp 68, Operand.tmp 74], argTypes := #[22, 22] }, type := 4, pos := "book.go:30", after := #[{ on := 11, ground := Ground.data }, { on := 17, ground := Ground.data }, { on := 5, ground := Ground.chain }, { on := 5, ground := Ground.guard }], guard := some (5, false) }) rfl (fun K hK => ?_) AllReadyH.nil
          go_simp
          refine (same_any _ _ e.bs _ (S1.out.of_heap hHeld.1) (S2.out.of_heap hHeld.1)).mono ?_
          rintro e' w5 ⟨rfl, hst⟩
          have hk := Still.trans hHeld hst
          clear hst hHeld
          go_wp2_with fail
          refine hK.out _ _ ?_ (fun hHeld => ?_)
          · exact hk
          clear hK K hk
          try simp only [Act.put, List.setIfInBounds_toArray, List.set_cons_zero, List.set_cons_succ]
          refine wpAnyH_take (i := 19) (oi := { dst := some 76, op := Op.unOp UnOp.not 4 (Operand.tmp 75), type := 4, pos := "book.go:30", after := #[{ on := 18, ground := Ground.data }, { on := 5, ground := Ground.guard }], guard := some (5, false) }) (v := ?_) rfl (by kernel_rfl) (by kernel_rfl) (by kernel_rfl) (fun _ _ _ h => h) (Or.inl ⟨by rfl, ?_⟩) (by assumption) ?_
          rotate_left
          · intro w hSw
            clear hSw
            go_simp
            all_goals with_reducible rfl
          simp only [Act.put, List.setIfInBounds_toArray, List.set_cons_zero, List.set_cons_succ]
          refine wpAnyH_take (i := 20) (oi := { dst := some 77, op := Op.pick (Operand.tmp 62) (Operand.const (Value.bool true)) (Operand.tmp 76), type := 4, pos := "book.go:30", after := #[{ on := 5, ground := Ground.data }, { on := 19, ground := Ground.data }], guard := none }) (v := ?_) rfl (by kernel_rfl) (by kernel_rfl) (by kernel_rfl) (fun _ _ _ h => h) (Or.inl ⟨by rfl, ?_⟩) (by assumption) ?_
          rotate_left
          · intro w hSw
            clear hSw
            go_simp
            all_goals with_reducible rfl
          simp only [Act.put, List.setIfInBounds_toArray, List.set_cons_zero, List.set_cons_succ]
          refine wpAnyH_take (i := 21) (oi := { dst := some 78, op := Op.nilCheck (Operand.tmp 57), type := 0, pos := "book.go:30", after := #[{ on := 0, ground := Ground.data }, { on := 0, ground := Ground.phase }, { on := 1, ground := Ground.phase }, { on := 2, ground := Ground.phase }, { on := 3, ground := Ground.phase }, { on := 4, ground := Ground.phase }, { on := 5, ground := Ground.phase }, { on := 6, ground := Ground.phase }, { on := 7, ground := Ground.phase }, { on := 8, ground := Ground.phase }, { on := 9, ground := Ground.phase }, { on := 10, ground := Ground.phase }, { on := 11, ground := Ground.phase }, { on := 12, ground := Ground.phase }, { on := 13, ground := Ground.phase }, { on := 14, ground := Ground.phase }, { on := 15, ground := Ground.phase }, { on := 16, ground := Ground.phase }, { on := 17, ground := Ground.phase }, { on := 18, ground := Ground.phase }, { on := 19, ground := Ground.phase }, { on := 20, ground := Ground.phase }], guard := none }) (v := ?_) rfl (by kernel_rfl) (by kernel_rfl) (by kernel_rfl) (fun _ _ _ h => h) (Or.inl ⟨by rfl, ?_⟩) (by assumption) ?_
          rotate_left
          · intro w hSw
            clear hSw
            go_simp
            all_goals with_reducible rfl
          simp only [Act.put, List.setIfInBounds_toArray, List.set_cons_zero, List.set_cons_succ]
          refine wpAnyH_take (i := 22) (oi := { dst := some 79, op := Op.fieldAddr 31 (Operand.tmp 78) 3, type := 0, pos := "book.go:30", after := #[{ on := 21, ground := Ground.data }, { on := 0, ground := Ground.phase }, { on := 1, ground := Ground.phase }, { on := 2, ground := Ground.phase }, { on := 3, ground := Ground.phase }, { on := 4, ground := Ground.phase }, { on := 5, ground := Ground.phase }, { on := 6, ground := Ground.phase }, { on := 7, ground := Ground.phase }, { on := 8, ground := Ground.phase }, { on := 9, ground := Ground.phase }, { on := 10, ground := Ground.phase }, { on := 11, ground := Ground.phase }, { on := 12, ground := Ground.phase }, { on := 13, ground := Ground.phase }, { on := 14, ground := Ground.phase }, { on := 15, ground := Ground.phase }, { on := 16, ground := Ground.phase }, { on := 17, ground := Ground.phase }, { on := 18, ground := Ground.phase }, { on := 19, ground := Ground.phase }, { on := 20, ground := Ground.phase }], guard := none }) (v := ?_) rfl (by kernel_rfl) (by kernel_rfl) (by kernel_rfl) (fun _ _ _ h => h) (Or.inl ⟨by rfl, ?_⟩) (by assumption) ?_
          rotate_left
          · intro w hSw
            clear hSw
            go_simp
            all_goals with_reducible rfl
          simp only [Act.put, List.setIfInBounds_toArray, List.set_cons_zero, List.set_cons_succ]
          refine wpAnyH_ready (rs := [23]) (by kernel_rfl) (by simp) ?_
          refine AllReadyH.cons (o := { dst := none, op := Op.store 4 (Operand.tmp 79) (Operand.tmp 77), type := 0, pos := "book.go:30", after := #[{ on := 22, ground := Ground.data }, { on := 20, ground := Ground.data }, { on := 18, ground := Ground.chain }, { on := 0, ground := Ground.phase }, { on := 1, ground := Ground.phase }, { on := 2, ground := Ground.phase }, { on := 3, ground := Ground.phase }, { on := 4, ground := Ground.phase }, { on := 5, ground := Ground.phase }, { on := 6, ground := Ground.phase }, { on := 7, ground := Ground.phase }, { on := 8, ground := Ground.phase }, { on := 9, ground := Ground.phase }, { on := 10, ground := Ground.phase }, { on := 11, ground := Ground.phase }, { on := 12, ground := Ground.phase }, { on := 13, ground := Ground.phase }, { on := 14, ground := Ground.phase }, { on := 15, ground := Ground.phase }, { on := 16, ground := Ground.phase }, { on := 17, ground := Ground.phase }, { on := 18, ground := Ground.phase }, { on := 19, ground := Ground.phase }, { on := 20, ground := Ground.phase }], guard := none }) rfl (fun K hK => ?_) AllReadyH.nil
          have rw5 : w5.heap[gB]? = some (.cells #[(.slice (some ⟨gl, ol, none⟩) n cl), (.slice (some ⟨gw, ow, none⟩) n cw), .int .i64 (hd : Int), .bool false] 31 (0, 0)) := by rw [hHeld.1]; exact row4.out
          have h3 := (cells4 rw5).2.2.2
          have f3 := frozen_of_row _ _ 3 _ _ rw5
          go_simp
          refine hK.out _ _ (Still.trans hHeld (still_setCell rw5 rfl)) (fun hHeld2 => ?_)
          clear hK K h3 f3
          try simp only [Act.put, List.setIfInBounds_toArray, List.set_cons_zero, List.set_cons_succ]
          refine wpAnyH_done (by kernel_rfl) ?_ _
          refine NoPanic.normal ?_
          generalize World.setCell w5 ⟨gB, 3, none⟩ _ = W4 at *
          clear rw5 hHeld
          clear w5
          go_wp2
          refine wp_region_noPanic ?_
          refine wp_region_held_drew (S := (fun w' => Only gB wr w' ∧ ∃ h : Int, w'.heap[gB]? = some (.cells #[(.slice (some ⟨gl, ol, none⟩) n cl), (.slice (some ⟨gw, ow, none⟩) n cw), .int .i64 h, .bool false] 31 (0, 0)))) follows ⟨hHeld2.only.drew, _, (by show W4.heap[gB]? = _; rw [hHeld2.1]; exact row4.out)⟩ (fun hHeld => ?_)
          refine wpAnyH_take (i := 0) (oi := { dst := some 80, op := Op.move (Operand.tmp 0), type := 40, pos := "book.go:31", after := #[], guard := none }) (v := ?_) rfl (by kernel_rfl) (by kernel_rfl) (by kernel_rfl) (fun _ _ _ h => h) (Or.inl ⟨by rfl, ?_⟩) (by assumption) ?_
          rotate_left
          · intro w hSw
            clear hSw
            go_simp
            all_goals with_reducible rfl
          simp only [Act.put, List.setIfInBounds_toArray, List.set_cons_zero, List.set_cons_succ]
          refine wpAnyH_take (i := 1) (oi := { dst := some 81, op := Op.move (Operand.tmp 0), type := 40, pos := "book.go:31", after := #[], guard := none }) (v := ?_) rfl (by kernel_rfl) (by kernel_rfl) (by kernel_rfl) (fun _ _ _ h => h) (Or.inl ⟨by rfl, ?_⟩) (by assumption) ?_
          rotate_left
          · intro w hSw
            clear hSw
            go_simp
            all_goals with_reducible rfl
          simp only [Act.put, List.setIfInBounds_toArray, List.set_cons_zero, List.set_cons_succ]
          refine wpAnyH_take (i := 2) (oi := { dst := some 82, op := Op.nilCheck (Operand.tmp 81), type := 0, pos := "book.go:31", after := #[{ on := 1, ground := Ground.data }], guard := none }) (v := ?_) rfl (by kernel_rfl) (by kernel_rfl) (by kernel_rfl) (fun _ _ _ h => h) (Or.inl ⟨by rfl, ?_⟩) (by assumption) ?_
          rotate_left
          · intro w hSw
            clear hSw
            go_simp
            all_goals with_reducible rfl
          simp only [Act.put, List.setIfInBounds_toArray, List.set_cons_zero, List.set_cons_succ]
          refine wpAnyH_take (i := 3) (oi := { dst := some 83, op := Op.fieldAddr 31 (Operand.tmp 82) 2, type := 0, pos := "book.go:31", after := #[{ on := 2, ground := Ground.data }], guard := none }) (v := ?_) rfl (by kernel_rfl) (by kernel_rfl) (by kernel_rfl) (fun _ _ _ h => h) (Or.inl ⟨by rfl, ?_⟩) (by assumption) ?_
          rotate_left
          · intro w hSw
            clear hSw
            go_simp
            all_goals with_reducible rfl
          simp only [Act.put, List.setIfInBounds_toArray, List.set_cons_zero, List.set_cons_succ]
          refine wpAnyH_take (i := 5) (oi := { dst := some 85, op := Op.move (Operand.tmp 0), type := 40, pos := "book.go:31", after := #[], guard := none }) (v := ?_) rfl (by kernel_rfl) (by kernel_rfl) (by kernel_rfl) (fun _ _ _ h => h) (Or.inl ⟨by rfl, ?_⟩) (by assumption) ?_
          rotate_left
          · intro w hSw
            clear hSw
            go_simp
            all_goals with_reducible rfl
          simp only [Act.put, List.setIfInBounds_toArray, List.set_cons_zero, List.set_cons_succ]
          refine wpAnyH_take (i := 6) (oi := { dst := some 86, op := Op.nilCheck (Operand.tmp 85), type := 0, pos := "book.go:31", after := #[{ on := 5, ground := Ground.data }], guard := none }) (v := ?_) rfl (by kernel_rfl) (by kernel_rfl) (by kernel_rfl) (fun _ _ _ h => h) (Or.inl ⟨by rfl, ?_⟩) (by assumption) ?_
          rotate_left
          · intro w hSw
            clear hSw
            go_simp
            all_goals with_reducible rfl
          simp only [Act.put, List.setIfInBounds_toArray, List.set_cons_zero, List.set_cons_succ]
          refine wpAnyH_take (i := 7) (oi := { dst := some 87, op := Op.fieldAddr 31 (Operand.tmp 86) 0, type := 0, pos := "book.go:31", after := #[{ on := 6, ground := Ground.data }], guard := none }) (v := ?_) rfl (by kernel_rfl) (by kernel_rfl) (by kernel_rfl) (fun _ _ _ h => h) (Or.inl ⟨by rfl, ?_⟩) (by assumption) ?_
          rotate_left
          · intro w hSw
            clear hSw
            go_simp
            all_goals with_reducible rfl
          simp only [Act.put, List.setIfInBounds_toArray, List.set_cons_zero, List.set_cons_succ]
          refine wpAnyH_take (i := 8) (oi := { dst := some 88, op := Op.load 29 (Operand.tmp 87), type := 29, pos := "book.go:31", after := #[{ on := 7, ground := Ground.data }], guard := none }) (v := ?_) rfl (by kernel_rfl) (by kernel_rfl) (by kernel_rfl) (fun _ _ _ h => h) (Or.inl ⟨by rfl, ?_⟩) (by assumption) ?_
          rotate_left
          · intro w hSw
            obtain ⟨_, hq⟩ := hSw.2
            have h3 := (cells4 hq).1
            clear hq
            clear hSw
            go_simp
            all_goals with_reducible rfl
          simp only [Act.put, List.setIfInBounds_toArray, List.set_cons_zero, List.set_cons_succ]
          refine wpAnyH_take (i := 9) (oi := { dst := some 89, op := Op.indexAddr 29 (Operand.tmp 88) (Operand.const (Value.int IntKind.i64 0)), type := 0, pos := "book.go:31", after := #[{ on := 8, ground := Ground.data }], guard := none }) (v := ?_) rfl (by kernel_rfl) (by kernel_rfl) (by kernel_rfl) (fun _ _ _ h => h) (Or.inl ⟨by rfl, ?_⟩) (by assumption) ?_
          rotate_left
          · intro w hSw
            clear hSw
            go_simp
            all_goals with_reducible rfl
          simp only [Act.put, List.setIfInBounds_toArray, List.set_cons_zero, List.set_cons_succ]
          refine wpAnyH_take (i := 10) (oi := { dst := some 90, op := Op.load 22 (Operand.tmp 89), type := 22, pos := "book.go:31", after := #[{ on := 9, ground := Ground.data }], guard := none }) (v := ?_) rfl (by kernel_rfl) (by kernel_rfl) (by kernel_rfl) (fun _ _ _ h => h) (Or.inl ⟨by rfl, ?_⟩) (by assumption) ?_
          rotate_left
          · intro w hSw
            have h3 := hSw.1.cell d1 hglB
            clear hSw
            go_simp
            all_goals with_reducible rfl
          simp only [Act.put, List.setIfInBounds_toArray, List.set_cons_zero, List.set_cons_succ]
          refine wpAnyH_take (i := 11) (oi := { dst := some 91, op := Op.call { callee := Callee.builtin Builtin.cap, args := #[Operand.tmp 90], argTypes := #[22] }, type := 3, pos := "book.go:31", after := #[{ on := 10, ground := Ground.data }], guard := none }) (v := ?_) rfl (by kernel_rfl) (by kernel_rfl) (by kernel_rfl) (fun _ _ _ h => h) (Or.inl ⟨by rfl, ?_⟩) (by assumption) ?_
          rotate_left
          · intro w hSw
            clear hSw
            go_simp
            all_goals with_reducible rfl
          simp only [Act.put, List.setIfInBounds_toArray, List.set_cons_zero, List.set_cons_succ]
          refine wpAnyH_ready (rs := [4]) (by kernel_rfl) (by simp) ?_
          refine AllReadyH.cons (o := { dst := some 84, op := Op.load 3 (Operand.tmp 83), type := 3, pos := "book.go:31", after := #[{ on := 3, ground := Ground.data }], guard := none }) rfl (fun K hK => ?_) AllReadyH.nil
          have h3 : W4.drew.cell? ⟨gB, 2, none⟩ = some (.int .i64 (hd : Int)) := (cells4 (show W4.drew.heap[gB]? = _ by show W4.heap[gB]? = _; rw [hHeld2.1]; exact row4.out)).2.2.1
          go_simp
          refine hK.out _ _ hHeld (fun hHeld => ?_)
          clear hK K h3
          try simp only [Act.put, List.setIfInBounds_toArray, List.set_cons_zero, List.set_cons_succ]
          obtain ⟨H3, q1⟩ : ∃ H3, IntKind.i64.wrap ((hd : Int) - (e.cap : Int)) = H3 := ⟨_, rfl⟩
          obtain ⟨H4, q2⟩ : ∃ H4, IntKind.i64.wrap (H3 - 1) = H4 := ⟨_, rfl⟩
          have HDC : Hid (hw es2 = H4) := by
            show hw es2 = H4
            rw [← q2, ← q1, HHD.out]
            exact hw_less es2 e
          refine wpAnyH_take (i := 12) (oi := { dst := some 92, op := Op.binOp BinOp.sub 3 (Operand.tmp 84) (Operand.tmp 91) 3, type := 3, pos := "book.go:31", after := #[{ on := 4, ground := Ground.data }, { on := 11, ground := Ground.data }], guard := none }) (v := ?_) rfl (by kernel_rfl) (by kernel_rfl) (by kernel_rfl) (fun _ _ _ h => h) (Or.inl ⟨by rfl, ?_⟩) (by assumption) ?_
          rotate_left
          · intro w hSw
            clear hSw
            go_simp
            all_goals with_reducible rfl
          simp only [Act.put, List.setIfInBounds_toArray, List.set_cons_zero, List.set_cons_succ]
          refine wpAnyH_take (i := 13) (oi := { dst := some 93, op := Op.binOp BinOp.sub 3 (Operand.tmp 92) (Operand.const (Value.int IntKind.i64 1)) 3, type := 3, pos := "book.go:31", after := #[{ on := 12, ground := Ground.data }], guard := none }) (v := ?_) rfl (by kernel_rfl) (by kernel_rfl) (by kernel_rfl) (fun _ _ _ h => h) (Or.inl ⟨by rfl, ?_⟩) (by assumption) ?_
          rotate_left
          · intro w hSw
            clear hSw
            go_simp
            all_goals with_reducible rfl
          simp only [Act.put, List.setIfInBounds_toArray, List.set_cons_zero, List.set_cons_succ]
          refine wpAnyH_take (i := 14) (oi := { dst := some 94, op := Op.nilCheck (Operand.tmp 80), type := 0, pos := "book.go:31", after := #[{ on := 0, ground := Ground.data }, { on := 0, ground := Ground.phase }, { on := 1, ground := Ground.phase }, { on := 2, ground := Ground.phase }, { on := 3, ground := Ground.phase }, { on := 4, ground := Ground.phase }, { on := 5, ground := Ground.phase }, { on := 6, ground := Ground.phase }, { on := 7, ground := Ground.phase }, { on := 8, ground := Ground.phase }, { on := 9, ground := Ground.phase }, { on := 10, ground := Ground.phase }, { on := 11, ground := Ground.phase }, { on := 12, ground := Ground.phase }, { on := 13, ground := Ground.phase }], guard := none }) (v := ?_) rfl (by kernel_rfl) (by kernel_rfl) (by kernel_rfl) (fun _ _ _ h => h) (Or.inl ⟨by rfl, ?_⟩) (by assumption) ?_
          rotate_left
          · intro w hSw
            clear hSw
            go_simp
            all_goals with_reducible rfl
          simp only [Act.put, List.setIfInBounds_toArray, List.set_cons_zero, List.set_cons_succ]
          refine wpAnyH_take (i := 15) (oi := { dst := some 95, op := Op.fieldAddr 31 (Operand.tmp 94) 2, type := 0, pos := "book.go:31", after := #[{ on := 14, ground := Ground.data }, { on := 0, ground := Ground.phase }, { on := 1, ground := Ground.phase }, { on := 2, ground := Ground.phase }, { on := 3, ground := Ground.phase }, { on := 4, ground := Ground.phase }, { on := 5, ground := Ground.phase }, { on := 6, ground := Ground.phase }, { on := 7, ground := Ground.phase }, { on := 8, ground := Ground.phase }, { on := 9, ground := Ground.phase }, { on := 10, ground := Ground.phase }, { on := 11, ground := Ground.phase }, { on := 12, ground := Ground.phase }, { on := 13, ground := Ground.phase }], guard := none }) (v := ?_) rfl (by kernel_rfl) (by kernel_rfl) (by kernel_rfl) (fun _ _ _ h => h) (Or.inl ⟨by rfl, ?_⟩) (by assumption) ?_
          rotate_left
          · intro w hSw
            clear hSw
            go_simp
            all_goals with_reducible rfl
          simp only [Act.put, List.setIfInBounds_toArray, List.set_cons_zero, List.set_cons_succ]
          refine wpAnyH_ready (rs := [16]) (by kernel_rfl) (by simp) ?_
          refine AllReadyH.cons (o := { dst := none, op := Op.store 3 (Operand.tmp 95) (Operand.tmp 93), type := 0, pos := "book.go:31", after := #[{ on := 15, ground := Ground.data }, { on := 13, ground := Ground.data }, { on := 0, ground := Ground.phase }, { on := 1, ground := Ground.phase }, { on := 2, ground := Ground.phase }, { on := 3, ground := Ground.phase }, { on := 4, ground := Ground.phase }, { on := 5, ground := Ground.phase }, { on := 6, ground := Ground.phase }, { on := 7, ground := Ground.phase }, { on := 8, ground := Ground.phase }, { on := 9, ground := Ground.phase }, { on := 10, ground := Ground.phase }, { on := 11, ground := Ground.phase }, { on := 12, ground := Ground.phase }, { on := 13, ground := Ground.phase }], guard := none }) rfl (fun K hK => ?_) AllReadyH.nil
          have rw6 : W4.heap[gB]? = some (.cells #[(.slice (some ⟨gl, ol, none⟩) n cl), (.slice (some ⟨gw, ow, none⟩) n cw), .int .i64 (hd : Int), .bool false] 31 (0, 0)) := by rw [hHeld2.1]; exact row4.out
          have h3 : W4.drew.cell? ⟨gB, 2, none⟩ = _ := (cells4 rw6).2.2.1
          have f3 : W4.drew.frozen? ⟨gB, 2, none⟩ = false := frozen_of_row _ _ 2 _ _ rw6
          go_simp
          refine hK.out _ _ ⟨(hHeld2.only.setCell 2 _).drew, _, (by show (World.setCell W4 ⟨gB, 2, none⟩ _).heap[gB]? = _; rw [heap_setCell_same _ _ _ _ _ _ rw6]; rfl)⟩ (fun hHeld3 => ?_)
          clear hK K h3 f3
          try simp only [Act.put, List.setIfInBounds_toArray, List.set_cons_zero, List.set_cons_succ]
          refine wpAnyH_done (by kernel_rfl) ?_ _
          refine NoPanic.normal ?_
          have row5 : (World.drew (World.setCell W4 ⟨gB, 2, none⟩ (.int .i64 H4))).heap[gB]? = some (.cells #[(.slice (some ⟨gl, ol, none⟩) n cl), (.slice (some ⟨gw, ow, none⟩) n cw), .int .i64 H4, .bool false] 31 (0, 0)) := by show (World.setCell W4 ⟨gB, 2, none⟩ _).heap[gB]? = _; rw [heap_setCell_same _ _ _ _ _ _ rw6]; rfl
          have on5 := hHeld3.1
          generalize World.drew (World.setCell W4 ⟨gB, 2, none⟩ _) = W5 at *
          clear rw6 hHeld hHeld2 hHeld3 c0 c1 c2 c3 d1 d2
          have c4 := cells4 row5
          obtain ⟨c0, c1, c2, c3⟩ := c4
          have f0 := frozen_of_row _ _ 0 _ _ row5
          have f1 := frozen_of_row _ _ 1 _ _ row5
          have g1 : (1 : Int) ≤ (n : Int) := by omega
          have ON5 := hide on5
          have ROW5 := hide row5
          clear on5 row5 row4
          go_wp2
          have on6 : Only gB wr (World.setCell (World.setCell W5 ⟨gB, 0, none⟩ (.slice (some ⟨gl, ol + 1, none⟩) es2.length (cl - 1))) ⟨gB, 1, none⟩ (.slice (some ⟨gw, ow + 1, none⟩) es2.length (cw - 1))) := (ON5.out.setCell 0 _).setCell 1 _
          have row6 : (World.setCell (World.setCell W5 ⟨gB, 0, none⟩ (.slice (some ⟨gl, ol + 1, none⟩) es2.length (cl - 1))) ⟨gB, 1, none⟩ (.slice (some ⟨gw, ow + 1, none⟩) es2.length (cw - 1))).heap[gB]? = some (.cells #[(.slice (some ⟨gl, ol + 1, none⟩) es2.length (cl - 1)), (.slice (some ⟨gw, ow + 1, none⟩) es2.length (cw - 1)), .int .i64 (hw es2), .bool false] 31 (0, 0)) := by
            have q := heap_setCell_same _ _ 0 _ _ (.slice (some ⟨gl, ol + 1, none⟩) es2.length (cl - 1)) ROW5.out
            rw [heap_setCell_same _ _ 1 _ _ _ q]
            rw [← HDC.out]
            rfl
          generalize World.setCell (World.setCell W5 ⟨gB, 0, none⟩ _) ⟨gB, 1, none⟩ _ = W6 at *
          have hle2 := HLE.out
          rw [List.length_cons] at hle2
          refine ⟨⟨_, _, es2, BK.out.drop k1 k2 on6 row6, by omega, ⟨HBL.out.1.1.trans (on6.below BK.out.lo), fun k hk hk2 => (on6.block k (by have := HTG.out; omega)).trans (HBL.out.1.2 k hk hk2)⟩, ⟨fun k hk => HBL.out.2.vl k hk, fun k hk => HBL.out.2.vw k hk, fun x hx => HBL.out.2.ents x (List.mem_cons_of_mem _ hx)⟩⟩, ?_⟩
          rw [lenAt_of (cells4 row6).1, lenAt_of (cells4 BK.out.row).1]
          exact Nat.lt_succ_self _
        · go_wp2
          exact bodyPost_end (results_none rfl _ _ _) rfl ⟨rfl, ⟨_, _, es', hbk.raise hbk.top_le (Nat.le_refl _), hle, hbl.2⟩, hbl.1⟩
      · have p1 : ¬ ((1 : Int) < (n : Int)) := by omega
        go_wp2
        exact bodyPost_end (results_none rfl _ _ _) rfl ⟨rfl, ⟨_, _, es', hbk.raise hbk.top_le (Nat.le_refl _), hle, hbl.2⟩, hbl.1⟩
/-- A list in a block of its own is kept. -/
theorem keep_any (H : Nat → Prop) (gB base top g cap : Nat) (vl vw : Value) (bs : List Int) (es : List Entry) (w : World) (hbk : BookIs w gB base top vl vw es) (hr : Room w g cap bs) (htop : top ≤ g) (hbase : base ≤ g) (hcap : cap ≤ 9223372036854775807) (hbl0 : bs.length ≤ 100000) (hfew : es.length < 100) (hH : BookNo H vl vw es) (hHn : ∀ k, w.heap.size ≤ k → ¬ H k) (hHg : ¬ H g) :
   Calls Try.prog 18 #[.pointer (some ⟨gB, 0, none⟩), .slice (some ⟨g, 0, none⟩) bs.length cap] w fun e w' => e = .returned (.tuple #[]) ∧ (∃ vl' vw' es', BookIs w' gB base w'.heap.size vl' vw' es' ∧ es'.length ≤ es.length + 1 ∧ BookNo H vl' vw' es') ∧ KeptFrom base top w w' :=
  keep_all H gB base top cap (some g) _ vl vw bs es w hbk ⟨fun b e => (by cases e; exact hr), fun e => (by cases e)⟩ rfl (fun b e => by cases e; exact htop) (fun b e => by cases e; exact hbase) hcap hbl0 hfew hH hHn (fun b e => by cases e; exact hHg)
/-- A list that is nil is kept. -/
theorem keep_none (H : Nat → Prop) (gB base top : Nat) (vl vw : Value) (es : List Entry) (w : World) (hbk : BookIs w gB base top vl vw es) (hfew : es.length < 100) (hH : BookNo H vl vw es) (hHn : ∀ k, w.heap.size ≤ k → ¬ H k) :
   Calls Try.prog 18 #[.pointer (some ⟨gB, 0, none⟩), .slice none 0 0] w fun e w' => e = .returned (.tuple #[]) ∧ (∃ vl' vw' es', BookIs w' gB base w'.heap.size vl' vw' es' ∧ es'.length ≤ es.length + 1 ∧ BookNo H vl' vw' es') ∧ KeptFrom base top w w' :=
  keep_all H gB base top 0 none none vl vw [] es w hbk ⟨fun b e => (by cases e), fun _ => ⟨rfl, rfl⟩⟩ rfl (fun b e => (by cases e)) (fun b e => (by cases e)) (by omega) (by simp) hfew hH hHn (fun b e => (by cases e))
end Go.Proofs.Ytldkkgdkjddohaa
