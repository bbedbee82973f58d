/- The walk of CodecWrites: for any calls and any digest the call returns true and nothing that was there changes. -/
import Derived.Test.YtdhaeepaemneaaaDoorDocb
import Derived.Test.YtdhaeepaemneaaaDoorIntact
import Derived.Test.YtdhaeepaemneaaaDoorSay
import Derived.Test.YtdhaeepaemneaaaDoorAsks
import Derived.Deep.DeepCutAuto
namespace Go.Proofs.YtdhaeepaemneaaaDoor
open Go.RowKit
theorem wdigest_to {bs bs' d : List UInt8} (g : Nat) (v : Value) (w : World) (h : bs ++ d = bs') (hd : d.length = 32) (hw : WrIs w g v bs) (hb : bs.length + 32 ≤ 140737488355328) :
   Calls Tryd.prog 23 #[.pointer (some ⟨g, 0, none⟩), .agg (S.v8 d)] w fun e w' => e = .returned (.tuple #[]) ∧ ∃ v', WrIs w' g v' bs' ∧ WrTo g v w v' w' := by
  rw [← h]
  exact wdigest_any g v bs d w hd hw hb
/-- What holds at each round: the writer and the document's own text have the same bytes, and lie apart. -/
structure Both (w wr : World) (gd gw : Nat) (v u : Value) (acc d : List UInt8) : Prop where
  wrt : WrIs wr gw v acc
  doc : URow wr u acc
  vlo : ∀ j, v.ownBlock = some j → gd < j
  ulo : ∀ j, u.ownBlock = some j → gd < j ∧ j ≠ gw ∧ v.ownBlock ≠ some j
  dig : wr.heap[gd]? = some (.cells (S.v8 d) 40 (0, 0))
  bel : Below w.heap.size w wr
/-- Over new memory alone. -/
theorem Both.below {w wr W : World} {gd gw : Nat} {v u : Value} {acc d : List UInt8} (h : Both w wr gd gw v u acc d) (hb : Below wr.heap.size wr W) : Both w W gd gw v u acc d :=
  ⟨h.wrt.chg (p := fun _ => False) (Chg.ofBelow' hb) (fun e => e) (fun _ _ e => e), h.doc.chg (p := fun _ => False) (Chg.ofBelow' hb) (fun _ _ e => e), h.vlo, h.ulo, (hb.block gd (block_lt_of_row h.dig)).trans h.dig, h.bel.trans (hb.mono h.bel.size)⟩
/-- Over one block that is none of theirs. -/
theorem Both.over {w wr W : World} {gd gw g : Nat} {v u : Value} {acc d : List UInt8} (h : Both w wr gd gw v u acc d) (hc : Chg (fun k => k = g) wr W) (h1 : g ≠ gw) (h2 : g ≠ gd) (h3 : v.ownBlock ≠ some g) (h4 : u.ownBlock ≠ some g) (h5 : w.heap.size ≤ g) : Both w W gd gw v u acc d :=
  ⟨h.wrt.chg hc (fun e => h1 e.symm) (fun _ hk e => h3 (e ▸ hk)), h.doc.chg hc (fun _ hk e => h4 (e ▸ hk)), h.vlo, h.ulo, hc.row h.dig (fun e => h2 e.symm), h.bel.trans (hc.base h.bel.size h5)⟩
/-- Behind a call of the writer: the document's text is as it was. -/
theorem Both.wrote {w wr W : World} {gd gw : Nat} {v v' u : Value} {acc acc' d : List UInt8} (h : Both w wr gd gw v u acc d) (hw : WrIs W gw v' acc') (ht : WrTo gw v wr v' W) (hg : gd < gw) (hgd : w.heap.size ≤ gd) :
    WrIs W gw v' acc' ∧ URow W u acc ∧ (∀ j, v'.ownBlock = some j → gd < j) ∧ (∀ j, u.ownBlock = some j → gd < j ∧ j ≠ gw ∧ v'.ownBlock ≠ some j) ∧ W.heap[gd]? = some (.cells (S.v8 d) 40 (0, 0)) ∧ Below w.heap.size w W := by
  have hdl := block_lt_of_row h.dig
  refine ⟨hw, h.doc.chg ht.chg (fun k hk e => ?_), fun j hj => ?_, fun j hj => ⟨(h.ulo j hj).1, (h.ulo j hj).2.1, fun e => ?_⟩, ht.chg.row h.dig (fun e => ?_), h.bel.trans (ht.base h.bel.size (by omega) (fun j hj => by have := h.vlo j hj; omega)).1⟩
  · rcases e with e | e
    · exact (h.ulo k hk).2.1 e
    · exact (h.ulo k hk).2.2 e
  · rcases ht.own j hj with e | e
    · exact h.vlo j e
    · omega
  · rcases ht.own j e with e2 | e2
    · exact (h.ulo j hj).2.2 e2
    · have := h.doc.lt hj; omega
  · rcases e with e | e
    · omega
    · have := h.vlo gd e; omega
/-- Behind the document's own call: its new text. -/
theorem Both.told {w W W2 : World} {gd gw : Nat} {v u' : Value} {acc' d : List UInt8} (hw : WrIs W gw v acc') (hv : ∀ j, v.ownBlock = some j → gd < j) (hd : W.heap[gd]? = some (.cells (S.v8 d) 40 (0, 0))) (hb : Below w.heap.size w W) (hu : URow W2 u' acc') (ho : ∀ j, u'.ownBlock = some j → W.heap.size ≤ j) (h2 : Below W.heap.size W W2) : Both w W2 gd gw v u' acc' d := by
  have hdl := block_lt_of_row hd
  have hgl := hw.lt
  refine ⟨hw.chg (p := fun _ => False) (Chg.ofBelow' h2) (fun e => e) (fun _ _ e => e), hu, hv, fun j hj => ⟨by have := ho j hj; omega, by have := ho j hj; omega, fun e => ?_⟩, (h2.block gd hdl).trans hd, hb.trans (h2.mono hb.size)⟩
  have := hw.text.lt e
  have := ho j hj
  omega
theorem roomy_is (v : Value) (bs : List UInt8) (N : Nat) (w : World) (hN : Hid (N = bs.length + 80)) (hv : SliceAt w v bs) (hl : bs.length + 80 ≤ 140737488355328) :
   Calls Tryd.prog 19 #[v, .int .u8 165] w fun e w' => ∃ g, e = .returned (.slice (some ⟨g, 0, none⟩) N N) ∧ w.heap.size ≤ g ∧ w'.heap[g]? = some (.cells (S.v8 (S.roomy bs)) 5 (0, 0)) ∧ Below w.heap.size w w' := by
  rw [hN.out]; exact roomy_any v bs w hv hl
/-- Behind an append onto the document's own text. -/
theorem Both.grown {w W W2 : World} {gd gw : Nat} {v u u' : Value} {acc' d : List UInt8} (hw : WrIs W gw v acc') (hv : ∀ j, v.ownBlock = some j → gd < j) (hul : ∀ j, u.ownBlock = some j → gd < j ∧ j ≠ gw ∧ v.ownBlock ≠ some j) (hd : W.heap[gd]? = some (.cells (S.v8 d) 40 (0, 0))) (hb : Below w.heap.size w W) (hgd : w.heap.size ≤ gd) (hu : URow W2 u' acc') (hg : W.grownBy W2 u.ownBlock) (ho : ∀ j, u'.ownBlock = some j → u.ownBlock = some j ∨ W.heap.size ≤ j) : Both w W2 gd gw v u' acc' d := by
  have hdl := block_lt_of_row hd
  have hgl := hw.lt
  have hc : Chg (fun k => u.ownBlock = some k) W W2 := (Chg.refl _ W).grown hg (fun _ _ h => h)
  refine ⟨hw.chg hc (fun e => (hul gw e).2.1 rfl) (fun j hj e => (hul j e).2.2 hj), hu, hv, fun j hj => ?_, hc.row hd (fun e => by have := (hul gd e).1; omega), hb.trans (hc.below w.heap.size hb.size (fun j hj e => by have := (hul j e).1; omega))⟩
  rcases ho j hj with e | e
  · exact hul j e
  · exact ⟨by omega, by omega, fun e2 => by have := hw.text.lt e2; omega⟩
set_option maxHeartbeats 8000000 in
set_option maxRecDepth 100000 in
theorem codecWrites_walk (a0 : Option Addr) (l0 c0 : Nat) (qs : List S.Ask) (d : List UInt8) (w : World) (hv0 : AsksAt w a0 l0 qs) (hd : d.length = 32) (hP : PowAt w) :
   Calls Tryd.prog 4 #[.slice a0 l0 c0, .agg (S.v8 d)] w fun e w' => e = .returned (.bool true) ∧ Below w.heap.size w w' := by
  have HV0 := hide hv0
  have HD := hide hd
  have HP := hide hP
  obtain ⟨C, hC⟩ : ∃ C, C = min l0 30 := ⟨_, rfl⟩
  have hC0 : C ≤ l0 := by omega
  have hC30 : C ≤ 30 := by omega
  have HC := hide hC
  clear hv0 hd hP hC
  go_enter Tryd.func4, Tryd.ntmps4
  go_wp2_with fail
  generalize hW0 : w.alloc _ = w0
  have rd0 : w0.heap[w.heap.size]? = some (.cells (S.v8 d) 40 (0, 0)) := by rw [← hW0]; exact heap_alloc_new _ _
  have hb0 : Below w.heap.size w w0 := by rw [← hW0]; exact (Below.refl _ _).alloc (Nat.le_refl _) _
  clear hW0
  refine (newWriter_any w0).mono ?_
  rintro e w1 ⟨rfl, hw1, hb1⟩
  have lgd := block_lt_of_row rd0
  have BO : Hid (Both w w1 w.heap.size w0.heap.size (.slice none 0 0) (.slice none 0 0) [] d) := ⟨hw1, urow_nil _, fun j h => (by cases h), fun j h => (by cases h), (hb1.block _ lgd).trans rd0, hb0.trans (hb1.mono hb0.size)⟩
  clear hw1 hb1 rd0 hb0
  obtain ⟨gw, hgw⟩ : ∃ gw, gw = w0.heap.size := ⟨_, rfl⟩
  obtain ⟨gd, hgd⟩ : ∃ gd, gd = w.heap.size := ⟨_, rfl⟩
  rw [← hgw] at BO lgd ⊢
  rw [← hgd] at BO lgd ⊢
  have HGD : Hid (w.heap.size ≤ gd) := Nat.le_of_eq hgd.symm
  clear hgw hgd
  go_wp2_with fail
  go_loopw [6, 7] (fun u i wr => ∃ (k : Nat) (v : Value) (acc : List UInt8), k ≤ C ∧ i = .int .i64 (k : Int) ∧ acc.length ≤ 65546 * k ∧ Both w wr gd gw v u acc d) (fun _ i _ => C - (intOf i).toNat)
  case atStart => exact ⟨0, _, [], Nat.zero_le _, rfl, Nat.zero_le _, BO.out⟩
  case round =>
    obtain ⟨k, v, acc, hk, rfl, hal, hbo⟩ := hrel
    have BB := hide hbo
    clear hbo BO
    go_upto_region 6 with fail
    go_cut [20] (fun b wc => wr = wc ∧ b = .bool (decide (k < C)))
    case first =>
      by_cases h1 : k < l0
      · have q1 : (k : Int) < (l0 : Int) := by omega
        by_cases h3 : k < 30
        · have q3 : (k : Int) < 30 := by omega
          have R : Hid (Value.bool true = .bool (decide (k < C))) := by show Value.bool true = _; rw [decide_eq_true (by have := HC.out; omega)]
          go_wp2_with fail
          go_meet
          exact ⟨rfl, R.out⟩
        · have q3 : ¬ ((k : Int) < 30) := by omega
          have R : Hid (Value.bool false = .bool (decide (k < C))) := by show Value.bool false = _; rw [decide_eq_false (by have := HC.out; omega)]
          go_wp2_with fail
          go_meet
          exact ⟨rfl, by first | exact R.out | (rw [← R.out]; simp; omega)⟩
      · have q1 : ¬ ((k : Int) < (l0 : Int)) := by omega
        have R : Hid (Value.bool false = .bool (decide (k < C))) := by show Value.bool false = _; rw [decide_eq_false (by have := HC.out; omega)]
        go_wp2_with fail
        go_meet
        exact ⟨rfl, by first | exact R.out | (rw [← R.out]; simp; omega)⟩
    case rest =>
    obtain ⟨rfl, rfl⟩ := hcut
    by_cases hlt : k < C
    · rw [decide_eq_true hlt]
      have q0 : (0 : Int) ≤ (k : Int) := by omega
      have q1 : (k : Int) < (l0 : Int) := by omega
      have q4 : IntKind.i64.wrap ((k : Int) + 1) = (k : Int) + 1 := by rw [IntKind.wrap_i64]; omega
      obtain ⟨b0, o0, ha0, lb0, hc0⟩ := HV0.out.2 (by omega)
      have HQ := hide (hc0 k (by omega))
      subst ha0
      clear hc0
      obtain ⟨q, k0, k1, k2, k3, hSB, hLB⟩ := HQ.out
      have ck := (BB.out.bel.cell (p := ⟨b0, o0 + k * 4, none⟩) (by exact lb0)).trans k0
      have K1 := hide k1
      have K2 := hide k2
      have K3 := hide k3
      have SB := hide hSB
      have LB := hide hLB
      have hal2 : acc.length + 65544 + 65544 ≤ 140737488355328 := by omega
      clear k0 k1 k2 k3 hSB hLB HQ
      by_cases h1 : q.kind = 1
      · skip
        have s1 : (q.kind == 1) = true := by simp [h1]
        go_wp2_with fail
        refine wp_region_noPanic ?_
        refine wp_region_held_drew (S := (fun w' => Below w.heap.size w w')) follows (BB.out.bel.drew) (fun hHeld => ?_)
        refine wpAnyH_take (i := 0) (oi := { dst := some 30, op := Op.move (Operand.tmp 5), type := 25, pos := "law.go:78", after := #[], guard := none }) (v := ?_) rfl (by kernel_rfl) (by kernel_rfl) (by kernel_rfl) (fun _ _ _ h => h) (Or.inl ⟨by rfl, ?_⟩) (by assumption) ?_
        rotate_left
        · intro w hSw
          clear hSw
          go_simp
          all_goals with_reducible rfl
        simp only [Act.put, List.setIfInBounds_toArray, List.set_cons_zero, List.set_cons_succ]
        refine wpAnyH_take (i := 1) (oi := { dst := some 31, op := Op.move (Operand.tmp 0), type := 38, pos := "law.go:78", after := #[], guard := none }) (v := ?_) rfl (by kernel_rfl) (by kernel_rfl) (by kernel_rfl) (fun _ _ _ h => h) (Or.inl ⟨by rfl, ?_⟩) (by assumption) ?_
        rotate_left
        · intro w hSw
          clear hSw
          go_simp
          all_goals with_reducible rfl
        simp only [Act.put, List.setIfInBounds_toArray, List.set_cons_zero, List.set_cons_succ]
        refine wpAnyH_take (i := 2) (oi := { dst := some 32, op := Op.move (Operand.tmp 7), type := 3, pos := "law.go:78", after := #[], guard := none }) (v := ?_) rfl (by kernel_rfl) (by kernel_rfl) (by kernel_rfl) (fun _ _ _ h => h) (Or.inl ⟨by rfl, ?_⟩) (by assumption) ?_
        rotate_left
        · intro w hSw
          clear hSw
          go_simp
          all_goals with_reducible rfl
        simp only [Act.put, List.setIfInBounds_toArray, List.set_cons_zero, List.set_cons_succ]
        refine wpAnyH_take (i := 3) (oi := { dst := some 33, op := Op.indexAddr 38 (Operand.tmp 31) (Operand.tmp 32), type := 0, pos := "law.go:78", after := #[{ on := 1, ground := Ground.data }, { on := 2, ground := Ground.data }], guard := none }) (v := ?_) rfl (by kernel_rfl) (by kernel_rfl) (by kernel_rfl) (fun _ _ _ h => h) (Or.inl ⟨by rfl, ?_⟩) (by assumption) ?_
        rotate_left
        · intro w hSw
          clear hSw
          go_simp
          all_goals with_reducible rfl
        simp only [Act.put, List.setIfInBounds_toArray, List.set_cons_zero, List.set_cons_succ]
        refine wpAnyH_take (i := 4) (oi := { dst := some 34, op := Op.fieldAddr 42 (Operand.tmp 33) 1, type := 0, pos := "law.go:78", after := #[{ on := 3, ground := Ground.data }], guard := none }) (v := ?_) rfl (by kernel_rfl) (by kernel_rfl) (by kernel_rfl) (fun _ _ _ h => h) (Or.inl ⟨by rfl, ?_⟩) (by assumption) ?_
        rotate_left
        · intro w hSw
          clear hSw
          go_simp
          all_goals with_reducible rfl
        simp only [Act.put, List.setIfInBounds_toArray, List.set_cons_zero, List.set_cons_succ]
        refine wpAnyH_take (i := 5) (oi := { dst := some 35, op := Op.load 27 (Operand.tmp 34), type := 27, pos := "law.go:78", after := #[{ on := 4, ground := Ground.data }], guard := none }) (v := ?_) rfl (by kernel_rfl) (by kernel_rfl) (by kernel_rfl) (fun _ _ _ h => h) (Or.inl ⟨by rfl, ?_⟩) (by assumption) ?_
        rotate_left
        · intro w hSw
          have c := (Below.cell hSw (p := ⟨b0, o0 + k * 4 + 1, none⟩) (by exact lb0)).trans K1.out
          clear hSw
          go_simp
          all_goals with_reducible rfl
        simp only [Act.put, List.setIfInBounds_toArray, List.set_cons_zero, List.set_cons_succ]
        refine wpAnyH_take (i := 6) (oi := { dst := some 36, op := Op.move (Operand.tmp 0), type := 38, pos := "law.go:78", after := #[], guard := none }) (v := ?_) rfl (by kernel_rfl) (by kernel_rfl) (by kernel_rfl) (fun _ _ _ h => h) (Or.inl ⟨by rfl, ?_⟩) (by assumption) ?_
        rotate_left
        · intro w hSw
          clear hSw
          go_simp
          all_goals with_reducible rfl
        simp only [Act.put, List.setIfInBounds_toArray, List.set_cons_zero, List.set_cons_succ]
        refine wpAnyH_take (i := 7) (oi := { dst := some 37, op := Op.move (Operand.tmp 7), type := 3, pos := "law.go:78", after := #[], guard := none }) (v := ?_) rfl (by kernel_rfl) (by kernel_rfl) (by kernel_rfl) (fun _ _ _ h => h) (Or.inl ⟨by rfl, ?_⟩) (by assumption) ?_
        rotate_left
        · intro w hSw
          clear hSw
          go_simp
          all_goals with_reducible rfl
        simp only [Act.put, List.setIfInBounds_toArray, List.set_cons_zero, List.set_cons_succ]
        refine wpAnyH_take (i := 8) (oi := { dst := some 38, op := Op.indexAddr 38 (Operand.tmp 36) (Operand.tmp 37), type := 0, pos := "law.go:78", after := #[{ on := 6, ground := Ground.data }, { on := 7, ground := Ground.data }], guard := none }) (v := ?_) rfl (by kernel_rfl) (by kernel_rfl) (by kernel_rfl) (fun _ _ _ h => h) (Or.inl ⟨by rfl, ?_⟩) (by assumption) ?_
        rotate_left
        · intro w hSw
          clear hSw
          go_simp
          all_goals with_reducible rfl
        simp only [Act.put, List.setIfInBounds_toArray, List.set_cons_zero, List.set_cons_succ]
        refine wpAnyH_take (i := 9) (oi := { dst := some 39, op := Op.fieldAddr 42 (Operand.tmp 38) 2, type := 0, pos := "law.go:78", after := #[{ on := 8, ground := Ground.data }], guard := none }) (v := ?_) rfl (by kernel_rfl) (by kernel_rfl) (by kernel_rfl) (fun _ _ _ h => h) (Or.inl ⟨by rfl, ?_⟩) (by assumption) ?_
        rotate_left
        · intro w hSw
          clear hSw
          go_simp
          all_goals with_reducible rfl
        simp only [Act.put, List.setIfInBounds_toArray, List.set_cons_zero, List.set_cons_succ]
        refine wpAnyH_take (i := 10) (oi := { dst := some 40, op := Op.load 3 (Operand.tmp 39), type := 3, pos := "law.go:78", after := #[{ on := 9, ground := Ground.data }], guard := none }) (v := ?_) rfl (by kernel_rfl) (by kernel_rfl) (by kernel_rfl) (fun _ _ _ h => h) (Or.inl ⟨by rfl, ?_⟩) (by assumption) ?_
        rotate_left
        · intro w hSw
          have c := (Below.cell hSw (p := ⟨b0, o0 + k * 4 + 2, none⟩) (by exact lb0)).trans K2.out
          clear hSw
          go_simp
          all_goals with_reducible rfl
        simp only [Act.put, List.setIfInBounds_toArray, List.set_cons_zero, List.set_cons_succ]
        refine wpAnyH_ready (rs := [11]) (by kernel_rfl) (by simp) ?_
        refine AllReadyH.cons (o := { dst := some 41, op := Op.call { callee := Callee.value (Operand.func 13), args := #[Operand.tmp 30, Operand.tmp 35, Operand.tmp 40], argTypes := #[25, 27, 3] }, type := 0, pos := "law.go:78", after := #[{ on := 0, ground := Ground.data }, { on := 5, ground := Ground.data }, { on := 10, ground := Ground.data }], guard := none }) rfl (fun K hK => ?_) AllReadyH.nil
        go_simp
        have BD := BB.out.below (W := wr.drew) ((Below.refl _ _).drew)
        refine (wnumber_is q.n gw v wr.drew rfl rfl BD.wrt (by omega)).mono ?_
        rintro e w2 ⟨rfl, v2, hw2, ht2⟩
        have X2 := hide (BD.wrote hw2 ht2 lgd HGD.out)
        have hb2 := X2.out.2.2.2.2.2
        clear hHeld hw2 ht2 BD BB
        go_wp2_with fail
        refine hK.out _ _ hb2 (fun hHeld => ?_)
        clear hK K hb2
        try simp only [Act.put, List.setIfInBounds_toArray, List.set_cons_zero, List.set_cons_succ]
        refine wpAnyH_done (by kernel_rfl) ?_ _
        refine NoPanic.normal ?_
        clear hHeld
        go_wp2_with fail
        refine wp_region_noPanic ?_
        refine wp_region_held_drew (S := (fun w' => Below w.heap.size w w')) follows (X2.out.2.2.2.2.2.drew) (fun hHeld => ?_)
        refine wpAnyH_take (i := 0) (oi := { dst := some 42, op := Op.move (Operand.tmp 6), type := 24, pos := "law.go:79", after := #[], guard := none }) (v := ?_) rfl (by kernel_rfl) (by kernel_rfl) (by kernel_rfl) (fun _ _ _ h => h) (Or.inl ⟨by rfl, ?_⟩) (by assumption) ?_
        rotate_left
        · intro w hSw
          clear hSw
          go_simp
          all_goals with_reducible rfl
        simp only [Act.put, List.setIfInBounds_toArray, List.set_cons_zero, List.set_cons_succ]
        refine wpAnyH_take (i := 1) (oi := { dst := some 43, op := Op.move (Operand.tmp 0), type := 38, pos := "law.go:79", after := #[], guard := none }) (v := ?_) rfl (by kernel_rfl) (by kernel_rfl) (by kernel_rfl) (fun _ _ _ h => h) (Or.inl ⟨by rfl, ?_⟩) (by assumption) ?_
        rotate_left
        · intro w hSw
          clear hSw
          go_simp
          all_goals with_reducible rfl
        simp only [Act.put, List.setIfInBounds_toArray, List.set_cons_zero, List.set_cons_succ]
        refine wpAnyH_take (i := 2) (oi := { dst := some 44, op := Op.move (Operand.tmp 7), type := 3, pos := "law.go:79", after := #[], guard := none }) (v := ?_) rfl (by kernel_rfl) (by kernel_rfl) (by kernel_rfl) (fun _ _ _ h => h) (Or.inl ⟨by rfl, ?_⟩) (by assumption) ?_
        rotate_left
        · intro w hSw
          clear hSw
          go_simp
          all_goals with_reducible rfl
        simp only [Act.put, List.setIfInBounds_toArray, List.set_cons_zero, List.set_cons_succ]
        refine wpAnyH_take (i := 3) (oi := { dst := some 45, op := Op.indexAddr 38 (Operand.tmp 43) (Operand.tmp 44), type := 0, pos := "law.go:79", after := #[{ on := 1, ground := Ground.data }, { on := 2, ground := Ground.data }], guard := none }) (v := ?_) rfl (by kernel_rfl) (by kernel_rfl) (by kernel_rfl) (fun _ _ _ h => h) (Or.inl ⟨by rfl, ?_⟩) (by assumption) ?_
        rotate_left
        · intro w hSw
          clear hSw
          go_simp
          all_goals with_reducible rfl
        simp only [Act.put, List.setIfInBounds_toArray, List.set_cons_zero, List.set_cons_succ]
        refine wpAnyH_take (i := 4) (oi := { dst := some 46, op := Op.fieldAddr 42 (Operand.tmp 45) 1, type := 0, pos := "law.go:79", after := #[{ on := 3, ground := Ground.data }], guard := none }) (v := ?_) rfl (by kernel_rfl) (by kernel_rfl) (by kernel_rfl) (fun _ _ _ h => h) (Or.inl ⟨by rfl, ?_⟩) (by assumption) ?_
        rotate_left
        · intro w hSw
          clear hSw
          go_simp
          all_goals with_reducible rfl
        simp only [Act.put, List.setIfInBounds_toArray, List.set_cons_zero, List.set_cons_succ]
        refine wpAnyH_take (i := 5) (oi := { dst := some 47, op := Op.load 27 (Operand.tmp 46), type := 27, pos := "law.go:79", after := #[{ on := 4, ground := Ground.data }], guard := none }) (v := ?_) rfl (by kernel_rfl) (by kernel_rfl) (by kernel_rfl) (fun _ _ _ h => h) (Or.inl ⟨by rfl, ?_⟩) (by assumption) ?_
        rotate_left
        · intro w hSw
          have c := (Below.cell hSw (p := ⟨b0, o0 + k * 4 + 1, none⟩) (by exact lb0)).trans K1.out
          clear hSw
          go_simp
          all_goals with_reducible rfl
        simp only [Act.put, List.setIfInBounds_toArray, List.set_cons_zero, List.set_cons_succ]
        refine wpAnyH_take (i := 6) (oi := { dst := some 48, op := Op.move (Operand.tmp 0), type := 38, pos := "law.go:79", after := #[], guard := none }) (v := ?_) rfl (by kernel_rfl) (by kernel_rfl) (by kernel_rfl) (fun _ _ _ h => h) (Or.inl ⟨by rfl, ?_⟩) (by assumption) ?_
        rotate_left
        · intro w hSw
          clear hSw
          go_simp
          all_goals with_reducible rfl
        simp only [Act.put, List.setIfInBounds_toArray, List.set_cons_zero, List.set_cons_succ]
        refine wpAnyH_take (i := 7) (oi := { dst := some 49, op := Op.move (Operand.tmp 7), type := 3, pos := "law.go:79", after := #[], guard := none }) (v := ?_) rfl (by kernel_rfl) (by kernel_rfl) (by kernel_rfl) (fun _ _ _ h => h) (Or.inl ⟨by rfl, ?_⟩) (by assumption) ?_
        rotate_left
        · intro w hSw
          clear hSw
          go_simp
          all_goals with_reducible rfl
        simp only [Act.put, List.setIfInBounds_toArray, List.set_cons_zero, List.set_cons_succ]
        refine wpAnyH_take (i := 8) (oi := { dst := some 50, op := Op.indexAddr 38 (Operand.tmp 48) (Operand.tmp 49), type := 0, pos := "law.go:79", after := #[{ on := 6, ground := Ground.data }, { on := 7, ground := Ground.data }], guard := none }) (v := ?_) rfl (by kernel_rfl) (by kernel_rfl) (by kernel_rfl) (fun _ _ _ h => h) (Or.inl ⟨by rfl, ?_⟩) (by assumption) ?_
        rotate_left
        · intro w hSw
          clear hSw
          go_simp
          all_goals with_reducible rfl
        simp only [Act.put, List.setIfInBounds_toArray, List.set_cons_zero, List.set_cons_succ]
        refine wpAnyH_take (i := 9) (oi := { dst := some 51, op := Op.fieldAddr 42 (Operand.tmp 50) 2, type := 0, pos := "law.go:79", after := #[{ on := 8, ground := Ground.data }], guard := none }) (v := ?_) rfl (by kernel_rfl) (by kernel_rfl) (by kernel_rfl) (fun _ _ _ h => h) (Or.inl ⟨by rfl, ?_⟩) (by assumption) ?_
        rotate_left
        · intro w hSw
          clear hSw
          go_simp
          all_goals with_reducible rfl
        simp only [Act.put, List.setIfInBounds_toArray, List.set_cons_zero, List.set_cons_succ]
        refine wpAnyH_take (i := 10) (oi := { dst := some 52, op := Op.load 3 (Operand.tmp 51), type := 3, pos := "law.go:79", after := #[{ on := 9, ground := Ground.data }], guard := none }) (v := ?_) rfl (by kernel_rfl) (by kernel_rfl) (by kernel_rfl) (fun _ _ _ h => h) (Or.inl ⟨by rfl, ?_⟩) (by assumption) ?_
        rotate_left
        · intro w hSw
          have c := (Below.cell hSw (p := ⟨b0, o0 + k * 4 + 2, none⟩) (by exact lb0)).trans K2.out
          clear hSw
          go_simp
          all_goals with_reducible rfl
        simp only [Act.put, List.setIfInBounds_toArray, List.set_cons_zero, List.set_cons_succ]
        refine wpAnyH_ready (rs := [11]) (by kernel_rfl) (by simp) ?_
        refine AllReadyH.cons (o := { dst := some 53, op := Op.call { callee := Callee.value (Operand.func 18), args := #[Operand.tmp 42, Operand.tmp 47, Operand.tmp 52], argTypes := #[24, 27, 3] }, type := 24, pos := "law.go:79", after := #[{ on := 0, ground := Ground.data }, { on := 5, ground := Ground.data }, { on := 10, ground := Ground.data }], guard := none }) rfl (fun K hK => ?_) AllReadyH.nil
        go_simp
        refine (dnumber_any u6 acc q.n q.size w2.drew ((X2.out.2.1.sliceAt (by omega)).of_heap rfl) (by omega)).mono ?_
        rintro e w3 ⟨u3, rfl, hu3, ho3, hb3⟩
        have BO := hide (Both.told X2.out.1 X2.out.2.2.1 X2.out.2.2.2.2.1 X2.out.2.2.2.2.2 hu3 ho3 (((Below.refl w2.heap.size w2).drew).trans hb3))
        have hb4 := BO.out.bel
        clear hHeld hu3 ho3 hb3 X2
        go_wp2_with fail
        refine hK.out _ _ hb4 (fun hHeld => ?_)
        clear hK K hb4
        try simp only [Act.put, List.setIfInBounds_toArray, List.set_cons_zero, List.set_cons_succ]
        refine wpAnyH_take (i := 12) (oi := { dst := some 6, op := Op.assign (Operand.tmp 53), type := 24, pos := "law.go:79", after := #[{ on := 11, ground := Ground.data }, { on := 11, ground := Ground.chain }, { on := 0, ground := Ground.phase }, { on := 1, ground := Ground.phase }, { on := 2, ground := Ground.phase }, { on := 3, ground := Ground.phase }, { on := 4, ground := Ground.phase }, { on := 5, ground := Ground.phase }, { on := 6, ground := Ground.phase }, { on := 7, ground := Ground.phase }, { on := 8, ground := Ground.phase }, { on := 9, ground := Ground.phase }, { on := 10, ground := Ground.phase }, { on := 11, ground := Ground.phase }], guard := none }) (v := ?_) rfl (by kernel_rfl) (by kernel_rfl) (by kernel_rfl) (fun _ _ _ h => h) (Or.inl ⟨by rfl, ?_⟩) (by assumption) ?_
        rotate_left
        · intro w hSw
          clear hSw
          go_simp
          all_goals with_reducible rfl
        simp only [Act.put, List.setIfInBounds_toArray, List.set_cons_zero, List.set_cons_succ]
        refine wpAnyH_done (by kernel_rfl) ?_ _
        refine NoPanic.normal ?_
        clear hHeld
        have AL : Hid ((acc ++ S.num q.n (S.size q.size)).length ≤ 65546 * (k + 1)) := by show (acc ++ S.num q.n (S.size q.size)).length ≤ _; rw [List.length_append, S.num_length]; have := S.size_le q.size; omega
        generalize acc ++ S.num q.n (S.size q.size) = acc2 at *
        have EL : Hid (acc2.length ≤ 65546 * (k + 1)) := AL.out
        go_wp2_with fail
        refine (done_any gw v2 acc2 w3 BO.out.wrt (by have := EL.out; omega)).mono ?_
        rintro e w8 ⟨rfl, hr, hb⟩
        have BO8 := hide (BO.out.below hb)
        have SL8 := hide ((stays_row (p := fun _ => False) hr (fun e => e) (by have := EL.out; omega)).now)
        clear hr hb
        go_wp2_with fail
        refine (same_any _ u3 acc2 w8 SL8.out (BO8.out.doc.sliceAt (by have := EL.out; omega))).mono ?_
        rintro e w9 ⟨rfl, hst⟩
        have BO9 := hide (BO8.out.below (hst.below _))
        clear hst SL8 BO8
        go_wp2_with fail
        go_roundw
        case rel => exact ⟨k + 1, v2, acc2, by omega, by go_num, EL.out, BO9.out⟩
        case measure => simp [intOf]; omega
      by_cases h2 : q.kind = 2
      · skip
        have s1 : (q.kind == 1) = false := by simp [h2]
        have s2 : (q.kind == 2) = true := by simp [h2]
        obtain ⟨ab, lb, cb, hvq, hlb, _⟩ := SB.out.form
        have K3' : Hid (w.cell? ⟨b0, o0 + k * 4 + 3, none⟩ = some (.slice ab lb cb)) := by rw [← hvq]; exact K3.out
        have SB' : Hid (SliceAt w (.slice ab lb cb) q.b) := by rw [← hvq]; exact SB.out
        have HLB := hide hlb
        obtain ⟨N, hN⟩ : ∃ N, N = q.b.length + 80 := ⟨_, rfl⟩
        have n1 : (lb : Int) ≤ (N : Int) := by omega
        have n2 : (0 : Int) ≤ (lb : Int) := by omega
        have nlb : lb + 80 ≤ 140737488355328 := by have := LB.out; omega
        have HNN := hide hN
        clear hvq hlb hN SB K3 K1 K2
        have c3 := (BB.out.bel.cell (p := ⟨b0, o0 + k * 4 + 3, none⟩) (by exact lb0)).trans K3'.out
        go_wp2_with fail
        refine (roomy_is _ q.b N wr HNN (SB'.out.below BB.out.bel (Nat.le_refl _)) LB.out).mono ?_
        rintro e w2 ⟨gf, rfl, hgf, hrow, hb2⟩
        have B2 := hide (BB.out.below hb2)
        have RF2 := hide hrow
        have f1 : gf ≠ gw := fun e => by have := BB.out.wrt.lt; omega
        have f2 : gd < gf := by have := block_lt_of_row BB.out.dig; omega
        have f3 : Hid (v.ownBlock ≠ some gf) := fun e => by have := BB.out.wrt.text.lt e; omega
        clear hrow hb2 BB c3
        have c3 := (B2.out.bel.cell (p := ⟨b0, o0 + k * 4 + 3, none⟩) (by exact lb0)).trans K3'.out
        have ST : Hid (Stays (fun j => j = gw ∨ v.ownBlock = some j) w2 (.slice (some ⟨gf, 0, none⟩) lb N) q.b) := fun W hc => by
          rw [HLB.out]
          exact roomy_at (hc.row RF2.out (fun e => by rcases e with e | e; exact f1 e; exact f3.out e)) LB.out N (by have := HNN.out; omega)
        go_wp2_with fail
        refine (wbytes_is gw v _ w2 rfl B2.out.wrt ST.out (by omega)).mono ?_
        rintro e w3 ⟨rfl, v3, hw3, ht3⟩
        have X3 := hide (B2.out.wrote hw3 ht3 lgd HGD.out)
        have RF3 := hide (ht3.chg.row RF2.out (fun e => by rcases e with e | e; exact f1 e; exact f3.out e))
        have f4 : Hid (v3.ownBlock ≠ some gf) := fun e => by rcases ht3.own gf e with h | h; exact f3.out h; have := block_lt_of_row RF2.out; omega
        clear hw3 ht3 B2 RF2 ST c3
        have c3 := (X3.out.2.2.2.2.2.cell (p := ⟨b0, o0 + k * 4 + 3, none⟩) (by exact lb0)).trans K3'.out
        go_wp2_with fail
        refine (dbytes_any u6 _ acc q.b w3 (X3.out.2.1.sliceAt (by omega)) (SB'.out.below X3.out.2.2.2.2.2 (Nat.le_refl _)) (by omega)).mono ?_
        rintro e w4 ⟨u4, rfl, hu4, ho4, hb4⟩
        have B4 := hide (Both.told X3.out.1 X3.out.2.2.1 X3.out.2.2.2.2.1 X3.out.2.2.2.2.2 hu4 ho4 hb4)
        have RF4 := hide ((hb4.block gf (block_lt_of_row RF3.out)).trans RF3.out)
        have f5 : Hid (u4.ownBlock ≠ some gf) := fun e => by have := ho4 gf e; have := block_lt_of_row RF3.out; omega
        clear hu4 ho4 hb4 X3 RF3 c3
        have c3 := (B4.out.bel.cell (p := ⟨b0, o0 + k * 4 + 3, none⟩) (by exact lb0)).trans K3'.out
        go_wp2_with fail
        refine (intact_any gf _ q.b N w4 HNN.out (SB'.out.below B4.out.bel (Nat.le_refl _)) LB.out RF4.out).mono ?_
        rintro e w5 ⟨rfl, hst⟩
        have B5 := hide (B4.out.below (hst.below _))
        have RF5 : Hid (w5.heap[gf]? = some (.cells (S.v8 (S.roomy q.b)) 5 (0, 0))) := by show w5.heap[gf]? = _; rw [hst.1]; exact RF4.out
        have rl : (S.roomy q.b).length = N := by rw [S.roomy_length]; exact HNN.out.symm
        have RL := hide rl
        clear hst B4 RF4 c3 rl
        have AL : Hid ((acc ++ S.text q.b).length ≤ 65546 * (k + 1)) := by show (acc ++ S.text q.b).length ≤ _; rw [List.length_append, S.text_length]; have := Nat.mod_lt q.b.length (by decide : 0 < 65536); omega
        generalize acc ++ S.text q.b = acc2 at *
        go_wp2_with fail
        go_loopw [9] (fun i wz => ∃ kk : Nat, kk ≤ lb ∧ i = .int .i64 (kk : Int) ∧ (∃ row : List UInt8, row.length = N ∧ wz.heap[gf]? = some (.cells (S.v8 row) 5 (0, 0))) ∧ Both w wz gd gw v3 u4 acc2 d) (fun i _ => lb - (intOf i).toNat)
        case atStart => exact ⟨0, Nat.zero_le _, rfl, ⟨_, RL.out, RF5.out⟩, B5.out⟩
        case round =>
          obtain ⟨kk, hkk, rfl, ⟨row, hrl, hrow⟩, hbo⟩ := hrel
          have BZ := hide hbo
          clear hbo B5 RF5 RL
          have c3 := (BZ.out.bel.cell (p := ⟨b0, o0 + k * 4 + 3, none⟩) (by exact lb0)).trans K3'.out
          by_cases hlt2 : kk < lb
          · have m1 : (kk : Int) < (lb : Int) := by omega
            have m2 : (0 : Int) ≤ (kk : Int) := by omega
            have m3 : (kk : Int) < (N : Int) := by omega
            have m4 : IntKind.i64.wrap ((kk : Int) + 1) = (kk : Int) + 1 := by rw [IntKind.wrap_i64]; omega
            have cc := v8_cell hrow kk (by omega)
            have ff := frozen_of_row _ _ kk _ _ hrow
            have RS := hide (v8_set hrow kk 9)
            have BS := hide (BZ.out.over (g := gf) ((Chg.refl (fun j => j = gf) wr).setCell gf kk (.int .u8 ((9 : UInt8).toNat : Int)) (fun _ => rfl)) f1 (by omega) f4.out f5.out (by have := HGD.out; omega))
            have RLL : Hid ((row.set kk 9).length = N) := by show (row.set kk 9).length = N; rw [List.length_set]; exact hrl
            clear hrow BZ hrl
            go_wp2_with fail
            go_roundw
            case rel => exact ⟨kk + 1, by omega, by go_num, ⟨_, RLL.out, RS.out⟩, BS.out⟩
            case measure => simp [intOf]; omega
          · obtain rfl : kk = lb := by omega
            have m1 : ¬ ((kk : Int) < (kk : Int)) := by omega
            clear hrow hrl
            have EL : Hid (acc2.length ≤ 65546 * (k + 1)) := AL.out
            go_wp2_with fail
            refine (done_any gw v3 acc2 wr BZ.out.wrt (by have := EL.out; omega)).mono ?_
            rintro e w8 ⟨rfl, hr, hb⟩
            have BO8 := hide (BZ.out.below hb)
            have SL8 := hide ((stays_row (p := fun _ => False) hr (fun e => e) (by have := EL.out; omega)).now)
            clear hr hb
            go_wp2_with fail
            refine (same_any _ u4 acc2 w8 SL8.out (BO8.out.doc.sliceAt (by have := EL.out; omega))).mono ?_
            rintro e w9 ⟨rfl, hst⟩
            have BO9 := hide (BO8.out.below (hst.below _))
            clear hst SL8 BO8
            go_wp2_with fail
            go_roundw
            case rel => exact ⟨k + 1, v3, acc2, by omega, by go_num, EL.out, BO9.out⟩
            case measure => simp [intOf]; omega
      by_cases h3 : q.kind = 3
      · skip
        have s1 : (q.kind == 1) = false := by simp [h3]
        have s2 : (q.kind == 2) = false := by simp [h3]
        have s3 : (q.kind == 3) = true := by simp [h3]
        clear K1 K2 K3 SB LB
        go_wp2_with (first | refine wpList_load_row rfl 40 _ rfl gd rfl 40 _ _ _ BB.out.dig Tryd.underlying40 rfl (size_dig _ HD.out) ?_ | fail)
        refine (wdigest_to gw v wr rfl HD.out BB.out.wrt (by omega)).mono ?_
        rintro e w2 ⟨rfl, v2, hw2, ht2⟩
        have X2 := hide (BB.out.wrote hw2 ht2 lgd HGD.out)
        have SD : Hid (SliceAt w2 (.slice (some ⟨gd, 0, none⟩) 32 32) d) := Or.inr (Or.inr ⟨gd, 0, 32, by rw [HD.out], by rw [HD.out]; omega, by rw [HD.out]; omega, block_lt_of_row X2.out.2.2.2.2.1, fun j hj => by rw [Nat.zero_add]; exact v8_cell X2.out.2.2.2.2.1 j hj⟩)
        have LN : Hid (acc.length + d.length ≤ 140737488355328) := by show acc.length + d.length ≤ _; rw [HD.out]; omega
        clear hw2 ht2 BB
        go_wp2_with (at_builtin; (refine wpList_append_known rfl (.tmp 105) (.tmp 106) 24 24 rfl _ _ rfl rfl (run_append_row _ _ _ acc d 24 X2.out.2.1 SD.out LN.out) ?_; rintro u3 w3 ⟨hu3, hg3, ho3⟩))
        have BO := hide (Both.grown X2.out.1 X2.out.2.2.1 X2.out.2.2.2.1 X2.out.2.2.2.2.1 X2.out.2.2.2.2.2 HGD.out hu3 hg3 ho3)
        clear hu3 hg3 ho3 X2 SD LN
        have AL : Hid ((acc ++ d).length ≤ 65546 * (k + 1)) := by show (acc ++ d).length ≤ _; rw [List.length_append, HD.out]; omega
        generalize acc ++ d = acc2 at *
        have EL : Hid (acc2.length ≤ 65546 * (k + 1)) := AL.out
        go_wp2_with fail
        refine (done_any gw v2 acc2 w3 BO.out.wrt (by have := EL.out; omega)).mono ?_
        rintro e w8 ⟨rfl, hr, hb⟩
        have BO8 := hide (BO.out.below hb)
        have SL8 := hide ((stays_row (p := fun _ => False) hr (fun e => e) (by have := EL.out; omega)).now)
        clear hr hb
        go_wp2_with fail
        refine (same_any _ u3 acc2 w8 SL8.out (BO8.out.doc.sliceAt (by have := EL.out; omega))).mono ?_
        rintro e w9 ⟨rfl, hst⟩
        have BO9 := hide (BO8.out.below (hst.below _))
        clear hst SL8 BO8
        go_wp2_with fail
        go_roundw
        case rel => exact ⟨k + 1, v2, acc2, by omega, by go_num, EL.out, BO9.out⟩
        case measure => simp [intOf]; omega
      · have s1 : (q.kind == 1) = false := by simp [h1]
        have s2 : (q.kind == 2) = false := by simp [h2]
        have s3 : (q.kind == 3) = false := by simp [h3]
        clear K1 K2 K3 SB LB
        have EL : Hid (acc.length ≤ 65546 * (k + 1)) := by show acc.length ≤ _; omega
        go_wp2_with fail
        refine (done_any gw v acc wr BB.out.wrt (by have := EL.out; omega)).mono ?_
        rintro e w8 ⟨rfl, hr, hb⟩
        have BO8 := hide (BB.out.below hb)
        have SL8 := hide ((stays_row (p := fun _ => False) hr (fun e => e) (by have := EL.out; omega)).now)
        clear hr hb
        go_wp2_with fail
        refine (same_any _ u6 acc w8 SL8.out (BO8.out.doc.sliceAt (by have := EL.out; omega))).mono ?_
        rintro e w9 ⟨rfl, hst⟩
        have BO9 := hide (BO8.out.below (hst.below _))
        clear hst SL8 BO8
        go_wp2_with fail
        go_roundw
        case rel => exact ⟨k + 1, v, acc, by omega, by go_num, EL.out, BO9.out⟩
        case measure => simp [intOf]; omega
    · rw [decide_eq_false hlt]
      go_wp2_with fail
      refine (known_any wr (HP.out.below BB.out.bel)).mono ?_
      rintro e w2 ⟨rfl, hb⟩
      have Z := BB.out.bel.trans (hb.mono BB.out.bel.size)
      clear hb
      go_wp2_with fail
      go_ret
      exact ⟨rfl, Z⟩
end Go.Proofs.YtdhaeepaemneaaaDoor
