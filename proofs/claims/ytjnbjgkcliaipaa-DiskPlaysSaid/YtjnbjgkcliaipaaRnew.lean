/- The document's New. -/
import Derived.Test.YtjnbjgkcliaipaaRapp
namespace Go.Proofs.Ytjnbjgkcliaipaa
open Go.RowKit
theorem rep_getD (k i : Nat) : (List.replicate (k + 1) (S.zeros 128)).getD i [] = if i < k then (List.replicate k (S.zeros 128)).getD i [] else if i = k then S.zeros 128 else [] := by
  simp only [List.getD_eq_getElem?_getD, List.getElem?_replicate]
  by_cases h : i < k
  · simp [h, Nat.lt_succ_of_lt h]
  · by_cases h2 : i = k
    · simp [h2]
    · simp [h, h2, show ¬ i < k + 1 from by omega]
/-- The disk behind one sector more. -/
theorem RkIs.sector {X Y w : World} {r : Ro} {k : Nat} {v2 u : Value} (h : RkIs X r (S.Dk.new k)) (hk : k < 8192) (hws : r.ws = []) (hpv : r.pv = .slice none 0 0) (hu : URow X u (S.zeros 128)) (hub : ∀ j, u.ownBlock = some j → w.heap.size ≤ j ∧ ¬ r.has j) (hw : Below w.heap.size w X) (hall : ∀ j, r.has j ∨ r.txt j → w.heap.size ≤ j)
    (hp : Y.ownsRow 0 29 1 v2 (r.ts ++ [u]).length (r.ts ++ [u])) (hg : X.grownBy Y r.sv.ownBlock) (ho : ∀ j, v2.ownBlock = some j → r.sv.ownBlock = some j ∨ X.heap.size ≤ j) :
    RkIs (Y.setCell ⟨r.g, 0, none⟩ v2) { r with sv := v2, ts := r.ts ++ [u] } (S.Dk.new (k + 1)) ∧ Below w.heap.size w (Y.setCell ⟨r.g, 0, none⟩ v2) ∧ ∀ j, Ro.has { r with sv := v2, ts := r.ts ++ [u] } j ∨ Ro.txt { r with sv := v2, ts := r.ts ++ [u] } j → w.heap.size ≤ j := by
  have hrow : Y.heap[r.g]? = _ := (hg.block r.g (h.lt _ (Or.inl (Or.inl rfl))) (fun e => h.sep.1 e.symm)).trans h.row
  have R := heap_setCell_same _ _ 0 _ _ v2 hrow
  have hcY : Chg r.has X Y := (Chg.refl _ _).grown hg (fun j _ e => Or.inr (Or.inl e))
  have hc : Chg r.has X (Y.setCell ⟨r.g, 0, none⟩ v2) := hcY.setCell r.g 0 _ (fun _ => Or.inl rfl)
  have hco : Chg (fun j => j = r.g) Y (Y.setCell ⟨r.g, 0, none⟩ v2) := (Chg.refl (fun j => j = r.g) Y).setCell r.g 0 _ (fun _ => rfl)
  have htx := h.texts hc
  have hsl : r.ts.length = k := by rw [h.sl]; simp [S.Dk.new]
  have hv2g : v2.ownBlock ≠ some r.g := fun e => by
    have := h.lt r.g (Or.inl (Or.inl rfl))
    rcases ho _ e with e' | e'
    · exact h.sep.1 e'
    · omega
  have htn : ∀ i, i < k + 1 → (r.ts ++ [u]).getD i nilv = if i < k then r.tn i else u := fun i hi => by
    simp only [List.getD_eq_getElem?_getD]
    split
    · next e => rw [List.getElem?_append_left (by omega)]
    · next e =>
      obtain rfl : i = r.ts.length := by omega
      simp
  have hnt : ∀ j, Ro.txt { r with sv := v2, ts := r.ts ++ [u] } j → (r.txt j ∨ u.ownBlock = some j) := fun j hj => by
    rcases hj with ⟨i, hi, e⟩ | ⟨i, hi, e⟩
    · have hi' : i < k + 1 := by have : i < (r.ts ++ [u]).length := hi; simp [hsl] at this; omega
      have e2 : ((r.ts ++ [u]).getD i nilv).ownBlock = some j := e
      rw [htn i hi'] at e2
      split at e2
      · next e3 => exact Or.inl (Or.inl ⟨i, by omega, e2⟩)
      · exact Or.inr e2
    · have hi' : i < r.ws.length := hi
      rw [hws] at hi'
      exact absurd hi' (Nat.not_lt_zero _)
  refine ⟨⟨R, ownsRow_chg hp (fun j hj => hco.block j (hp.lt j hj).2 (fun e => hv2g (by have e' : j = r.g := e; rw [← e']; exact hj))), ?_, by simp [S.Dk.new, hsl], h.pl, fun i hi => ?_, htx.2, S.Dk.new_ok (k + 1) (by omega), fun j hj => (by cases hj), ⟨hv2g, h.sep.2.1, fun j _ e => (by rw [hpv] at e; cases e)⟩, fun j hj e => ?_⟩, ?_, fun j hj => ?_⟩
  · show World.ownsRow _ 0 81 2 r.pv r.ws.length (wcells r.ws)
    rw [hws, hpv]
    exact World.ownsRow_nil _ 0 81 2
  · have hi' : i < k + 1 := by have : i < (r.ts ++ [u]).length := hi; simp [hsl] at this; omega
    show URow _ ((r.ts ++ [u]).getD i nilv) ((List.replicate (k + 1) (S.zeros 128)).getD i [])
    rw [htn i hi', rep_getD]
    split
    · next e => exact htx.1 i (by omega)
    · next e =>
      rw [if_pos (by omega)]
      exact hu.chg hc (fun j hj => (hub j hj).2)
  · have hnot : ¬ r.has j ∧ j < X.heap.size := by
      rcases hnt j hj with e' | e'
      · exact ⟨h.tsep j e', h.lt j (Or.inr e')⟩
      · exact ⟨(hub j e').2, hu.lt e'⟩
    rcases e with e | e | e
    · exact hnot.1 (Or.inl e)
    · rcases ho j e with e' | e'
      · exact hnot.1 (Or.inr (Or.inl e'))
      · omega
    · exact hnot.1 (Or.inr (Or.inr e))
  · exact hw.trans (hc.below w.heap.size hw.size (fun j hj e => by have := hall j (Or.inl e); omega))
  · rcases hj with (e | e | e) | e
    · exact hall j (Or.inl (Or.inl e))
    · rcases ho j e with e' | e'
      · exact hall j (Or.inl (Or.inr (Or.inl e')))
      · have := hw.size; omega
    · exact hall j (Or.inl (Or.inr (Or.inr e)))
    · rcases hnt j e with e' | e'
      · exact hall j (Or.inr e')
      · exact (hub j e').1
theorem step_makeSlice {md : Region.Mode} {ops : Array Oper} {Q : Exit → Act → World → Prop} {S : World → Prop} {fuel : Nat} {listed : Array Bool} {a : Act} {w : World} {i : Nat} {o : Oper} {rs : List Nat} (ho : ops[i]? = some o) (hgd : o.guard = none) (t : TypeId) (x y : Operand)
    (hop : o.op = .makeSlice t x y) (v' : Value) (w' : World) (hr : (Instr.makeSlice t (a.eval x) (a.eval y)).run Try.prog w = .ok v' w') (hrest : AllReadyH Try.prog md ops Q S fuel listed a w rs)
    (h : S w' ∧ (S w' → wpAnyH Try.prog md ops Q S fuel (listed.setIfInBounds i true) (a.put o.dst v') w')) : AllReadyH Try.prog md ops Q S fuel listed a w (i :: rs) := by
  refine AllReadyH.cons ho (fun K hK => ?_) hrest
  rw [if_pos (by simp [Region.wanted, hgd])]
  unfold Oper.wp execOp
  simp only [hop, Sem.run_bind, hr, Result.andThen_ok]
  exact hK.out _ _ h.1 h.2
theorem urow_zeros (w : World) : URow (w.alloc (.cells (S.v8 (S.zeros 128)) 5)) (.slice (some ⟨w.heap.size, 0, none⟩) 128 128) (S.zeros 128) := by
  have hl : (S.zeros 128).length = 128 := S.zeros_length _
  refine ⟨by rw [S.v8l_length, Nat.mul_one], Or.inr ⟨w.heap.size, 128, _, by rw [hl], Nat.zero_le _, heap_alloc_new _ _, by rw [hl]; exact Nat.le_refl _, by simp [maxLen], by rw [S.v8_size, hl], ?_⟩⟩
  rw [hl, S.v8_eq, List.take_of_length_le (by rw [S.v8l_length, hl]; exact Nat.le_refl _)]
set_option maxHeartbeats 3200000 in
set_option maxRecDepth 100000 in
theorem rnew_any (n : Nat) (w : World) (hn : n ≤ 8192) :
   Calls Try.prog 21 #[.int .i64 (n : Int)] w fun e w' => ∃ r : Ro, e = .returned (.pointer (some ⟨r.g, 0, none⟩)) ∧ RkIs w' r (S.Dk.new n) ∧ (∀ j, r.has j ∨ r.txt j → w.heap.size ≤ j) ∧ Below w.heap.size w w' := by
  have bb : Below w.heap.size w (w.alloc (.cells #[.slice none 0 0, .slice none 0 0, .int .i64 (-1)] 79)) := (Below.refl _ _).alloc (Nat.le_refl _) _
  obtain ⟨g, hg⟩ : ∃ g, g = w.heap.size := ⟨_, rfl⟩
  have R0 : Hid (RkIs (w.alloc (.cells #[.slice none 0 0, .slice none 0 0, .int .i64 (-1)] 79)) ⟨g, .slice none 0 0, .slice none 0 0, [], []⟩ (S.Dk.new 0)) := by
    refine ⟨by rw [hg]; exact heap_alloc_new _ _, World.ownsRow_nil _ 0 29 1, World.ownsRow_nil _ 0 81 2, rfl, rfl, fun i hi => absurd hi (Nat.not_lt_zero _), fun i hi => absurd hi (Nat.not_lt_zero _), S.Dk.new_ok 0 (by omega), fun j hj => (by cases hj), ⟨fun e => (by cases e), fun e => (by cases e), fun j e => (by cases e)⟩, fun j hj => ?_⟩
    rcases hj with ⟨i, hi, _⟩ | ⟨i, hi, _⟩
    · exact absurd hi (Nat.not_lt_zero _)
    · exact absurd hi (Nat.not_lt_zero _)
  have A0 : Hid (∀ j, Ro.has ⟨g, .slice none 0 0, .slice none 0 0, [], []⟩ j ∨ Ro.txt ⟨g, .slice none 0 0, .slice none 0 0, [], []⟩ j → w.heap.size ≤ j) := by
    show ∀ j, _
    rintro j ((e | e | e) | (⟨i, hi, _⟩ | ⟨i, hi, _⟩))
    · have e' : j = g := e; omega
    · cases e
    · cases e
    · exact absurd hi (Nat.not_lt_zero _)
    · exact absurd hi (Nat.not_lt_zero _)
  have B0 := hide bb
  clear bb
  go_enter Try.func21, Try.ntmps21
  go_wp2_with fail
  rw [← hg]
  have HG := hide hg
  clear hg
  generalize w.alloc (.cells #[.slice none 0 0, .slice none 0 0, .int .i64 (-1)] 79) = wb at *
  go_loopw [4] (fun i wr => ∃ k : Nat, k ≤ n ∧ i = .int .i64 (k : Int) ∧ ∃ r : Ro, r.g = g ∧ r.ws = [] ∧ r.pv = .slice none 0 0 ∧ RkIs wr r (S.Dk.new k) ∧ (∀ j, r.has j ∨ r.txt j → w.heap.size ≤ j) ∧ Below w.heap.size w wr) (fun i _ => n - (intOf i).toNat)
  case atStart => exact ⟨0, Nat.zero_le _, rfl, _, rfl, rfl, rfl, R0.out, A0.out, B0.out⟩
  case round =>
    obtain ⟨k, hk, rfl, r, hrg, hws, hpv, hr, hall, hb⟩ := hrel
    by_cases hlt : k < n
    · have q1 : (k : Int) < (n : Int) := by omega
      have q2 : IntKind.i64.wrap ((k : Int) + 1) = (k : Int) + 1 := by rw [IntKind.wrap_i64]; omega
      obtain ⟨asv, csv, hsf⟩ := ownsRow_form hr.safe
      have hsl : r.ts.length = k := by rw [hr.sl]; simp [S.Dk.new]
      rw [hsl] at hsf
      have HSF := hide hsf
      have HSL := hide hsl
      have HR := hide hr
      have HWS := hide hws
      have HPV := hide hpv
      have HALL := hide hall
      have HBB := hide hb
      have HRG := hide hrg
      clear hr hws hpv hall hb hsf hsl R0 A0 B0
      go_wp2_with fail
      rw [← hrg]
      clear hrg
      refine wp_region_noPanic ?_
      refine wp_region_held_drew (S := (fun _ => True)) follows trivial (fun hHeld => ?_)
      have bD : Below wr.heap.size wr wr.drew := (Chg.refl (fun _ => False) wr).drew.below _ (Nat.le_refl _) (fun _ _ e => e)
      have D0 := hide (HR.out.below bD)
      have B0 := hide (HBB.out.trans (bD.mono HBB.out.size))
      clear bD HR HBB
      generalize wr.drew = z0 at D0 B0 ⊢
      refine wpAnyH_take (i := 0) (oi := { dst := some 12, op := Op.move (Operand.tmp 3), type := 45, pos := "ref.go:30", after := #[], guard := none }) (v := ?_) rfl (by kernel_rfl) (by kernel_rfl) (by kernel_rfl) (fun _ _ _ h => h) (Or.inl ⟨by rfl, ?_⟩) (by assumption) ?_
      rotate_left
      · intro w hSw
        clear hSw
        go_simp
        all_goals with_reducible rfl
      simp only [Act.put, List.setIfInBounds_toArray, List.set_cons_zero, List.set_cons_succ]
      refine wpAnyH_take (i := 1) (oi := { dst := some 13, op := Op.move (Operand.tmp 3), type := 45, pos := "ref.go:30", after := #[], guard := none }) (v := ?_) rfl (by kernel_rfl) (by kernel_rfl) (by kernel_rfl) (fun _ _ _ h => h) (Or.inl ⟨by rfl, ?_⟩) (by assumption) ?_
      rotate_left
      · intro w hSw
        clear hSw
        go_simp
        all_goals with_reducible rfl
      simp only [Act.put, List.setIfInBounds_toArray, List.set_cons_zero, List.set_cons_succ]
      refine wpAnyH_take (i := 2) (oi := { dst := some 14, op := Op.nilCheck (Operand.tmp 13), type := 0, pos := "ref.go:30", after := #[{ on := 1, ground := Ground.data }], guard := none }) (v := ?_) rfl (by kernel_rfl) (by kernel_rfl) (by kernel_rfl) (fun _ _ _ h => h) (Or.inl ⟨by rfl, ?_⟩) (by assumption) ?_
      rotate_left
      · intro w hSw
        clear hSw
        go_simp
        all_goals with_reducible rfl
      simp only [Act.put, List.setIfInBounds_toArray, List.set_cons_zero, List.set_cons_succ]
      refine wpAnyH_take (i := 3) (oi := { dst := some 15, op := Op.fieldAddr 79 (Operand.tmp 14) 0, type := 0, pos := "ref.go:30", after := #[{ on := 2, ground := Ground.data }], guard := none }) (v := ?_) rfl (by kernel_rfl) (by kernel_rfl) (by kernel_rfl) (fun _ _ _ h => h) (Or.inl ⟨by rfl, ?_⟩) (by assumption) ?_
      rotate_left
      · intro w hSw
        clear hSw
        go_simp
        all_goals with_reducible rfl
      simp only [Act.put, List.setIfInBounds_toArray, List.set_cons_zero, List.set_cons_succ]
      refine wpAnyH_ready (rs := [4, 5]) (by kernel_rfl) (by simp) ?_
      refine AllReadyH.cons (o := { dst := some 16, op := Op.load 57 (Operand.tmp 15), type := 57, pos := "ref.go:30", after := #[{ on := 3, ground := Ground.data }], guard := none }) rfl (fun K hK => ?_) ?_
      · skip
        have c1 := (cells3 D0.out.row).1
        rw [HSF.out] at c1
        go_simp
        refine hK.out _ _ trivial (fun hHeld => ?_)
        clear hK K c1
        try simp only [Act.put, List.setIfInBounds_toArray, List.set_cons_zero, List.set_cons_succ]
        refine wpAnyH_ready (rs := [5]) (by kernel_rfl) (by simp) ?_
        refine step_makeSlice (o := { dst := some 17, op := Op.makeSlice 29 (Operand.const (Value.int IntKind.i64 128)) (Operand.const (Value.int IntKind.i64 128)), type := 29, pos := "ref.go:30", after := #[], guard := none }) rfl rfl 29 _ _ rfl _ _ (make_bytes_big 128 (by omega) z0) AllReadyH.nil ⟨trivial, fun hHeld => ?_⟩
        simp only [Act.put, List.setIfInBounds_toArray, List.set_cons_zero, List.set_cons_succ]
        have bX : Below z0.heap.size z0 (z0.alloc (.cells (S.v8 (S.zeros 128)) 5)) := (Below.refl _ _).alloc (Nat.le_refl _) _
        have U1 : Hid (URow (z0.alloc (.cells (S.v8 (S.zeros 128)) 5)) (.slice (some ⟨z0.heap.size, 0, none⟩) 128 128) (S.zeros 128)) := urow_zeros z0
        have D1 := hide (D0.out.below bX)
        have B1 := hide (B0.out.trans (bX.mono B0.out.size))
        have hz0 : w.heap.size ≤ z0.heap.size := B0.out.size
        have HLT := hide D0.out.lt
        clear bX D0 B0 hHeld
        generalize z0.alloc (.cells (S.v8 (S.zeros 128)) 5) = z1 at *
        generalize z0.heap.size = ge at *
        refine wpAnyH_ready (rs := [6]) (by kernel_rfl) (by simp) ?_
        refine step_buildSlice (o := { dst := some 18, op := Op.buildSlice 57 1 #[(0, Operand.tmp 17)], type := 57, pos := "ref.go:30", after := #[{ on := 5, ground := Ground.data }], guard := none }) rfl rfl 57 1 [(0, Operand.tmp 17)] rfl _ _ (buildSlice57 (.slice (some ⟨ge, 0, none⟩) 128 128) rfl _) AllReadyH.nil ⟨trivial, fun hHeld => ?_⟩
        simp only [Act.put, List.setIfInBounds_toArray, List.set_cons_zero, List.set_cons_succ]
        have bX : Below z1.heap.size z1 (z1.alloc (.cells #[.slice (some ⟨ge, 0, none⟩) 128 128] 29)) := (Below.refl _ _).alloc (Nat.le_refl _) _
        have RN : Hid ((z1.alloc (.cells #[.slice (some ⟨ge, 0, none⟩) 128 128] 29)).heap[z1.heap.size]? = some (.cells #[.slice (some ⟨ge, 0, none⟩) 128 128] 29 (0, 0))) := heap_alloc_new _ _
        have D2 := hide (D1.out.below bX)
        have U2 := hide (U1.out.kept (fun k hk => bX.block k (U1.out.lt hk)))
        have B2 := hide (B1.out.trans (bX.mono B1.out.size))
        clear bX D1 U1 B1 hHeld
        generalize z1.alloc (.cells #[.slice (some ⟨ge, 0, none⟩) 128 128] 29) = z2 at *
        generalize z1.heap.size = gx at *
        refine wpAnyH_ready (rs := [7]) (by kernel_rfl) (by simp) ?_
        have PX := D2.out.safe
        rw [HSF.out] at PX
        refine step_append (o := { dst := some 19, op := Op.call { callee := Callee.builtin Builtin.append, args := #[Operand.tmp 16, Operand.tmp 18], argTypes := #[57, 57] }, type := 57, pos := "ref.go:30", after := #[{ on := 4, ground := Ground.data }, { on := 6, ground := Ground.data }], guard := none }) rfl rfl _ _ 57 57 rfl _ _ rfl rfl (append57 z2 (.slice asv k csv) (.slice (some ⟨ge, 0, none⟩) 128 128) r.ts gx PX rfl RN.out (by have := HSL.out; omega)) AllReadyH.nil ?_
        rintro v2 Y ⟨hu, hgr, ho⟩
        rw [← HSF.out] at hgr ho
        obtain ⟨ao2, c3, hv2⟩ := ownsRow_form hu
        generalize hLL : List.length (r.ts ++ _) = LL at hv2
        have MM := hide (RkIs.sector (w := w) D2.out (by omega) HWS.out HPV.out U2.out (fun j hj => by simp only [Value.ownBlock, Option.some.injEq] at hj; exact ⟨by omega, fun e => by have := HLT.out j (Or.inl e); omega⟩) B2.out HALL.out hu hgr ho)
        have RY : Hid (Y.heap[r.g]? = _) := (hgr.block r.g (block_lt_of_row D2.out.row) (fun e => D2.out.sep.1 e.symm)).trans D2.out.row
        subst hv2
        clear hu hgr ho hLL PX D2 U2 RN
        refine ⟨trivial, fun hHeld => ?_⟩
        simp only [Act.put, List.setIfInBounds_toArray, List.set_cons_zero, List.set_cons_succ]
        refine wpAnyH_take (i := 8) (oi := { dst := some 20, op := Op.nilCheck (Operand.tmp 12), type := 0, pos := "ref.go:30", after := #[{ on := 0, ground := Ground.data }, { on := 0, ground := Ground.phase }, { on := 1, ground := Ground.phase }, { on := 2, ground := Ground.phase }, { on := 3, ground := Ground.phase }, { on := 4, ground := Ground.phase }, { on := 5, ground := Ground.phase }, { on := 6, ground := Ground.phase }, { on := 7, ground := Ground.phase }], guard := none }) (v := ?_) rfl (by kernel_rfl) (by kernel_rfl) (by kernel_rfl) (fun _ _ _ h => h) (Or.inl ⟨by rfl, ?_⟩) (by assumption) ?_
        rotate_left
        · intro w hSw
          clear hSw
          go_simp
          all_goals with_reducible rfl
        simp only [Act.put, List.setIfInBounds_toArray, List.set_cons_zero, List.set_cons_succ]
        refine wpAnyH_take (i := 9) (oi := { dst := some 21, op := Op.fieldAddr 79 (Operand.tmp 20) 0, type := 0, pos := "ref.go:30", after := #[{ on := 8, ground := Ground.data }, { on := 0, ground := Ground.phase }, { on := 1, ground := Ground.phase }, { on := 2, ground := Ground.phase }, { on := 3, ground := Ground.phase }, { on := 4, ground := Ground.phase }, { on := 5, ground := Ground.phase }, { on := 6, ground := Ground.phase }, { on := 7, ground := Ground.phase }], guard := none }) (v := ?_) rfl (by kernel_rfl) (by kernel_rfl) (by kernel_rfl) (fun _ _ _ h => h) (Or.inl ⟨by rfl, ?_⟩) (by assumption) ?_
        rotate_left
        · intro w hSw
          clear hSw
          go_simp
          all_goals with_reducible rfl
        simp only [Act.put, List.setIfInBounds_toArray, List.set_cons_zero, List.set_cons_succ]
        refine wpAnyH_ready (rs := [10]) (by kernel_rfl) (by simp) ?_
        refine AllReadyH.cons (o := { dst := none, op := Op.store 57 (Operand.tmp 21) (Operand.tmp 19), type := 0, pos := "ref.go:30", after := #[{ on := 9, ground := Ground.data }, { on := 7, ground := Ground.data }, { on := 7, ground := Ground.chain }, { on := 0, ground := Ground.phase }, { on := 1, ground := Ground.phase }, { on := 2, ground := Ground.phase }, { on := 3, ground := Ground.phase }, { on := 4, ground := Ground.phase }, { on := 5, ground := Ground.phase }, { on := 6, ground := Ground.phase }, { on := 7, ground := Ground.phase }], guard := none }) rfl (fun K hK => ?_) AllReadyH.nil
        have c2 := (cells3 RY.out).1
        rw [HSF.out] at c2
        have f2 := frozen_of_row _ _ 0 _ _ RY.out
        go_simp
        refine hK.out _ _ trivial (fun hHeld => ?_)
        clear hK K c2 f2
        try simp only [Act.put, List.setIfInBounds_toArray, List.set_cons_zero, List.set_cons_succ]
        refine wpAnyH_done (by kernel_rfl) ?_ _
        refine NoPanic.normal ?_
        clear hHeld RY
        rw [HRG.out]
        go_wp2_with fail
        go_roundw
        case rel =>
          have MO := MM.out
          rw [HRG.out] at MO
          exact ⟨k + 1, by omega, by go_num, ⟨g, .slice ao2 LL c3, r.pv, r.ts ++ [.slice (some ⟨ge, 0, none⟩) 128 128], r.ws⟩, rfl, HWS.out, HPV.out, MO.1, MO.2.2, MO.2.1⟩
        case measure => simp [intOf]; omega
      refine step_makeSlice (o := { dst := some 17, op := Op.makeSlice 29 (Operand.const (Value.int IntKind.i64 128)) (Operand.const (Value.int IntKind.i64 128)), type := 29, pos := "ref.go:30", after := #[], guard := none }) rfl rfl 29 _ _ rfl _ _ (make_bytes_big 128 (by omega) z0) AllReadyH.nil ⟨trivial, fun hHeld => ?_⟩
      simp only [Act.put, List.setIfInBounds_toArray, List.set_cons_zero, List.set_cons_succ]
      have bX : Below z0.heap.size z0 (z0.alloc (.cells (S.v8 (S.zeros 128)) 5)) := (Below.refl _ _).alloc (Nat.le_refl _) _
      have U1 : Hid (URow (z0.alloc (.cells (S.v8 (S.zeros 128)) 5)) (.slice (some ⟨z0.heap.size, 0, none⟩) 128 128) (S.zeros 128)) := urow_zeros z0
      have D1 := hide (D0.out.below bX)
      have B1 := hide (B0.out.trans (bX.mono B0.out.size))
      have hz0 : w.heap.size ≤ z0.heap.size := B0.out.size
      have HLT := hide D0.out.lt
      clear bX D0 B0 hHeld
      generalize z0.alloc (.cells (S.v8 (S.zeros 128)) 5) = z1 at *
      generalize z0.heap.size = ge at *
      refine wpAnyH_ready (rs := [4, 6]) (by kernel_rfl) (by simp) ?_
      refine AllReadyH.cons (o := { dst := some 16, op := Op.load 57 (Operand.tmp 15), type := 57, pos := "ref.go:30", after := #[{ on := 3, ground := Ground.data }], guard := none }) rfl (fun K hK => ?_) ?_
      · skip
        have c1 := (cells3 D1.out.row).1
        rw [HSF.out] at c1
        go_simp
        refine hK.out _ _ trivial (fun hHeld => ?_)
        clear hK K c1
        try simp only [Act.put, List.setIfInBounds_toArray, List.set_cons_zero, List.set_cons_succ]
        refine wpAnyH_ready (rs := [6]) (by kernel_rfl) (by simp) ?_
        refine step_buildSlice (o := { dst := some 18, op := Op.buildSlice 57 1 #[(0, Operand.tmp 17)], type := 57, pos := "ref.go:30", after := #[{ on := 5, ground := Ground.data }], guard := none }) rfl rfl 57 1 [(0, Operand.tmp 17)] rfl _ _ (buildSlice57 (.slice (some ⟨ge, 0, none⟩) 128 128) rfl _) AllReadyH.nil ⟨trivial, fun hHeld => ?_⟩
        simp only [Act.put, List.setIfInBounds_toArray, List.set_cons_zero, List.set_cons_succ]
        have bX : Below z1.heap.size z1 (z1.alloc (.cells #[.slice (some ⟨ge, 0, none⟩) 128 128] 29)) := (Below.refl _ _).alloc (Nat.le_refl _) _
        have RN : Hid ((z1.alloc (.cells #[.slice (some ⟨ge, 0, none⟩) 128 128] 29)).heap[z1.heap.size]? = some (.cells #[.slice (some ⟨ge, 0, none⟩) 128 128] 29 (0, 0))) := heap_alloc_new _ _
        have D2 := hide (D1.out.below bX)
        have U2 := hide (U1.out.kept (fun k hk => bX.block k (U1.out.lt hk)))
        have B2 := hide (B1.out.trans (bX.mono B1.out.size))
        clear bX D1 U1 B1 hHeld
        generalize z1.alloc (.cells #[.slice (some ⟨ge, 0, none⟩) 128 128] 29) = z2 at *
        generalize z1.heap.size = gx at *
        refine wpAnyH_ready (rs := [7]) (by kernel_rfl) (by simp) ?_
        have PX := D2.out.safe
        rw [HSF.out] at PX
        refine step_append (o := { dst := some 19, op := Op.call { callee := Callee.builtin Builtin.append, args := #[Operand.tmp 16, Operand.tmp 18], argTypes := #[57, 57] }, type := 57, pos := "ref.go:30", after := #[{ on := 4, ground := Ground.data }, { on := 6, ground := Ground.data }], guard := none }) rfl rfl _ _ 57 57 rfl _ _ rfl rfl (append57 z2 (.slice asv k csv) (.slice (some ⟨ge, 0, none⟩) 128 128) r.ts gx PX rfl RN.out (by have := HSL.out; omega)) AllReadyH.nil ?_
        rintro v2 Y ⟨hu, hgr, ho⟩
        rw [← HSF.out] at hgr ho
        obtain ⟨ao2, c3, hv2⟩ := ownsRow_form hu
        generalize hLL : List.length (r.ts ++ _) = LL at hv2
        have MM := hide (RkIs.sector (w := w) D2.out (by omega) HWS.out HPV.out U2.out (fun j hj => by simp only [Value.ownBlock, Option.some.injEq] at hj; exact ⟨by omega, fun e => by have := HLT.out j (Or.inl e); omega⟩) B2.out HALL.out hu hgr ho)
        have RY : Hid (Y.heap[r.g]? = _) := (hgr.block r.g (block_lt_of_row D2.out.row) (fun e => D2.out.sep.1 e.symm)).trans D2.out.row
        subst hv2
        clear hu hgr ho hLL PX D2 U2 RN
        refine ⟨trivial, fun hHeld => ?_⟩
        simp only [Act.put, List.setIfInBounds_toArray, List.set_cons_zero, List.set_cons_succ]
        refine wpAnyH_take (i := 8) (oi := { dst := some 20, op := Op.nilCheck (Operand.tmp 12), type := 0, pos := "ref.go:30", after := #[{ on := 0, ground := Ground.data }, { on := 0, ground := Ground.phase }, { on := 1, ground := Ground.phase }, { on := 2, ground := Ground.phase }, { on := 3, ground := Ground.phase }, { on := 4, ground := Ground.phase }, { on := 5, ground := Ground.phase }, { on := 6, ground := Ground.phase }, { on := 7, ground := Ground.phase }], guard := none }) (v := ?_) rfl (by kernel_rfl) (by kernel_rfl) (by kernel_rfl) (fun _ _ _ h => h) (Or.inl ⟨by rfl, ?_⟩) (by assumption) ?_
        rotate_left
        · intro w hSw
          clear hSw
          go_simp
          all_goals with_reducible rfl
        simp only [Act.put, List.setIfInBounds_toArray, List.set_cons_zero, List.set_cons_succ]
        refine wpAnyH_take (i := 9) (oi := { dst := some 21, op := Op.fieldAddr 79 (Operand.tmp 20) 0, type := 0, pos := "ref.go:30", after := #[{ on := 8, ground := Ground.data }, { on := 0, ground := Ground.phase }, { on := 1, ground := Ground.phase }, { on := 2, ground := Ground.phase }, { on := 3, ground := Ground.phase }, { on := 4, ground := Ground.phase }, { on := 5, ground := Ground.phase }, { on := 6, ground := Ground.phase }, { on := 7, ground := Ground.phase }], guard := none }) (v := ?_) rfl (by kernel_rfl) (by kernel_rfl) (by kernel_rfl) (fun _ _ _ h => h) (Or.inl ⟨by rfl, ?_⟩) (by assumption) ?_
        rotate_left
        · intro w hSw
          clear hSw
          go_simp
          all_goals with_reducible rfl
        simp only [Act.put, List.setIfInBounds_toArray, List.set_cons_zero, List.set_cons_succ]
        refine wpAnyH_ready (rs := [10]) (by kernel_rfl) (by simp) ?_
        refine AllReadyH.cons (o := { dst := none, op := Op.store 57 (Operand.tmp 21) (Operand.tmp 19), type := 0, pos := "ref.go:30", after := #[{ on := 9, ground := Ground.data }, { on := 7, ground := Ground.data }, { on := 7, ground := Ground.chain }, { on := 0, ground := Ground.phase }, { on := 1, ground := Ground.phase }, { on := 2, ground := Ground.phase }, { on := 3, ground := Ground.phase }, { on := 4, ground := Ground.phase }, { on := 5, ground := Ground.phase }, { on := 6, ground := Ground.phase }, { on := 7, ground := Ground.phase }], guard := none }) rfl (fun K hK => ?_) AllReadyH.nil
        have c2 := (cells3 RY.out).1
        rw [HSF.out] at c2
        have f2 := frozen_of_row _ _ 0 _ _ RY.out
        go_simp
        refine hK.out _ _ trivial (fun hHeld => ?_)
        clear hK K c2 f2
        try simp only [Act.put, List.setIfInBounds_toArray, List.set_cons_zero, List.set_cons_succ]
        refine wpAnyH_done (by kernel_rfl) ?_ _
        refine NoPanic.normal ?_
        clear hHeld RY
        rw [HRG.out]
        go_wp2_with fail
        go_roundw
        case rel =>
          have MO := MM.out
          rw [HRG.out] at MO
          exact ⟨k + 1, by omega, by go_num, ⟨g, .slice ao2 LL c3, r.pv, r.ts ++ [.slice (some ⟨ge, 0, none⟩) 128 128], r.ws⟩, rfl, HWS.out, HPV.out, MO.1, MO.2.2, MO.2.1⟩
        case measure => simp [intOf]; omega
      refine step_buildSlice (o := { dst := some 18, op := Op.buildSlice 57 1 #[(0, Operand.tmp 17)], type := 57, pos := "ref.go:30", after := #[{ on := 5, ground := Ground.data }], guard := none }) rfl rfl 57 1 [(0, Operand.tmp 17)] rfl _ _ (buildSlice57 (.slice (some ⟨ge, 0, none⟩) 128 128) rfl _) AllReadyH.nil ⟨trivial, fun hHeld => ?_⟩
      simp only [Act.put, List.setIfInBounds_toArray, List.set_cons_zero, List.set_cons_succ]
      have bX : Below z1.heap.size z1 (z1.alloc (.cells #[.slice (some ⟨ge, 0, none⟩) 128 128] 29)) := (Below.refl _ _).alloc (Nat.le_refl _) _
      have RN : Hid ((z1.alloc (.cells #[.slice (some ⟨ge, 0, none⟩) 128 128] 29)).heap[z1.heap.size]? = some (.cells #[.slice (some ⟨ge, 0, none⟩) 128 128] 29 (0, 0))) := heap_alloc_new _ _
      have D2 := hide (D1.out.below bX)
      have U2 := hide (U1.out.kept (fun k hk => bX.block k (U1.out.lt hk)))
      have B2 := hide (B1.out.trans (bX.mono B1.out.size))
      clear bX D1 U1 B1 hHeld
      generalize z1.alloc (.cells #[.slice (some ⟨ge, 0, none⟩) 128 128] 29) = z2 at *
      generalize z1.heap.size = gx at *
      refine wpAnyH_ready (rs := [4]) (by kernel_rfl) (by simp) ?_
      refine AllReadyH.cons (o := { dst := some 16, op := Op.load 57 (Operand.tmp 15), type := 57, pos := "ref.go:30", after := #[{ on := 3, ground := Ground.data }], guard := none }) rfl (fun K hK => ?_) AllReadyH.nil
      have c1 := (cells3 D2.out.row).1
      rw [HSF.out] at c1
      go_simp
      refine hK.out _ _ trivial (fun hHeld => ?_)
      clear hK K c1
      try simp only [Act.put, List.setIfInBounds_toArray, List.set_cons_zero, List.set_cons_succ]
      refine wpAnyH_ready (rs := [7]) (by kernel_rfl) (by simp) ?_
      have PX := D2.out.safe
      rw [HSF.out] at PX
      refine step_append (o := { dst := some 19, op := Op.call { callee := Callee.builtin Builtin.append, args := #[Operand.tmp 16, Operand.tmp 18], argTypes := #[57, 57] }, type := 57, pos := "ref.go:30", after := #[{ on := 4, ground := Ground.data }, { on := 6, ground := Ground.data }], guard := none }) rfl rfl _ _ 57 57 rfl _ _ rfl rfl (append57 z2 (.slice asv k csv) (.slice (some ⟨ge, 0, none⟩) 128 128) r.ts gx PX rfl RN.out (by have := HSL.out; omega)) AllReadyH.nil ?_
      rintro v2 Y ⟨hu, hgr, ho⟩
      rw [← HSF.out] at hgr ho
      obtain ⟨ao2, c3, hv2⟩ := ownsRow_form hu
      generalize hLL : List.length (r.ts ++ _) = LL at hv2
      have MM := hide (RkIs.sector (w := w) D2.out (by omega) HWS.out HPV.out U2.out (fun j hj => by simp only [Value.ownBlock, Option.some.injEq] at hj; exact ⟨by omega, fun e => by have := HLT.out j (Or.inl e); omega⟩) B2.out HALL.out hu hgr ho)
      have RY : Hid (Y.heap[r.g]? = _) := (hgr.block r.g (block_lt_of_row D2.out.row) (fun e => D2.out.sep.1 e.symm)).trans D2.out.row
      subst hv2
      clear hu hgr ho hLL PX D2 U2 RN
      refine ⟨trivial, fun hHeld => ?_⟩
      simp only [Act.put, List.setIfInBounds_toArray, List.set_cons_zero, List.set_cons_succ]
      refine wpAnyH_take (i := 8) (oi := { dst := some 20, op := Op.nilCheck (Operand.tmp 12), type := 0, pos := "ref.go:30", after := #[{ on := 0, ground := Ground.data }, { on := 0, ground := Ground.phase }, { on := 1, ground := Ground.phase }, { on := 2, ground := Ground.phase }, { on := 3, ground := Ground.phase }, { on := 4, ground := Ground.phase }, { on := 5, ground := Ground.phase }, { on := 6, ground := Ground.phase }, { on := 7, ground := Ground.phase }], guard := none }) (v := ?_) rfl (by kernel_rfl) (by kernel_rfl) (by kernel_rfl) (fun _ _ _ h => h) (Or.inl ⟨by rfl, ?_⟩) (by assumption) ?_
      rotate_left
      · intro w hSw
        clear hSw
        go_simp
        all_goals with_reducible rfl
      simp only [Act.put, List.setIfInBounds_toArray, List.set_cons_zero, List.set_cons_succ]
      refine wpAnyH_take (i := 9) (oi := { dst := some 21, op := Op.fieldAddr 79 (Operand.tmp 20) 0, type := 0, pos := "ref.go:30", after := #[{ on := 8, ground := Ground.data }, { on := 0, ground := Ground.phase }, { on := 1, ground := Ground.phase }, { on := 2, ground := Ground.phase }, { on := 3, ground := Ground.phase }, { on := 4, ground := Ground.phase }, { on := 5, ground := Ground.phase }, { on := 6, ground := Ground.phase }, { on := 7, ground := Ground.phase }], guard := none }) (v := ?_) rfl (by kernel_rfl) (by kernel_rfl) (by kernel_rfl) (fun _ _ _ h => h) (Or.inl ⟨by rfl, ?_⟩) (by assumption) ?_
      rotate_left
      · intro w hSw
        clear hSw
        go_simp
        all_goals with_reducible rfl
      simp only [Act.put, List.setIfInBounds_toArray, List.set_cons_zero, List.set_cons_succ]
      refine wpAnyH_ready (rs := [10]) (by kernel_rfl) (by simp) ?_
      refine AllReadyH.cons (o := { dst := none, op := Op.store 57 (Operand.tmp 21) (Operand.tmp 19), type := 0, pos := "ref.go:30", after := #[{ on := 9, ground := Ground.data }, { on := 7, ground := Ground.data }, { on := 7, ground := Ground.chain }, { on := 0, ground := Ground.phase }, { on := 1, ground := Ground.phase }, { on := 2, ground := Ground.phase }, { on := 3, ground := Ground.phase }, { on := 4, ground := Ground.phase }, { on := 5, ground := Ground.phase }, { on := 6, ground := Ground.phase }, { on := 7, ground := Ground.phase }], guard := none }) rfl (fun K hK => ?_) AllReadyH.nil
      have c2 := (cells3 RY.out).1
      rw [HSF.out] at c2
      have f2 := frozen_of_row _ _ 0 _ _ RY.out
      go_simp
      refine hK.out _ _ trivial (fun hHeld => ?_)
      clear hK K c2 f2
      try simp only [Act.put, List.setIfInBounds_toArray, List.set_cons_zero, List.set_cons_succ]
      refine wpAnyH_done (by kernel_rfl) ?_ _
      refine NoPanic.normal ?_
      clear hHeld RY
      rw [HRG.out]
      go_wp2_with fail
      go_roundw
      case rel =>
        have MO := MM.out
        rw [HRG.out] at MO
        exact ⟨k + 1, by omega, by go_num, ⟨g, .slice ao2 LL c3, r.pv, r.ts ++ [.slice (some ⟨ge, 0, none⟩) 128 128], r.ws⟩, rfl, HWS.out, HPV.out, MO.1, MO.2.2, MO.2.1⟩
      case measure => simp [intOf]; omega
    · obtain rfl : k = n := by omega
      have q1 : ¬ ((k : Int) < (k : Int)) := by omega
      have HR := hide hr
      have HALL := hide hall
      have HBB := hide hb
      have HRG := hide hrg
      clear hr hall hb hrg hws hpv R0 A0 B0
      go_wp2_with fail
      go_ret
      exact ⟨r, by rw [HRG.out]; rfl, HR.out, HALL.out, HBB.out⟩
end Go.Proofs.Ytjnbjgkcliaipaa
