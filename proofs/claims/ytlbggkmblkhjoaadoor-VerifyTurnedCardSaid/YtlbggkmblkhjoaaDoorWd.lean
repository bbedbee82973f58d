/- Steps: of a leaf, of a node; a step's text; where a way leads to. -/
import Derived.Test.YtlbggkmblkhjoaaDoorWb
namespace Go.Proofs.YtlbggkmblkhjoaaDoor
open Go.RowKit

theorem bs41two (W : World) (a b : Option Addr) (i j k l : Nat) : (Instr.buildSlice 41 2 #[(0, .slice a i j), (1, .slice b k l)]).run Tryd.prog W = .ok (.slice (some ⟨W.heap.size, 0, none⟩) 2 2) (W.alloc (.cells #[.slice a i j, .slice b k l] 25)) := by
  go_simp
/-- What a function answers that makes a step. -/
def Stepped (a : Int) (w w' : World) (e : Ending) (t : List UInt8) (p : World → Prop) : Prop :=
  ∃ ao n c, e = .returned (.agg (S.stc (.slice ao n c, S.hsh a t)).toArray) ∧ (∀ W, p W → PartsAt W (.slice ao n c) t) ∧ Below w.heap.size w w'
set_option maxHeartbeats 4000000 in
set_option maxRecDepth 10000 in
theorem leafStep_any (a : Int) (v : Value) (bs : List UInt8) (w : World) (hv : SliceAt w v bs) (hl : bs.length + 1 ≤ 140737488355328) (hK : KAt w) :
   Calls Tryd.prog 58 #[.int .i64 a, v] w fun e w' => Stepped a w w' e (0 :: bs) (fun W => Below w'.heap.size w' W) := by
  obtain ⟨ao, len, cap, rfl, hlen, _⟩ := hv.form
  have HV := hide hv
  have HK := hide hK
  have h0 := hK.pos
  have HLn := hide hl
  clear hv hK hl hlen
  have AL := alloc91 w
  obtain ⟨A, hA⟩ : ∃ A, A = w.alloc (.cells (S.stc (.slice none 0 0, S.zeros 32)).toArray 91) := ⟨_, rfl⟩
  rw [← hA] at AL
  have bA : Below w.heap.size w A := by rw [hA]; exact (Below.refl _ _).alloc (Nat.le_refl _) _
  have sA : A.heap.size = w.heap.size + 1 := by rw [hA]; simp
  have rA : A.heap[w.heap.size]? = some (.cells (S.stc (.slice none 0 0, S.zeros 32)).toArray 91 (0, 0)) := by rw [hA]; exact heap_alloc_new _ _
  clear hA
  go_enter Tryd.func58, Tryd.ntmps58
  go_wp2_with (with_reducible refine at_op { dst := some 4, op := Op.alloc 91, type := 0, pos := "way.go:21", after := #[], guard := none } ?_; refine wpList_alloc_known rfl 91 rfl (.pointer (some ⟨w.heap.size, 0, none⟩)) A AL ?_)
  clear AL
  generalize hW0 : A.alloc _ = W0
  generalize hW1 : W0.alloc _ = W1
  have B0 : Below A.heap.size A W0 := by rw [← hW0]; exact (Below.refl _ _).alloc (Nat.le_refl _) _
  have B1 : Below W0.heap.size W0 W1 := by rw [← hW1]; exact (Below.refl _ _).alloc (Nat.le_refl _) _
  have s0 : W0.heap.size = w.heap.size + 2 := by rw [← hW0]; simp [sA]
  have s1 : W1.heap.size = w.heap.size + 3 := by rw [← hW1]; simp [s0]
  have r1 : W0.heap[w.heap.size + 1]? = some (.cells #[.int .u8 0] 5 (0, 0)) := by rw [← hW0, ← sA]; exact heap_alloc_new _ _
  have r2 : W1.heap[w.heap.size + 2]? = some (.cells #[.slice (some ⟨w.heap.size + 1, 0, none⟩) 1 1, .slice ao len cap] 25 (0, 0)) := by rw [← hW1, ← s0]; exact heap_alloc_new _ _
  rw [show w.heap.size + 1 + 1 = w.heap.size + 2 from rfl]
  have B02 : Below w.heap.size w W1 := (bA.trans (B0.mono (by omega))).trans (B1.mono (by omega))
  have R1 : Hid (W1.heap[w.heap.size + 1]? = some (.cells #[.int .u8 0] 5 (0, 0))) := (B1.block _ (by omega)).trans r1
  have R2 := hide r2
  have RA : Hid (W1.heap[w.heap.size]? = some (.cells (S.stc (.slice none 0 0, S.zeros 32)).toArray 91 (0, 0))) := (B1.block _ (by omega)).trans ((B0.block _ (by omega)).trans rA)
  have L2 : Hid (∀ W, Below w.heap.size W1 W → W.heap[w.heap.size + 1]? = some (.cells #[.int .u8 0] 5 (0, 0)) → W.heap[w.heap.size + 2]? = some (.cells #[.slice (some ⟨w.heap.size + 1, 0, none⟩) 1 1, .slice ao len cap] 25 (0, 0)) → ListAt W (w.heap.size + 2) [[0], bs]) := fun W hb q1 q2 => ⟨block_lt_of_row q2, fun j hj => by
    rcases (by simp at hj; omega : j = 0 ∨ j = 1) with rfl | rfl
    · exact ⟨_, (cell_of_row W _ 0 _ _ _ q2).trans rfl, one8_at (x := 0) rfl q1⟩
    · exact ⟨_, (cell_of_row W _ 1 _ _ _ q2).trans rfl, HV.out.below (B02.trans hb) (Nat.le_refl _)⟩⟩
  have BB := hide B02
  clear hW0 hW1 B0 B1 r1 r2 s0 s1 B02 bA sA rA
  refine (leaf_any a _ bs W1 (HV.out.below BB.out (Nat.le_refl _)) HLn.out (HK.out.below BB.out h0)).mono ?_
  rintro e w3 ⟨rfl, hb3⟩
  obtain ⟨D, hD⟩ : ∃ D, D = S.leaf a bs := ⟨_, rfl⟩
  have hl : D.length = 32 := by rw [hD, S.leaf_length]
  rw [← hD]
  have HL := hide hl
  have HD := hide hD
  obtain ⟨Z4, hst, R6, C6, s6⟩ := store_st (x := (.slice (some ⟨w.heap.size + 2, 0, none⟩) 2 2, D)) ((hb3.block _ (block_lt_of_row RA.out)).trans RA.out) (by rw [List.size_toArray, S.stc_length _ (S.zeros_length 32)]) HL.out rfl
  have hbd := build91 (some ⟨w.heap.size + 2, 0, none⟩) 2 2 D HL.out w3
  have B4 : Hid (Below w.heap.size w Z4) := (BB.out.trans (hb3.mono BB.out.size)).trans (C6.below _ (Nat.le_trans BB.out.size hb3.size) (fun k hk e => by omega))
  have B5 : Hid (Below w.heap.size W1 Z4) := (hb3.mono BB.out.size).trans (C6.below _ (Nat.le_trans BB.out.size hb3.size) (fun k hk e => by omega))
  have q1 : Hid (Z4.heap[w.heap.size + 1]? = some (.cells #[.int .u8 0] 5 (0, 0))) := C6.row ((hb3.block _ (block_lt_of_row R1.out)).trans R1.out) (by omega)
  have q2 : Hid (Z4.heap[w.heap.size + 2]? = some (.cells #[.slice (some ⟨w.heap.size + 1, 0, none⟩) 1 1, .slice ao len cap] 25 (0, 0))) := C6.row ((hb3.block _ (block_lt_of_row R2.out)).trans R2.out) (by omega)
  have r6 := hide R6
  clear hl hD hb3 C6 s6 R6 RA R1 R2
  go_wp2_with (first | (with_reducible refine at_op { dst := some 11, op := Op.build 91 #[(0, Operand.tmp 7), (1, Operand.tmp 10)], type := 91, pos := "way.go:22", after := #[{ on := 2, ground := Ground.data }, { on := 5, ground := Ground.data }], guard := none } ?_; refine wpList_build_as rfl 91 [(0, .tmp 7), (1, .tmp 10)] rfl [(0, .slice (some ⟨w.heap.size + 2, 0, none⟩) 2 2), (1, .agg (S.v8 D))] rfl (.agg (S.stc (.slice (some ⟨w.heap.size + 2, 0, none⟩) 2 2, D)).toArray) hbd ?_) | (with_reducible refine at_op { dst := none, op := Op.store 91 (Operand.tmp 4) (Operand.tmp 11), type := 0, pos := "way.go:22", after := #[{ on := 6, ground := Ground.data }, { on := 5, ground := Ground.chain }, { on := 0, ground := Ground.phase }, { on := 1, ground := Ground.phase }, { on := 2, ground := Ground.phase }, { on := 3, ground := Ground.phase }, { on := 4, ground := Ground.phase }, { on := 5, ground := Ground.phase }, { on := 6, ground := Ground.phase }], guard := none } ?_; refine wpList_store_as rfl 91 (.tmp 4) (.tmp 11) rfl (.pointer (some ⟨w.heap.size, 0, none⟩)) (.agg (S.stc (.slice (some ⟨w.heap.size + 2, 0, none⟩) 2 2, D)).toArray) rfl rfl Z4 hst ?_))
  clear hst hbd
  refine bodyPost_ret (v := .agg (S.stc (.slice (some ⟨w.heap.size + 2, 0, none⟩) 2 2, D)).toArray) (results_cell_row (g := w.heap.size) (t := 91) (fr := (0, 0)) Tryd.results58 _ _ _ _ rfl r6.out Tryd.underlying91 rfl (size91 _ HL.out)) rfl ⟨some ⟨w.heap.size + 2, 0, none⟩, 2, 2, ?_, fun W hW => ?_, B4.out⟩
  · rw [HD.out]; rfl
  · exact ⟨w.heap.size + 2, 2, [[0], bs], rfl, rfl, by omega, L2.out W (B5.out.trans (hW.mono (Nat.le_trans BB.out.size B5.out.size))) ((hW.block _ (block_lt_of_row q1.out)).trans q1.out) ((hW.block _ (block_lt_of_row q2.out)).trans q2.out), by simp⟩
end Go.Proofs.YtlbggkmblkhjoaaDoor
namespace Go.Proofs.YtlbggkmblkhjoaaDoor
open Go.RowKit

theorem step_build_as {md : Region.Mode} {ops : Array Oper} {Q : Exit → Act → World → Prop} {S : World → Prop} {fuel : Nat} {listed : Array Bool} {a : Act} {w : World} {i : Nat} {o : Oper} {rs : List Nat} (ho : ops[i]? = some o) (hgd : o.guard = none) (t : TypeId) (parts : List (Nat × Operand))
    (hop : o.op = .build t parts.toArray) (vs : List (Nat × Value)) (hvs : (parts.map fun p => (p.1, a.eval p.2)) = vs) (v' : Value) (hr : (Instr.build t vs.toArray).run Tryd.prog w = .ok v' w) (hrest : AllReadyH Tryd.prog md ops Q S fuel listed a w rs)
    (h : S w ∧ (S w → wpAnyH Tryd.prog md ops Q S fuel (listed.setIfInBounds i true) (a.put o.dst v') w)) : AllReadyH Tryd.prog md ops Q S fuel listed a w (i :: rs) := by
  subst hvs
  refine AllReadyH.cons ho (fun K hK => ?_) hrest
  rw [if_pos (by simp [Region.wanted, hgd])]
  unfold Oper.wp execOp
  simp only [hop, Sem.run_bind, List.map_toArray, hr, Result.andThen_ok]
  exact hK.out _ _ h.1 h.2
set_option maxHeartbeats 4000000 in
set_option maxRecDepth 10000 in
theorem nodeStep_any (a : Int) (d e : List UInt8) (hd : d.length = 32) (he : e.length = 32) (w : World) (hK : KAt w) :
   Calls Tryd.prog 59 #[.int .i64 a, .agg (S.v8 d), .agg (S.v8 e)] w fun r w' => Stepped a w w' r (S.txt a d e) (fun W => ∃ p : Nat → Prop, (∀ k, p k → k < w.heap.size) ∧ Chg p w' W) := by
  have HK := hide hK
  have h0 := hK.pos
  have HD := hide hd
  have HE := hide he
  clear hK hd he
  have AL : ∀ W : World, (Instr.alloc 91 true (.tuple #[])).run Tryd.prog W = .ok (.pointer (some ⟨W.heap.size, 0, none⟩)) (W.alloc (.cells (S.stc (.slice none 0 0, S.zeros 32)).toArray 91)) := alloc91
  obtain ⟨ZZ, hZZ⟩ : ∃ Z, Z = (S.stc (.slice none 0 0, S.zeros 32)).toArray := ⟨_, rfl⟩
  have HZ := hide (show ZZ.size = 33 by rw [hZZ, List.size_toArray, S.stc_length _ (S.zeros_length 32)])
  rw [← hZZ] at AL
  clear hZZ
  go_enter Tryd.func59, Tryd.ntmps59
  go_wp2_with (with_reducible refine at_op { dst := some 6, op := Op.alloc 91, type := 0, pos := "way.go:25", after := #[], guard := none } ?_; refine wpList_alloc_known rfl 91 rfl _ _ (AL _) ?_)
  clear AL
  generalize hW0 : w.alloc _ = W0
  generalize hW1 : W0.alloc _ = W1
  generalize hW2 : W1.alloc _ = W2
  have B0 : Below w.heap.size w W0 := by rw [← hW0]; exact (Below.refl _ _).alloc (Nat.le_refl _) _
  have s0 : W0.heap.size = w.heap.size + 1 := by rw [← hW0]; simp
  have r0 : W0.heap[w.heap.size]? = some (.cells (S.v8 d) 23 (0, 0)) := by rw [← hW0]; exact heap_alloc_new _ _
  have B1 : Below W0.heap.size W0 W1 := by rw [← hW1]; exact (Below.refl _ _).alloc (Nat.le_refl _) _
  have s1 : W1.heap.size = w.heap.size + 2 := by rw [← hW1]; simp [s0]
  have r1 : W1.heap[w.heap.size + 1]? = some (.cells (S.v8 e) 23 (0, 0)) := by rw [← hW1, ← s0]; exact heap_alloc_new _ _
  have B2 : Below W1.heap.size W1 W2 := by rw [← hW2]; exact (Below.refl _ _).alloc (Nat.le_refl _) _
  have s2 : W2.heap.size = w.heap.size + 3 := by rw [← hW2]; simp [s1]
  have r2 : W2.heap[w.heap.size + 2]? = some (.cells ZZ 91 (0, 0)) := by rw [← hW2, ← s1]; exact heap_alloc_new _ _
  have BB : Hid (Below w.heap.size w W2) := ((B0.trans (B1.mono (by omega))).trans (B2.mono (by omega)))
  have Q0 : Hid (W2.heap[w.heap.size]? = some (.cells (S.v8 d) 23 (0, 0))) := ((B2.block _ (by omega)).trans ((B1.block _ (by omega)).trans r0))
  have Q1 : Hid (W2.heap[w.heap.size + 1]? = some (.cells (S.v8 e) 23 (0, 0))) := ((B2.block _ (by omega)).trans r1)
  have Q2 : Hid (W2.heap[w.heap.size + 2]? = some (.cells ZZ 91 (0, 0))) := r2
  clear hW0 B0 s0 r0 hW1 B1 s1 r1 hW2 B2 s2 r2
  refine (vcounted_any a W2).mono ?_
  rintro r w3 ⟨rfl, rfl⟩
  obtain ⟨n, hn⟩ : ∃ n, n = S.cw a := ⟨_, rfl⟩
  have hn32 : n ≤ 32 := by rw [hn]; exact S.cw_le a
  rw [← hn]
  have HN := hide hn
  clear hn
  have q1 : (0 : Int) ≤ (n : Int) := by omega
  have q2 : (n : Int) ≤ 32 := by omega
  have hsz := size_dig d HD.out
  have hsz2 := size_dig e HE.out
  go_wp2_with fail
  refine wp_region_noPanic ?_
  refine wp_region_held_drew (S := (fun W => Chg (fun k => k = w.heap.size + 2) W2 W)) follows ((Chg.refl _ _).drew) (fun hHeld => ?_)
  clear hHeld
  have hHeld : Chg (fun k => k = w.heap.size + 2) W2 W2.drew := (Chg.refl _ _).drew
  have CZ0 := hide hHeld
  have Q2' : Hid (W2.drew.heap[w.heap.size + 2]? = some (.cells ZZ 91 (0, 0))) := Q2.out
  generalize W2.drew = Z0 at CZ0 hHeld Q2' ⊢
  refine wpAnyH_take (i := 1) (oi := { dst := some 11, op := Op.move (Operand.tmp 7), type := 3, pos := "way.go:27", after := #[], guard := none }) (v := ?_) rfl (by kernel_rfl) (by kernel_rfl) (by kernel_rfl) (fun _ _ _ h => h) (Or.inl ⟨by rfl, ?_⟩) (by assumption) ?_
  rotate_left
  · intro w hSw
    clear hSw
    go_simp
    all_goals with_reducible rfl
  simp only [Act.put, List.setIfInBounds_toArray, List.set_cons_zero, List.set_cons_succ]
  refine wpAnyH_take (i := 2) (oi := { dst := some 12, op := Op.slice 23 (Operand.tmp 4) none (some (Operand.tmp 11)) none, type := 25, pos := "way.go:27", after := #[{ on := 1, ground := Ground.data }], guard := none }) (v := ?_) rfl (by kernel_rfl) (by kernel_rfl) (by kernel_rfl) (fun _ _ _ h => h) (Or.inl ⟨by rfl, ?_⟩) (by assumption) ?_
  rotate_left
  · intro w hSw
    clear hSw
    go_simp
    all_goals with_reducible rfl
  simp only [Act.put, List.setIfInBounds_toArray, List.set_cons_zero, List.set_cons_succ]
  refine wpAnyH_take (i := 3) (oi := { dst := some 13, op := Op.move (Operand.tmp 7), type := 3, pos := "way.go:27", after := #[], guard := none }) (v := ?_) rfl (by kernel_rfl) (by kernel_rfl) (by kernel_rfl) (fun _ _ _ h => h) (Or.inl ⟨by rfl, ?_⟩) (by assumption) ?_
  rotate_left
  · intro w hSw
    clear hSw
    go_simp
    all_goals with_reducible rfl
  simp only [Act.put, List.setIfInBounds_toArray, List.set_cons_zero, List.set_cons_succ]
  refine wpAnyH_take (i := 4) (oi := { dst := some 14, op := Op.slice 23 (Operand.tmp 5) none (some (Operand.tmp 13)) none, type := 25, pos := "way.go:27", after := #[{ on := 3, ground := Ground.data }], guard := none }) (v := ?_) rfl (by kernel_rfl) (by kernel_rfl) (by kernel_rfl) (fun _ _ _ h => h) (Or.inl ⟨by rfl, ?_⟩) (by assumption) ?_
  rotate_left
  · intro w hSw
    clear hSw
    go_simp
    all_goals with_reducible rfl
  simp only [Act.put, List.setIfInBounds_toArray, List.set_cons_zero, List.set_cons_succ]
  refine wpAnyH_take (i := 6) (oi := { dst := some 16, op := Op.move (Operand.tmp 0), type := 3, pos := "way.go:27", after := #[], guard := none }) (v := ?_) rfl (by kernel_rfl) (by kernel_rfl) (by kernel_rfl) (fun _ _ _ h => h) (Or.inl ⟨by rfl, ?_⟩) (by assumption) ?_
  rotate_left
  · intro w hSw
    clear hSw
    go_simp
    all_goals with_reducible rfl
  simp only [Act.put, List.setIfInBounds_toArray, List.set_cons_zero, List.set_cons_succ]
  refine wpAnyH_take (i := 7) (oi := { dst := some 17, op := Op.load 23 (Operand.tmp 4), type := 23, pos := "way.go:27", after := #[], guard := none }) (v := .agg (S.v8l d).toArray) rfl (by kernel_rfl) (by kernel_rfl) (by kernel_rfl) (fun _ _ _ h => h) (yieldsIf_load_mid (by rfl) _ _ rfl w.heap.size 0 rfl (S.v8l d) _ (fun _ hSw => rangeAt_row (hSw.row Q0.out (by omega))) Tryd.underlying23 rfl hsz) (by assumption) ?_
  simp only [Act.put, List.setIfInBounds_toArray, List.set_cons_zero, List.set_cons_succ]
  refine wpAnyH_take (i := 8) (oi := { dst := some 18, op := Op.load 23 (Operand.tmp 5), type := 23, pos := "way.go:27", after := #[], guard := none }) (v := .agg (S.v8l e).toArray) rfl (by kernel_rfl) (by kernel_rfl) (by kernel_rfl) (fun _ _ _ h => h) (yieldsIf_load_mid (by rfl) _ _ rfl (w.heap.size + 1) 0 rfl (S.v8l e) _ (fun _ hSw => rangeAt_row (hSw.row Q1.out (by omega))) Tryd.underlying23 rfl hsz2) (by assumption) ?_
  simp only [Act.put, List.setIfInBounds_toArray, List.set_cons_zero, List.set_cons_succ]
  refine wpAnyH_ready (rs := [0, 9]) (by kernel_rfl) (by simp) ?_
  refine step_buildSlice_as (o := { dst := some 10, op := Op.buildSlice 25 1 #[(0, Operand.const (Value.int IntKind.u8 1))], type := 25, pos := "way.go:27", after := #[], guard := none }) rfl rfl 25 1 [(0, .const (.int .u8 1))] rfl [(0, .int .u8 1)] rfl _ _ (bs34one Z0 1) ?_ ⟨CZ0.out.alloc _, fun hHeld => ?_⟩
  rotate_left
  · skip
    clear hHeld
    simp only [Act.put, List.setIfInBounds_toArray, List.set_cons_zero, List.set_cons_succ]
    obtain ⟨g1, hg1⟩ : ∃ gg, gg = Z0.heap.size := ⟨_, rfl⟩
    rw [← hg1]
    generalize hZ : Z0.alloc _ = Z1
    have hb2 : Below Z0.heap.size Z0 Z1 := by rw [← hZ]; exact (Below.refl _ _).alloc (Nat.le_refl _) _
    have Rg1 : Hid (Z1.heap[g1]? = some (.cells #[.int .u8 1] 5 (0, 0))) := by rw [← hZ, hg1]; exact heap_alloc_new _ _
    have Gg1 := hide (show W2.heap.size ≤ g1 by rw [hg1]; exact CZ0.out.size)
    clear hZ hg1
    replace Q2' : Hid (Z1.heap[w.heap.size + 2]? = some (.cells ZZ 91 (0, 0))) := (hb2.block _ (block_lt_of_row Q2'.out)).trans Q2'.out
    have CZ1 : Hid (Chg (fun k => k = w.heap.size + 2) W2 Z1) := CZ0.out.then hb2
    clear hb2 CZ0
    have hHeld := CZ1.out
    refine wpAnyH_ready (rs := [5, 9]) (by kernel_rfl) (by simp) ?_
    refine step_buildSlice_as (o := { dst := some 15, op := Op.buildSlice 41 3 #[(0, Operand.tmp 10), (1, Operand.tmp 12), (2, Operand.tmp 14)], type := 41, pos := "way.go:27", after := #[{ on := 0, ground := Ground.data }, { on := 2, ground := Ground.data }, { on := 4, ground := Ground.data }], guard := none }) rfl rfl 41 3 [(0, .tmp 10), (1, .tmp 12), (2, .tmp 14)] rfl [(0, .slice (some ⟨g1, 0, none⟩) 1 1), (1, .slice (some ⟨w.heap.size, 0, none⟩) n 32), (2, .slice (some ⟨w.heap.size + 1, 0, none⟩) n 32)] rfl _ _ (bs22three Z1 _ _ _ _ _ _ _ _ _) ?_ ⟨CZ1.out.alloc _, fun hHeld => ?_⟩
    rotate_left
    · skip
      clear hHeld
      simp only [Act.put, List.setIfInBounds_toArray, List.set_cons_zero, List.set_cons_succ]
      obtain ⟨g2, hg2⟩ : ∃ gg, gg = Z1.heap.size := ⟨_, rfl⟩
      rw [← hg2]
      generalize hZ : Z1.alloc _ = Z2
      have hb2 : Below Z1.heap.size Z1 Z2 := by rw [← hZ]; exact (Below.refl _ _).alloc (Nat.le_refl _) _
      have Rg2 : Hid (Z2.heap[g2]? = some (.cells #[.slice (some ⟨g1, 0, none⟩) 1 1, .slice (some ⟨w.heap.size, 0, none⟩) n 32, .slice (some ⟨w.heap.size + 1, 0, none⟩) n 32] 25 (0, 0))) := by rw [← hZ, hg2]; exact heap_alloc_new _ _
      have Gg2 := hide (show W2.heap.size ≤ g2 by rw [hg2]; exact CZ1.out.size)
      clear hZ hg2
      replace Q2' : Hid (Z2.heap[w.heap.size + 2]? = some (.cells ZZ 91 (0, 0))) := (hb2.block _ (block_lt_of_row Q2'.out)).trans Q2'.out
      replace Rg1 : Hid (Z2.heap[g1]? = some (.cells #[.int .u8 1] 5 (0, 0))) := (hb2.block _ (block_lt_of_row Rg1.out)).trans Rg1.out
      have CZ2 : Hid (Chg (fun k => k = w.heap.size + 2) W2 Z2) := CZ1.out.then hb2
      clear hb2 CZ1
      have hHeld := CZ2.out
      refine wpAnyH_ready (rs := [9]) (by kernel_rfl) (by simp) ?_
      refine AllReadyH.cons (o := { dst := some 19, op := Op.call { callee := Callee.value (Operand.func 53), args := #[Operand.tmp 16, Operand.tmp 17, Operand.tmp 18], argTypes := #[3, 23, 23] }, type := 23, pos := "way.go:27", after := #[{ on := 6, ground := Ground.data }, { on := 7, ground := Ground.data }, { on := 8, ground := Ground.data }], guard := none }) rfl (fun K hK => ?_) AllReadyH.nil
      go_simp
      refine (node_any a d e HD.out HE.out Z2 (HK.out.below (BB.out.trans (CZ2.out.below w.heap.size BB.out.size (fun k hk e => by omega))) h0)).mono ?_
      rintro e Z3 ⟨rfl, hb2⟩
      obtain ⟨D, hD⟩ : ∃ DD, DD = S.node a d e := ⟨_, rfl⟩
      rw [← hD]
      have LD := hide (show D.length = 32 by rw [hD]; exact S.node_length _ _ _)
      have ED := hide hD
      clear hD
      replace Q2' : Hid (Z3.heap[w.heap.size + 2]? = some (.cells ZZ 91 (0, 0))) := (hb2.block _ (block_lt_of_row Q2'.out)).trans Q2'.out
      replace Rg1 : Hid (Z3.heap[g1]? = some (.cells #[.int .u8 1] 5 (0, 0))) := (hb2.block _ (block_lt_of_row Rg1.out)).trans Rg1.out
      replace Rg2 : Hid (Z3.heap[g2]? = some (.cells #[.slice (some ⟨g1, 0, none⟩) 1 1, .slice (some ⟨w.heap.size, 0, none⟩) n 32, .slice (some ⟨w.heap.size + 1, 0, none⟩) n 32] 25 (0, 0))) := (hb2.block _ (block_lt_of_row Rg2.out)).trans Rg2.out
      have CZ3 : Hid (Chg (fun k => k = w.heap.size + 2) W2 Z3) := CZ2.out.then hb2
      clear hb2 CZ2
      clear hHeld
      refine hK.out _ _ CZ3.out (fun hHeld => ?_)
      clear hK K
      try simp only [Act.put, List.setIfInBounds_toArray, List.set_cons_zero, List.set_cons_succ]
      refine wpAnyH_ready (rs := [10]) (by kernel_rfl) (by simp) ?_
      refine step_build_as (o := { dst := some 20, op := Op.build 91 #[(0, Operand.tmp 15), (1, Operand.tmp 19)], type := 91, pos := "way.go:27", after := #[{ on := 5, ground := Ground.data }, { on := 9, ground := Ground.data }], guard := none }) rfl rfl 91 [(0, .tmp 15), (1, .tmp 19)] rfl [(0, .slice (some ⟨g2, 0, none⟩) 3 3), (1, .agg (S.v8 D))] rfl (.agg (S.stc (.slice (some ⟨g2, 0, none⟩) 3 3, D)).toArray) (build91 (some ⟨g2, 0, none⟩) 3 3 D LD.out Z3) AllReadyH.nil ⟨CZ3.out, fun hHeld => ?_⟩
      simp only [Act.put, List.setIfInBounds_toArray, List.set_cons_zero, List.set_cons_succ]
      refine wpAnyH_ready (rs := [11]) (by kernel_rfl) (by simp) ?_
      obtain ⟨Z4, hst, r6, C6, s6⟩ := store_st (x := (.slice (some ⟨g2, 0, none⟩) 3 3, D)) Q2'.out HZ.out LD.out rfl
      refine step_store_as (o := { dst := none, op := Op.store 91 (Operand.tmp 6) (Operand.tmp 20), type := 0, pos := "way.go:27", after := #[{ on := 10, ground := Ground.data }, { on := 9, ground := Ground.chain }, { on := 0, ground := Ground.phase }, { on := 1, ground := Ground.phase }, { on := 2, ground := Ground.phase }, { on := 3, ground := Ground.phase }, { on := 4, ground := Ground.phase }, { on := 5, ground := Ground.phase }, { on := 6, ground := Ground.phase }, { on := 7, ground := Ground.phase }, { on := 8, ground := Ground.phase }, { on := 9, ground := Ground.phase }, { on := 10, ground := Ground.phase }], guard := none }) rfl rfl 91 (.tmp 6) (.tmp 20) rfl _ _ rfl rfl Z4 hst AllReadyH.nil ⟨CZ3.out.trans C6 (fun k hk e => by first | exact e | exact Or.inl e | exact Or.inr e | omega), fun hHeld => ?_⟩
      replace Q2' : Hid (Z4.heap[w.heap.size + 2]? = some (.cells (S.stc (.slice (some ⟨g2, 0, none⟩) 3 3, D)).toArray 91 (0, 0))) := r6
      replace Rg1 : Hid (Z4.heap[g1]? = some (.cells #[.int .u8 1] 5 (0, 0))) := C6.row Rg1.out (by have := Gg1.out; have := Gg2.out; have := block_lt_of_row Q2.out; omega)
      replace Rg2 : Hid (Z4.heap[g2]? = some (.cells #[.slice (some ⟨g1, 0, none⟩) 1 1, .slice (some ⟨w.heap.size, 0, none⟩) n 32, .slice (some ⟨w.heap.size + 1, 0, none⟩) n 32] 25 (0, 0))) := C6.row Rg2.out (by have := Gg1.out; have := Gg2.out; have := block_lt_of_row Q2.out; omega)
      have CZ4 : Hid (Chg (fun k => k = w.heap.size + 2) W2 Z4) := CZ3.out.trans C6 (fun k hk e => by first | exact e | exact Or.inl e | exact Or.inr e | omega)
      clear hst r6 C6 s6 CZ3
      simp only [Act.put]
      refine wpAnyH_done (by kernel_rfl) ?_ _
      refine NoPanic.normal ?_
      clear hHeld
      obtain ⟨Zf, hZf⟩ : ∃ Z, Z = Z4 := ⟨_, rfl⟩
      rw [← hZf] at CZ4 Q2' Rg1 Rg2 ⊢
      have K3 := hide (CZ4.out.row Q0.out (by omega))
      have K4 := hide (CZ4.out.row Q1.out (by omega))
      have B6 := hide (BB.out.trans (CZ4.out.below w.heap.size BB.out.size (fun k hk e => by omega)))
      have GG := block_lt_of_row Q2.out
      clear hZf
      go_wp2_with fail
      refine bodyPost_ret (v := .agg (S.stc (.slice (some ⟨g2, 0, none⟩) 3 3, D)).toArray) (results_cell_row (g := w.heap.size + 2) (t := 91) (fr := (0, 0)) Tryd.results59 _ _ _ _ rfl Q2'.out Tryd.underlying91 rfl (size91 _ LD.out)) rfl ⟨some ⟨g2, 0, none⟩, 3, 3, ?_, fun W hW => ?_, B6.out⟩
      · rw [ED.out]; rfl
      · obtain ⟨p, hp, hc⟩ := hW
        have k1 := hc.row Rg1.out (fun e => by have := hp _ e; have := Gg1.out; omega)
        have k2 := hc.row Rg2.out (fun e => by have := hp _ e; have := Gg2.out; omega)
        have k3 := hc.row K3.out (fun e => by have := hp _ e; omega)
        have k4 := hc.row K4.out (fun e => by have := hp _ e; omega)
        exact ⟨g2, 3, [[1], d.take n, e.take n], rfl, rfl, by omega, ⟨block_lt_of_row k2, fun j hj => by
          rcases (by simp at hj; omega : j = 0 ∨ j = 1 ∨ j = 2) with rfl | rfl | rfl
          · exact ⟨_, (cell_of_row W _ 0 _ _ _ k2).trans rfl, one8_at (x := 1) rfl k1⟩
          · exact ⟨_, (cell_of_row W _ 1 _ _ _ k2).trans rfl, dig_part k3 HD.out n hn32⟩
          · exact ⟨_, (cell_of_row W _ 2 _ _ _ k2).trans rfl, dig_part k4 HE.out n hn32⟩⟩, by rw [S.txt, ← HN.out]; simp⟩
    refine AllReadyH.cons (o := { dst := some 19, op := Op.call { callee := Callee.value (Operand.func 53), args := #[Operand.tmp 16, Operand.tmp 17, Operand.tmp 18], argTypes := #[3, 23, 23] }, type := 23, pos := "way.go:27", after := #[{ on := 6, ground := Ground.data }, { on := 7, ground := Ground.data }, { on := 8, ground := Ground.data }], guard := none }) rfl (fun K hK => ?_) AllReadyH.nil
    go_simp
    refine (node_any a d e HD.out HE.out Z1 (HK.out.below (BB.out.trans (CZ1.out.below w.heap.size BB.out.size (fun k hk e => by omega))) h0)).mono ?_
    rintro e Z2 ⟨rfl, hb2⟩
    obtain ⟨D, hD⟩ : ∃ DD, DD = S.node a d e := ⟨_, rfl⟩
    rw [← hD]
    have LD := hide (show D.length = 32 by rw [hD]; exact S.node_length _ _ _)
    have ED := hide hD
    clear hD
    replace Q2' : Hid (Z2.heap[w.heap.size + 2]? = some (.cells ZZ 91 (0, 0))) := (hb2.block _ (block_lt_of_row Q2'.out)).trans Q2'.out
    replace Rg1 : Hid (Z2.heap[g1]? = some (.cells #[.int .u8 1] 5 (0, 0))) := (hb2.block _ (block_lt_of_row Rg1.out)).trans Rg1.out
    have CZ2 : Hid (Chg (fun k => k = w.heap.size + 2) W2 Z2) := CZ1.out.then hb2
    clear hb2 CZ1
    clear hHeld
    refine hK.out _ _ CZ2.out (fun hHeld => ?_)
    clear hK K
    try simp only [Act.put, List.setIfInBounds_toArray, List.set_cons_zero, List.set_cons_succ]
    refine wpAnyH_ready (rs := [5]) (by kernel_rfl) (by simp) ?_
    refine step_buildSlice_as (o := { dst := some 15, op := Op.buildSlice 41 3 #[(0, Operand.tmp 10), (1, Operand.tmp 12), (2, Operand.tmp 14)], type := 41, pos := "way.go:27", after := #[{ on := 0, ground := Ground.data }, { on := 2, ground := Ground.data }, { on := 4, ground := Ground.data }], guard := none }) rfl rfl 41 3 [(0, .tmp 10), (1, .tmp 12), (2, .tmp 14)] rfl [(0, .slice (some ⟨g1, 0, none⟩) 1 1), (1, .slice (some ⟨w.heap.size, 0, none⟩) n 32), (2, .slice (some ⟨w.heap.size + 1, 0, none⟩) n 32)] rfl _ _ (bs22three Z2 _ _ _ _ _ _ _ _ _) AllReadyH.nil ⟨CZ2.out.alloc _, fun hHeld => ?_⟩
    clear hHeld
    simp only [Act.put, List.setIfInBounds_toArray, List.set_cons_zero, List.set_cons_succ]
    obtain ⟨g2, hg2⟩ : ∃ gg, gg = Z2.heap.size := ⟨_, rfl⟩
    rw [← hg2]
    generalize hZ : Z2.alloc _ = Z3
    have hb2 : Below Z2.heap.size Z2 Z3 := by rw [← hZ]; exact (Below.refl _ _).alloc (Nat.le_refl _) _
    have Rg2 : Hid (Z3.heap[g2]? = some (.cells #[.slice (some ⟨g1, 0, none⟩) 1 1, .slice (some ⟨w.heap.size, 0, none⟩) n 32, .slice (some ⟨w.heap.size + 1, 0, none⟩) n 32] 25 (0, 0))) := by rw [← hZ, hg2]; exact heap_alloc_new _ _
    have Gg2 := hide (show W2.heap.size ≤ g2 by rw [hg2]; exact CZ2.out.size)
    clear hZ hg2
    replace Q2' : Hid (Z3.heap[w.heap.size + 2]? = some (.cells ZZ 91 (0, 0))) := (hb2.block _ (block_lt_of_row Q2'.out)).trans Q2'.out
    replace Rg1 : Hid (Z3.heap[g1]? = some (.cells #[.int .u8 1] 5 (0, 0))) := (hb2.block _ (block_lt_of_row Rg1.out)).trans Rg1.out
    have CZ3 : Hid (Chg (fun k => k = w.heap.size + 2) W2 Z3) := CZ2.out.then hb2
    clear hb2 CZ2
    have hHeld := CZ3.out
    refine wpAnyH_ready (rs := [10]) (by kernel_rfl) (by simp) ?_
    refine step_build_as (o := { dst := some 20, op := Op.build 91 #[(0, Operand.tmp 15), (1, Operand.tmp 19)], type := 91, pos := "way.go:27", after := #[{ on := 5, ground := Ground.data }, { on := 9, ground := Ground.data }], guard := none }) rfl rfl 91 [(0, .tmp 15), (1, .tmp 19)] rfl [(0, .slice (some ⟨g2, 0, none⟩) 3 3), (1, .agg (S.v8 D))] rfl (.agg (S.stc (.slice (some ⟨g2, 0, none⟩) 3 3, D)).toArray) (build91 (some ⟨g2, 0, none⟩) 3 3 D LD.out Z3) AllReadyH.nil ⟨CZ3.out, fun hHeld => ?_⟩
    simp only [Act.put, List.setIfInBounds_toArray, List.set_cons_zero, List.set_cons_succ]
    refine wpAnyH_ready (rs := [11]) (by kernel_rfl) (by simp) ?_
    obtain ⟨Z4, hst, r6, C6, s6⟩ := store_st (x := (.slice (some ⟨g2, 0, none⟩) 3 3, D)) Q2'.out HZ.out LD.out rfl
    refine step_store_as (o := { dst := none, op := Op.store 91 (Operand.tmp 6) (Operand.tmp 20), type := 0, pos := "way.go:27", after := #[{ on := 10, ground := Ground.data }, { on := 9, ground := Ground.chain }, { on := 0, ground := Ground.phase }, { on := 1, ground := Ground.phase }, { on := 2, ground := Ground.phase }, { on := 3, ground := Ground.phase }, { on := 4, ground := Ground.phase }, { on := 5, ground := Ground.phase }, { on := 6, ground := Ground.phase }, { on := 7, ground := Ground.phase }, { on := 8, ground := Ground.phase }, { on := 9, ground := Ground.phase }, { on := 10, ground := Ground.phase }], guard := none }) rfl rfl 91 (.tmp 6) (.tmp 20) rfl _ _ rfl rfl Z4 hst AllReadyH.nil ⟨CZ3.out.trans C6 (fun k hk e => by first | exact e | exact Or.inl e | exact Or.inr e | omega), fun hHeld => ?_⟩
    replace Q2' : Hid (Z4.heap[w.heap.size + 2]? = some (.cells (S.stc (.slice (some ⟨g2, 0, none⟩) 3 3, D)).toArray 91 (0, 0))) := r6
    replace Rg1 : Hid (Z4.heap[g1]? = some (.cells #[.int .u8 1] 5 (0, 0))) := C6.row Rg1.out (by have := Gg1.out; have := Gg2.out; have := block_lt_of_row Q2.out; omega)
    replace Rg2 : Hid (Z4.heap[g2]? = some (.cells #[.slice (some ⟨g1, 0, none⟩) 1 1, .slice (some ⟨w.heap.size, 0, none⟩) n 32, .slice (some ⟨w.heap.size + 1, 0, none⟩) n 32] 25 (0, 0))) := C6.row Rg2.out (by have := Gg1.out; have := Gg2.out; have := block_lt_of_row Q2.out; omega)
    have CZ4 : Hid (Chg (fun k => k = w.heap.size + 2) W2 Z4) := CZ3.out.trans C6 (fun k hk e => by first | exact e | exact Or.inl e | exact Or.inr e | omega)
    clear hst r6 C6 s6 CZ3
    simp only [Act.put]
    refine wpAnyH_done (by kernel_rfl) ?_ _
    refine NoPanic.normal ?_
    clear hHeld
    obtain ⟨Zf, hZf⟩ : ∃ Z, Z = Z4 := ⟨_, rfl⟩
    rw [← hZf] at CZ4 Q2' Rg1 Rg2 ⊢
    have K3 := hide (CZ4.out.row Q0.out (by omega))
    have K4 := hide (CZ4.out.row Q1.out (by omega))
    have B6 := hide (BB.out.trans (CZ4.out.below w.heap.size BB.out.size (fun k hk e => by omega)))
    have GG := block_lt_of_row Q2.out
    clear hZf
    go_wp2_with fail
    refine bodyPost_ret (v := .agg (S.stc (.slice (some ⟨g2, 0, none⟩) 3 3, D)).toArray) (results_cell_row (g := w.heap.size + 2) (t := 91) (fr := (0, 0)) Tryd.results59 _ _ _ _ rfl Q2'.out Tryd.underlying91 rfl (size91 _ LD.out)) rfl ⟨some ⟨g2, 0, none⟩, 3, 3, ?_, fun W hW => ?_, B6.out⟩
    · rw [ED.out]; rfl
    · obtain ⟨p, hp, hc⟩ := hW
      have k1 := hc.row Rg1.out (fun e => by have := hp _ e; have := Gg1.out; omega)
      have k2 := hc.row Rg2.out (fun e => by have := hp _ e; have := Gg2.out; omega)
      have k3 := hc.row K3.out (fun e => by have := hp _ e; omega)
      have k4 := hc.row K4.out (fun e => by have := hp _ e; omega)
      exact ⟨g2, 3, [[1], d.take n, e.take n], rfl, rfl, by omega, ⟨block_lt_of_row k2, fun j hj => by
        rcases (by simp at hj; omega : j = 0 ∨ j = 1 ∨ j = 2) with rfl | rfl | rfl
        · exact ⟨_, (cell_of_row W _ 0 _ _ _ k2).trans rfl, one8_at (x := 1) rfl k1⟩
        · exact ⟨_, (cell_of_row W _ 1 _ _ _ k2).trans rfl, dig_part k3 HD.out n hn32⟩
        · exact ⟨_, (cell_of_row W _ 2 _ _ _ k2).trans rfl, dig_part k4 HE.out n hn32⟩⟩, by rw [S.txt, ← HN.out]; simp⟩
  refine AllReadyH.cons (o := { dst := some 19, op := Op.call { callee := Callee.value (Operand.func 53), args := #[Operand.tmp 16, Operand.tmp 17, Operand.tmp 18], argTypes := #[3, 23, 23] }, type := 23, pos := "way.go:27", after := #[{ on := 6, ground := Ground.data }, { on := 7, ground := Ground.data }, { on := 8, ground := Ground.data }], guard := none }) rfl (fun K hK => ?_) AllReadyH.nil
  go_simp
  refine (node_any a d e HD.out HE.out Z0 (HK.out.below (BB.out.trans (CZ0.out.below w.heap.size BB.out.size (fun k hk e => by omega))) h0)).mono ?_
  rintro e Z1 ⟨rfl, hb2⟩
  obtain ⟨D, hD⟩ : ∃ DD, DD = S.node a d e := ⟨_, rfl⟩
  rw [← hD]
  have LD := hide (show D.length = 32 by rw [hD]; exact S.node_length _ _ _)
  have ED := hide hD
  clear hD
  replace Q2' : Hid (Z1.heap[w.heap.size + 2]? = some (.cells ZZ 91 (0, 0))) := (hb2.block _ (block_lt_of_row Q2'.out)).trans Q2'.out
  have CZ1 : Hid (Chg (fun k => k = w.heap.size + 2) W2 Z1) := CZ0.out.then hb2
  clear hb2 CZ0
  clear hHeld
  refine hK.out _ _ CZ1.out (fun hHeld => ?_)
  clear hK K
  try simp only [Act.put, List.setIfInBounds_toArray, List.set_cons_zero, List.set_cons_succ]
  refine wpAnyH_ready (rs := [0]) (by kernel_rfl) (by simp) ?_
  refine step_buildSlice_as (o := { dst := some 10, op := Op.buildSlice 25 1 #[(0, Operand.const (Value.int IntKind.u8 1))], type := 25, pos := "way.go:27", after := #[], guard := none }) rfl rfl 25 1 [(0, .const (.int .u8 1))] rfl [(0, .int .u8 1)] rfl _ _ (bs34one Z1 1) AllReadyH.nil ⟨CZ1.out.alloc _, fun hHeld => ?_⟩
  clear hHeld
  simp only [Act.put, List.setIfInBounds_toArray, List.set_cons_zero, List.set_cons_succ]
  obtain ⟨g1, hg1⟩ : ∃ gg, gg = Z1.heap.size := ⟨_, rfl⟩
  rw [← hg1]
  generalize hZ : Z1.alloc _ = Z2
  have hb2 : Below Z1.heap.size Z1 Z2 := by rw [← hZ]; exact (Below.refl _ _).alloc (Nat.le_refl _) _
  have Rg1 : Hid (Z2.heap[g1]? = some (.cells #[.int .u8 1] 5 (0, 0))) := by rw [← hZ, hg1]; exact heap_alloc_new _ _
  have Gg1 := hide (show W2.heap.size ≤ g1 by rw [hg1]; exact CZ1.out.size)
  clear hZ hg1
  replace Q2' : Hid (Z2.heap[w.heap.size + 2]? = some (.cells ZZ 91 (0, 0))) := (hb2.block _ (block_lt_of_row Q2'.out)).trans Q2'.out
  have CZ2 : Hid (Chg (fun k => k = w.heap.size + 2) W2 Z2) := CZ1.out.then hb2
  clear hb2 CZ1
  have hHeld := CZ2.out
  refine wpAnyH_ready (rs := [5]) (by kernel_rfl) (by simp) ?_
  refine step_buildSlice_as (o := { dst := some 15, op := Op.buildSlice 41 3 #[(0, Operand.tmp 10), (1, Operand.tmp 12), (2, Operand.tmp 14)], type := 41, pos := "way.go:27", after := #[{ on := 0, ground := Ground.data }, { on := 2, ground := Ground.data }, { on := 4, ground := Ground.data }], guard := none }) rfl rfl 41 3 [(0, .tmp 10), (1, .tmp 12), (2, .tmp 14)] rfl [(0, .slice (some ⟨g1, 0, none⟩) 1 1), (1, .slice (some ⟨w.heap.size, 0, none⟩) n 32), (2, .slice (some ⟨w.heap.size + 1, 0, none⟩) n 32)] rfl _ _ (bs22three Z2 _ _ _ _ _ _ _ _ _) AllReadyH.nil ⟨CZ2.out.alloc _, fun hHeld => ?_⟩
  clear hHeld
  simp only [Act.put, List.setIfInBounds_toArray, List.set_cons_zero, List.set_cons_succ]
  obtain ⟨g2, hg2⟩ : ∃ gg, gg = Z2.heap.size := ⟨_, rfl⟩
  rw [← hg2]
  generalize hZ : Z2.alloc _ = Z3
  have hb2 : Below Z2.heap.size Z2 Z3 := by rw [← hZ]; exact (Below.refl _ _).alloc (Nat.le_refl _) _
  have Rg2 : Hid (Z3.heap[g2]? = some (.cells #[.slice (some ⟨g1, 0, none⟩) 1 1, .slice (some ⟨w.heap.size, 0, none⟩) n 32, .slice (some ⟨w.heap.size + 1, 0, none⟩) n 32] 25 (0, 0))) := by rw [← hZ, hg2]; exact heap_alloc_new _ _
  have Gg2 := hide (show W2.heap.size ≤ g2 by rw [hg2]; exact CZ2.out.size)
  clear hZ hg2
  replace Q2' : Hid (Z3.heap[w.heap.size + 2]? = some (.cells ZZ 91 (0, 0))) := (hb2.block _ (block_lt_of_row Q2'.out)).trans Q2'.out
  replace Rg1 : Hid (Z3.heap[g1]? = some (.cells #[.int .u8 1] 5 (0, 0))) := (hb2.block _ (block_lt_of_row Rg1.out)).trans Rg1.out
  have CZ3 : Hid (Chg (fun k => k = w.heap.size + 2) W2 Z3) := CZ2.out.then hb2
  clear hb2 CZ2
  have hHeld := CZ3.out
  refine wpAnyH_ready (rs := [10]) (by kernel_rfl) (by simp) ?_
  refine step_build_as (o := { dst := some 20, op := Op.build 91 #[(0, Operand.tmp 15), (1, Operand.tmp 19)], type := 91, pos := "way.go:27", after := #[{ on := 5, ground := Ground.data }, { on := 9, ground := Ground.data }], guard := none }) rfl rfl 91 [(0, .tmp 15), (1, .tmp 19)] rfl [(0, .slice (some ⟨g2, 0, none⟩) 3 3), (1, .agg (S.v8 D))] rfl (.agg (S.stc (.slice (some ⟨g2, 0, none⟩) 3 3, D)).toArray) (build91 (some ⟨g2, 0, none⟩) 3 3 D LD.out Z3) AllReadyH.nil ⟨CZ3.out, fun hHeld => ?_⟩
  simp only [Act.put, List.setIfInBounds_toArray, List.set_cons_zero, List.set_cons_succ]
  refine wpAnyH_ready (rs := [11]) (by kernel_rfl) (by simp) ?_
  obtain ⟨Z4, hst, r6, C6, s6⟩ := store_st (x := (.slice (some ⟨g2, 0, none⟩) 3 3, D)) Q2'.out HZ.out LD.out rfl
  refine step_store_as (o := { dst := none, op := Op.store 91 (Operand.tmp 6) (Operand.tmp 20), type := 0, pos := "way.go:27", after := #[{ on := 10, ground := Ground.data }, { on := 9, ground := Ground.chain }, { on := 0, ground := Ground.phase }, { on := 1, ground := Ground.phase }, { on := 2, ground := Ground.phase }, { on := 3, ground := Ground.phase }, { on := 4, ground := Ground.phase }, { on := 5, ground := Ground.phase }, { on := 6, ground := Ground.phase }, { on := 7, ground := Ground.phase }, { on := 8, ground := Ground.phase }, { on := 9, ground := Ground.phase }, { on := 10, ground := Ground.phase }], guard := none }) rfl rfl 91 (.tmp 6) (.tmp 20) rfl _ _ rfl rfl Z4 hst AllReadyH.nil ⟨CZ3.out.trans C6 (fun k hk e => by first | exact e | exact Or.inl e | exact Or.inr e | omega), fun hHeld => ?_⟩
  replace Q2' : Hid (Z4.heap[w.heap.size + 2]? = some (.cells (S.stc (.slice (some ⟨g2, 0, none⟩) 3 3, D)).toArray 91 (0, 0))) := r6
  replace Rg1 : Hid (Z4.heap[g1]? = some (.cells #[.int .u8 1] 5 (0, 0))) := C6.row Rg1.out (by have := Gg1.out; have := Gg2.out; have := block_lt_of_row Q2.out; omega)
  replace Rg2 : Hid (Z4.heap[g2]? = some (.cells #[.slice (some ⟨g1, 0, none⟩) 1 1, .slice (some ⟨w.heap.size, 0, none⟩) n 32, .slice (some ⟨w.heap.size + 1, 0, none⟩) n 32] 25 (0, 0))) := C6.row Rg2.out (by have := Gg1.out; have := Gg2.out; have := block_lt_of_row Q2.out; omega)
  have CZ4 : Hid (Chg (fun k => k = w.heap.size + 2) W2 Z4) := CZ3.out.trans C6 (fun k hk e => by first | exact e | exact Or.inl e | exact Or.inr e | omega)
  clear hst r6 C6 s6 CZ3
  simp only [Act.put]
  refine wpAnyH_done (by kernel_rfl) ?_ _
  refine NoPanic.normal ?_
  clear hHeld
  obtain ⟨Zf, hZf⟩ : ∃ Z, Z = Z4 := ⟨_, rfl⟩
  rw [← hZf] at CZ4 Q2' Rg1 Rg2 ⊢
  have K3 := hide (CZ4.out.row Q0.out (by omega))
  have K4 := hide (CZ4.out.row Q1.out (by omega))
  have B6 := hide (BB.out.trans (CZ4.out.below w.heap.size BB.out.size (fun k hk e => by omega)))
  have GG := block_lt_of_row Q2.out
  clear hZf
  go_wp2_with fail
  refine bodyPost_ret (v := .agg (S.stc (.slice (some ⟨g2, 0, none⟩) 3 3, D)).toArray) (results_cell_row (g := w.heap.size + 2) (t := 91) (fr := (0, 0)) Tryd.results59 _ _ _ _ rfl Q2'.out Tryd.underlying91 rfl (size91 _ LD.out)) rfl ⟨some ⟨g2, 0, none⟩, 3, 3, ?_, fun W hW => ?_, B6.out⟩
  · rw [ED.out]; rfl
  · obtain ⟨p, hp, hc⟩ := hW
    have k1 := hc.row Rg1.out (fun e => by have := hp _ e; have := Gg1.out; omega)
    have k2 := hc.row Rg2.out (fun e => by have := hp _ e; have := Gg2.out; omega)
    have k3 := hc.row K3.out (fun e => by have := hp _ e; omega)
    have k4 := hc.row K4.out (fun e => by have := hp _ e; omega)
    exact ⟨g2, 3, [[1], d.take n, e.take n], rfl, rfl, by omega, ⟨block_lt_of_row k2, fun j hj => by
      rcases (by simp at hj; omega : j = 0 ∨ j = 1 ∨ j = 2) with rfl | rfl | rfl
      · exact ⟨_, (cell_of_row W _ 0 _ _ _ k2).trans rfl, one8_at (x := 1) rfl k1⟩
      · exact ⟨_, (cell_of_row W _ 1 _ _ _ k2).trans rfl, dig_part k3 HD.out n hn32⟩
      · exact ⟨_, (cell_of_row W _ 2 _ _ _ k2).trans rfl, dig_part k4 HE.out n hn32⟩⟩, by rw [S.txt, ← HN.out]; simp⟩
end Go.Proofs.YtlbggkmblkhjoaaDoor
