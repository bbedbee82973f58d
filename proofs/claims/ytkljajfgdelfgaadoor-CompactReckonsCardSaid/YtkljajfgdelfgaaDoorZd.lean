/- Roomy of digests: a list of digests behind which 80 marks lie, in memory of its own. -/
import Derived.Test.YtkljajfgdelfgaaDoorZe
import Derived.Test.YtkljajfgdelfgaaDoorMj
import Derived.Test.YtkljajfgdelfgaaDoorMc
namespace Go.Proofs.YtkljajfgdelfgaaDoor
open Go.RowKit

namespace S
def room (ps : List (List UInt8)) (m : List UInt8) (k : Nat) : List (List UInt8) := ps ++ (List.replicate k m ++ List.replicate (80 - k) (S.zeros 32))
theorem room_length (ps : List (List UInt8)) (m : List UInt8) (k : Nat) (h : k ≤ 80) : (room ps m k).length = ps.length + 80 := by
  simp only [room, List.length_append, List.length_replicate]; omega
theorem room_set (ps : List (List UInt8)) (m : List UInt8) (k : Nat) (h : k < 80) : (room ps m k).set (ps.length + k) m = room ps m (k + 1) := by
  unfold room
  rw [List.set_append_right _ _ (by omega), Nat.add_sub_cancel_left, List.set_append_right _ _ (by simp)]
  simp only [List.length_replicate, Nat.sub_self]
  rw [show 80 - k = (80 - (k + 1)) + 1 from by omega, List.replicate_succ, List.set_cons_zero, List.replicate_succ', List.append_assoc]
  rfl
theorem room_all (ps : List (List UInt8)) (m : List UInt8) : room ps m 80 = ps ++ List.replicate 80 m := by
  unfold room; simp
theorem room_32 {ps : List (List UInt8)} {m : List UInt8} (hp : ∀ d ∈ ps, d.length = 32) (hm : m.length = 32) (k : Nat) : ∀ d ∈ room ps m k, d.length = 32 := fun d hd => by
  unfold room at hd
  rw [List.mem_append, List.mem_append] at hd
  rcases hd with h | h | h
  · exact hp d h
  · rw [List.eq_of_mem_replicate h]; exact hm
  · rw [List.eq_of_mem_replicate h]; exact S.zeros_length _
end S
set_option maxHeartbeats 4000000 in
set_option maxRecDepth 10000 in
theorem roomy_dig (u : Value) (ps : List (List UInt8)) (m : List UInt8) (w : World) (hu : DgAt w u ps) (hm : m.length = 32) (hl : ps.length ≤ 1000) :
   Calls Tryd.prog 19 #[u, .agg (S.v8 m)] w fun e w' => ∃ g, e = .returned (.slice (some ⟨g, 0, none⟩) (ps.length + 80) (ps.length + 80)) ∧ DgRow w.heap.size w' (.slice (some ⟨g, 0, none⟩) (ps.length + 80) (ps.length + 80)) (ps ++ List.replicate 80 m) ∧ Below w.heap.size w w' := by
  obtain ⟨uo, uc, rfl⟩ := hu.form
  have hp32 : ∀ d ∈ ps, d.length = 32 := by obtain ⟨_, _, _, _, h, _⟩ := hu; exact h
  have H32 := hide hp32
  have HM := hide hm
  have HU := hide hu
  obtain ⟨n, hn⟩ : ∃ n, n = ps.length := ⟨_, rfl⟩
  obtain ⟨N, hN⟩ : ∃ N, N = n + 80 := ⟨_, rfl⟩
  rw [← hn] at HU hl ⊢
  rw [← hN]
  have HN := hide hn
  have HNN := hide hN
  have q0 : IntKind.i64.wrap ((n : Int) + 80) = (N : Int) := by rw [IntKind.wrap_i64]; omega
  have hNl : N ≤ 2000 := by omega
  clear hu hm hp32 hn hN
  go_enter Tryd.func19, Tryd.ntmps19
  obtain ⟨W0, hW0⟩ : ∃ W, W = w.alloc (.cells (S.v8 m) 23) := ⟨_, rfl⟩
  have b0 : Below w.heap.size w W0 := by rw [hW0]; exact (Below.refl _ _).alloc (Nat.le_refl _) _
  have r0 : W0.heap[w.heap.size]? = some (.cells (S.v8 m) 23 (0, 0)) := by rw [hW0]; exact heap_alloc_new _ _
  obtain ⟨W1, hW1⟩ : ∃ W, W = W0.alloc (.cells (madeCells (S.v8 (S.zeros 32)) (N * 32)) 23) := ⟨_, rfl⟩
  have b1 : Below W0.heap.size W0 W1 := by rw [hW1]; exact (Below.refl _ _).alloc (Nat.le_refl _) _
  have hmk : (Instr.makeSlice 28 (.int .i64 (N : Int)) (.int .i64 (N : Int))).run Tryd.prog W0 = .ok (.slice (some ⟨W0.heap.size, 0, none⟩) N N) W1 := by rw [hW1]; exact make_digs N (by omega) W0
  have hrow : DgRow W0.heap.size W1 (.slice (some ⟨W0.heap.size, 0, none⟩) N N) (List.replicate N (S.zeros 32)) := by rw [hW1]; exact DgRow.made W0 N (by omega)
  obtain ⟨g, hg⟩ : ∃ g, g = W0.heap.size := ⟨_, rfl⟩
  rw [← hg] at hmk hrow
  obtain ⟨vc, W2, hcp, hrow2, hch⟩ := run_copy_digs 3 hrow (fun d hd => by rw [List.eq_of_mem_replicate hd]; exact S.zeros_length _) (by rw [List.length_replicate]) ((HU.out.below b0).below b1) (by rw [List.length_replicate, ← HN.out, HNN.out]; omega)
  rw [show ps ++ (List.replicate N (S.zeros 32)).drop ps.length = S.room ps m 0 by rw [List.drop_replicate, ← HN.out, HNN.out, Nat.add_sub_cancel_left]; rfl] at hrow2
  have hgw : w.heap.size < g := by rw [hg]; exact block_lt_of_row r0
  have b12 : Below W0.heap.size W0 W2 := b1.trans (hch.below _ b1.size (fun j hj e => by omega))
  have RB : Hid (W2.heap[w.heap.size]? = some (.cells (S.v8 m) 23 (0, 0))) := (b12.block _ (block_lt_of_row r0)).trans r0
  have R2 := hide (hrow2.mono (B' := w.heap.size) (by omega))
  have B2 := hide (b0.trans (b12.mono b0.size))
  have HW0 := hide hW0
  have HG := hide hgw
  clear hW0 hW1 b0 r0 b1 hrow hg hrow2 hch b12 hgw
  go_upto_region 1 with fail
  rw [← HW0.out]
  go_wp2_with (at_builtin; (refine Lib.wpList_copy_run _ rfl _ _ 28 28 rfl _ _ rfl rfl hcp ?_))
  clear hcp hmk HW0
  go_loopg [6] 80 (fun gk s6 wr => ∃ k j : Nat, k + gk = 80 ∧ j = n + k ∧ s6 = .int .i64 (j : Int) ∧ Hid (DgRow w.heap.size wr (.slice (some ⟨g, 0, none⟩) N N) (S.room ps m k)) ∧ Hid (wr.heap[w.heap.size]? = some (.cells (S.v8 m) 23 (0, 0))) ∧ Hid (Below w.heap.size w wr))
  case atStart => exact ⟨0, n, by omega, rfl, rfl, R2, RB, B2⟩
  case round =>
    obtain ⟨k, j, hk, hj, rfl, RR, RO, BR⟩ := hrel
    clear R2 RB B2
    cases gk with
    | zero =>
      have qk : ¬ (j : Int) < (N : Int) := by have := HNN.out; omega
      have hk80 : k = 80 := by omega
      have RF := hide (show DgRow w.heap.size wr (.slice (some ⟨g, 0, none⟩) N N) (ps ++ List.replicate 80 m) by rw [← S.room_all, ← hk80]; exact RR.out)
      clear hk hj RR RO hk80
      go_wp2_with fail
      go_ret
      exact ⟨g, rfl, RF.out, BR.out⟩
    | succ gO =>
      have qk : (j : Int) < (N : Int) := by have := HNN.out; omega
      have qk0 : (0 : Int) ≤ (j : Int) := by omega
      have qk1 : IntKind.i64.wrap ((j : Int) + 1) = (j : Int) + 1 := by rw [IntKind.wrap_i64]; omega
      obtain ⟨w', hst, hrow, hch⟩ := DgRow.set RR.out (S.room_32 H32.out HM.out k) j (by rw [S.room_length _ _ _ (by omega), ← HN.out]; omega) m HM.out
      rw [hj, HN.out, S.room_set ps m k (by omega)] at hrow
      have RO2 : Hid (w'.heap[w.heap.size]? = some (.cells (S.v8 m) 23 (0, 0))) := hch.row RO.out (by have := HG.out; omega)
      have BR2 := hide (BR.out.trans (hch.below _ BR.out.size (fun j hj e => by have := HG.out; omega)))
      have RR2 := hide hrow
      have HJ := hide (And.intro hk hj)
      clear hrow hch RR BR hk hj
      go_wp2_with (first | (with_reducible refine at_op { dst := some 24, op := Op.load 23 (Operand.tmp 3), type := 23, pos := "book.go:89", after := #[], guard := none } ?_; refine load_dig_when rfl (.tmp 3) rfl (w.heap.size) rfl m RO.out HM.out ?_) | (with_reducible refine at_op { dst := none, op := Op.store 23 (Operand.tmp 25) (Operand.tmp 24), type := 0, pos := "book.go:89", after := #[{ on := 3, ground := Ground.data }, { on := 2, ground := Ground.data }, { on := 0, ground := Ground.phase }, { on := 1, ground := Ground.phase }, { on := 2, ground := Ground.phase }], guard := none } ?_; refine wpList_store_as rfl 23 (.tmp 25) (.tmp 24) rfl (.pointer (some ⟨g, j * 32, none⟩)) (.agg (S.v8 m)) rfl rfl w' hst ?_))
      clear hst
      go_roundg gO
      case measure => omega
      case rel => exact ⟨k + 1, j + 1, by have := HJ.out; omega, by have := HJ.out; omega, by first | rfl | simp, RR2, RO2, BR2⟩
end Go.Proofs.YtkljajfgdelfgaaDoor
namespace Go.Proofs.YtkljajfgdelfgaaDoor
open Go.RowKit

theorem S.getD_room (ps : List (List UInt8)) (m : List UInt8) (k : Nat) (h : k < 80) : (ps ++ List.replicate 80 m).getD (ps.length + k) [] = m := by
  rw [List.getD_eq_getElem?_getD, List.getElem?_append_right (by omega), Nat.add_sub_cancel_left, List.getElem?_replicate, if_pos h]; rfl
set_option maxHeartbeats 4000000 in
set_option maxRecDepth 10000 in
theorem intact_dig (vf u : Value) (ps : List (List UInt8)) (m : List UInt8) (w : World) (hf : DgAt w vf (ps ++ List.replicate 80 m)) (hcap : ∀ ao n c, vf = .slice ao n c → n ≤ c) (hu : DgAt w u ps) (hm : m.length = 32) (hl : ps.length ≤ 1000) :
   Calls Tryd.prog 25 #[vf, u, .agg (S.v8 m)] w fun e w' => e = .returned (.bool true) ∧ Below w.heap.size w w' := by
  obtain ⟨uo, uc, rfl⟩ := hu.form
  obtain ⟨g, off, fc, rfl, y1, y2, y3⟩ := dg_at hf 0 (by rw [List.length_append, List.length_replicate]; omega)
  have hc := hcap _ _ _ rfl
  clear y1 y2 y3
  have hlen : (ps ++ List.replicate 80 m).length = ps.length + 80 := by rw [List.length_append, List.length_replicate]
  rw [hlen] at hf hc ⊢
  have HM := hide hm
  have HU := hide hu
  have HF := hide hf
  have HT := hide (show DgAt w (.slice (some ⟨g, off, none⟩) ps.length fc) ps by have := hf.take ps.length (by omega); rwa [List.take_left] at this)
  obtain ⟨n, hn⟩ : ∃ n, n = ps.length := ⟨_, rfl⟩
  obtain ⟨N, hN⟩ : ∃ N, N = n + 80 := ⟨_, rfl⟩
  rw [← hn] at HU HF HT hl hc ⊢
  rw [← hN] at HF hc ⊢
  have HN := hide hn
  have HNN := hide hN
  have q0 : IntKind.i64.wrap ((n : Int) + 80) = (N : Int) := by rw [IntKind.wrap_i64]; omega
  have q1 : (n : Int) ≤ (fc : Int) := by omega
  have q2 : (0 : Int) ≤ (n : Int) := by omega
  clear hu hm hf hn hN hcap hlen
  go_enter Tryd.func25, Tryd.ntmps25
  go_wp2_with fail
  generalize hW0 : w.alloc _ = W0
  have B0 : Below w.heap.size w W0 := by rw [← hW0]; exact (Below.refl _ _).alloc (Nat.le_refl _) _
  have s0 : W0.heap.size = w.heap.size + 1 := by rw [← hW0]; simp
  have r0 : W0.heap[w.heap.size]? = some (.cells (S.v8 m) 23 (0, 0)) := by rw [← hW0]; exact heap_alloc_new _ _
  have BB : Hid (Below w.heap.size w W0) := B0
  have Q0 : Hid (W0.heap[w.heap.size]? = some (.cells (S.v8 m) 23 (0, 0))) := r0
  clear hW0 B0 s0 r0
  refine (same_dg _ _ ps W0 (HT.out.below BB.out) (HU.out.below BB.out)).mono ?_
  rintro e w1 ⟨rfl, st1⟩
  have B01 := hide (st1.below W0.heap.size)
  clear st1
  go_wp2_with fail
  go_loopg [7] 80 (fun gk s7 wr => ∃ k j : Nat, k + gk = 80 ∧ j = n + k ∧ s7 = .int .i64 (j : Int) ∧ Hid (Below W0.heap.size W0 wr))
  case atStart => exact ⟨0, n, by omega, rfl, rfl, B01⟩
  case round =>
    obtain ⟨k, j, hk, hj, rfl, BR⟩ := hrel
    have BW := hide (BB.out.trans (BR.out.mono BB.out.size))
    clear B01
    cases gk with
    | zero =>
      have qk : ¬ (j : Int) < (N : Int) := by have := HNN.out; omega
      clear hk hj
      go_wp2_with fail
      go_ret
      exact ⟨rfl, BW.out⟩
    | succ gO =>
      have qk : (j : Int) < (N : Int) := by have := HNN.out; omega
      have qk0 : (0 : Int) ≤ (j : Int) := by omega
      have qk1 : IntKind.i64.wrap ((j : Int) + 1) = (j : Int) + 1 := by rw [IntKind.wrap_i64]; omega
      obtain ⟨g', off', fc', e, hgl, hr, hz0⟩ := dg_at (HF.out.below BW.out) j (by rw [List.length_append, List.length_replicate, ← HN.out]; omega)
      simp only [Value.slice.injEq, Option.some.injEq, Addr.mk.injEq, and_true] at e
      obtain ⟨⟨rfl, rfl⟩, e2, e3⟩ := e
      clear e2 e3
      rw [show (ps ++ List.replicate 80 m).getD j [] = m by rw [hj, HN.out]; exact S.getD_room ps m k (by omega)] at hr
      have RR := hide hr
      have RQ : Hid (wr.heap[w.heap.size]? = some (.cells (S.v8 m) 23 (0, 0))) := (BR.out.block _ (block_lt_of_row Q0.out)).trans Q0.out
      have HGL := hide hgl
      have hsz := size_dig m HM.out
      have hsz2 : (Tryd.prog.info? 23).map (·.size) = some (S.v8l m).length := by rw [S.v8l_length, HM.out]; exact size23
      have heqv : ∀ w, (Op.equalIn 10000 23 (.agg (S.v8l m).toArray) (.agg (S.v8l m).toArray)).run Tryd.prog w = .ok true w := fun w => by rw [← S.v8_eq]; exact equal_dig m m HM.out HM.out true (by simp) w
      have HJ := hide (And.intro hk hj)
      clear hr hgl hk hj hz0
      go_upto_region 6 with fail
      refine wp_region_noPanic ?_
      refine wp_region_held_drew (S := (fun W => Chg (fun _ => False) wr W)) follows ((Chg.refl _ _).drew) (fun hHeld => ?_)
      clear hHeld
      have hHeld : Chg (fun _ => False) wr wr.drew := (Chg.refl _ _).drew
      have CZ0 := hide hHeld
      generalize wr.drew = Z0 at CZ0 hHeld ⊢
      refine wpAnyH_take (i := 0) (oi := { dst := some 31, op := Op.move (Operand.tmp 0), type := 28, pos := "book.go:100", after := #[], guard := none }) (v := ?_) rfl (by kernel_rfl) (by kernel_rfl) (by kernel_rfl) (fun _ _ _ h => h) (Or.inl ⟨by rfl, ?_⟩) (by assumption) ?_
      rotate_left
      · intro w hSw
        clear hSw
        go_simp
        all_goals with_reducible rfl
      simp only [Act.put, List.setIfInBounds_toArray, List.set_cons_zero, List.set_cons_succ]
      refine wpAnyH_take (i := 1) (oi := { dst := some 32, op := Op.move (Operand.tmp 7), type := 3, pos := "book.go:100", after := #[], guard := none }) (v := ?_) rfl (by kernel_rfl) (by kernel_rfl) (by kernel_rfl) (fun _ _ _ h => h) (Or.inl ⟨by rfl, ?_⟩) (by assumption) ?_
      rotate_left
      · intro w hSw
        clear hSw
        go_simp
        all_goals with_reducible rfl
      simp only [Act.put, List.setIfInBounds_toArray, List.set_cons_zero, List.set_cons_succ]
      refine wpAnyH_take (i := 2) (oi := { dst := some 33, op := Op.indexAddr 28 (Operand.tmp 31) (Operand.tmp 32), type := 0, pos := "book.go:100", after := #[{ on := 0, ground := Ground.data }, { on := 1, ground := Ground.data }], guard := none }) (v := ?_) rfl (by kernel_rfl) (by kernel_rfl) (by kernel_rfl) (fun _ _ _ h => h) (Or.inl ⟨by rfl, ?_⟩) (by assumption) ?_
      rotate_left
      · intro w hSw
        clear hSw
        go_simp
        all_goals with_reducible rfl
      simp only [Act.put, List.setIfInBounds_toArray, List.set_cons_zero, List.set_cons_succ]
      refine wpAnyH_take (i := 3) (oi := { dst := some 34, op := Op.load 23 (Operand.tmp 33), type := 23, pos := "book.go:100", after := #[{ on := 2, ground := Ground.data }], guard := none }) (v := .agg (S.v8l m).toArray) rfl (by kernel_rfl) (by kernel_rfl) (by kernel_rfl) (fun _ _ _ h => h) (yieldsIf_load_mid (by rfl) _ _ rfl g (off + j * 32) rfl (S.v8l m) _ (fun _ hSw => (fun q x hx => ((hSw.below _ (Nat.le_refl _) (fun _ _ e => e)).cell (p := ⟨g, off + j * 32 + q, none⟩) HGL.out).trans (RR.out q x hx))) Tryd.underlying23 rfl hsz2) (by assumption) ?_
      simp only [Act.put, List.setIfInBounds_toArray, List.set_cons_zero, List.set_cons_succ]
      refine wpAnyH_take (i := 4) (oi := { dst := some 35, op := Op.load 23 (Operand.tmp 5), type := 23, pos := "book.go:100", after := #[], guard := none }) (v := .agg (S.v8l m).toArray) rfl (by kernel_rfl) (by kernel_rfl) (by kernel_rfl) (fun _ _ _ h => h) (yieldsIf_load_mid (by rfl) _ _ rfl w.heap.size 0 rfl (S.v8l m) _ (fun _ hSw => rangeAt_row (hSw.row RQ.out (fun e => e))) Tryd.underlying23 rfl hsz) (by assumption) ?_
      simp only [Act.put, List.setIfInBounds_toArray, List.set_cons_zero, List.set_cons_succ]
      refine wpAnyH_take (i := 5) (oi := { dst := some 36, op := Op.binOp BinOp.neq 23 (Operand.tmp 34) (Operand.tmp 35) 23, type := 4, pos := "book.go:100", after := #[{ on := 3, ground := Ground.data }, { on := 4, ground := Ground.data }], guard := none }) (v := ?_) rfl (by kernel_rfl) (by kernel_rfl) (by kernel_rfl) (fun _ _ _ h => h) (Or.inl ⟨by rfl, ?_⟩) (by assumption) ?_
      rotate_left
      · intro w hSw
        clear hSw
        go_simp
        all_goals with_reducible rfl
      simp only [Act.put, List.setIfInBounds_toArray, List.set_cons_zero, List.set_cons_succ]
      refine wpAnyH_done (by kernel_rfl) ?_ _
      refine NoPanic.normal ?_
      clear hHeld heqv
      have BG := hide (BR.out.trans ((CZ0.out.below _ (Nat.le_refl _) (fun _ _ e => e)).mono BR.out.size))
      clear CZ0
      try simp only [Bool.not_true]
      go_wp2_with fail
      go_roundg gO
      case measure => omega
      case rel => exact ⟨k + 1, j + 1, by have := HJ.out; omega, by have := HJ.out; omega, by first | rfl | simp, BG⟩
end Go.Proofs.YtkljajfgdelfgaaDoor
namespace Go.Proofs.YtkljajfgdelfgaaDoor
open Go.RowKit

def S.nine : List UInt8 := 9 :: S.zeros 31
theorem S.nine_length : S.nine.length = 32 := rfl
theorem bmark (W : World) : (Instr.build 23 #[(0, .int .u8 9)]).run Tryd.prog W = .ok (.agg (S.v8 S.nine)) W := by kernel_rfl
theorem yieldsIf_build {ops : Array Oper} {S : World → Prop} {op : Oper} {a : Act} (hw : Region.wanted op (yielded ops a.tmps) = true) (t : TypeId) (parts : List (Nat × Operand)) (ho : op.op = .build t parts.toArray) (v : Value)
    (hr : ∀ w, (Instr.build t (parts.map fun p => (p.1, a.eval p.2)).toArray).run Tryd.prog w = .ok v w) : YieldsIf Tryd.prog ops S op v a :=
  .inl ⟨hw, fun w _ => by
    unfold execOp
    simp only [ho, Sem.run_bind, Sem.run_pure, List.map_toArray, hr, Result.andThen_ok]⟩
end Go.Proofs.YtkljajfgdelfgaaDoor
