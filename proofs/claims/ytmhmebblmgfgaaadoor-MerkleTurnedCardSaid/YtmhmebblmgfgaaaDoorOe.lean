/- Two lists of texts that read the same are the same. -/
import Derived.Test.YtmhmebblmgfgaaaDoorOd
import Derived.Laws.IdiomStrings
import Derived.Lib.BufferRead
namespace Go.Proofs.YtmhmebblmgfgaaaDoor
open Go.RowKit

theorem conv_slice {w : World} {v : Value} {bs : List UInt8} (h : SliceAt w v bs) : (convert 34 9 v).run Tryd.prog w = .ok (.string ⟨bs.toArray⟩) w := by
  rcases h with ⟨rfl, rfl⟩ | ⟨a, cap, rfl, _, rfl⟩ | ⟨b, off, cap, rfl, h1, h2, h3, h4⟩
  · exact Lib.run_convert_nil_bytes w 34 9 5 0 Tryd.underlying34 Tryd.underlying5 Tryd.underlying9
  · exact run_convert_bytes_back w 34 9 5 a cap [] Tryd.underlying34 Tryd.underlying5 Tryd.underlying9 (fun j hj => by simp at hj)
  · refine run_convert_bytes_back w 34 9 5 ⟨b, off, none⟩ cap bs Tryd.underlying34 Tryd.underlying5 Tryd.underlying9 (fun j hj => ?_)
    rw [Addr.add_lit, h4 j hj, List.getD_eq_getElem?_getD, List.getElem?_eq_getElem hj]
    rfl
set_option maxHeartbeats 2000000 in
set_option maxRecDepth 10000 in
theorem sames_any (v u : Value) (bss : List (List UInt8)) (w : World) (hv : BsAt w v bss) (hu : BsAt w u bss) (hmax : bss.length ≤ 140737488355328) :
   Calls Tryd.prog 23 #[v, u] w fun e w' => e = .returned (.bool true) ∧ Still w w' := by
  obtain ⟨ao, cap, rfl, hcap⟩ := hv.form
  obtain ⟨ao2, cap2, rfl, hcap2⟩ := hu.form
  have HV := hide hv
  have HU := hide hu
  obtain ⟨N, hN⟩ : ∃ N, N = bss.length := ⟨_, rfl⟩
  have HN := hide hN
  rw [← hN] at hcap hcap2 HV HU hmax ⊢
  clear hv hu hN
  go_enter Tryd.func23, Tryd.ntmps23
  go_wp2
  go_loopw [5] (fun i wr => ∃ k : Nat, k ≤ N ∧ i = .int .i64 (k : Int) ∧ Still w wr) (fun i _ => N - (intOf i).toNat)
  case atStart => exact ⟨0, by omega, rfl, Still.refl _⟩
  case round =>
    obtain ⟨k, hk, rfl, hst⟩ := hrel
    by_cases hlt : k < N
    · have q1 : (0 : Int) ≤ (k : Int) := by omega
      have q2 : (k : Int) < (N : Int) := by omega
      have q4 : IntKind.i64.wrap ((k : Int) + 1) = (k : Int) + 1 := by rw [IntKind.wrap_i64]; omega
      obtain ⟨b, off, c9, e9, g9, hbl, hcl⟩ := HV.out.src (by rw [← HN.out]; omega)
      obtain ⟨b2, off2, c8, e8, g8, hbl2, hcl2⟩ := HU.out.src (by rw [← HN.out]; omega)
      simp only [Value.slice.injEq] at e9 e8
      obtain ⟨rfl, f9, rfl⟩ := e9
      obtain ⟨rfl, f8, rfl⟩ := e8
      obtain ⟨x, hx, hxs⟩ := hcl k (by rw [← HN.out]; exact hlt)
      obtain ⟨y, hy, hys⟩ := hcl2 k (by rw [← HN.out]; exact hlt)
      obtain ⟨xo, xl, xc, rfl, hxl, hxm⟩ := hxs.form
      obtain ⟨yo, yl, yc, rfl, hyl, hym⟩ := hys.form
      have c1 : wr.cell? ⟨b, off + k, none⟩ = some (.slice xo xl xc) := (World.cell?_of_block (by rw [hst.1])).trans hx
      have c2 : wr.cell? ⟨b2, off2 + k, none⟩ = some (.slice yo yl yc) := (World.cell?_of_block (by rw [hst.1])).trans hy
      have XS := hide (hxs.of_heap hst.1)
      have YS := hide (hys.of_heap hst.1)
      have ST := hide hst
      have C1 := hide c1
      have C2 := hide c2
      clear f9 f8 g9 g8 hx hxs hy hys hxl hyl hxm hym hst hcl hcl2 c1 c2
      obtain ⟨T, hT⟩ : ∃ T, T = (⟨(bss.getD k []).toArray⟩ : ByteArray) := ⟨_, rfl⟩
      have K1 : Hid (∀ W : World, W.heap = wr.heap → (convert 34 9 (.slice xo xl xc)).run Tryd.prog W = .ok (.string T) W) := fun W hW => by rw [hT]; exact conv_slice (XS.out.of_heap hW)
      have K2 : Hid (∀ W : World, W.heap = wr.heap → (convert 34 9 (.slice yo yl yc)).run Tryd.prog W = .ok (.string T) W) := fun W hW => by rw [hT]; exact conv_slice (YS.out.of_heap hW)
      have C3 : Hid (∀ W : World, W.heap = wr.heap → W.cell? ⟨b, off + k, none⟩ = some (.slice xo xl xc) ∧ W.cell? ⟨b2, off2 + k, none⟩ = some (.slice yo yl yc)) := fun W hW => ⟨(World.cell?_of_block (by rw [hW])).trans C1.out, (World.cell?_of_block (by rw [hW])).trans C2.out⟩
      clear hT XS YS C1 C2
      go_wp2_with fail
      refine wp_region_noPanic ?_
      refine wp_region_held_drew (S := (fun W => W.heap = wr.heap)) follows rfl (fun hHeld => ?_)
      have SZ : Hid (Still w wr.drew) := ST.out.drew
      clear ST hHeld
      have hHeld : wr.drew.heap = wr.heap := rfl
      generalize wr.drew = Z at SZ hHeld ⊢
      refine wpAnyH_take (i := 0) (oi := { dst := some 17, op := Op.move (Operand.tmp 0), type := 22, pos := "keep.go:61", after := #[], guard := none }) (v := ?_) rfl (by kernel_rfl) (by kernel_rfl) (by kernel_rfl) (fun _ _ _ h => h) (Or.inl ⟨by rfl, ?_⟩) (by assumption) ?_
      rotate_left
      · intro w hSw
        clear hSw
        go_simp
        all_goals with_reducible rfl
      simp only [Act.put, List.setIfInBounds_toArray, List.set_cons_zero, List.set_cons_succ]
      refine wpAnyH_take (i := 1) (oi := { dst := some 18, op := Op.move (Operand.tmp 5), type := 3, pos := "keep.go:61", after := #[], guard := none }) (v := ?_) rfl (by kernel_rfl) (by kernel_rfl) (by kernel_rfl) (fun _ _ _ h => h) (Or.inl ⟨by rfl, ?_⟩) (by assumption) ?_
      rotate_left
      · intro w hSw
        clear hSw
        go_simp
        all_goals with_reducible rfl
      simp only [Act.put, List.setIfInBounds_toArray, List.set_cons_zero, List.set_cons_succ]
      refine wpAnyH_take (i := 2) (oi := { dst := some 19, op := Op.indexAddr 22 (Operand.tmp 17) (Operand.tmp 18), type := 0, pos := "keep.go:61", after := #[{ on := 0, ground := Ground.data }, { on := 1, ground := Ground.data }], guard := none }) (v := ?_) rfl (by kernel_rfl) (by kernel_rfl) (by kernel_rfl) (fun _ _ _ h => h) (Or.inl ⟨by rfl, ?_⟩) (by assumption) ?_
      rotate_left
      · intro w hSw
        clear hSw
        go_simp
        all_goals with_reducible rfl
      simp only [Act.put, List.setIfInBounds_toArray, List.set_cons_zero, List.set_cons_succ]
      refine wpAnyH_take (i := 3) (oi := { dst := some 20, op := Op.load 34 (Operand.tmp 19), type := 34, pos := "keep.go:61", after := #[{ on := 2, ground := Ground.data }], guard := none }) (v := ?_) rfl (by kernel_rfl) (by kernel_rfl) (by kernel_rfl) (fun _ _ _ h => h) (Or.inl ⟨by rfl, ?_⟩) (by assumption) ?_
      rotate_left
      · intro w hSw
        have c4 := (C3.out w hSw).1
        clear hSw
        go_simp
        all_goals with_reducible rfl
      simp only [Act.put, List.setIfInBounds_toArray, List.set_cons_zero, List.set_cons_succ]
      refine wpAnyH_take (i := 4) (oi := { dst := some 21, op := Op.convert 34 9 (Operand.tmp 20), type := 9, pos := "keep.go:61", after := #[{ on := 3, ground := Ground.data }], guard := none }) (v := ?_) rfl (by kernel_rfl) (by kernel_rfl) (by kernel_rfl) (fun _ _ _ h => h) (Or.inl ⟨by rfl, ?_⟩) (by assumption) ?_
      rotate_left
      · intro w hSw
        have c4 := K1.out w hSw
        clear hSw
        go_simp
        all_goals with_reducible rfl
      simp only [Act.put, List.setIfInBounds_toArray, List.set_cons_zero, List.set_cons_succ]
      refine wpAnyH_take (i := 5) (oi := { dst := some 22, op := Op.move (Operand.tmp 1), type := 22, pos := "keep.go:61", after := #[], guard := none }) (v := ?_) rfl (by kernel_rfl) (by kernel_rfl) (by kernel_rfl) (fun _ _ _ h => h) (Or.inl ⟨by rfl, ?_⟩) (by assumption) ?_
      rotate_left
      · intro w hSw
        clear hSw
        go_simp
        all_goals with_reducible rfl
      simp only [Act.put, List.setIfInBounds_toArray, List.set_cons_zero, List.set_cons_succ]
      refine wpAnyH_take (i := 6) (oi := { dst := some 23, op := Op.move (Operand.tmp 5), type := 3, pos := "keep.go:61", after := #[], guard := none }) (v := ?_) rfl (by kernel_rfl) (by kernel_rfl) (by kernel_rfl) (fun _ _ _ h => h) (Or.inl ⟨by rfl, ?_⟩) (by assumption) ?_
      rotate_left
      · intro w hSw
        clear hSw
        go_simp
        all_goals with_reducible rfl
      simp only [Act.put, List.setIfInBounds_toArray, List.set_cons_zero, List.set_cons_succ]
      refine wpAnyH_take (i := 7) (oi := { dst := some 24, op := Op.indexAddr 22 (Operand.tmp 22) (Operand.tmp 23), type := 0, pos := "keep.go:61", after := #[{ on := 5, ground := Ground.data }, { on := 6, ground := Ground.data }], guard := none }) (v := ?_) rfl (by kernel_rfl) (by kernel_rfl) (by kernel_rfl) (fun _ _ _ h => h) (Or.inl ⟨by rfl, ?_⟩) (by assumption) ?_
      rotate_left
      · intro w hSw
        clear hSw
        go_simp
        all_goals with_reducible rfl
      simp only [Act.put, List.setIfInBounds_toArray, List.set_cons_zero, List.set_cons_succ]
      refine wpAnyH_take (i := 8) (oi := { dst := some 25, op := Op.load 34 (Operand.tmp 24), type := 34, pos := "keep.go:61", after := #[{ on := 7, ground := Ground.data }], guard := none }) (v := ?_) rfl (by kernel_rfl) (by kernel_rfl) (by kernel_rfl) (fun _ _ _ h => h) (Or.inl ⟨by rfl, ?_⟩) (by assumption) ?_
      rotate_left
      · intro w hSw
        have c4 := (C3.out w hSw).2
        clear hSw
        go_simp
        all_goals with_reducible rfl
      simp only [Act.put, List.setIfInBounds_toArray, List.set_cons_zero, List.set_cons_succ]
      refine wpAnyH_take (i := 9) (oi := { dst := some 26, op := Op.convert 34 9 (Operand.tmp 25), type := 9, pos := "keep.go:61", after := #[{ on := 8, ground := Ground.data }], guard := none }) (v := ?_) rfl (by kernel_rfl) (by kernel_rfl) (by kernel_rfl) (fun _ _ _ h => h) (Or.inl ⟨by rfl, ?_⟩) (by assumption) ?_
      rotate_left
      · intro w hSw
        have c4 := K2.out w hSw
        clear hSw
        go_simp
        all_goals with_reducible rfl
      simp only [Act.put, List.setIfInBounds_toArray, List.set_cons_zero, List.set_cons_succ]
      refine wpAnyH_take (i := 10) (oi := { dst := some 27, op := Op.binOp BinOp.neq 9 (Operand.tmp 21) (Operand.tmp 26) 9, type := 4, pos := "keep.go:61", after := #[{ on := 4, ground := Ground.data }, { on := 9, ground := Ground.data }], guard := none }) (v := ?_) rfl (by kernel_rfl) (by kernel_rfl) (by kernel_rfl) (fun _ _ _ h => h) (Or.inl ⟨by rfl, ?_⟩) (by assumption) ?_
      rotate_left
      · intro w hSw
        clear hSw
        go_simp
        all_goals with_reducible rfl
      simp only [Act.put, List.setIfInBounds_toArray, List.set_cons_zero, List.set_cons_succ]
      refine wpAnyH_done (by kernel_rfl) ?_ _
      refine NoPanic.normal ?_
      clear hHeld
      go_wp2_with fail
      go_roundw
      case rel => exact ⟨k + 1, by omega, by go_num, SZ.out⟩
      case measure => simp [intOf]; omega
    · obtain rfl : k = N := by omega
      go_wp2
      go_ret
      exact ⟨rfl, hst⟩
end Go.Proofs.YtmhmebblmgfgaaaDoor
