/- The way up from a beginning. -/
import Derived.Test.YtlbggkmblkhjoaaDoorWg
import Derived.Test.YtlbggkmblkhjoaaDoorNc
namespace Go.Proofs.YtlbggkmblkhjoaaDoor
open Go.RowKit

theorem results_dd {fn : Func} {p q r : Tmp} (h : fn.results = #[.cell p 23, .cell q 23, .tmp r]) (tmps : Array Value) (w : World) (g1 g2 : Nat) (x y : List UInt8) (hx : x.length = 32) (hy : y.length = 32)
    (hp : tmps.getD p undef = .pointer (some ⟨g1, 0, none⟩)) (hq : tmps.getD q undef = .pointer (some ⟨g2, 0, none⟩)) (h1 : w.heap[g1]? = some (.cells (S.v8 x) 23 (0, 0))) (h2 : w.heap[g2]? = some (.cells (S.v8 y) 23 (0, 0))) :
    (results fn tmps).run Tryd.prog w = .ok (.tuple #[.agg (S.v8 x), .agg (S.v8 y), tmps.getD r undef]) w := by
  have hp' : tmps[p]?.getD undef = .pointer (some ⟨g1, 0, none⟩) := by simpa using hp
  have hq' : tmps[q]?.getD undef = .pointer (some ⟨g2, 0, none⟩) := by simpa using hq
  simp [results, h, hp', hq', asAddr, run_loadVar_row w g1 23 23 (S.v8 x) (0, 0) _ h1 Tryd.underlying23 rfl (size_dig x hx), run_loadVar_row w g2 23 23 (S.v8 y) (0, 0) _ h2 Tryd.underlying23 rfl (size_dig y hy)]
def Grown (w w' : World) (e : Ending) (o : Option (List UInt8 × List UInt8)) : Prop :=
  ∃ x y ok, e = .returned (.tuple #[.agg (S.v8 x), .agg (S.v8 y), .bool ok]) ∧ x.length = 32 ∧ y.length = 32 ∧ (o = if ok then some (x, y) else none) ∧ Below w.heap.size w w'
set_option maxRecDepth 100000 in
theorem zero_dig : (Instr.build 23 #[]).run Tryd.prog = fun w => .ok (.agg (S.v8 (S.zeros 32))) w := by
  funext w
  refine run_build w 23 _ _ ?_
  obtain ⟨i, hi, hz, _, _⟩ := info_parts info31
  unfold Program.built
  rw [hi, Tryd.underlying23]
  simp only [hz]
  rfl
set_option maxHeartbeats 16000000 in
set_option maxRecDepth 10000 in
theorem grow_any (a : Int) (u : Value) (m n : Nat) (d : List UInt8) (hd : d.length = 32) (ps : List (List UInt8)) (w : World) (hm : 1 ≤ m) (hmn : m ≤ n) (hn : n < 18446744073709551616) (hu : DgAt w u ps) (hK : KAt w) :
   Calls Tryd.prog 37 #[.int .i64 a, .int .u64 (m : Int), .int .u64 (n : Int), .agg (S.v8 d), u] w fun e w' => Grown w w' e (V.runP (S.node a) (V.low 64 (m - 1) (n - 1)).1 (V.low 64 (m - 1) (n - 1)).2 d d ps) := by
  obtain ⟨O, hO⟩ : ∃ O, O = V.runP (S.node a) (V.low 64 (m - 1) (n - 1)).1 (V.low 64 (m - 1) (n - 1)).2 d d ps := ⟨_, rfl⟩
  rw [← hO]
  obtain ⟨uo, uc, rfl⟩ := hu.form
  have hmx := hu
  obtain ⟨_, _, _, hmax, _⟩ := hmx
  have HU := hide hu
  have HK := hide hK
  have h0 := hK.pos
  have HD := hide hd
  have HO := hide hO
  obtain ⟨N, hN⟩ : ∃ N, N = ps.length := ⟨_, rfl⟩
  rw [← hN] at HU hmax ⊢
  have HN := hide hN
  have q1 : IntKind.u64.wrap ((m : Int) - 1) = ((m - 1 : Nat) : Int) := by rw [IntKind.wrap_u64]; omega
  have q2 : IntKind.u64.wrap ((n : Int) - 1) = ((n - 1 : Nat) : Int) := by rw [IntKind.wrap_u64]; omega
  clear hu hK hd hN hO
  go_enter Tryd.func37, Tryd.ntmps37
  go_wp2
  go_step3
  go_wp2_with fail
  generalize hW0 : w.alloc _ = W0
  generalize hW1 : W0.alloc _ = W1
  generalize hW2 : W1.alloc _ = W2
  have B0 : Below w.heap.size w W0 := by rw [← hW0]; exact (Below.refl _ _).alloc (Nat.le_refl _) _
  have s0 : W0.heap.size = w.heap.size + 1 := by rw [← hW0]; simp
  have r0 : W0.heap[w.heap.size]? = some (.cells (S.v8 d) 23 (0, 0)) := by rw [← hW0]; exact heap_alloc_new _ _
  have B1 : Below W0.heap.size W0 W1 := by rw [← hW1]; exact (Below.refl _ _).alloc (Nat.le_refl _) _
  have s1 : W1.heap.size = w.heap.size + 2 := by rw [← hW1]; simp [s0]
  have r1 : W1.heap[w.heap.size + 1]? = some (.cells (S.v8 (S.zeros 32)) 23 (0, 0)) := by rw [← hW1, ← s0]; exact heap_alloc_new _ _
  have B2 : Below W1.heap.size W1 W2 := by rw [← hW2]; exact (Below.refl _ _).alloc (Nat.le_refl _) _
  have s2 : W2.heap.size = w.heap.size + 3 := by rw [← hW2]; simp [s1]
  have r2 : W2.heap[w.heap.size + 2]? = some (.cells (S.v8 (S.zeros 32)) 23 (0, 0)) := by rw [← hW2, ← s1]; exact heap_alloc_new _ _
  have BB : Hid (Below w.heap.size w W2) := ((B0.trans (B1.mono (by omega))).trans (B2.mono (by omega)))
  have Q0 : Hid (W2.heap[w.heap.size]? = some (.cells (S.v8 d) 23 (0, 0))) := ((B2.block _ (by omega)).trans ((B1.block _ (by omega)).trans r0))
  have Q1 : Hid (W2.heap[w.heap.size + 1]? = some (.cells (S.v8 (S.zeros 32)) 23 (0, 0))) := ((B2.block _ (by omega)).trans r1)
  have Q2 : Hid (W2.heap[w.heap.size + 2]? = some (.cells (S.v8 (S.zeros 32)) 23 (0, 0))) := r2
  clear hW0 B0 s0 r0 hW1 B1 s1 r1 hW2 B2 s2 r2
  have hsz := size_dig d HD.out
  refine wp_region_noPanic ?_
  refine wp_region_held_drew (S := (fun W => Chg (fun k => k = w.heap.size + 1 ∨ k = w.heap.size + 2) W2 W)) follows ((Chg.refl _ _).drew) (fun hHeld => ?_)
  clear hHeld
  have hHeld : Chg (fun k => k = w.heap.size + 1 ∨ k = w.heap.size + 2) W2 W2.drew := (Chg.refl _ _).drew
  have CZ0 := hide hHeld
  have Q1' : Hid (W2.drew.heap[w.heap.size + 1]? = some (.cells (S.v8 (S.zeros 32)) 23 (0, 0))) := Q1.out
  have Q2' : Hid (W2.drew.heap[w.heap.size + 2]? = some (.cells (S.v8 (S.zeros 32)) 23 (0, 0))) := Q2.out
  generalize W2.drew = Z0 at CZ0 hHeld Q1' Q2' ⊢
  refine wpAnyH_take (i := 0) (oi := { dst := some 19, op := Op.load 23 (Operand.tmp 8), type := 23, pos := "way.go:64", after := #[], guard := none }) (v := .agg (S.v8l d).toArray) rfl (by kernel_rfl) (by kernel_rfl) (by kernel_rfl) (fun _ _ _ h => h) (yieldsIf_load_mid (by rfl) _ _ rfl w.heap.size 0 rfl (S.v8l d) _ (fun _ hSw => rangeAt_row (hSw.row Q0.out (by omega))) Tryd.underlying23 rfl hsz) (by assumption) ?_
  simp only [Act.put, List.setIfInBounds_toArray, List.set_cons_zero, List.set_cons_succ]
  refine wpAnyH_take (i := 1) (oi := { dst := some 20, op := Op.load 23 (Operand.tmp 8), type := 23, pos := "way.go:64", after := #[{ on := 2, ground := Ground.gcOnly Departure.lateStores }], guard := none }) (v := .agg (S.v8l d).toArray) rfl (by kernel_rfl) (by kernel_rfl) (by kernel_rfl) (fun _ _ _ h => h) (yieldsIf_load_mid (by rfl) _ _ rfl w.heap.size 0 rfl (S.v8l d) _ (fun _ hSw => rangeAt_row (hSw.row Q0.out (by omega))) Tryd.underlying23 rfl hsz) (by assumption) ?_
  simp only [Act.put, List.setIfInBounds_toArray, List.set_cons_zero, List.set_cons_succ]
  refine wpAnyH_ready (rs := [2]) (by kernel_rfl) (by simp) ?_
  obtain ⟨Z1, hst, r6, C6, s6⟩ := store_dig Q1'.out (S.zeros_length _) HD.out
  refine step_store_as (o := { dst := none, op := Op.store 23 (Operand.tmp 10) (Operand.tmp 19), type := 0, pos := "way.go:64", after := #[{ on := 0, ground := Ground.data }, { on := 0, ground := Ground.phase }, { on := 1, ground := Ground.textOnly Departure.lateStores }], guard := none }) rfl rfl 23 (.tmp 10) (.tmp 19) rfl _ _ rfl rfl Z1 hst AllReadyH.nil ⟨CZ0.out.trans C6 (fun k hk e => by first | exact e | exact Or.inl e | exact Or.inr e | omega), fun hHeld => ?_⟩
  replace Q1' : Hid (Z1.heap[w.heap.size + 1]? = some (.cells (S.v8 d) 23 (0, 0))) := r6
  replace Q2' : Hid (Z1.heap[w.heap.size + 2]? = some (.cells (S.v8 (S.zeros 32)) 23 (0, 0))) := C6.row Q2'.out (by omega)
  have CZ1 : Hid (Chg (fun k => k = w.heap.size + 1 ∨ k = w.heap.size + 2) W2 Z1) := CZ0.out.trans C6 (fun k hk e => by first | exact e | exact Or.inl e | exact Or.inr e | omega)
  clear hst r6 C6 s6 CZ0
  simp only [Act.put]
  refine wpAnyH_ready (rs := [3]) (by kernel_rfl) (by simp) ?_
  obtain ⟨Z2, hst, r6, C6, s6⟩ := store_dig Q2'.out (S.zeros_length _) HD.out
  refine step_store_as (o := { dst := none, op := Op.store 23 (Operand.tmp 11) (Operand.tmp 20), type := 0, pos := "way.go:64", after := #[{ on := 1, ground := Ground.data }, { on := 2, ground := Ground.chain }, { on := 0, ground := Ground.phase }, { on := 1, ground := Ground.phase }, { on := 2, ground := Ground.phase }], guard := none }) rfl rfl 23 (.tmp 11) (.tmp 20) rfl _ _ rfl rfl Z2 hst AllReadyH.nil ⟨CZ1.out.trans C6 (fun k hk e => by first | exact e | exact Or.inl e | exact Or.inr e | omega), fun hHeld => ?_⟩
  replace Q1' : Hid (Z2.heap[w.heap.size + 1]? = some (.cells (S.v8 d) 23 (0, 0))) := C6.row Q1'.out (by omega)
  replace Q2' : Hid (Z2.heap[w.heap.size + 2]? = some (.cells (S.v8 d) 23 (0, 0))) := r6
  have CZ2 : Hid (Chg (fun k => k = w.heap.size + 1 ∨ k = w.heap.size + 2) W2 Z2) := CZ1.out.trans C6 (fun k hk e => by first | exact e | exact Or.inl e | exact Or.inr e | omega)
  clear hst r6 C6 s6 CZ1
  simp only [Act.put]
  refine wpAnyH_done (by kernel_rfl) ?_ _
  refine NoPanic.normal ?_
  obtain ⟨ZA, hZA⟩ : ∃ Z, Z = Z2 := ⟨_, rfl⟩
  rw [← hZA] at CZ2 Q1' Q2' ⊢
  clear hZA hHeld
  have BZA := hide (BB.out.trans (CZ2.out.below w.heap.size BB.out.size (fun k hk e => by omega)))
  have RQ1 := Q1'
  have RQ2 := Q2'
  clear CZ2 Q1' Q2' BB Q0 Q1 Q2
  go_wp2_with fail
  clear q1 q2
  obtain ⟨f0, hf0⟩ : ∃ f, f = m - 1 := ⟨_, rfl⟩
  obtain ⟨s0, hs0⟩ : ∃ s, s = n - 1 := ⟨_, rfl⟩
  rw [← hf0, ← hs0] at HO
  rw [← hf0, ← hs0]
  have hfb : f0 < 18446744073709551616 := by omega
  have hsb : s0 < 18446744073709551616 := by omega
  clear hf0 hs0
  go_loopg [13, 14] f0 (fun gk s13 s14 wr => ∃ (f s : Nat), gk = f ∧ s13 = .int .u64 (f : Int) ∧ s14 = .int .u64 (s : Int) ∧ f < 18446744073709551616 ∧ s < 18446744073709551616 ∧ Hid (V.low 64 f0 s0 = V.low 64 f s) ∧ ZA = wr)
  case atStart => exact ⟨f0, s0, rfl, rfl, rfl, hfb, hsb, rfl, rfl⟩
  case round =>
    clear hfb hsb
    obtain ⟨f, s, hg, rfl, rfl, hf, hs, hlow, rfl⟩ := hrel
    by_cases ho : f % 2 = 1
    · have q5 : (f : Int) % 2 = 1 := by omega
      have HLN : Hid (V.low 64 f0 s0 = V.low 64 (f / 2) (s / 2)) := hlow.out.trans (V.low_odd f s ho (by simpa using hf))
      clear hlow
      go_wp2_with fail
      go_roundg (f / 2)
      case measure => omega
      case rel => exact ⟨f / 2, s / 2, rfl, rfl, rfl, by omega, by omega, HLN, rfl⟩
    · have q5 : ¬ (f : Int) % 2 = 1 := by omega
      have q5' : (f : Int) % 2 = 0 := by omega
      have HO2 : Hid (O = V.runP (S.node a) f s d d ps) := by
        have := HO.out
        rw [hlow.out, V.low_even f s (by omega)] at this
        exact this
      clear hlow HO
      go_wp2_with fail
      go_step3
      go_wp2_with fail
      clear q5 q5' ho
      go_loopg [13, 14, 34] N (fun gk s13 s14 s34 wr => ∃ (k f s : Nat) (x y : List UInt8), k + gk = N ∧ s34 = .int .i64 (k : Int) ∧ s13 = .int .u64 (f : Int) ∧ s14 = .int .u64 (s : Int) ∧ f < 18446744073709551616 ∧ s < 18446744073709551616 ∧ Hid (O = V.runP (S.node a) f s x y (ps.drop k)) ∧ Hid (x.length = 32) ∧ Hid (y.length = 32) ∧ Hid (wr.heap[w.heap.size + 1]? = some (.cells (S.v8 x) 23 (0, 0))) ∧ Hid (wr.heap[w.heap.size + 2]? = some (.cells (S.v8 y) 23 (0, 0))) ∧ Hid (Below w.heap.size w wr))
      case atStart => exact ⟨0, f, s, d, d, by omega, rfl, rfl, rfl, hf, hs, HO2, HD, HD, RQ1, RQ2, BZA⟩
      case round =>
        clear HO2 RQ1 RQ2 BZA hf hs
        obtain ⟨k, f, s, x, y, hk, rfl, rfl, rfl, hf, hs, HO, LX, LY, RX, RY, HB⟩ := hrel
        cases gk with
        | zero =>
          have hkN : k = N := by omega
          have qk : ¬ (k : Int) < (N : Int) := by omega
          have hd : ps.drop k = [] := List.drop_eq_nil_of_le (by rw [← HN.out, hkN]; exact Nat.le_refl _)
          rw [hd] at HO
          clear hd hkN
          obtain ⟨sb, hsb⟩ : ∃ b : Bool, b = decide (s = 0) := ⟨_, rfl⟩
          have q3 : ((s : Int) == 0) = sb := by rw [hsb]; by_cases h : s = 0 <;> simp [h]
          have HSB := hide hsb
          clear hsb
          go_wp2_with fail
          refine wp_region_noPanic ?_
          refine wp_region_held_drew (S := (fun W => Chg (fun k => k = w.heap.size + 1 ∨ k = w.heap.size + 2) wr W)) follows ((Chg.refl _ _).drew) (fun hHeld => ?_)
          clear hHeld
          have hHeld : Chg (fun k => k = w.heap.size + 1 ∨ k = w.heap.size + 2) wr wr.drew := (Chg.refl _ _).drew
          have CZ0 := hide hHeld
          have RX' : Hid (wr.drew.heap[w.heap.size + 1]? = some (.cells (S.v8 x) 23 (0, 0))) := RX.out
          have RY' : Hid (wr.drew.heap[w.heap.size + 2]? = some (.cells (S.v8 y) 23 (0, 0))) := RY.out
          generalize wr.drew = Z0 at CZ0 hHeld RX' RY' ⊢
          refine wpAnyH_take (i := 2) (oi := { dst := some 72, op := Op.move (Operand.tmp 14), type := 28, pos := "way.go:85", after := #[{ on := 5, ground := Ground.gcOnly Departure.lateStores }], guard := none }) (v := ?_) rfl (by kernel_rfl) (by kernel_rfl) (by kernel_rfl) (fun _ _ _ h => h) (Or.inl ⟨by rfl, ?_⟩) (by assumption) ?_
          rotate_left
          · intro w hSw
            clear hSw
            go_simp
            all_goals with_reducible rfl
          simp only [Act.put, List.setIfInBounds_toArray, List.set_cons_zero, List.set_cons_succ]
          refine wpAnyH_take (i := 3) (oi := { dst := some 73, op := Op.binOp BinOp.eql 28 (Operand.tmp 72) (Operand.const (Value.int IntKind.u64 0)) 28, type := 4, pos := "way.go:85", after := #[{ on := 2, ground := Ground.data }, { on := 5, ground := Ground.gcOnly Departure.lateStores }], guard := none }) (v := ?_) rfl (by kernel_rfl) (by kernel_rfl) (by kernel_rfl) (fun _ _ _ h => h) (Or.inl ⟨by rfl, ?_⟩) (by assumption) ?_
          rotate_left
          · intro w hSw
            clear hSw
            go_simp
            all_goals with_reducible rfl
          simp only [Act.put, List.setIfInBounds_toArray, List.set_cons_zero, List.set_cons_succ]
          refine wpAnyH_ready (rs := [0, 1]) (by kernel_rfl) (by simp) ?_
          refine step_load (o := { dst := some 70, op := Op.load 23 (Operand.tmp 10), type := 23, pos := "way.go:85", after := #[], guard := none }) rfl rfl 23 (.tmp 10) rfl (.agg (S.v8 x)) (load_dig RX'.out LX.out) ?_ ⟨CZ0.out, fun hHeld => ?_⟩
          rotate_left
          · skip
            simp only [Act.put, List.setIfInBounds_toArray, List.set_cons_zero, List.set_cons_succ]
            refine wpAnyH_ready (rs := [1, 4]) (by kernel_rfl) (by simp) ?_
            refine step_load (o := { dst := some 71, op := Op.load 23 (Operand.tmp 11), type := 23, pos := "way.go:85", after := #[{ on := 4, ground := Ground.gcOnly Departure.lateStores }], guard := none }) rfl rfl 23 (.tmp 11) rfl (.agg (S.v8 y)) (load_dig RY'.out LY.out) ?_ ⟨CZ0.out, fun hHeld => ?_⟩
            rotate_left
            · skip
              simp only [Act.put, List.setIfInBounds_toArray, List.set_cons_zero, List.set_cons_succ]
              refine wpAnyH_ready (rs := [4]) (by kernel_rfl) (by simp) ?_
              obtain ⟨Z1, hst, r6, C6, s6⟩ := store_dig RX'.out LX.out LX.out
              refine step_store_as (o := { dst := none, op := Op.store 23 (Operand.tmp 10) (Operand.tmp 70), type := 0, pos := "way.go:85", after := #[{ on := 0, ground := Ground.data }, { on := 0, ground := Ground.phase }, { on := 1, ground := Ground.textOnly Departure.lateStores }, { on := 2, ground := Ground.textOnly Departure.lateStores }, { on := 3, ground := Ground.textOnly Departure.lateStores }], guard := none }) rfl rfl 23 (.tmp 10) (.tmp 70) rfl _ _ rfl rfl Z1 hst AllReadyH.nil ⟨CZ0.out.trans C6 (fun k hk e => by first | exact e | exact Or.inl e | exact Or.inr e | omega), fun hHeld => ?_⟩
              replace RX' : Hid (Z1.heap[w.heap.size + 1]? = some (.cells (S.v8 x) 23 (0, 0))) := r6
              replace RY' : Hid (Z1.heap[w.heap.size + 2]? = some (.cells (S.v8 y) 23 (0, 0))) := C6.row RY'.out (by omega)
              have CZ1 : Hid (Chg (fun k => k = w.heap.size + 1 ∨ k = w.heap.size + 2) wr Z1) := CZ0.out.trans C6 (fun k hk e => by first | exact e | exact Or.inl e | exact Or.inr e | omega)
              clear hst r6 C6 s6 CZ0
              simp only [Act.put]
              refine wpAnyH_ready (rs := [5]) (by kernel_rfl) (by simp) ?_
              obtain ⟨Z2, hst, r6, C6, s6⟩ := store_dig RY'.out LY.out LY.out
              refine step_store_as (o := { dst := none, op := Op.store 23 (Operand.tmp 11) (Operand.tmp 71), type := 0, pos := "way.go:85", after := #[{ on := 1, ground := Ground.data }, { on := 4, ground := Ground.chain }, { on := 0, ground := Ground.phase }, { on := 1, ground := Ground.phase }, { on := 2, ground := Ground.textOnly Departure.lateStores }, { on := 3, ground := Ground.textOnly Departure.lateStores }, { on := 4, ground := Ground.phase }], guard := none }) rfl rfl 23 (.tmp 11) (.tmp 71) rfl _ _ rfl rfl Z2 hst AllReadyH.nil ⟨CZ1.out.trans C6 (fun k hk e => by first | exact e | exact Or.inl e | exact Or.inr e | omega), fun hHeld => ?_⟩
              replace RX' : Hid (Z2.heap[w.heap.size + 1]? = some (.cells (S.v8 x) 23 (0, 0))) := C6.row RX'.out (by omega)
              replace RY' : Hid (Z2.heap[w.heap.size + 2]? = some (.cells (S.v8 y) 23 (0, 0))) := r6
              have CZ2 : Hid (Chg (fun k => k = w.heap.size + 1 ∨ k = w.heap.size + 2) wr Z2) := CZ1.out.trans C6 (fun k hk e => by first | exact e | exact Or.inl e | exact Or.inr e | omega)
              clear hst r6 C6 s6 CZ1
              simp only [Act.put]
              refine wpAnyH_take (i := 6) (oi := { dst := some 12, op := Op.assign (Operand.tmp 73), type := 4, pos := "way.go:85", after := #[{ on := 3, ground := Ground.data }, { on := 5, ground := Ground.chain }, { on := 0, ground := Ground.phase }, { on := 1, ground := Ground.phase }, { on := 2, ground := Ground.phase }, { on := 3, ground := Ground.phase }, { on := 4, ground := Ground.phase }, { on := 5, ground := Ground.phase }], guard := none }) (v := ?_) rfl (by kernel_rfl) (by kernel_rfl) (by kernel_rfl) (fun _ _ _ h => h) (Or.inl ⟨by rfl, ?_⟩) (by assumption) ?_
              rotate_left
              · intro w hSw
                clear hSw
                go_simp
                all_goals with_reducible rfl
              simp only [Act.put, List.setIfInBounds_toArray, List.set_cons_zero, List.set_cons_succ]
              refine wpAnyH_done (by kernel_rfl) ?_ _
              refine NoPanic.normal ?_
              clear hHeld
              have BF := hide (HB.out.trans (CZ2.out.below w.heap.size HB.out.size (fun k hk e => by omega)))
              go_wp2_with fail
              try rw [Exit.noGoto_ret]
              refine bodyPost_ret (results_dd Tryd.results37 _ _ (w.heap.size + 1) (w.heap.size + 2) x y LX.out LY.out rfl rfl RX'.out RY'.out) rfl ⟨x, y, sb, rfl, LX.out, LY.out, ?_, BF.out⟩
              rw [HO.out, HSB.out]
              by_cases h : s = 0
              · subst h; exact V.runP_end _ f x y
              · rw [V.runP_nil _ f s x y h]; simp [h]
            obtain ⟨Z1, hst, r6, C6, s6⟩ := store_dig RX'.out LX.out LX.out
            refine step_store_as (o := { dst := none, op := Op.store 23 (Operand.tmp 10) (Operand.tmp 70), type := 0, pos := "way.go:85", after := #[{ on := 0, ground := Ground.data }, { on := 0, ground := Ground.phase }, { on := 1, ground := Ground.textOnly Departure.lateStores }, { on := 2, ground := Ground.textOnly Departure.lateStores }, { on := 3, ground := Ground.textOnly Departure.lateStores }], guard := none }) rfl rfl 23 (.tmp 10) (.tmp 70) rfl _ _ rfl rfl Z1 hst AllReadyH.nil ⟨CZ0.out.trans C6 (fun k hk e => by first | exact e | exact Or.inl e | exact Or.inr e | omega), fun hHeld => ?_⟩
            replace RX' : Hid (Z1.heap[w.heap.size + 1]? = some (.cells (S.v8 x) 23 (0, 0))) := r6
            replace RY' : Hid (Z1.heap[w.heap.size + 2]? = some (.cells (S.v8 y) 23 (0, 0))) := C6.row RY'.out (by omega)
            have CZ1 : Hid (Chg (fun k => k = w.heap.size + 1 ∨ k = w.heap.size + 2) wr Z1) := CZ0.out.trans C6 (fun k hk e => by first | exact e | exact Or.inl e | exact Or.inr e | omega)
            clear hst r6 C6 s6 CZ0
            simp only [Act.put]
            refine wpAnyH_ready (rs := [1]) (by kernel_rfl) (by simp) ?_
            refine step_load (o := { dst := some 71, op := Op.load 23 (Operand.tmp 11), type := 23, pos := "way.go:85", after := #[{ on := 4, ground := Ground.gcOnly Departure.lateStores }], guard := none }) rfl rfl 23 (.tmp 11) rfl (.agg (S.v8 y)) (load_dig RY'.out LY.out) AllReadyH.nil ⟨CZ1.out, fun hHeld => ?_⟩
            simp only [Act.put, List.setIfInBounds_toArray, List.set_cons_zero, List.set_cons_succ]
            refine wpAnyH_ready (rs := [5]) (by kernel_rfl) (by simp) ?_
            obtain ⟨Z2, hst, r6, C6, s6⟩ := store_dig RY'.out LY.out LY.out
            refine step_store_as (o := { dst := none, op := Op.store 23 (Operand.tmp 11) (Operand.tmp 71), type := 0, pos := "way.go:85", after := #[{ on := 1, ground := Ground.data }, { on := 4, ground := Ground.chain }, { on := 0, ground := Ground.phase }, { on := 1, ground := Ground.phase }, { on := 2, ground := Ground.textOnly Departure.lateStores }, { on := 3, ground := Ground.textOnly Departure.lateStores }, { on := 4, ground := Ground.phase }], guard := none }) rfl rfl 23 (.tmp 11) (.tmp 71) rfl _ _ rfl rfl Z2 hst AllReadyH.nil ⟨CZ1.out.trans C6 (fun k hk e => by first | exact e | exact Or.inl e | exact Or.inr e | omega), fun hHeld => ?_⟩
            replace RX' : Hid (Z2.heap[w.heap.size + 1]? = some (.cells (S.v8 x) 23 (0, 0))) := C6.row RX'.out (by omega)
            replace RY' : Hid (Z2.heap[w.heap.size + 2]? = some (.cells (S.v8 y) 23 (0, 0))) := r6
            have CZ2 : Hid (Chg (fun k => k = w.heap.size + 1 ∨ k = w.heap.size + 2) wr Z2) := CZ1.out.trans C6 (fun k hk e => by first | exact e | exact Or.inl e | exact Or.inr e | omega)
            clear hst r6 C6 s6 CZ1
            simp only [Act.put]
            refine wpAnyH_take (i := 6) (oi := { dst := some 12, op := Op.assign (Operand.tmp 73), type := 4, pos := "way.go:85", after := #[{ on := 3, ground := Ground.data }, { on := 5, ground := Ground.chain }, { on := 0, ground := Ground.phase }, { on := 1, ground := Ground.phase }, { on := 2, ground := Ground.phase }, { on := 3, ground := Ground.phase }, { on := 4, ground := Ground.phase }, { on := 5, ground := Ground.phase }], guard := none }) (v := ?_) rfl (by kernel_rfl) (by kernel_rfl) (by kernel_rfl) (fun _ _ _ h => h) (Or.inl ⟨by rfl, ?_⟩) (by assumption) ?_
            rotate_left
            · intro w hSw
              clear hSw
              go_simp
              all_goals with_reducible rfl
            simp only [Act.put, List.setIfInBounds_toArray, List.set_cons_zero, List.set_cons_succ]
            refine wpAnyH_done (by kernel_rfl) ?_ _
            refine NoPanic.normal ?_
            clear hHeld
            have BF := hide (HB.out.trans (CZ2.out.below w.heap.size HB.out.size (fun k hk e => by omega)))
            go_wp2_with fail
            try rw [Exit.noGoto_ret]
            refine bodyPost_ret (results_dd Tryd.results37 _ _ (w.heap.size + 1) (w.heap.size + 2) x y LX.out LY.out rfl rfl RX'.out RY'.out) rfl ⟨x, y, sb, rfl, LX.out, LY.out, ?_, BF.out⟩
            rw [HO.out, HSB.out]
            by_cases h : s = 0
            · subst h; exact V.runP_end _ f x y
            · rw [V.runP_nil _ f s x y h]; simp [h]
          refine step_load (o := { dst := some 71, op := Op.load 23 (Operand.tmp 11), type := 23, pos := "way.go:85", after := #[{ on := 4, ground := Ground.gcOnly Departure.lateStores }], guard := none }) rfl rfl 23 (.tmp 11) rfl (.agg (S.v8 y)) (load_dig RY'.out LY.out) AllReadyH.nil ⟨CZ0.out, fun hHeld => ?_⟩
          simp only [Act.put, List.setIfInBounds_toArray, List.set_cons_zero, List.set_cons_succ]
          refine wpAnyH_ready (rs := [0]) (by kernel_rfl) (by simp) ?_
          refine step_load (o := { dst := some 70, op := Op.load 23 (Operand.tmp 10), type := 23, pos := "way.go:85", after := #[], guard := none }) rfl rfl 23 (.tmp 10) rfl (.agg (S.v8 x)) (load_dig RX'.out LX.out) AllReadyH.nil ⟨CZ0.out, fun hHeld => ?_⟩
          simp only [Act.put, List.setIfInBounds_toArray, List.set_cons_zero, List.set_cons_succ]
          refine wpAnyH_ready (rs := [4]) (by kernel_rfl) (by simp) ?_
          obtain ⟨Z1, hst, r6, C6, s6⟩ := store_dig RX'.out LX.out LX.out
          refine step_store_as (o := { dst := none, op := Op.store 23 (Operand.tmp 10) (Operand.tmp 70), type := 0, pos := "way.go:85", after := #[{ on := 0, ground := Ground.data }, { on := 0, ground := Ground.phase }, { on := 1, ground := Ground.textOnly Departure.lateStores }, { on := 2, ground := Ground.textOnly Departure.lateStores }, { on := 3, ground := Ground.textOnly Departure.lateStores }], guard := none }) rfl rfl 23 (.tmp 10) (.tmp 70) rfl _ _ rfl rfl Z1 hst AllReadyH.nil ⟨CZ0.out.trans C6 (fun k hk e => by first | exact e | exact Or.inl e | exact Or.inr e | omega), fun hHeld => ?_⟩
          replace RX' : Hid (Z1.heap[w.heap.size + 1]? = some (.cells (S.v8 x) 23 (0, 0))) := r6
          replace RY' : Hid (Z1.heap[w.heap.size + 2]? = some (.cells (S.v8 y) 23 (0, 0))) := C6.row RY'.out (by omega)
          have CZ1 : Hid (Chg (fun k => k = w.heap.size + 1 ∨ k = w.heap.size + 2) wr Z1) := CZ0.out.trans C6 (fun k hk e => by first | exact e | exact Or.inl e | exact Or.inr e | omega)
          clear hst r6 C6 s6 CZ0
          simp only [Act.put]
          refine wpAnyH_ready (rs := [5]) (by kernel_rfl) (by simp) ?_
          obtain ⟨Z2, hst, r6, C6, s6⟩ := store_dig RY'.out LY.out LY.out
          refine step_store_as (o := { dst := none, op := Op.store 23 (Operand.tmp 11) (Operand.tmp 71), type := 0, pos := "way.go:85", after := #[{ on := 1, ground := Ground.data }, { on := 4, ground := Ground.chain }, { on := 0, ground := Ground.phase }, { on := 1, ground := Ground.phase }, { on := 2, ground := Ground.textOnly Departure.lateStores }, { on := 3, ground := Ground.textOnly Departure.lateStores }, { on := 4, ground := Ground.phase }], guard := none }) rfl rfl 23 (.tmp 11) (.tmp 71) rfl _ _ rfl rfl Z2 hst AllReadyH.nil ⟨CZ1.out.trans C6 (fun k hk e => by first | exact e | exact Or.inl e | exact Or.inr e | omega), fun hHeld => ?_⟩
          replace RX' : Hid (Z2.heap[w.heap.size + 1]? = some (.cells (S.v8 x) 23 (0, 0))) := C6.row RX'.out (by omega)
          replace RY' : Hid (Z2.heap[w.heap.size + 2]? = some (.cells (S.v8 y) 23 (0, 0))) := r6
          have CZ2 : Hid (Chg (fun k => k = w.heap.size + 1 ∨ k = w.heap.size + 2) wr Z2) := CZ1.out.trans C6 (fun k hk e => by first | exact e | exact Or.inl e | exact Or.inr e | omega)
          clear hst r6 C6 s6 CZ1
          simp only [Act.put]
          refine wpAnyH_take (i := 6) (oi := { dst := some 12, op := Op.assign (Operand.tmp 73), type := 4, pos := "way.go:85", after := #[{ on := 3, ground := Ground.data }, { on := 5, ground := Ground.chain }, { on := 0, ground := Ground.phase }, { on := 1, ground := Ground.phase }, { on := 2, ground := Ground.phase }, { on := 3, ground := Ground.phase }, { on := 4, ground := Ground.phase }, { on := 5, ground := Ground.phase }], guard := none }) (v := ?_) rfl (by kernel_rfl) (by kernel_rfl) (by kernel_rfl) (fun _ _ _ h => h) (Or.inl ⟨by rfl, ?_⟩) (by assumption) ?_
          rotate_left
          · intro w hSw
            clear hSw
            go_simp
            all_goals with_reducible rfl
          simp only [Act.put, List.setIfInBounds_toArray, List.set_cons_zero, List.set_cons_succ]
          refine wpAnyH_done (by kernel_rfl) ?_ _
          refine NoPanic.normal ?_
          clear hHeld
          have BF := hide (HB.out.trans (CZ2.out.below w.heap.size HB.out.size (fun k hk e => by omega)))
          go_wp2_with fail
          try rw [Exit.noGoto_ret]
          refine bodyPost_ret (results_dd Tryd.results37 _ _ (w.heap.size + 1) (w.heap.size + 2) x y LX.out LY.out rfl rfl RX'.out RY'.out) rfl ⟨x, y, sb, rfl, LX.out, LY.out, ?_, BF.out⟩
          rw [HO.out, HSB.out]
          by_cases h : s = 0
          · subst h; exact V.runP_end _ f x y
          · rw [V.runP_nil _ f s x y h]; simp [h]
        | succ gO =>
          have qk : (k : Int) < (N : Int) := by omega
          have qk0 : (0 : Int) ≤ (k : Int) := by omega
          have qkw : IntKind.i64.wrap ((k : Int) + 1) = (k : Int) + 1 := by rw [IntKind.wrap_i64]; omega
          obtain ⟨gu, ou, cu, eu, hgu, hru, hpl⟩ := dg_at HU.out k (by rw [← HN.out]; omega)
          simp only [Value.slice.injEq] at eu
          obtain ⟨rfl, eN, rfl⟩ := eu
          clear eN
          obtain ⟨p, hp⟩ : ∃ p, p = ps.getD k [] := ⟨_, rfl⟩
          rw [drop_cons k (by rw [← HN.out]; omega), ← hp] at HO
          rw [← hp] at hru hpl
          have LP := hide hpl
          have hld := run_loadAt_mid (P := Tryd.prog) wr gu (ou + k * 32) 23 (S.v8l p) _ (fun j x hx => (HB.out.cell (p := ⟨gu, ou + k * 32 + j, none⟩) hgu).trans (hru j x hx)) Tryd.underlying23 rfl (by rw [S.v8l_length, LP.out]; exact size23)
          rw [← S.v8_eq] at hld
          obtain ⟨AL, Z, hal, hst, rz, bz, sz⟩ := lay_dig wr p LP.out
          have HB2 := hide (HB.out.trans (bz.mono HB.out.size))
          have RX2 : Hid (Z.heap[w.heap.size + 1]? = some (.cells (S.v8 x) 23 (0, 0))) := (bz.block _ (block_lt_of_row RX.out)).trans RX.out
          have RY2 : Hid (Z.heap[w.heap.size + 2]? = some (.cells (S.v8 y) 23 (0, 0))) := (bz.block _ (block_lt_of_row RY.out)).trans RY.out
          have RZ := hide rz
          have HUP := hide HO.out
          obtain ⟨gb, hgb⟩ : ∃ g, g = wr.heap.size := ⟨_, rfl⟩
          rw [← hgb] at hal hst RZ
          have GB := hide (show w.heap.size + 2 < gb by rw [hgb]; exact block_lt_of_row RY.out)
          clear hgu hru hpl hp rz bz sz HB HO hgb RX RY
          go_wp2_with (first | (with_reducible refine at_op { dst := some 37, op := Op.load 23 (Operand.tmp 36), type := 23, pos := "way.go:70", after := #[{ on := 0, ground := Ground.data }], guard := none } ?_; refine wpList_load_as rfl 23 (.tmp 36) rfl (.pointer (some ⟨gu, ou + k * 32, none⟩)) rfl (.agg (S.v8 p)) hld ?_) | (with_reducible refine at_op { dst := some 16, op := Op.alloc 23, type := 0, pos := "way.go:70", after := #[], guard := none } ?_; refine wpList_alloc_known rfl 23 rfl (.pointer (some ⟨gb, 0, none⟩)) AL hal ?_) | (with_reducible refine at_op { dst := none, op := Op.store 23 (Operand.tmp 16) (Operand.tmp 37), type := 0, pos := "way.go:70", after := #[{ on := 2, ground := Ground.data }, { on := 1, ground := Ground.data }, { on := 0, ground := Ground.phase }, { on := 1, ground := Ground.phase }, { on := 2, ground := Ground.phase }], guard := none } ?_; refine wpList_store_as rfl 23 (.tmp 16) (.tmp 37) rfl (.pointer (some ⟨gb, 0, none⟩)) (.agg (S.v8 p)) rfl rfl Z hst ?_))
          clear hld hal hst
          simp only [Act.put, List.setIfInBounds_toArray, List.set_cons_zero, List.set_cons_succ]
          go_loopg [13, 14] s (fun g2 s13 s14 wz => ∃ (f s : Nat), g2 = s ∧ s13 = .int .u64 (f : Int) ∧ s14 = .int .u64 (s : Int) ∧ f < 18446744073709551616 ∧ s < 18446744073709551616 ∧ Hid (O = V.runP (S.node a) f s x y (p :: ps.drop (k + 1))) ∧ Z = wz)
          case atStart => exact ⟨f, s, rfl, rfl, rfl, hf, hs, HUP, rfl⟩
          case round =>
            clear HUP hf hs
            obtain ⟨f, s, hg2, rfl, rfl, hf, hs, HUP, rfl⟩ := hrel
            by_cases hs0 : s = 0
            · have q3 : ¬ (s : Int) > 0 := by omega
              have q3' : ¬ (0 : Int) < (s : Int) := by omega
              have hov : O = none := by rw [HUP.out, hs0]; exact V.runP_over _ f x y p _
              have HOV := hide hov
              have hbu : ∀ W : World, (Instr.build 23 #[]).run Tryd.prog W = .ok (.agg (S.v8 (S.zeros 32))) W := fun W => congrFun zero_dig W
              obtain ⟨Z1, hst1, r1, C1, s1⟩ := store_dig RX2.out LX.out (S.zeros_length 32)
              obtain ⟨Z2, hst2, r2, C2, s2⟩ := store_dig (C1.row RY2.out (by omega)) LY.out (S.zeros_length 32)
              have R1 : Hid (Z2.heap[w.heap.size + 1]? = some (.cells (S.v8 (S.zeros 32)) 23 (0, 0))) := C2.row r1 (by omega)
              have R2 := hide r2
              have BF := hide (HB2.out.trans ((C1.below _ HB2.out.size (fun k hk e => by omega)).trans (C2.below _ (by rw [s1]; exact HB2.out.size) (fun k hk e => by omega))))
              clear HUP hov r1 r2 C1 C2 s1 s2 RX2 RY2 hs0
              go_wp2_with (first | (with_reducible refine at_op { dst := some 67, op := Op.build 23 #[], type := 23, pos := "way.go:83", after := #[], guard := none } ?_; refine wpList_build_as rfl 23 [] rfl [] rfl (.agg (S.v8 (S.zeros 32))) (hbu _) ?_) | (with_reducible refine at_op { dst := some 68, op := Op.build 23 #[], type := 23, pos := "way.go:83", after := #[{ on := 2, ground := Ground.gcOnly Departure.lateStores }], guard := none } ?_; refine wpList_build_as rfl 23 [] rfl [] rfl (.agg (S.v8 (S.zeros 32))) (hbu _) ?_) | (with_reducible refine at_op { dst := none, op := Op.store 23 (Operand.tmp 10) (Operand.tmp 67), type := 0, pos := "way.go:83", after := #[{ on := 0, ground := Ground.data }, { on := 0, ground := Ground.phase }, { on := 1, ground := Ground.textOnly Departure.lateStores }], guard := none } ?_; refine wpList_store_as rfl 23 (.tmp 10) (.tmp 67) rfl (.pointer (some ⟨w.heap.size + 1, 0, none⟩)) (.agg (S.v8 (S.zeros 32))) rfl rfl Z1 hst1 ?_) | (with_reducible refine at_op { dst := none, op := Op.store 23 (Operand.tmp 11) (Operand.tmp 68), type := 0, pos := "way.go:83", after := #[{ on := 1, ground := Ground.data }, { on := 2, ground := Ground.chain }, { on := 0, ground := Ground.phase }, { on := 1, ground := Ground.phase }, { on := 2, ground := Ground.phase }], guard := none } ?_; refine wpList_store_as rfl 23 (.tmp 11) (.tmp 68) rfl (.pointer (some ⟨w.heap.size + 2, 0, none⟩)) (.agg (S.v8 (S.zeros 32))) rfl rfl Z2 hst2 ?_))
              try rw [Exit.noGoto_ret]
              exact bodyPost_ret (results_dd Tryd.results37 _ _ (w.heap.size + 1) (w.heap.size + 2) (S.zeros 32) (S.zeros 32) (S.zeros_length 32) (S.zeros_length 32) rfl rfl R1.out R2.out) rfl ⟨S.zeros 32, S.zeros 32, false, rfl, S.zeros_length 32, S.zeros_length 32, by rw [HOV.out]; rfl, BF.out⟩
            · have q3 : (s : Int) > 0 := by omega
              have q3' : (0 : Int) < (s : Int) := by omega
              have hsz2 := size_dig p LP.out
              by_cases ho : f % 2 = 1
              · have q5 : (f : Int) % 2 = 1 := by omega
                have HUPN : Hid (O = _) := HUP.out.trans (V.runP_odd _ f s x y p _ ho hs0)
                clear HUP
                go_wp2_with fail
                refine wp_region_noPanic ?_
                refine wp_region_held_drew (S := (fun W => Chg (fun k => k = w.heap.size + 1 ∨ k = w.heap.size + 2) Z W)) follows ((Chg.refl _ _).drew) (fun hHeld => ?_)
                clear hHeld
                have hHeld : Chg (fun k => k = w.heap.size + 1 ∨ k = w.heap.size + 2) Z Z.drew := (Chg.refl _ _).drew
                have CZ0 := hide hHeld
                have RX2' : Hid (Z.drew.heap[w.heap.size + 1]? = some (.cells (S.v8 x) 23 (0, 0))) := RX2.out
                have RY2' : Hid (Z.drew.heap[w.heap.size + 2]? = some (.cells (S.v8 y) 23 (0, 0))) := RY2.out
                generalize Z.drew = Z0 at CZ0 hHeld RX2' RY2' ⊢
                refine wpAnyH_take (i := 0) (oi := { dst := some 52, op := Op.move (Operand.tmp 0), type := 3, pos := "way.go:76", after := #[], guard := none }) (v := ?_) rfl (by kernel_rfl) (by kernel_rfl) (by kernel_rfl) (fun _ _ _ h => h) (Or.inl ⟨by rfl, ?_⟩) (by assumption) ?_
                rotate_left
                · intro w hSw
                  clear hSw
                  go_simp
                  all_goals with_reducible rfl
                simp only [Act.put, List.setIfInBounds_toArray, List.set_cons_zero, List.set_cons_succ]
                refine wpAnyH_take (i := 1) (oi := { dst := some 53, op := Op.load 23 (Operand.tmp 16), type := 23, pos := "way.go:76", after := #[], guard := none }) (v := .agg (S.v8l p).toArray) rfl (by kernel_rfl) (by kernel_rfl) (by kernel_rfl) (fun _ _ _ h => h) (yieldsIf_load_mid (by rfl) _ _ rfl gb 0 rfl (S.v8l p) _ (fun _ hSw => rangeAt_row (hSw.row RZ.out (by have := GB.out; omega))) Tryd.underlying23 rfl hsz2) (by assumption) ?_
                simp only [Act.put, List.setIfInBounds_toArray, List.set_cons_zero, List.set_cons_succ]
                refine wpAnyH_take (i := 4) (oi := { dst := some 56, op := Op.move (Operand.tmp 0), type := 3, pos := "way.go:76", after := #[], guard := none }) (v := ?_) rfl (by kernel_rfl) (by kernel_rfl) (by kernel_rfl) (fun _ _ _ h => h) (Or.inl ⟨by rfl, ?_⟩) (by assumption) ?_
                rotate_left
                · intro w hSw
                  clear hSw
                  go_simp
                  all_goals with_reducible rfl
                simp only [Act.put, List.setIfInBounds_toArray, List.set_cons_zero, List.set_cons_succ]
                refine wpAnyH_take (i := 5) (oi := { dst := some 57, op := Op.load 23 (Operand.tmp 16), type := 23, pos := "way.go:76", after := #[], guard := none }) (v := .agg (S.v8l p).toArray) rfl (by kernel_rfl) (by kernel_rfl) (by kernel_rfl) (fun _ _ _ h => h) (yieldsIf_load_mid (by rfl) _ _ rfl gb 0 rfl (S.v8l p) _ (fun _ hSw => rangeAt_row (hSw.row RZ.out (by have := GB.out; omega))) Tryd.underlying23 rfl hsz2) (by assumption) ?_
                simp only [Act.put, List.setIfInBounds_toArray, List.set_cons_zero, List.set_cons_succ]
                refine wpAnyH_ready (rs := [2, 6]) (by kernel_rfl) (by simp) ?_
                refine step_load (o := { dst := some 54, op := Op.load 23 (Operand.tmp 10), type := 23, pos := "way.go:76", after := #[], guard := none }) rfl rfl 23 (.tmp 10) rfl (.agg (S.v8 x)) (load_dig RX2'.out LX.out) ?_ ⟨CZ0.out, fun hHeld => ?_⟩
                rotate_left
                · skip
                  simp only [Act.put, List.setIfInBounds_toArray, List.set_cons_zero, List.set_cons_succ]
                  refine wpAnyH_ready (rs := [3, 6]) (by kernel_rfl) (by simp) ?_
                  refine AllReadyH.cons (o := { dst := some 55, op := Op.call { callee := Callee.value (Operand.func 53), args := #[Operand.tmp 52, Operand.tmp 53, Operand.tmp 54], argTypes := #[3, 23, 23] }, type := 23, pos := "way.go:76", after := #[{ on := 0, ground := Ground.data }, { on := 1, ground := Ground.data }, { on := 2, ground := Ground.data }], guard := none }) rfl (fun K hK => ?_) ?_
                  · skip
                    go_simp
                    refine (node_any a p x LP.out LX.out Z0 (HK.out.below (HB2.out.trans (CZ0.out.below w.heap.size HB2.out.size (fun k hk e => by omega))) h0)).mono ?_
                    rintro e Z1 ⟨rfl, hb2⟩
                    obtain ⟨E1, hE1⟩ : ∃ DD, DD = S.node a p x := ⟨_, rfl⟩
                    rw [← hE1]
                    have LE1 := hide (show E1.length = 32 by rw [hE1]; exact S.node_length _ _ _)
                    have EE1 := hide hE1
                    clear hE1
                    replace RX2' : Hid (Z1.heap[w.heap.size + 1]? = some (.cells (S.v8 x) 23 (0, 0))) := (hb2.block _ (block_lt_of_row RX2'.out)).trans RX2'.out
                    replace RY2' : Hid (Z1.heap[w.heap.size + 2]? = some (.cells (S.v8 y) 23 (0, 0))) := (hb2.block _ (block_lt_of_row RY2'.out)).trans RY2'.out
                    have CZ1 : Hid (Chg (fun k => k = w.heap.size + 1 ∨ k = w.heap.size + 2) Z Z1) := CZ0.out.then hb2
                    clear hb2 CZ0
                    clear hHeld
                    refine hK.out _ _ CZ1.out (fun hHeld => ?_)
                    clear hK K
                    try simp only [Act.put, List.setIfInBounds_toArray, List.set_cons_zero, List.set_cons_succ]
                    refine wpAnyH_ready (rs := [6]) (by kernel_rfl) (by simp) ?_
                    refine step_load (o := { dst := some 58, op := Op.load 23 (Operand.tmp 11), type := 23, pos := "way.go:76", after := #[], guard := none }) rfl rfl 23 (.tmp 11) rfl (.agg (S.v8 y)) (load_dig RY2'.out LY.out) AllReadyH.nil ⟨CZ1.out, fun hHeld => ?_⟩
                    simp only [Act.put, List.setIfInBounds_toArray, List.set_cons_zero, List.set_cons_succ]
                    refine wpAnyH_ready (rs := [7]) (by kernel_rfl) (by simp) ?_
                    refine AllReadyH.cons (o := { dst := some 59, op := Op.call { callee := Callee.value (Operand.func 53), args := #[Operand.tmp 56, Operand.tmp 57, Operand.tmp 58], argTypes := #[3, 23, 23] }, type := 23, pos := "way.go:76", after := #[{ on := 4, ground := Ground.data }, { on := 5, ground := Ground.data }, { on := 6, ground := Ground.data }, { on := 3, ground := Ground.chain }], guard := none }) rfl (fun K hK => ?_) AllReadyH.nil
                    go_simp
                    refine (node_any a p y LP.out LY.out Z1 (HK.out.below (HB2.out.trans (CZ1.out.below w.heap.size HB2.out.size (fun k hk e => by omega))) h0)).mono ?_
                    rintro e Z2 ⟨rfl, hb2⟩
                    obtain ⟨E2, hE2⟩ : ∃ DD, DD = S.node a p y := ⟨_, rfl⟩
                    rw [← hE2]
                    have LE2 := hide (show E2.length = 32 by rw [hE2]; exact S.node_length _ _ _)
                    have EE2 := hide hE2
                    clear hE2
                    replace RX2' : Hid (Z2.heap[w.heap.size + 1]? = some (.cells (S.v8 x) 23 (0, 0))) := (hb2.block _ (block_lt_of_row RX2'.out)).trans RX2'.out
                    replace RY2' : Hid (Z2.heap[w.heap.size + 2]? = some (.cells (S.v8 y) 23 (0, 0))) := (hb2.block _ (block_lt_of_row RY2'.out)).trans RY2'.out
                    have CZ2 : Hid (Chg (fun k => k = w.heap.size + 1 ∨ k = w.heap.size + 2) Z Z2) := CZ1.out.then hb2
                    clear hb2 CZ1
                    clear hHeld
                    refine hK.out _ _ CZ2.out (fun hHeld => ?_)
                    clear hK K
                    try simp only [Act.put, List.setIfInBounds_toArray, List.set_cons_zero, List.set_cons_succ]
                    refine wpAnyH_ready (rs := [8]) (by kernel_rfl) (by simp) ?_
                    obtain ⟨Z3, hst, r6, C6, s6⟩ := store_dig RX2'.out LX.out LE1.out
                    refine step_store_as (o := { dst := none, op := Op.store 23 (Operand.tmp 10) (Operand.tmp 55), type := 0, pos := "way.go:76", after := #[{ on := 3, ground := Ground.data }, { on := 7, ground := Ground.chain }, { on := 0, ground := Ground.phase }, { on := 1, ground := Ground.phase }, { on := 2, ground := Ground.phase }, { on := 3, ground := Ground.phase }, { on := 4, ground := Ground.textOnly Departure.lateStores }, { on := 5, ground := Ground.textOnly Departure.lateStores }, { on := 6, ground := Ground.textOnly Departure.lateStores }, { on := 7, ground := Ground.textOnly Departure.lateStoresUnsure }], guard := none }) rfl rfl 23 (.tmp 10) (.tmp 55) rfl _ _ rfl rfl Z3 hst AllReadyH.nil ⟨CZ2.out.trans C6 (fun k hk e => by first | exact e | exact Or.inl e | exact Or.inr e | omega), fun hHeld => ?_⟩
                    replace RX2' : Hid (Z3.heap[w.heap.size + 1]? = some (.cells (S.v8 E1) 23 (0, 0))) := r6
                    replace RY2' : Hid (Z3.heap[w.heap.size + 2]? = some (.cells (S.v8 y) 23 (0, 0))) := C6.row RY2'.out (by omega)
                    have CZ3 : Hid (Chg (fun k => k = w.heap.size + 1 ∨ k = w.heap.size + 2) Z Z3) := CZ2.out.trans C6 (fun k hk e => by first | exact e | exact Or.inl e | exact Or.inr e | omega)
                    clear hst r6 C6 s6 CZ2
                    simp only [Act.put]
                    refine wpAnyH_ready (rs := [9]) (by kernel_rfl) (by simp) ?_
                    obtain ⟨Z4, hst, r6, C6, s6⟩ := store_dig RY2'.out LY.out LE2.out
                    refine step_store_as (o := { dst := none, op := Op.store 23 (Operand.tmp 11) (Operand.tmp 59), type := 0, pos := "way.go:76", after := #[{ on := 7, ground := Ground.data }, { on := 8, ground := Ground.chain }, { on := 0, ground := Ground.phase }, { on := 1, ground := Ground.phase }, { on := 2, ground := Ground.phase }, { on := 3, ground := Ground.phase }, { on := 4, ground := Ground.phase }, { on := 5, ground := Ground.phase }, { on := 6, ground := Ground.phase }, { on := 7, ground := Ground.phase }, { on := 8, ground := Ground.phase }], guard := none }) rfl rfl 23 (.tmp 11) (.tmp 59) rfl _ _ rfl rfl Z4 hst AllReadyH.nil ⟨CZ3.out.trans C6 (fun k hk e => by first | exact e | exact Or.inl e | exact Or.inr e | omega), fun hHeld => ?_⟩
                    replace RX2' : Hid (Z4.heap[w.heap.size + 1]? = some (.cells (S.v8 E1) 23 (0, 0))) := C6.row RX2'.out (by omega)
                    replace RY2' : Hid (Z4.heap[w.heap.size + 2]? = some (.cells (S.v8 E2) 23 (0, 0))) := r6
                    have CZ4 : Hid (Chg (fun k => k = w.heap.size + 1 ∨ k = w.heap.size + 2) Z Z4) := CZ3.out.trans C6 (fun k hk e => by first | exact e | exact Or.inl e | exact Or.inr e | omega)
                    clear hst r6 C6 s6 CZ3
                    simp only [Act.put]
                    refine wpAnyH_done (by kernel_rfl) ?_ _
                    refine NoPanic.normal ?_
                    clear hHeld
                    have BF := hide (HB2.out.trans (CZ4.out.below w.heap.size HB2.out.size (fun k hk e => by omega)))
                    rw [← EE1.out, ← EE2.out] at HUPN
                    go_wp2_with fail
                    go_roundg gO
                    case measure => omega
                    case rel => exact ⟨k + 1, f / 2, s / 2, E1, E2, by omega, by first | rfl | simp, rfl, rfl, by omega, by omega, HUPN, LE1, LE2, RX2', RY2', BF⟩
                  refine step_load (o := { dst := some 58, op := Op.load 23 (Operand.tmp 11), type := 23, pos := "way.go:76", after := #[], guard := none }) rfl rfl 23 (.tmp 11) rfl (.agg (S.v8 y)) (load_dig RY2'.out LY.out) AllReadyH.nil ⟨CZ0.out, fun hHeld => ?_⟩
                  simp only [Act.put, List.setIfInBounds_toArray, List.set_cons_zero, List.set_cons_succ]
                  refine wpAnyH_ready (rs := [3]) (by kernel_rfl) (by simp) ?_
                  refine AllReadyH.cons (o := { dst := some 55, op := Op.call { callee := Callee.value (Operand.func 53), args := #[Operand.tmp 52, Operand.tmp 53, Operand.tmp 54], argTypes := #[3, 23, 23] }, type := 23, pos := "way.go:76", after := #[{ on := 0, ground := Ground.data }, { on := 1, ground := Ground.data }, { on := 2, ground := Ground.data }], guard := none }) rfl (fun K hK => ?_) AllReadyH.nil
                  go_simp
                  refine (node_any a p x LP.out LX.out Z0 (HK.out.below (HB2.out.trans (CZ0.out.below w.heap.size HB2.out.size (fun k hk e => by omega))) h0)).mono ?_
                  rintro e Z1 ⟨rfl, hb2⟩
                  obtain ⟨E1, hE1⟩ : ∃ DD, DD = S.node a p x := ⟨_, rfl⟩
                  rw [← hE1]
                  have LE1 := hide (show E1.length = 32 by rw [hE1]; exact S.node_length _ _ _)
                  have EE1 := hide hE1
                  clear hE1
                  replace RX2' : Hid (Z1.heap[w.heap.size + 1]? = some (.cells (S.v8 x) 23 (0, 0))) := (hb2.block _ (block_lt_of_row RX2'.out)).trans RX2'.out
                  replace RY2' : Hid (Z1.heap[w.heap.size + 2]? = some (.cells (S.v8 y) 23 (0, 0))) := (hb2.block _ (block_lt_of_row RY2'.out)).trans RY2'.out
                  have CZ1 : Hid (Chg (fun k => k = w.heap.size + 1 ∨ k = w.heap.size + 2) Z Z1) := CZ0.out.then hb2
                  clear hb2 CZ0
                  clear hHeld
                  refine hK.out _ _ CZ1.out (fun hHeld => ?_)
                  clear hK K
                  try simp only [Act.put, List.setIfInBounds_toArray, List.set_cons_zero, List.set_cons_succ]
                  refine wpAnyH_ready (rs := [7]) (by kernel_rfl) (by simp) ?_
                  refine AllReadyH.cons (o := { dst := some 59, op := Op.call { callee := Callee.value (Operand.func 53), args := #[Operand.tmp 56, Operand.tmp 57, Operand.tmp 58], argTypes := #[3, 23, 23] }, type := 23, pos := "way.go:76", after := #[{ on := 4, ground := Ground.data }, { on := 5, ground := Ground.data }, { on := 6, ground := Ground.data }, { on := 3, ground := Ground.chain }], guard := none }) rfl (fun K hK => ?_) AllReadyH.nil
                  go_simp
                  refine (node_any a p y LP.out LY.out Z1 (HK.out.below (HB2.out.trans (CZ1.out.below w.heap.size HB2.out.size (fun k hk e => by omega))) h0)).mono ?_
                  rintro e Z2 ⟨rfl, hb2⟩
                  obtain ⟨E2, hE2⟩ : ∃ DD, DD = S.node a p y := ⟨_, rfl⟩
                  rw [← hE2]
                  have LE2 := hide (show E2.length = 32 by rw [hE2]; exact S.node_length _ _ _)
                  have EE2 := hide hE2
                  clear hE2
                  replace RX2' : Hid (Z2.heap[w.heap.size + 1]? = some (.cells (S.v8 x) 23 (0, 0))) := (hb2.block _ (block_lt_of_row RX2'.out)).trans RX2'.out
                  replace RY2' : Hid (Z2.heap[w.heap.size + 2]? = some (.cells (S.v8 y) 23 (0, 0))) := (hb2.block _ (block_lt_of_row RY2'.out)).trans RY2'.out
                  have CZ2 : Hid (Chg (fun k => k = w.heap.size + 1 ∨ k = w.heap.size + 2) Z Z2) := CZ1.out.then hb2
                  clear hb2 CZ1
                  clear hHeld
                  refine hK.out _ _ CZ2.out (fun hHeld => ?_)
                  clear hK K
                  try simp only [Act.put, List.setIfInBounds_toArray, List.set_cons_zero, List.set_cons_succ]
                  refine wpAnyH_ready (rs := [8]) (by kernel_rfl) (by simp) ?_
                  obtain ⟨Z3, hst, r6, C6, s6⟩ := store_dig RX2'.out LX.out LE1.out
                  refine step_store_as (o := { dst := none, op := Op.store 23 (Operand.tmp 10) (Operand.tmp 55), type := 0, pos := "way.go:76", after := #[{ on := 3, ground := Ground.data }, { on := 7, ground := Ground.chain }, { on := 0, ground := Ground.phase }, { on := 1, ground := Ground.phase }, { on := 2, ground := Ground.phase }, { on := 3, ground := Ground.phase }, { on := 4, ground := Ground.textOnly Departure.lateStores }, { on := 5, ground := Ground.textOnly Departure.lateStores }, { on := 6, ground := Ground.textOnly Departure.lateStores }, { on := 7, ground := Ground.textOnly Departure.lateStoresUnsure }], guard := none }) rfl rfl 23 (.tmp 10) (.tmp 55) rfl _ _ rfl rfl Z3 hst AllReadyH.nil ⟨CZ2.out.trans C6 (fun k hk e => by first | exact e | exact Or.inl e | exact Or.inr e | omega), fun hHeld => ?_⟩
                  replace RX2' : Hid (Z3.heap[w.heap.size + 1]? = some (.cells (S.v8 E1) 23 (0, 0))) := r6
                  replace RY2' : Hid (Z3.heap[w.heap.size + 2]? = some (.cells (S.v8 y) 23 (0, 0))) := C6.row RY2'.out (by omega)
                  have CZ3 : Hid (Chg (fun k => k = w.heap.size + 1 ∨ k = w.heap.size + 2) Z Z3) := CZ2.out.trans C6 (fun k hk e => by first | exact e | exact Or.inl e | exact Or.inr e | omega)
                  clear hst r6 C6 s6 CZ2
                  simp only [Act.put]
                  refine wpAnyH_ready (rs := [9]) (by kernel_rfl) (by simp) ?_
                  obtain ⟨Z4, hst, r6, C6, s6⟩ := store_dig RY2'.out LY.out LE2.out
                  refine step_store_as (o := { dst := none, op := Op.store 23 (Operand.tmp 11) (Operand.tmp 59), type := 0, pos := "way.go:76", after := #[{ on := 7, ground := Ground.data }, { on := 8, ground := Ground.chain }, { on := 0, ground := Ground.phase }, { on := 1, ground := Ground.phase }, { on := 2, ground := Ground.phase }, { on := 3, ground := Ground.phase }, { on := 4, ground := Ground.phase }, { on := 5, ground := Ground.phase }, { on := 6, ground := Ground.phase }, { on := 7, ground := Ground.phase }, { on := 8, ground := Ground.phase }], guard := none }) rfl rfl 23 (.tmp 11) (.tmp 59) rfl _ _ rfl rfl Z4 hst AllReadyH.nil ⟨CZ3.out.trans C6 (fun k hk e => by first | exact e | exact Or.inl e | exact Or.inr e | omega), fun hHeld => ?_⟩
                  replace RX2' : Hid (Z4.heap[w.heap.size + 1]? = some (.cells (S.v8 E1) 23 (0, 0))) := C6.row RX2'.out (by omega)
                  replace RY2' : Hid (Z4.heap[w.heap.size + 2]? = some (.cells (S.v8 E2) 23 (0, 0))) := r6
                  have CZ4 : Hid (Chg (fun k => k = w.heap.size + 1 ∨ k = w.heap.size + 2) Z Z4) := CZ3.out.trans C6 (fun k hk e => by first | exact e | exact Or.inl e | exact Or.inr e | omega)
                  clear hst r6 C6 s6 CZ3
                  simp only [Act.put]
                  refine wpAnyH_done (by kernel_rfl) ?_ _
                  refine NoPanic.normal ?_
                  clear hHeld
                  have BF := hide (HB2.out.trans (CZ4.out.below w.heap.size HB2.out.size (fun k hk e => by omega)))
                  rw [← EE1.out, ← EE2.out] at HUPN
                  go_wp2_with fail
                  go_roundg gO
                  case measure => omega
                  case rel => exact ⟨k + 1, f / 2, s / 2, E1, E2, by omega, by first | rfl | simp, rfl, rfl, by omega, by omega, HUPN, LE1, LE2, RX2', RY2', BF⟩
                refine step_load (o := { dst := some 58, op := Op.load 23 (Operand.tmp 11), type := 23, pos := "way.go:76", after := #[], guard := none }) rfl rfl 23 (.tmp 11) rfl (.agg (S.v8 y)) (load_dig RY2'.out LY.out) AllReadyH.nil ⟨CZ0.out, fun hHeld => ?_⟩
                simp only [Act.put, List.setIfInBounds_toArray, List.set_cons_zero, List.set_cons_succ]
                refine wpAnyH_ready (rs := [2]) (by kernel_rfl) (by simp) ?_
                refine step_load (o := { dst := some 54, op := Op.load 23 (Operand.tmp 10), type := 23, pos := "way.go:76", after := #[], guard := none }) rfl rfl 23 (.tmp 10) rfl (.agg (S.v8 x)) (load_dig RX2'.out LX.out) AllReadyH.nil ⟨CZ0.out, fun hHeld => ?_⟩
                simp only [Act.put, List.setIfInBounds_toArray, List.set_cons_zero, List.set_cons_succ]
                refine wpAnyH_ready (rs := [3]) (by kernel_rfl) (by simp) ?_
                refine AllReadyH.cons (o := { dst := some 55, op := Op.call { callee := Callee.value (Operand.func 53), args := #[Operand.tmp 52, Operand.tmp 53, Operand.tmp 54], argTypes := #[3, 23, 23] }, type := 23, pos := "way.go:76", after := #[{ on := 0, ground := Ground.data }, { on := 1, ground := Ground.data }, { on := 2, ground := Ground.data }], guard := none }) rfl (fun K hK => ?_) AllReadyH.nil
                go_simp
                refine (node_any a p x LP.out LX.out Z0 (HK.out.below (HB2.out.trans (CZ0.out.below w.heap.size HB2.out.size (fun k hk e => by omega))) h0)).mono ?_
                rintro e Z1 ⟨rfl, hb2⟩
                obtain ⟨E1, hE1⟩ : ∃ DD, DD = S.node a p x := ⟨_, rfl⟩
                rw [← hE1]
                have LE1 := hide (show E1.length = 32 by rw [hE1]; exact S.node_length _ _ _)
                have EE1 := hide hE1
                clear hE1
                replace RX2' : Hid (Z1.heap[w.heap.size + 1]? = some (.cells (S.v8 x) 23 (0, 0))) := (hb2.block _ (block_lt_of_row RX2'.out)).trans RX2'.out
                replace RY2' : Hid (Z1.heap[w.heap.size + 2]? = some (.cells (S.v8 y) 23 (0, 0))) := (hb2.block _ (block_lt_of_row RY2'.out)).trans RY2'.out
                have CZ1 : Hid (Chg (fun k => k = w.heap.size + 1 ∨ k = w.heap.size + 2) Z Z1) := CZ0.out.then hb2
                clear hb2 CZ0
                clear hHeld
                refine hK.out _ _ CZ1.out (fun hHeld => ?_)
                clear hK K
                try simp only [Act.put, List.setIfInBounds_toArray, List.set_cons_zero, List.set_cons_succ]
                refine wpAnyH_ready (rs := [7]) (by kernel_rfl) (by simp) ?_
                refine AllReadyH.cons (o := { dst := some 59, op := Op.call { callee := Callee.value (Operand.func 53), args := #[Operand.tmp 56, Operand.tmp 57, Operand.tmp 58], argTypes := #[3, 23, 23] }, type := 23, pos := "way.go:76", after := #[{ on := 4, ground := Ground.data }, { on := 5, ground := Ground.data }, { on := 6, ground := Ground.data }, { on := 3, ground := Ground.chain }], guard := none }) rfl (fun K hK => ?_) AllReadyH.nil
                go_simp
                refine (node_any a p y LP.out LY.out Z1 (HK.out.below (HB2.out.trans (CZ1.out.below w.heap.size HB2.out.size (fun k hk e => by omega))) h0)).mono ?_
                rintro e Z2 ⟨rfl, hb2⟩
                obtain ⟨E2, hE2⟩ : ∃ DD, DD = S.node a p y := ⟨_, rfl⟩
                rw [← hE2]
                have LE2 := hide (show E2.length = 32 by rw [hE2]; exact S.node_length _ _ _)
                have EE2 := hide hE2
                clear hE2
                replace RX2' : Hid (Z2.heap[w.heap.size + 1]? = some (.cells (S.v8 x) 23 (0, 0))) := (hb2.block _ (block_lt_of_row RX2'.out)).trans RX2'.out
                replace RY2' : Hid (Z2.heap[w.heap.size + 2]? = some (.cells (S.v8 y) 23 (0, 0))) := (hb2.block _ (block_lt_of_row RY2'.out)).trans RY2'.out
                have CZ2 : Hid (Chg (fun k => k = w.heap.size + 1 ∨ k = w.heap.size + 2) Z Z2) := CZ1.out.then hb2
                clear hb2 CZ1
                clear hHeld
                refine hK.out _ _ CZ2.out (fun hHeld => ?_)
                clear hK K
                try simp only [Act.put, List.setIfInBounds_toArray, List.set_cons_zero, List.set_cons_succ]
                refine wpAnyH_ready (rs := [8]) (by kernel_rfl) (by simp) ?_
                obtain ⟨Z3, hst, r6, C6, s6⟩ := store_dig RX2'.out LX.out LE1.out
                refine step_store_as (o := { dst := none, op := Op.store 23 (Operand.tmp 10) (Operand.tmp 55), type := 0, pos := "way.go:76", after := #[{ on := 3, ground := Ground.data }, { on := 7, ground := Ground.chain }, { on := 0, ground := Ground.phase }, { on := 1, ground := Ground.phase }, { on := 2, ground := Ground.phase }, { on := 3, ground := Ground.phase }, { on := 4, ground := Ground.textOnly Departure.lateStores }, { on := 5, ground := Ground.textOnly Departure.lateStores }, { on := 6, ground := Ground.textOnly Departure.lateStores }, { on := 7, ground := Ground.textOnly Departure.lateStoresUnsure }], guard := none }) rfl rfl 23 (.tmp 10) (.tmp 55) rfl _ _ rfl rfl Z3 hst AllReadyH.nil ⟨CZ2.out.trans C6 (fun k hk e => by first | exact e | exact Or.inl e | exact Or.inr e | omega), fun hHeld => ?_⟩
                replace RX2' : Hid (Z3.heap[w.heap.size + 1]? = some (.cells (S.v8 E1) 23 (0, 0))) := r6
                replace RY2' : Hid (Z3.heap[w.heap.size + 2]? = some (.cells (S.v8 y) 23 (0, 0))) := C6.row RY2'.out (by omega)
                have CZ3 : Hid (Chg (fun k => k = w.heap.size + 1 ∨ k = w.heap.size + 2) Z Z3) := CZ2.out.trans C6 (fun k hk e => by first | exact e | exact Or.inl e | exact Or.inr e | omega)
                clear hst r6 C6 s6 CZ2
                simp only [Act.put]
                refine wpAnyH_ready (rs := [9]) (by kernel_rfl) (by simp) ?_
                obtain ⟨Z4, hst, r6, C6, s6⟩ := store_dig RY2'.out LY.out LE2.out
                refine step_store_as (o := { dst := none, op := Op.store 23 (Operand.tmp 11) (Operand.tmp 59), type := 0, pos := "way.go:76", after := #[{ on := 7, ground := Ground.data }, { on := 8, ground := Ground.chain }, { on := 0, ground := Ground.phase }, { on := 1, ground := Ground.phase }, { on := 2, ground := Ground.phase }, { on := 3, ground := Ground.phase }, { on := 4, ground := Ground.phase }, { on := 5, ground := Ground.phase }, { on := 6, ground := Ground.phase }, { on := 7, ground := Ground.phase }, { on := 8, ground := Ground.phase }], guard := none }) rfl rfl 23 (.tmp 11) (.tmp 59) rfl _ _ rfl rfl Z4 hst AllReadyH.nil ⟨CZ3.out.trans C6 (fun k hk e => by first | exact e | exact Or.inl e | exact Or.inr e | omega), fun hHeld => ?_⟩
                replace RX2' : Hid (Z4.heap[w.heap.size + 1]? = some (.cells (S.v8 E1) 23 (0, 0))) := C6.row RX2'.out (by omega)
                replace RY2' : Hid (Z4.heap[w.heap.size + 2]? = some (.cells (S.v8 E2) 23 (0, 0))) := r6
                have CZ4 : Hid (Chg (fun k => k = w.heap.size + 1 ∨ k = w.heap.size + 2) Z Z4) := CZ3.out.trans C6 (fun k hk e => by first | exact e | exact Or.inl e | exact Or.inr e | omega)
                clear hst r6 C6 s6 CZ3
                simp only [Act.put]
                refine wpAnyH_done (by kernel_rfl) ?_ _
                refine NoPanic.normal ?_
                clear hHeld
                have BF := hide (HB2.out.trans (CZ4.out.below w.heap.size HB2.out.size (fun k hk e => by omega)))
                rw [← EE1.out, ← EE2.out] at HUPN
                go_wp2_with fail
                go_roundg gO
                case measure => omega
                case rel => exact ⟨k + 1, f / 2, s / 2, E1, E2, by omega, by first | rfl | simp, rfl, rfl, by omega, by omega, HUPN, LE1, LE2, RX2', RY2', BF⟩
              · have q5 : ¬ (f : Int) % 2 = 1 := by omega
                have q5' : (f : Int) % 2 = 0 := by omega
                by_cases hfs : f = s
                · have q6 : ((f : Int) == (s : Int)) = true := by simp; omega
                  have HUPN : Hid (O = _) := HUP.out.trans (V.runP_skip _ f s x y _ (by omega) hfs hs0 (by simpa using hf))
                  clear HUP hfs
                  go_wp2_with fail
                  go_roundg (s / 2)
                  case measure => omega
                  case rel => exact ⟨f / 2, s / 2, rfl, rfl, rfl, by omega, by omega, HUPN, rfl⟩
                · have q6 : ((f : Int) == (s : Int)) = false := by simp; omega
                  have HUPN : Hid (O = _) := HUP.out.trans (V.runP_even _ f s x y p _ (by omega) hfs hs0)
                  have hl1 := load_dig RY2.out LY.out
                  have hl2 := load_dig RZ.out LP.out
                  clear HUP
                  go_wp2_with (first | (with_reducible refine at_op { dst := some 64, op := Op.load 23 (Operand.tmp 11), type := 23, pos := "way.go:79", after := #[], guard := none } ?_; refine wpList_load_as rfl 23 (.tmp 11) rfl (.pointer (some ⟨w.heap.size + 2, 0, none⟩)) rfl (.agg (S.v8 y)) hl1 ?_) | (with_reducible refine at_op { dst := some 65, op := Op.load 23 (Operand.tmp 16), type := 23, pos := "way.go:79", after := #[], guard := none } ?_; refine wpList_load_as rfl 23 (.tmp 16) rfl (.pointer (some ⟨gb, 0, none⟩)) rfl (.agg (S.v8 p)) hl2 ?_))
                  clear hl1 hl2
                  refine (node_any a y p LY.out LP.out Z (HK.out.below HB2.out h0)).mono ?_
                  rintro e Z1 ⟨rfl, hb2⟩
                  obtain ⟨E, hE⟩ : ∃ E, E = S.node a y p := ⟨_, rfl⟩
                  have LE := hide (show E.length = 32 by rw [hE, S.node_length])
                  rw [← hE]
                  rw [← hE] at HUPN
                  obtain ⟨Z2, hst2, r2, C2, s2⟩ := store_dig ((hb2.block _ (block_lt_of_row RY2.out)).trans RY2.out) LY.out LE.out
                  have RXF : Hid (Z2.heap[w.heap.size + 1]? = some (.cells (S.v8 x) 23 (0, 0))) := C2.row ((hb2.block _ (block_lt_of_row RX2.out)).trans RX2.out) (by omega)
                  have RYF := hide r2
                  have BF := hide (HB2.out.trans ((hb2.mono HB2.out.size).trans (C2.below _ (Nat.le_trans HB2.out.size hb2.size) (fun k hk e => by omega))))
                  clear hE hb2 r2 C2 s2
                  go_wp2_with (with_reducible refine at_op { dst := none, op := Op.store 23 (Operand.tmp 11) (Operand.tmp 66), type := 0, pos := "way.go:79", after := #[{ on := 3, ground := Ground.data }, { on := 3, ground := Ground.chain }, { on := 0, ground := Ground.phase }, { on := 1, ground := Ground.phase }, { on := 2, ground := Ground.phase }, { on := 3, ground := Ground.phase }], guard := none } ?_; refine wpList_store_as rfl 23 (.tmp 11) (.tmp 66) rfl (.pointer (some ⟨w.heap.size + 2, 0, none⟩)) (.agg (S.v8 E)) rfl rfl Z2 hst2 ?_)
                  go_roundg gO
                  case measure => omega
                  case rel => exact ⟨k + 1, f / 2, s / 2, x, E, by omega, by first | rfl | simp, rfl, rfl, by omega, by omega, HUPN, LX, LE, RXF, RYF, BF⟩
end Go.Proofs.YtlbggkmblkhjoaaDoor
