/- The document's numbers, kinds, Mint. -/
import Derived.Test.YtlcilclhaahopaaDoorTg
import Derived.Test.YtlcilclhaahopaaDoorRmac
import Derived.Deep.CutBlock
namespace Go.Proofs.YtlcilclhaahopaaDoor
open Go.RowKit
set_option maxHeartbeats 400000 in
theorem width_any (k : Int) (w : World) :
   Calls Tryd.prog 79 #[.int .i64 k] w fun e w' => e = .returned (.int .i64 (S.size k : Int)) ∧ w = w' := by
  go_enter Tryd.func79, Tryd.ntmps79
  by_cases h1 : k < 1
  · have HE : Hid ((S.size k : Int) = 1) := by show (S.size k : Int) = 1; rw [S.size_cast]; omega
    go_wp2
    go_ret
    exact ⟨by rw [HE.out]; rfl, rfl⟩
  · by_cases h8 : 8 < k
    · have HE : Hid ((S.size k : Int) = 8) := by show (S.size k : Int) = 8; rw [S.size_cast]; omega
      go_wp2
      go_ret
      exact ⟨by rw [HE.out]; rfl, rfl⟩
    · have HE : Hid ((S.size k : Int) = k) := by show (S.size k : Int) = k; rw [S.size_cast]; omega
      go_wp2
      go_ret
      exact ⟨by rw [HE.out]; rfl, rfl⟩
theorem urow_empty (w : World) : URow (w.alloc (.cells #[] 5)) (.slice (some ⟨w.heap.size, 0, none⟩) 0 0) [] := World.ownsRow_lit w #[] 0 (Nat.zero_le _) (Nat.zero_le _) rfl
set_option maxHeartbeats 1600000 in
set_option maxRecDepth 100000 in
theorem dnumber_any (v : Value) (bs : List UInt8) (n : Nat) (k : Int) (w : World) (hv : SliceAt w v bs) (hb : bs.length + 8 ≤ 140737488355328) :
   Calls Tryd.prog 56 #[v, .int .u64 (n : Int), .int .i64 k] w fun e w' => ∃ u, e = .returned u ∧ URow w' u (bs ++ S.num n (S.size k)) ∧ (∀ j, u.ownBlock = some j → w.heap.size ≤ j) ∧ Below w.heap.size w w' := by
  have NX : Hid (Below w.heap.size w (w.alloc (.cells #[] 5))) := (Below.refl _ _).alloc (Nat.le_refl _) _
  have SV := hide (hv.below NX.out (Nat.le_refl _))
  have HB := hide hb
  clear hv hb
  go_enter Tryd.func56, Tryd.ntmps56
  go_wp2_with (at_builtin; (refine wpList_append_known rfl (.tmp 9) (.tmp 10) 30 30 rfl _ _ rfl rfl (run_append_row _ _ _ [] bs 30 (urow_empty w) SV.out (by show 0 + bs.length ≤ _; have := HB.out; omega)) ?_; rintro v1 w1 ⟨hu1, hg1, ho1⟩))
  rw [List.nil_append] at hu1
  have hb1 := NX.out.grown hg1 NX.out.size (fun j hj => by have hj2 : some w.heap.size = some j := hj; have := Option.some.inj hj2; omega)
  have U1 := hide hu1
  have B1 := hide hb1
  have O1 : Hid (∀ j, v1.ownBlock = some j → w.heap.size ≤ j) := fun j hj => by
    rcases ho1 j hj with h | h
    · have hj2 : some w.heap.size = some j := h
      have := Option.some.inj hj2
      omega
    · have := NX.out.size
      omega
  clear hu1 hg1 ho1 hb1 SV NX
  refine (width_any k w1).mono ?_
  rintro e w2 ⟨rfl, rfl⟩
  obtain ⟨sz, hsz⟩ : ∃ sz, sz = S.size k := ⟨_, rfl⟩
  have hs8 : sz ≤ 8 := by rw [hsz]; exact S.size_le k
  have hs1 : 1 ≤ sz := by rw [hsz]; exact S.size_ge k
  rw [← hsz]
  have HSZ := hide hsz
  clear hsz
  go_wp2_with fail
  go_loopw [7, 8] (fun v i wr => ∃ (left : Nat) (acc : List UInt8), left ≤ sz ∧ i = .int .i64 ((left : Int) - 1) ∧ acc ++ S.num n left = bs ++ S.num n sz ∧ acc.length + left ≤ bs.length + 8 ∧ URow wr v acc ∧ (∀ j, v.ownBlock = some j → w.heap.size ≤ j) ∧ Below w.heap.size w wr) (fun _ i _ => (intOf i + 1).toNat)
  case atStart => exact ⟨sz, bs, Nat.le_refl _, rfl, rfl, by omega, U1.out, O1.out, B1.out⟩
  case round =>
    obtain ⟨left, acc, hl, rfl, hacc, hal, hu, ho, hb⟩ := hrel
    clear U1 O1 B1
    by_cases h0 : 0 < left
    · obtain ⟨m, rfl⟩ : ∃ m, left = m + 1 := ⟨left - 1, by omega⟩
      have e1 : ((m + 1 : Nat) : Int) - 1 = (m : Int) := by omega
      rw [e1]
      have q1 : (0 : Int) ≤ (m : Int) := by omega
      obtain ⟨ao, c, hv1⟩ := hu.shape
      obtain ⟨an, han⟩ : ∃ an, an = acc.length := ⟨_, rfl⟩
      rw [← han] at hv1
      subst hv1
      obtain ⟨x, hx⟩ : ∃ x : UInt8, x = UInt8.ofNat (n / 256 ^ m) := ⟨_, rfl⟩
      have s1 := shr_byte n m (by omega)
      rw [← hx, show (8 * (m : Int)).toNat = 8 * m from by omega] at s1
      have s2 : (n : Int) / 2 ^ (8 * m) % 256 = (x.toNat : Int) := by rw [← s1, IntKind.wrap_u8']
      have HACC : Hid (acc ++ [x] ++ S.num n m = bs ++ S.num n sz) := by show acc ++ [x] ++ S.num n m = bs ++ S.num n sz; rw [← hacc, hx, List.append_assoc]; rfl
      have w1 : IntKind.i64.wrap (8 * (m : Int)) = 8 * (m : Int) := by rw [IntKind.wrap_i64]; omega
      have w2 : IntKind.u64.wrap (8 * (m : Int)) = 8 * (m : Int) := by rw [IntKind.wrap_u64]; omega
      have UR := hide hu
      have OO := hide ho
      have BB := hide hb
      have HAN := hide han
      clear hx hacc hu ho hb han
      go_wp2_with (at_builtin; (refine wpList_append_known rfl (.tmp 19) (.tmp 26) 30 30 rfl _ _ rfl rfl (run_append_row _ _ _ acc [x] 30 (UR.out.kept fun j hj => heap_alloc_old _ _ (UR.out.lt hj)) (one_new wr x) (by show acc.length + 1 ≤ _; have := HB.out; omega)) ?_; rintro v2 w3 ⟨hu2, hg2, ho2⟩; obtain ⟨ao2, c2, hv2⟩ := hu2.shape; simp only [List.length_append, List.length_singleton, ← HAN.out] at hv2; subst hv2))
      go_roundw
      case rel =>
        refine ⟨m, acc ++ [x], by omega, by go_num, HACC.out, by rw [List.length_append]; show acc.length + 1 + m ≤ _; omega, hu2, fun j hj => ?_, ?_⟩
        · rcases ho2 j hj with h | h
          · exact OO.out j h
          · have := BB.out.size
            have h3 : wr.heap.size ≤ (wr.alloc (.cells #[.int .u8 (x.toNat : Int)] 5)).heap.size := by simp
            omega
        · exact (BB.out.alloc BB.out.size _).grown hg2 (by have := BB.out.size; simp; omega) (fun j hj => OO.out j hj)
      case measure => simp [intOf]
    · obtain rfl : left = 0 := by omega
      have q1 : ¬ ((0 : Int) ≤ ((0 : Nat) : Int) - 1) := by omega
      have FU : Hid (URow wr u7 (bs ++ S.num n (S.size k))) := by
        rw [← HSZ.out, ← hacc, show S.num n 0 = [] from rfl, List.append_nil]
        exact hu
      have OO := hide ho
      have BB := hide hb
      clear hacc hu ho hb
      go_wp2_with fail
      go_ret
      exact ⟨_, rfl, FU.out, OO.out, BB.out⟩

theorem u8_of (k : Int) : ∃ x : UInt8, S.num (S.u64 k) 1 = [x] ∧ k % 256 = (x.toNat : Int) := by
  refine ⟨UInt8.ofNat (S.u64 k), ?_, ?_⟩
  · simp [S.num]
  · rw [UInt8.toNat_ofNat', S.u64]; omega
theorem ne_rows {w : World} {g h : Nat} {a b : Array Value} {t s : TypeId} {p q : Nat × Nat} (h1 : w.heap[g]? = some (.cells a t p)) (h2 : w.heap[h]? = some (.cells b s q)) (hab : a.size ≠ b.size) : g ≠ h := fun e => by
  subst e
  rw [h1] at h2
  simp only [Option.some.injEq, Obj.cells.injEq] at h2
  exact hab (by rw [h2.1])
theorem Rw.empty {α : Type} {el : TypeId} {k B : Nat} {enc : α → List Value} {w : World} {g : Nat} (h : w.heap[g]? = some (.cells #[] el (0, 0))) (hB : B ≤ g) : Rw el k enc B w (.slice (some ⟨g, 0, none⟩) 0 0) ([] : List α) :=
  ⟨by simp, Or.inr ⟨g, 0, #[], rfl, hB, h, by simp, by simp [maxLen], by simp, by simp⟩⟩
theorem bs23zero (W : World) : (Instr.buildSlice 23 0 #[]).run Tryd.prog W = .ok (.slice (some ⟨W.heap.size, 0, none⟩) 0 0) (W.alloc (.cells #[] 42)) := by
  go_simp
theorem bs_one (W : World) (x : UInt8) : (Instr.buildSlice 30 1 #[(0, .int .u8 (x.toNat : Int))]).run Tryd.prog W = .ok (.slice (some ⟨W.heap.size, 0, none⟩) 1 1) (W.alloc (.cells (S.v8 [x]) 5)) := by
  rw [show S.v8 [x] = #[.int .u8 (x.toNat : Int)] from rfl]
  go_simp
set_option maxRecDepth 100000 in
/-- {id, caveats}. -/
theorem built27i (id : Nat) (ao : Option Addr) (n m : Nat) : Tryd.prog.built 27 [(0, .int .u32 (id : Int)), (1, .slice ao n m)] = some (encT id (.slice ao n m) (S.zeros 32)).toArray := by
  rw [fill27]
  have c1 : (Value.slice ao n m).cells = #[.slice ao n m] := rfl
  have c0 : (Value.int .u32 (id : Int)).cells = #[.int .u32 (id : Int)] := rfl
  have hz := tk0_size
  unfold Instr.fill
  simp only [show (#[(0, 1), (1, 1), (2, 32)] : Array (Nat × Nat))[0]? = some (0, 1) from rfl]
  rw [if_neg (by rw [hz, c0]; simp)]
  unfold Instr.fill
  simp only [show (#[(0, 1), (1, 1), (2, 32)] : Array (Nat × Nat))[1]? = some (1, 1) from rfl]
  rw [if_neg (by rw [lay_size, hz, c1]; simp)]
  unfold Instr.fill
  first
    | rfl
    | (congr 1; done)
theorem build27i (id : Nat) (ao : Option Addr) (n m : Nat) (w : World) : (Instr.build 27 #[(0, .int .u32 (id : Int)), (1, .slice ao n m)]).run Tryd.prog w = .ok (.agg (encT id (.slice ao n m) (S.zeros 32)).toArray) w :=
  run_build w 27 _ _ (built27i id ao n m)
/-- A tag is stored into a token. -/
theorem store_tt {w : World} {g id : Nat} {cv : Value} {tag D : List UInt8} (h : w.heap[g]? = some (.cells (encT id cv tag).toArray 27 (0, 0))) (ht : tag.length = 32) (hD : D.length = 32) :
    ∃ w', (Instr.storeAt 25 (.pointer (some ⟨g, 2, none⟩)) (.agg (S.v8 D))).run Tryd.prog w = .ok () w' ∧ w'.heap[g]? = some (.cells (encT id cv D).toArray 27 (0, 0)) ∧ Chg (fun k => k = g) w w' ∧ w'.heap.size = w.heap.size := by
  obtain ⟨i, hi⟩ : ∃ i, Tryd.prog.info? 25 = some i := by
    have := size_dig D hD
    cases hq : Tryd.prog.info? 25 with
    | none => rw [hq] at this; cases this
    | some i => exact ⟨i, rfl⟩
  have hs : i.size = 32 := by
    have := size_dig D hD
    rw [hi, S.v8_size, hD] at this
    simpa using this
  have hl := S.v8l_length D
  have hml : (S.v8l D).length = 32 := by rw [hl, hD]
  have hst := run_storeCells_at Tryd.prog g 2 27 (S.v8l D) 0 (encT id cv tag).toArray w h (by rw [hml, List.size_toArray, encT_length _ _ _ ht]; omega) (S.v8l_one D)
  have eL : ((encT id cv tag).toArray.toList.take (2 + 0) ++ S.v8l D ++ (encT id cv tag).toArray.toList.drop (2 + 0 + (S.v8l D).length)) = encT id cv D := by
    rw [List.drop_of_length_le (by rw [hml, List.toList_toArray, encT_length _ _ _ ht]; omega)]
    simp [encT]
  rw [eL] at hst
  try simp only [Nat.add_zero] at hst
  have hs2 : (S.v8 D).size = i.size := by rw [S.v8_size, hD, hs]
  have hl2 : (S.v8 D).toList = S.v8l D := by rw [S.v8_eq]
  refine ⟨w.setRow g (encT id cv D).toArray, ?_, setRow_heap _ _ _ _ _ _ h, ⟨rfl, rfl, rfl, by simp, fun k _ hk => setRow_other _ _ _ _ hk⟩, by simp⟩
  simp [Instr.storeAt, Instr.sureAddr, storeVar, sizeOf, typeInfo, hi, Value.cells, hs2, hl2, hst]
theorem S.odd_none {c : S.Cv} (h : c.k = 1 ∨ c.k = 2 ∨ c.k = 3) : S.odd c = false := by
  rcases h with h | h | h <;> simp [S.odd, h]
theorem S.odd_yes {c : S.Cv} (h : ¬ (c.k = 1 ∨ c.k = 2 ∨ c.k = 3)) : S.odd c = true := by
  simp only [not_or] at h
  simp [S.odd, h.1, h.2.1, h.2.2]
set_option maxHeartbeats 2000000 in
/-- The document's kinds. -/
theorem rkind_any (c : S.Cv) (w : World) : Calls Tryd.prog 57 #[.int .i64 c.k] w fun e w' => e = .returned (.bool (!S.odd c)) ∧ w = w' := by
  obtain ⟨k, n⟩ := c
  by_cases h1 : (1 : Int) ≤ k
  · by_cases h2 : k ≤ 3
    · have HE : Hid (S.odd ⟨k, n⟩ = false) := S.odd_none (by show k = 1 ∨ k = 2 ∨ k = 3; omega)
      have h1' : k ≥ 1 := h1
      go_enter Tryd.func57, Tryd.ntmps57
      go_wp2
      go_ret
      exact ⟨by rw [HE.out]; rfl, rfl⟩
    · have HE : Hid (S.odd ⟨k, n⟩ = true) := S.odd_yes (by show ¬ (k = 1 ∨ k = 2 ∨ k = 3); omega)
      have h1' : k ≥ 1 := h1
      have h2' : ¬ k ≤ 3 := h2
      go_enter Tryd.func57, Tryd.ntmps57
      go_wp2
      go_ret
      exact ⟨by rw [HE.out]; rfl, rfl⟩
  · have HE : Hid (S.odd ⟨k, n⟩ = true) := S.odd_yes (by show ¬ (k = 1 ∨ k = 2 ∨ k = 3); omega)
    have h1' : ¬ k ≥ 1 := h1
    go_enter Tryd.func57, Tryd.ntmps57
    go_wp2
    go_ret
    exact ⟨by rw [HE.out]; rfl, rfl⟩
set_option maxHeartbeats 8000000 in
set_option maxRecDepth 10000 in
/-- The document's Mint. -/
theorem rmint_any (gT : Nat) (r : List UInt8) (id : Nat) (w : World) (hT : w.heap[gT]? = some (.cells (S.v32 (S.K ++ S.H0)) 103 (0, 0))) (hr : r.length = 32) (hid : id < 4294967296) :
   Calls Tryd.prog 21 #[.pointer (some ⟨gT, 0, none⟩), .agg (S.v8 r), .int .u32 (id : Int)] w fun e w' => e = .returned (.agg (encT id (.slice none 0 0) (S.mint r id).tag).toArray) ∧ Below w.heap.size w w' := by
  have q3 : IntKind.u64.wrap (id : Int) = (id : Int) := wrap_u64_lt id (by omega)
  have HT := hide hT
  have HR := hide hr
  clear hT hr hid
  go_enter Tryd.func21, Tryd.ntmps21
  go_upto_region 1 with (refine wpList_alloc_known rfl 27 rfl _ _ (alloc27 _) ?_)
  generalize hW0 : w.alloc _ = W0
  generalize hW1 : W0.alloc _ = W1
  have B0 : Below w.heap.size w W0 := by rw [← hW0]; exact (Below.refl _ _).alloc (Nat.le_refl _) _
  have s0 : W0.heap.size = w.heap.size + 1 := by rw [← hW0]; simp
  have r0 : W0.heap[w.heap.size]? = some (.cells (S.v8 r) 25 (0, 0)) := by rw [← hW0]; exact heap_alloc_new _ _
  have B1 : Below W0.heap.size W0 W1 := by rw [← hW1]; exact (Below.refl _ _).alloc (Nat.le_refl _) _
  have s1 : W1.heap.size = w.heap.size + 2 := by rw [← hW1]; simp [s0]
  have r1 : W1.heap[w.heap.size + 1]? = some (.cells tk0 27 (0, 0)) := by rw [← hW1, ← s0]; exact heap_alloc_new _ _
  try rw [s0]
  have BB : Hid (Below w.heap.size w W1) := (B0.trans (B1.mono (by omega)))
  have Q0 : Hid (W1.heap[w.heap.size]? = some (.cells (S.v8 r) 25 (0, 0))) := ((B1.block _ (by omega)).trans r0)
  have Q1 : Hid (W1.heap[w.heap.size + 1]? = some (.cells tk0 27 (0, 0))) := r1
  clear hW0 B0 s0 r0 hW1 B1 s1 r1
  have L1 := hide (block_lt_of_row Q1.out)
  refine wp_region_noPanic ?_
  refine wp_region_held_drew (S := (fun W => Chg (fun k => k = w.heap.size + 1) W1 W)) follows ((Chg.refl _ _).drew) (fun hHeld => ?_)
  clear hHeld
  have hHeld : Chg (fun k => k = w.heap.size + 1) W1 W1.drew := (Chg.refl _ _).drew
  have CZ0 := hide hHeld
  have Q0' : Hid (W1.drew.heap[w.heap.size]? = some (.cells (S.v8 r) 25 (0, 0))) := Q0.out
  have Q1' : Hid (W1.drew.heap[(w.heap.size + 1)]? = some (.cells tk0 27 (0, 0))) := Q1.out
  generalize W1.drew = Z0 at CZ0 hHeld Q0' Q1' ⊢
  refine wpAnyH_take (i := 0) (oi := { dst := some 7, op := Op.move (Operand.tmp 2), type := 22, pos := "ref.go:21", after := #[], guard := none }) (v := ?_) rfl (by kernel_rfl) (by kernel_rfl) (by kernel_rfl) (fun _ _ _ h => h) (Or.inl ⟨by rfl, ?_⟩) (by assumption) ?_
  rotate_left
  · intro w hSw
    clear hSw
    go_simp
    all_goals with_reducible rfl
  simp only [Act.put, List.setIfInBounds_toArray, List.set_cons_zero, List.set_cons_succ]
  refine wpAnyH_take (i := 1) (oi := { dst := some 8, op := Op.move (Operand.tmp 0), type := 50, pos := "ref.go:21", after := #[], guard := none }) (v := ?_) rfl (by kernel_rfl) (by kernel_rfl) (by kernel_rfl) (fun _ _ _ h => h) (Or.inl ⟨by rfl, ?_⟩) (by assumption) ?_
  rotate_left
  · intro w hSw
    clear hSw
    go_simp
    all_goals with_reducible rfl
  simp only [Act.put, List.setIfInBounds_toArray, List.set_cons_zero, List.set_cons_succ]
  refine wpAnyH_take (i := 2) (oi := { dst := some 9, op := Op.slice 25 (Operand.tmp 4) none none none, type := 30, pos := "ref.go:21", after := #[], guard := none }) (v := ?_) rfl (by kernel_rfl) (by kernel_rfl) (by kernel_rfl) (fun _ _ _ h => h) (Or.inl ⟨by rfl, ?_⟩) (by assumption) ?_
  rotate_left
  · intro w hSw
    clear hSw
    go_simp
    all_goals with_reducible rfl
  simp only [Act.put, List.setIfInBounds_toArray, List.set_cons_zero, List.set_cons_succ]
  refine wpAnyH_take (i := 5) (oi := { dst := some 12, op := Op.move (Operand.tmp 2), type := 22, pos := "ref.go:21", after := #[], guard := none }) (v := ?_) rfl (by kernel_rfl) (by kernel_rfl) (by kernel_rfl) (fun _ _ _ h => h) (Or.inl ⟨by rfl, ?_⟩) (by assumption) ?_
  rotate_left
  · intro w hSw
    clear hSw
    go_simp
    all_goals with_reducible rfl
  simp only [Act.put, List.setIfInBounds_toArray, List.set_cons_zero, List.set_cons_succ]
  refine wpAnyH_take (i := 6) (oi := { dst := some 13, op := Op.convert 22 46 (Operand.tmp 12), type := 46, pos := "ref.go:21", after := #[{ on := 5, ground := Ground.data }], guard := none }) (v := ?_) rfl (by kernel_rfl) (by kernel_rfl) (by kernel_rfl) (fun _ _ _ h => h) (Or.inl ⟨by rfl, ?_⟩) (by assumption) ?_
  rotate_left
  · intro w hSw
    clear hSw
    go_simp
    all_goals with_reducible rfl
  simp only [Act.put, List.setIfInBounds_toArray, List.set_cons_zero, List.set_cons_succ]
  refine wpAnyH_ready (rs := [3]) (by kernel_rfl) (by simp) ?_
  refine step_buildSlice_as (o := { dst := some 10, op := Op.buildSlice 30 5 #[(0, Operand.const (Value.int IntKind.u8 116)), (1, Operand.const (Value.int IntKind.u8 111)), (2, Operand.const (Value.int IntKind.u8 107)), (3, Operand.const (Value.int IntKind.u8 101)), (4, Operand.const (Value.int IntKind.u8 110))], type := 30, pos := "ref.go:21", after := #[], guard := none }) rfl rfl 30 5 [(0, .const (.int .u8 116)), (1, .const (.int .u8 111)), (2, .const (.int .u8 107)), (3, .const (.int .u8 101)), (4, .const (.int .u8 110))] rfl [(0, .int .u8 116), (1, .int .u8 111), (2, .int .u8 107), (3, .int .u8 101), (4, .int .u8 110)] rfl _ _ (bs_tok Z0) AllReadyH.nil ⟨CZ0.out.alloc _, fun hHeld => ?_⟩
  clear hHeld
  simp only [Act.put, List.setIfInBounds_toArray, List.set_cons_zero, List.set_cons_succ]
  obtain ⟨gz, hgz⟩ : ∃ gg, gg = Z0.heap.size := ⟨_, rfl⟩
  rw [← hgz]
  generalize hZ : Z0.alloc _ = Z1
  have hb2 : Below Z0.heap.size Z0 Z1 := by rw [← hZ]; exact (Below.refl _ _).alloc (Nat.le_refl _) _
  have Rgz : Hid (Z1.heap[gz]? = some (.cells (S.v8 [116, 111, 107, 101, 110]) 5 (0, 0))) := by rw [← hZ, hgz]; exact heap_alloc_new _ _
  have Ggz := hide (show W1.heap.size ≤ gz by rw [hgz]; exact CZ0.out.size)
  clear hZ hgz
  replace Q0' : Hid (Z1.heap[w.heap.size]? = some (.cells (S.v8 r) 25 (0, 0))) := (hb2.block _ (block_lt_of_row Q0'.out)).trans Q0'.out
  replace Q1' : Hid (Z1.heap[(w.heap.size + 1)]? = some (.cells tk0 27 (0, 0))) := (hb2.block _ (block_lt_of_row Q1'.out)).trans Q1'.out
  have CZ1 : Hid (Chg (fun k => k = w.heap.size + 1) W1 Z1) := CZ0.out.then hb2
  clear hb2 CZ0
  have hHeld := CZ1.out
  refine wpAnyH_ready (rs := [4]) (by kernel_rfl) (by simp) ?_
  obtain ⟨Z2, hst, r6, C6, hcl, hsz6⟩ := conv_mark (n := 5) (c := 5) Rgz.out
  refine step_cv_when (o := { dst := some 11, op := Op.convert 30 30 (Operand.tmp 10), type := 30, pos := "ref.go:21", after := #[{ on := 3, ground := Ground.data }], guard := none }) rfl (by rfl) 30 30 (.tmp 10) rfl (.slice (some ⟨gz, 0, none⟩) 5 5) rfl (.slice (some ⟨gz, 0, none⟩) 5 5) Z2 hst AllReadyH.nil ⟨CZ1.out.trans C6 (fun k hk e => by have := Ggz.out; omega), fun hHeld => ?_⟩
  replace Q0' : Hid (Z2.heap[w.heap.size]? = some (.cells (S.v8 r) 25 (0, 0))) := C6.row Q0'.out (by have := Ggz.out; have := L1.out; omega)
  replace Q1' : Hid (Z2.heap[(w.heap.size + 1)]? = some (.cells tk0 27 (0, 0))) := C6.row Q1'.out (by have := Ggz.out; have := L1.out; omega)
  have CZ2 : Hid (Chg (fun k => k = w.heap.size + 1) W1 Z2) := CZ1.out.trans C6 (fun k hk e => by have := Ggz.out; omega)
  have SZ1 : Hid (SliceAt Z2 (.slice (some ⟨gz, 0, none⟩) 5 5) [116, 111, 107, 101, 110]) := row_text r6 rfl (by omega)
  clear hst r6 C6 hcl hsz6 CZ1 Rgz hHeld
  have hHeld := CZ2.out
  simp only [Act.put, List.setIfInBounds_toArray, List.set_cons_zero, List.set_cons_succ]
  refine wpAnyH_ready (rs := [7]) (by kernel_rfl) (by simp) ?_
  refine AllReadyH.cons (o := { dst := some 14, op := Op.call { callee := Callee.value (Operand.func 56), args := #[Operand.tmp 11, Operand.tmp 13, Operand.const (Value.int IntKind.i64 4)], argTypes := #[30, 46, 3] }, type := 30, pos := "ref.go:21", after := #[{ on := 4, ground := Ground.data }, { on := 6, ground := Ground.data }], guard := none }) rfl (fun K hK => ?_) AllReadyH.nil
  go_simp
  refine (dnumber_any (.slice (some ⟨gz, 0, none⟩) 5 5) [116, 111, 107, 101, 110] id 4 Z2 SZ1.out (by simp)).mono ?_
  rintro e Z3 ⟨v2, rfl, hu2, ho2, hb2⟩
  rw [size_4] at hu2
  replace hu2 : URow Z3 v2 (S.mintText id) := hu2
  obtain ⟨o2, c2, rfl⟩ := hu2.shape
  have hl2 := S.mintText_length id
  skip
  obtain ⟨n2, hn2⟩ : ∃ n, n = (S.mintText id).length := ⟨_, rfl⟩
  rw [← hn2] at hu2 ⊢
  have S2 := hide (hu2.sliceAt (by rw [hl2]; omega))
  clear hu2 ho2 hn2 hl2
  replace Q0' : Hid (Z3.heap[w.heap.size]? = some (.cells (S.v8 r) 25 (0, 0))) := (hb2.block _ (block_lt_of_row Q0'.out)).trans Q0'.out
  replace Q1' : Hid (Z3.heap[(w.heap.size + 1)]? = some (.cells tk0 27 (0, 0))) := (hb2.block _ (block_lt_of_row Q1'.out)).trans Q1'.out
  have CZ3 : Hid (Chg (fun k => k = w.heap.size + 1) W1 Z3) := CZ2.out.then hb2
  clear hb2 CZ2
  clear hHeld
  refine hK.out _ _ CZ3.out (fun hHeld => ?_)
  clear hK K
  try simp only [Act.put, List.setIfInBounds_toArray, List.set_cons_zero, List.set_cons_succ]
  refine wpAnyH_ready (rs := [8]) (by kernel_rfl) (by simp) ?_
  refine AllReadyH.cons (o := { dst := some 15, op := Op.call { callee := Callee.value (Operand.func 55), args := #[Operand.tmp 8, Operand.tmp 9, Operand.tmp 14], argTypes := #[50, 30, 30] }, type := 25, pos := "ref.go:21", after := #[{ on := 1, ground := Ground.data }, { on := 2, ground := Ground.data }, { on := 7, ground := Ground.data }, { on := 7, ground := Ground.chain }], guard := none }) rfl (fun K hK => ?_) AllReadyH.nil
  go_simp
  refine (rmac_any gT _ r (.slice o2 n2 c2) (S.mintText id) Z3 (((BB.out.trans (CZ3.out.below w.heap.size BB.out.size (fun k hk e => by omega))).block gT (block_lt_of_row HT.out)).trans HT.out) (dig_all Q0'.out HR.out) S2.out (by rw [HR.out]; omega) (by rw [S.mintText_length]; omega)).mono ?_
  rintro e Z4 ⟨rfl, hb2⟩
  obtain ⟨D, hD⟩ : ∃ DD, DD = S.mac r (S.mintText id) := ⟨_, rfl⟩
  rw [← hD]
  have LD := hide (show D.length = 32 by rw [hD]; exact S.mac_length _ _)
  have ED := hide hD
  clear hD
  replace Q0' : Hid (Z4.heap[w.heap.size]? = some (.cells (S.v8 r) 25 (0, 0))) := (hb2.block _ (block_lt_of_row Q0'.out)).trans Q0'.out
  replace Q1' : Hid (Z4.heap[(w.heap.size + 1)]? = some (.cells tk0 27 (0, 0))) := (hb2.block _ (block_lt_of_row Q1'.out)).trans Q1'.out
  have CZ4 : Hid (Chg (fun k => k = w.heap.size + 1) W1 Z4) := CZ3.out.then hb2
  clear hb2 CZ3
  clear hHeld
  refine hK.out _ _ CZ4.out (fun hHeld => ?_)
  clear hK K
  try simp only [Act.put, List.setIfInBounds_toArray, List.set_cons_zero, List.set_cons_succ]
  refine wpAnyH_ready (rs := [9]) (by kernel_rfl) (by simp) ?_
  refine step_build_as (o := { dst := some 16, op := Op.build 27 #[(0, Operand.tmp 7), (2, Operand.tmp 15)], type := 27, pos := "ref.go:21", after := #[{ on := 0, ground := Ground.data }, { on := 8, ground := Ground.data }], guard := none }) rfl rfl 27 [(0, .tmp 7), (2, .tmp 15)] rfl [(0, .int .u32 (id : Int)), (2, .agg (S.v8 D))] rfl (.agg (encT id (.slice none 0 0) D).toArray) (build27n id D LD.out Z4) AllReadyH.nil ⟨CZ4.out, fun hHeld => ?_⟩
  simp only [Act.put, List.setIfInBounds_toArray, List.set_cons_zero, List.set_cons_succ]
  refine wpAnyH_ready (rs := [10]) (by kernel_rfl) (by simp) ?_
  obtain ⟨Z5, hst, r6, C6, s6⟩ := store_t (id := id) (ao := none) (n := 0) (m := 0) (tag := D) Q1'.out tk0_size LD.out
  refine step_store_as (o := { dst := none, op := Op.store 27 (Operand.tmp 6) (Operand.tmp 16), type := 0, pos := "ref.go:21", after := #[{ on := 9, ground := Ground.data }, { on := 8, ground := Ground.chain }, { on := 0, ground := Ground.phase }, { on := 1, ground := Ground.phase }, { on := 2, ground := Ground.phase }, { on := 3, ground := Ground.phase }, { on := 4, ground := Ground.phase }, { on := 5, ground := Ground.phase }, { on := 6, ground := Ground.phase }, { on := 7, ground := Ground.phase }, { on := 8, ground := Ground.phase }, { on := 9, ground := Ground.phase }], guard := none }) rfl rfl 27 (.tmp 6) (.tmp 16) rfl _ _ rfl rfl Z5 hst AllReadyH.nil ⟨CZ4.out.trans C6 (fun k hk e => by first | exact e | exact Or.inl e | exact Or.inr e | omega), fun hHeld => ?_⟩
  replace Q0' : Hid (Z5.heap[w.heap.size]? = some (.cells (S.v8 r) 25 (0, 0))) := C6.row Q0'.out (by omega)
  replace Q1' : Hid (Z5.heap[(w.heap.size + 1)]? = some (.cells (encT id (.slice none 0 0) D).toArray 27 (0, 0))) := r6
  have CZ5 : Hid (Chg (fun k => k = w.heap.size + 1) W1 Z5) := CZ4.out.trans C6 (fun k hk e => by first | exact e | exact Or.inl e | exact Or.inr e | omega)
  clear hst r6 C6 s6 CZ4
  simp only [Act.put]
  refine wpAnyH_done (by kernel_rfl) ?_ _
  refine NoPanic.normal ?_
  clear hHeld
  have BF := hide (BB.out.trans (CZ5.out.below w.heap.size BB.out.size (fun k hk e => by omega)))
  generalize Z5 = Y at BF Q1' ⊢
  go_wp2_with fail
  exact bodyPost_ret (v := .agg (encT id (.slice none 0 0) D).toArray) (results_cell_row (g := w.heap.size + 1) (t := 27) (fr := (0, 0)) Tryd.results21 _ _ _ _ rfl Q1'.out Tryd.underlying27 rfl (size_t id _ D LD.out)) rfl ⟨by simp only [S.mint]; rw [← ED.out], BF.out⟩
end Go.Proofs.YtlcilclhaahopaaDoor
