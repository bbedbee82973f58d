/- A Writer: what is written is behind what was written; only the writer's own memory changes. -/
import Derived.Test.YtdhaeepaemneaaaDoorSmall
namespace Go.Proofs.YtdhaeepaemneaaaDoor
open Go.RowKit
namespace S
/-- The lowest m bytes of n, the highest first. -/
def num (n : Nat) : Nat → List UInt8
  | 0 => []
  | m + 1 => UInt8.ofNat (n / 256 ^ m) :: num n m
theorem num_length (n m : Nat) : (num n m).length = m := by
  induction m with
  | zero => rfl
  | succ m ih => simp [num, ih]
end S
/-- The writer in block g has written bs; its text is v. -/
structure WrIs (w : World) (g : Nat) (v : Value) (bs : List UInt8) : Prop where
  row : w.heap[g]? = some (.cells #[v] 78 (0, 0))
  text : URow w v bs
  sep : v.ownBlock ≠ some g
/-- What a writer's calls change. -/
structure WrTo (g : Nat) (v : Value) (w : World) (v' : Value) (w' : World) : Prop where
  chg : Chg (fun k => k = g ∨ v.ownBlock = some k) w w'
  own : ∀ k, v'.ownBlock = some k → v.ownBlock = some k ∨ w.heap.size ≤ k
theorem WrTo.refl (g : Nat) (v : Value) (w : World) : WrTo g v w v w := ⟨Chg.refl _ _, fun _ h => Or.inl h⟩
theorem WrTo.trans {g : Nat} {v v1 v2 : Value} {w w1 w2 : World} (h : WrTo g v w v1 w1) (k : WrTo g v1 w1 v2 w2) : WrTo g v w v2 w2 :=
  ⟨h.chg.trans k.chg (fun j hj e => by
      rcases e with e | e
      · exact Or.inl e
      · rcases h.own j e with h' | h'
        · exact Or.inr h'
        · omega),
    fun j e => by
      rcases k.own j e with e | e
      · exact h.own j e
      · exact Or.inr (Nat.le_trans h.chg.size e)⟩
theorem WrIs.chg {p : Nat → Prop} {w W : World} {g : Nat} {v : Value} {bs : List UInt8} (h : WrIs w g v bs) (hc : Chg p w W) (hg : ¬ p g) (hv : ∀ k, v.ownBlock = some k → ¬ p k) : WrIs W g v bs :=
  ⟨hc.row h.row hg, h.text.chg hc hv, h.sep⟩
theorem WrIs.lt {w : World} {g : Nat} {v : Value} {bs : List UInt8} (h : WrIs w g v bs) : g < w.heap.size := block_lt_of_row h.row
/-- The writer behind an append and a store. -/
theorem WrIs.put {w X : World} {g : Nat} {v v' : Value} {bs xs : List UInt8} (hs : v.ownBlock ≠ some g) (hg : g < w.heap.size) (hr : X.heap[g]? = some (.cells #[v] 78 (0, 0))) (hu : URow X v' (bs ++ xs)) (hc : Chg (fun k => k = g ∨ v.ownBlock = some k) w X) (ho : ∀ k, v'.ownBlock = some k → v.ownBlock = some k ∨ w.heap.size ≤ k) :
    WrIs (X.setCell ⟨g, 0, none⟩ v') g v' (bs ++ xs) ∧ WrTo g v w v' (X.setCell ⟨g, 0, none⟩ v') := by
  have hne : ∀ k, v'.ownBlock = some k → k ≠ g := fun k hk e => by
    rcases ho k hk with h' | h'
    · exact hs (e ▸ h')
    · omega
  refine ⟨⟨?_, hu.kept fun k hk => heap_setCell_other _ _ _ _ (hne k hk), fun e => hne g e rfl⟩, ⟨hc.setCell g 0 v' (fun _ => Or.inl rfl), ho⟩⟩
  rw [heap_setCell_same _ _ _ _ _ _ hr]
  rfl
theorem cells1 {w : World} {g : Nat} {a : Value} {t : TypeId} (h : w.heap[g]? = some (.cells #[a] t (0, 0))) : w.cell? ⟨g, 0, none⟩ = some a := by rw [cell_of_row w g 0 _ _ _ h]; rfl
theorem newWriter_any (w : World) :
   Calls Tryd.prog 10 #[] w fun e w' => e = .returned (.pointer (some ⟨w.heap.size, 0, none⟩)) ∧ WrIs w' w.heap.size (.slice none 0 0) [] ∧ Below w.heap.size w w' := by
  go_enter Tryd.func10, Tryd.ntmps10
  go_wp2
  go_ret
  exact ⟨rfl, ⟨heap_alloc_new _ _, urow_nil _, by simp [Value.ownBlock]⟩, (Below.refl _ _).alloc (Nat.le_refl _) _⟩
theorem done_any (g : Nat) (v : Value) (bs : List UInt8) (w : World) (hw : WrIs w g v bs) (hb : bs.length ≤ 140737488355328) :
   Calls Tryd.prog 16 #[.pointer (some ⟨g, 0, none⟩)] w fun e w' => e = .returned (.slice (some ⟨w.heap.size, 0, none⟩) bs.length bs.length) ∧ w'.heap[w.heap.size]? = some (.cells (S.v8 bs) 5 (0, 0)) ∧ Below w.heap.size w w' := by
  have c0 := cells1 hw.row
  have SL := hide (hw.text.sliceAt hb)
  obtain ⟨ao, c, hv⟩ := hw.text.shape
  subst hv
  clear hw
  go_enter Tryd.func16, Tryd.ntmps16
  go_wp2_with fail
  refine (copyOf_any _ bs _ SL.out).mono ?_
  rintro e w1 ⟨rfl, h1, h2⟩
  have H1 := hide h1
  have H2 := hide h2
  clear h1 h2 c0
  go_wp2_with fail
  go_ret
  exact ⟨rfl, H1.out, H2.out⟩
theorem shr_byte (n m : Nat) (hm : m < 8) : IntKind.u8.wrap ((n : Int) / 2 ^ (8 * (m : Int)).toNat) = ((UInt8.ofNat (n / 256 ^ m)).toNat : Int) := by
  have e : (8 * (m : Int)).toNat = 8 * m := by omega
  rw [e, show (2 : Int) ^ (8 * m) = ((256 ^ m : Nat) : Int) from by rw [Int.pow_mul]; norm_cast, ← Int.natCast_ediv]
  generalize n / 256 ^ m = q
  rw [IntKind.wrap_u8', UInt8.toNat_ofNat']
  omega
theorem one_new (w : World) (x : UInt8) : SliceAt (w.alloc (.cells #[.int .u8 (x.toNat : Int)] 5)) (.slice (some ⟨w.heap.size, 0, none⟩) 1 1) [x] :=
  Or.inr (Or.inr ⟨w.heap.size, 0, 1, rfl, Nat.le_refl _, by simp, by simp, fun j hj => by
    obtain rfl : j = 0 := by simpa using hj
    exact cells1 (heap_alloc_new _ _)⟩)
set_option maxHeartbeats 1600000 in
set_option maxRecDepth 100000 in
theorem wnumber_any (g : Nat) (v : Value) (bs : List UInt8) (n : Nat) (k : Int) (w : World) (hw : WrIs w g v bs) (hb : bs.length + 8 ≤ 140737488355328) :
   Calls Tryd.prog 13 #[.pointer (some ⟨g, 0, none⟩), .int .u64 (n : Int), .int .i64 k] w fun e w' => e = .returned (.tuple #[]) ∧ ∃ v', WrIs w' g v' (bs ++ S.num n (S.size k)) ∧ WrTo g v w v' w' := by
  have HW := hide hw
  have HB := hide hb
  clear hw hb
  go_enter Tryd.func13, Tryd.ntmps13
  go_wp2_with fail
  refine (numberSize_any k w).mono ?_
  rintro e w1 ⟨rfl, rfl⟩
  obtain ⟨sz, hsz⟩ : ∃ sz, sz = S.size k := ⟨_, rfl⟩
  have hs8 : sz ≤ 8 := by rw [hsz]; exact S.size_le k
  rw [← hsz]
  have HSZ := hide hsz
  clear hsz
  go_wp2_with fail
  go_loopw [6] (fun i wr => ∃ (left : Nat) (v1 : Value) (acc : List UInt8), left ≤ sz ∧ i = .int .i64 (left : Int) ∧ acc ++ S.num n left = bs ++ S.num n sz ∧ acc.length + left ≤ bs.length + 8 ∧ WrIs wr g v1 acc ∧ WrTo g v w v1 wr) (fun i _ => (intOf i).toNat)
  case atStart => exact ⟨sz, v, bs, Nat.le_refl _, rfl, rfl, by omega, HW.out, WrTo.refl _ _ _⟩
  case round =>
    obtain ⟨left, v1, acc, hl, rfl, hacc, hal, hwr, hto⟩ := hrel
    by_cases h0 : 0 < left
    · obtain ⟨m, rfl⟩ : ∃ m, left = m + 1 := ⟨left - 1, by omega⟩
      have q1 : (0 : Int) < ((m + 1 : Nat) : Int) := by omega
      obtain ⟨ao, c, hv1⟩ := hwr.text.shape
      subst hv1
      obtain ⟨x, hx⟩ : ∃ x : UInt8, x = UInt8.ofNat (n / 256 ^ m) := ⟨_, rfl⟩
      have s1 := shr_byte n m (by omega)
      rw [← hx] at s1
      have HACC : Hid (acc ++ ([x] ++ S.num n m) = bs ++ S.num n sz) := by show acc ++ ([x] ++ S.num n m) = bs ++ S.num n sz; rw [← hacc, hx]; rfl
      have HAL : Hid (acc.length + [x].length + m ≤ bs.length + 8) := by show acc.length + 1 + m ≤ bs.length + 8; omega
      have w1 : IntKind.i64.wrap (m : Int) = (m : Int) := by rw [IntKind.wrap_i64]; omega
      have w2 : IntKind.i64.wrap (8 * (m : Int)) = 8 * (m : Int) := by rw [IntKind.wrap_i64]; omega
      have ROW := hide hwr.row
      have UR := hide hwr.text
      have SEP := hide hwr.sep
      have TO := hide hto
      clear hx hacc hwr hto HW
      go_wp2_with fail
      refine wp_region_noPanic ?_
      refine wp_region_held_drew (S := (fun _ => True)) follows trivial (fun hHeld => ?_)
      refine wpAnyH_take (i := 0) (oi := { dst := some 13, op := Op.move (Operand.tmp 0), type := 25, pos := "writer.go:16", after := #[], guard := none }) (v := ?_) rfl (by kernel_rfl) (by kernel_rfl) (by kernel_rfl) (fun _ _ _ h => h) (Or.inl ⟨by rfl, ?_⟩) (by assumption) ?_
      rotate_left
      · intro w hSw
        clear hSw
        go_simp
        all_goals with_reducible rfl
      simp only [Act.put, List.setIfInBounds_toArray, List.set_cons_zero, List.set_cons_succ]
      refine wpAnyH_take (i := 1) (oi := { dst := some 14, op := Op.move (Operand.tmp 0), type := 25, pos := "writer.go:16", after := #[], guard := none }) (v := ?_) rfl (by kernel_rfl) (by kernel_rfl) (by kernel_rfl) (fun _ _ _ h => h) (Or.inl ⟨by rfl, ?_⟩) (by assumption) ?_
      rotate_left
      · intro w hSw
        clear hSw
        go_simp
        all_goals with_reducible rfl
      simp only [Act.put, List.setIfInBounds_toArray, List.set_cons_zero, List.set_cons_succ]
      refine wpAnyH_take (i := 2) (oi := { dst := some 15, op := Op.nilCheck (Operand.tmp 14), type := 0, pos := "writer.go:16", after := #[{ on := 1, ground := Ground.data }], guard := none }) (v := ?_) rfl (by kernel_rfl) (by kernel_rfl) (by kernel_rfl) (fun _ _ _ h => h) (Or.inl ⟨by rfl, ?_⟩) (by assumption) ?_
      rotate_left
      · intro w hSw
        clear hSw
        go_simp
        all_goals with_reducible rfl
      simp only [Act.put, List.setIfInBounds_toArray, List.set_cons_zero, List.set_cons_succ]
      refine wpAnyH_take (i := 3) (oi := { dst := some 16, op := Op.fieldAddr 78 (Operand.tmp 15) 0, type := 0, pos := "writer.go:16", after := #[{ on := 2, ground := Ground.data }], guard := none }) (v := ?_) rfl (by kernel_rfl) (by kernel_rfl) (by kernel_rfl) (fun _ _ _ h => h) (Or.inl ⟨by rfl, ?_⟩) (by assumption) ?_
      rotate_left
      · intro w hSw
        clear hSw
        go_simp
        all_goals with_reducible rfl
      simp only [Act.put, List.setIfInBounds_toArray, List.set_cons_zero, List.set_cons_succ]
      refine wpAnyH_take (i := 5) (oi := { dst := some 18, op := Op.move (Operand.tmp 1), type := 27, pos := "writer.go:16", after := #[], guard := none }) (v := ?_) rfl (by kernel_rfl) (by kernel_rfl) (by kernel_rfl) (fun _ _ _ h => h) (Or.inl ⟨by rfl, ?_⟩) (by assumption) ?_
      rotate_left
      · intro w hSw
        clear hSw
        go_simp
        all_goals with_reducible rfl
      simp only [Act.put, List.setIfInBounds_toArray, List.set_cons_zero, List.set_cons_succ]
      refine wpAnyH_take (i := 6) (oi := { dst := some 19, op := Op.move (Operand.tmp 6), type := 3, pos := "writer.go:16", after := #[], guard := none }) (v := ?_) rfl (by kernel_rfl) (by kernel_rfl) (by kernel_rfl) (fun _ _ _ h => h) (Or.inl ⟨by rfl, ?_⟩) (by assumption) ?_
      rotate_left
      · intro w hSw
        clear hSw
        go_simp
        all_goals with_reducible rfl
      simp only [Act.put, List.setIfInBounds_toArray, List.set_cons_zero, List.set_cons_succ]
      refine wpAnyH_take (i := 7) (oi := { dst := some 20, op := Op.binOp BinOp.sub 3 (Operand.tmp 19) (Operand.const (Value.int IntKind.i64 1)) 3, type := 3, pos := "writer.go:16", after := #[{ on := 6, ground := Ground.data }], guard := none }) (v := ?_) rfl (by kernel_rfl) (by kernel_rfl) (by kernel_rfl) (fun _ _ _ h => h) (Or.inl ⟨by rfl, ?_⟩) (by assumption) ?_
      rotate_left
      · intro w hSw
        clear hSw
        go_simp
        all_goals with_reducible rfl
      simp only [Act.put, List.setIfInBounds_toArray, List.set_cons_zero, List.set_cons_succ]
      refine wpAnyH_take (i := 8) (oi := { dst := some 21, op := Op.binOp BinOp.mul 3 (Operand.const (Value.int IntKind.i64 8)) (Operand.tmp 20) 3, type := 3, pos := "writer.go:16", after := #[{ on := 7, ground := Ground.data }], guard := none }) (v := ?_) rfl (by kernel_rfl) (by kernel_rfl) (by kernel_rfl) (fun _ _ _ h => h) (Or.inl ⟨by rfl, ?_⟩) (by assumption) ?_
      rotate_left
      · intro w hSw
        clear hSw
        go_simp
        all_goals with_reducible rfl
      simp only [Act.put, List.setIfInBounds_toArray, List.set_cons_zero, List.set_cons_succ]
      refine wpAnyH_take (i := 9) (oi := { dst := some 22, op := Op.binOp BinOp.shr 27 (Operand.tmp 18) (Operand.tmp 21) 3, type := 27, pos := "writer.go:16", after := #[{ on := 5, ground := Ground.data }, { on := 8, ground := Ground.data }], guard := none }) (v := ?_) rfl (by kernel_rfl) (by kernel_rfl) (by kernel_rfl) (fun _ _ _ h => h) (Or.inl ⟨by rfl, ?_⟩) (by assumption) ?_
      rotate_left
      · intro w hSw
        clear hSw
        go_simp
        all_goals with_reducible rfl
      simp only [Act.put, List.setIfInBounds_toArray, List.set_cons_zero, List.set_cons_succ]
      refine wpAnyH_take (i := 10) (oi := { dst := some 23, op := Op.convert 27 5 (Operand.tmp 22), type := 5, pos := "writer.go:16", after := #[{ on := 9, ground := Ground.data }], guard := none }) (v := ?_) rfl (by kernel_rfl) (by kernel_rfl) (by kernel_rfl) (fun _ _ _ h => h) (Or.inl ⟨by rfl, ?_⟩) (by assumption) ?_
      rotate_left
      · intro w hSw
        clear hSw
        go_simp
        all_goals with_reducible rfl
      simp only [Act.put, List.setIfInBounds_toArray, List.set_cons_zero, List.set_cons_succ]
      refine wpAnyH_ready (rs := [4, 11]) (by kernel_rfl) (by simp) ?_
      refine AllReadyH.cons (o := { dst := some 17, op := Op.load 24 (Operand.tmp 16), type := 24, pos := "writer.go:16", after := #[{ on := 3, ground := Ground.data }], guard := none }) rfl (fun K hK => ?_) ?_
      · skip
        have c0 := cells1 ROW.out
        go_simp
        refine hK.out _ _ trivial (fun hHeld => ?_)
        clear hK K c0
        try simp only [Act.put, List.setIfInBounds_toArray, List.set_cons_zero, List.set_cons_succ]
        refine wpAnyH_ready (rs := [11]) (by kernel_rfl) (by simp) ?_
        refine AllReadyH.cons (o := { dst := some 24, op := Op.buildSlice 24 1 #[(0, Operand.tmp 23)], type := 24, pos := "writer.go:16", after := #[{ on := 10, ground := Ground.data }], guard := none }) rfl (fun K hK => ?_) AllReadyH.nil
        go_simp
        refine hK.out _ _ trivial (fun hHeld => ?_)
        clear hK K 
        try simp only [Act.put, List.setIfInBounds_toArray, List.set_cons_zero, List.set_cons_succ]
        generalize hX : World.drew (World.alloc wr _) = X
        have rX : Hid (X.heap[g]? = some (.cells #[.slice ao acc.length c] 78 (0, 0))) := by rw [← hX]; exact (heap_alloc_old _ _ (block_lt_of_row ROW.out)).trans ROW.out
        have uX : Hid (URow X (.slice ao acc.length c) acc) := by rw [← hX]; exact UR.out.kept fun k hk => heap_alloc_old _ _ (UR.out.lt hk)
        have cX : Hid (Chg (fun k => k = g ∨ (Value.slice ao acc.length c).ownBlock = some k) wr X) := by rw [← hX]; exact ((Chg.refl _ _).alloc _).drew
        have nX : Hid (SliceAt X (.slice (some ⟨wr.heap.size, 0, none⟩) 1 1) [x]) := by rw [← hX]; exact (one_new wr x).of_heap rfl
        clear hX hHeld
        refine wpAnyH_ready (rs := [12]) (by kernel_rfl) (by simp) ?_
        refine step_append (o := { dst := some 25, op := Op.call { callee := Callee.builtin Builtin.append, args := #[Operand.tmp 17, Operand.tmp 24], argTypes := #[24, 24] }, type := 24, pos := "writer.go:16", after := #[{ on := 4, ground := Ground.data }, { on := 11, ground := Ground.data }], guard := none }) rfl rfl _ _ 24 24 rfl _ _ rfl rfl (run_append_row _ _ _ acc [x] 24 uX.out nX.out (by show acc.length + 1 ≤ 140737488355328; have := HB.out; omega)) AllReadyH.nil ?_
        rintro v2 Y ⟨hu, hg, ho⟩
        obtain ⟨ao2, c2, hv2⟩ := hu.shape
        simp only [List.length_append, List.length_singleton] at hv2
        subst hv2
        refine ⟨trivial, fun hHeld => ?_⟩
        try simp only [Act.put, List.setIfInBounds_toArray, List.set_cons_zero, List.set_cons_succ]
        have rY : Y.heap[g]? = some (.cells #[.slice ao acc.length c] 78 (0, 0)) := (hg.block g (block_lt_of_row rX.out) (fun e => SEP.out e.symm)).trans rX.out
        have Z := hide (WrIs.put SEP.out (block_lt_of_row ROW.out) rY hu (cX.out.grown hg (fun k _ h => Or.inr h)) (fun k hk => by rcases ho k hk with h' | h'; exact Or.inl h'; exact Or.inr (Nat.le_trans cX.out.size h')))
        have RY := hide rY
        clear rY hu hg ho rX uX cX nX
        refine wpAnyH_take (i := 13) (oi := { dst := some 26, op := Op.nilCheck (Operand.tmp 13), type := 0, pos := "writer.go:16", after := #[{ on := 0, ground := Ground.data }, { on := 0, ground := Ground.phase }, { on := 1, ground := Ground.phase }, { on := 2, ground := Ground.phase }, { on := 3, ground := Ground.phase }, { on := 4, ground := Ground.phase }, { on := 5, ground := Ground.phase }, { on := 6, ground := Ground.phase }, { on := 7, ground := Ground.phase }, { on := 8, ground := Ground.phase }, { on := 9, ground := Ground.phase }, { on := 10, ground := Ground.phase }, { on := 11, ground := Ground.phase }, { on := 12, ground := Ground.phase }], guard := none }) (v := ?_) rfl (by kernel_rfl) (by kernel_rfl) (by kernel_rfl) (fun _ _ _ h => h) (Or.inl ⟨by rfl, ?_⟩) (by assumption) ?_
        rotate_left
        · intro w hSw
          clear hSw
          go_simp
          all_goals with_reducible rfl
        simp only [Act.put, List.setIfInBounds_toArray, List.set_cons_zero, List.set_cons_succ]
        refine wpAnyH_take (i := 14) (oi := { dst := some 27, op := Op.fieldAddr 78 (Operand.tmp 26) 0, type := 0, pos := "writer.go:16", after := #[{ on := 13, ground := Ground.data }, { on := 0, ground := Ground.phase }, { on := 1, ground := Ground.phase }, { on := 2, ground := Ground.phase }, { on := 3, ground := Ground.phase }, { on := 4, ground := Ground.phase }, { on := 5, ground := Ground.phase }, { on := 6, ground := Ground.phase }, { on := 7, ground := Ground.phase }, { on := 8, ground := Ground.phase }, { on := 9, ground := Ground.phase }, { on := 10, ground := Ground.phase }, { on := 11, ground := Ground.phase }, { on := 12, ground := Ground.phase }], guard := none }) (v := ?_) rfl (by kernel_rfl) (by kernel_rfl) (by kernel_rfl) (fun _ _ _ h => h) (Or.inl ⟨by rfl, ?_⟩) (by assumption) ?_
        rotate_left
        · intro w hSw
          clear hSw
          go_simp
          all_goals with_reducible rfl
        simp only [Act.put, List.setIfInBounds_toArray, List.set_cons_zero, List.set_cons_succ]
        refine wpAnyH_ready (rs := [15]) (by kernel_rfl) (by simp) ?_
        refine AllReadyH.cons (o := { dst := none, op := Op.store 24 (Operand.tmp 27) (Operand.tmp 25), type := 0, pos := "writer.go:16", after := #[{ on := 14, ground := Ground.data }, { on := 12, ground := Ground.data }, { on := 12, ground := Ground.chain }, { on := 0, ground := Ground.phase }, { on := 1, ground := Ground.phase }, { on := 2, ground := Ground.phase }, { on := 3, ground := Ground.phase }, { on := 4, ground := Ground.phase }, { on := 5, ground := Ground.phase }, { on := 6, ground := Ground.phase }, { on := 7, ground := Ground.phase }, { on := 8, ground := Ground.phase }, { on := 9, ground := Ground.phase }, { on := 10, ground := Ground.phase }, { on := 11, ground := Ground.phase }, { on := 12, ground := Ground.phase }], guard := none }) rfl (fun K hK => ?_) AllReadyH.nil
        have c1 := cells1 RY.out
        have f1 := frozen_of_row _ _ 0 _ _ RY.out
        go_simp
        refine hK.out _ _ trivial (fun hHeld => ?_)
        clear hK K c1 f1
        try simp only [Act.put, List.setIfInBounds_toArray, List.set_cons_zero, List.set_cons_succ]
        refine wpAnyH_done (by kernel_rfl) ?_ _
        refine NoPanic.normal ?_
        clear hHeld RY
        go_wp2_with fail
        go_roundw
        case rel => exact ⟨m, _, acc ++ [x], by omega, by go_num, by rw [List.append_assoc]; exact HACC.out, by rw [List.length_append]; exact HAL.out, Z.out.1, TO.out.trans Z.out.2⟩
        case measure => simp [intOf]
      refine AllReadyH.cons (o := { dst := some 24, op := Op.buildSlice 24 1 #[(0, Operand.tmp 23)], type := 24, pos := "writer.go:16", after := #[{ on := 10, ground := Ground.data }], guard := none }) rfl (fun K hK => ?_) AllReadyH.nil
      go_simp
      refine hK.out _ _ trivial (fun hHeld => ?_)
      clear hK K 
      try simp only [Act.put, List.setIfInBounds_toArray, List.set_cons_zero, List.set_cons_succ]
      have rD : Hid ((World.alloc wr (.cells #[.int .u8 (x.toNat : Int)] 5)).heap[g]? = some (.cells #[.slice ao acc.length c] 78 (0, 0))) := (heap_alloc_old _ _ (block_lt_of_row ROW.out)).trans ROW.out
      refine wpAnyH_ready (rs := [4]) (by kernel_rfl) (by simp) ?_
      refine AllReadyH.cons (o := { dst := some 17, op := Op.load 24 (Operand.tmp 16), type := 24, pos := "writer.go:16", after := #[{ on := 3, ground := Ground.data }], guard := none }) rfl (fun K hK => ?_) AllReadyH.nil
      have c0 := cells1 rD.out
      go_simp
      refine hK.out _ _ trivial (fun hHeld => ?_)
      clear hK K c0 rD
      try simp only [Act.put, List.setIfInBounds_toArray, List.set_cons_zero, List.set_cons_succ]
      generalize hX : World.drew (World.alloc wr _) = X
      have rX : Hid (X.heap[g]? = some (.cells #[.slice ao acc.length c] 78 (0, 0))) := by rw [← hX]; exact (heap_alloc_old _ _ (block_lt_of_row ROW.out)).trans ROW.out
      have uX : Hid (URow X (.slice ao acc.length c) acc) := by rw [← hX]; exact UR.out.kept fun k hk => heap_alloc_old _ _ (UR.out.lt hk)
      have cX : Hid (Chg (fun k => k = g ∨ (Value.slice ao acc.length c).ownBlock = some k) wr X) := by rw [← hX]; exact ((Chg.refl _ _).alloc _).drew
      have nX : Hid (SliceAt X (.slice (some ⟨wr.heap.size, 0, none⟩) 1 1) [x]) := by rw [← hX]; exact (one_new wr x).of_heap rfl
      clear hX hHeld
      refine wpAnyH_ready (rs := [12]) (by kernel_rfl) (by simp) ?_
      refine step_append (o := { dst := some 25, op := Op.call { callee := Callee.builtin Builtin.append, args := #[Operand.tmp 17, Operand.tmp 24], argTypes := #[24, 24] }, type := 24, pos := "writer.go:16", after := #[{ on := 4, ground := Ground.data }, { on := 11, ground := Ground.data }], guard := none }) rfl rfl _ _ 24 24 rfl _ _ rfl rfl (run_append_row _ _ _ acc [x] 24 uX.out nX.out (by show acc.length + 1 ≤ 140737488355328; have := HB.out; omega)) AllReadyH.nil ?_
      rintro v2 Y ⟨hu, hg, ho⟩
      obtain ⟨ao2, c2, hv2⟩ := hu.shape
      simp only [List.length_append, List.length_singleton] at hv2
      subst hv2
      refine ⟨trivial, fun hHeld => ?_⟩
      try simp only [Act.put, List.setIfInBounds_toArray, List.set_cons_zero, List.set_cons_succ]
      have rY : Y.heap[g]? = some (.cells #[.slice ao acc.length c] 78 (0, 0)) := (hg.block g (block_lt_of_row rX.out) (fun e => SEP.out e.symm)).trans rX.out
      have Z := hide (WrIs.put SEP.out (block_lt_of_row ROW.out) rY hu (cX.out.grown hg (fun k _ h => Or.inr h)) (fun k hk => by rcases ho k hk with h' | h'; exact Or.inl h'; exact Or.inr (Nat.le_trans cX.out.size h')))
      have RY := hide rY
      clear rY hu hg ho rX uX cX nX
      refine wpAnyH_take (i := 13) (oi := { dst := some 26, op := Op.nilCheck (Operand.tmp 13), type := 0, pos := "writer.go:16", after := #[{ on := 0, ground := Ground.data }, { on := 0, ground := Ground.phase }, { on := 1, ground := Ground.phase }, { on := 2, ground := Ground.phase }, { on := 3, ground := Ground.phase }, { on := 4, ground := Ground.phase }, { on := 5, ground := Ground.phase }, { on := 6, ground := Ground.phase }, { on := 7, ground := Ground.phase }, { on := 8, ground := Ground.phase }, { on := 9, ground := Ground.phase }, { on := 10, ground := Ground.phase }, { on := 11, ground := Ground.phase }, { on := 12, ground := Ground.phase }], guard := none }) (v := ?_) rfl (by kernel_rfl) (by kernel_rfl) (by kernel_rfl) (fun _ _ _ h => h) (Or.inl ⟨by rfl, ?_⟩) (by assumption) ?_
      rotate_left
      · intro w hSw
        clear hSw
        go_simp
        all_goals with_reducible rfl
      simp only [Act.put, List.setIfInBounds_toArray, List.set_cons_zero, List.set_cons_succ]
      refine wpAnyH_take (i := 14) (oi := { dst := some 27, op := Op.fieldAddr 78 (Operand.tmp 26) 0, type := 0, pos := "writer.go:16", after := #[{ on := 13, ground := Ground.data }, { on := 0, ground := Ground.phase }, { on := 1, ground := Ground.phase }, { on := 2, ground := Ground.phase }, { on := 3, ground := Ground.phase }, { on := 4, ground := Ground.phase }, { on := 5, ground := Ground.phase }, { on := 6, ground := Ground.phase }, { on := 7, ground := Ground.phase }, { on := 8, ground := Ground.phase }, { on := 9, ground := Ground.phase }, { on := 10, ground := Ground.phase }, { on := 11, ground := Ground.phase }, { on := 12, ground := Ground.phase }], guard := none }) (v := ?_) rfl (by kernel_rfl) (by kernel_rfl) (by kernel_rfl) (fun _ _ _ h => h) (Or.inl ⟨by rfl, ?_⟩) (by assumption) ?_
      rotate_left
      · intro w hSw
        clear hSw
        go_simp
        all_goals with_reducible rfl
      simp only [Act.put, List.setIfInBounds_toArray, List.set_cons_zero, List.set_cons_succ]
      refine wpAnyH_ready (rs := [15]) (by kernel_rfl) (by simp) ?_
      refine AllReadyH.cons (o := { dst := none, op := Op.store 24 (Operand.tmp 27) (Operand.tmp 25), type := 0, pos := "writer.go:16", after := #[{ on := 14, ground := Ground.data }, { on := 12, ground := Ground.data }, { on := 12, ground := Ground.chain }, { on := 0, ground := Ground.phase }, { on := 1, ground := Ground.phase }, { on := 2, ground := Ground.phase }, { on := 3, ground := Ground.phase }, { on := 4, ground := Ground.phase }, { on := 5, ground := Ground.phase }, { on := 6, ground := Ground.phase }, { on := 7, ground := Ground.phase }, { on := 8, ground := Ground.phase }, { on := 9, ground := Ground.phase }, { on := 10, ground := Ground.phase }, { on := 11, ground := Ground.phase }, { on := 12, ground := Ground.phase }], guard := none }) rfl (fun K hK => ?_) AllReadyH.nil
      have c1 := cells1 RY.out
      have f1 := frozen_of_row _ _ 0 _ _ RY.out
      go_simp
      refine hK.out _ _ trivial (fun hHeld => ?_)
      clear hK K c1 f1
      try simp only [Act.put, List.setIfInBounds_toArray, List.set_cons_zero, List.set_cons_succ]
      refine wpAnyH_done (by kernel_rfl) ?_ _
      refine NoPanic.normal ?_
      clear hHeld RY
      go_wp2_with fail
      go_roundw
      case rel => exact ⟨m, _, acc ++ [x], by omega, by go_num, by rw [List.append_assoc]; exact HACC.out, by rw [List.length_append]; exact HAL.out, Z.out.1, TO.out.trans Z.out.2⟩
      case measure => simp [intOf]
    · obtain rfl : left = 0 := by omega
      have q1 : ¬ ((0 : Int) < ((0 : Nat) : Int)) := by omega
      have Z : Hid (WrIs wr g v1 (bs ++ S.num n (S.size k)) ∧ WrTo g v w v1 wr) := by
        rw [← HSZ.out, ← hacc, show S.num n 0 = [] from rfl, List.append_nil]
        exact ⟨hwr, hto⟩
      clear hacc hwr hto HW
      go_wp2_with fail
      go_end0
      exact ⟨rfl, _, Z.out.1, Z.out.2⟩
end Go.Proofs.YtdhaeepaemneaaaDoor
