/- numberSize brings a number between 1 and 8; copyOf answers a copy in memory of its own; nothing that was there changes. -/
import Derived.Test.YtlcilclhaahopaaDoorJoin
namespace Go.Proofs.YtlcilclhaahopaaDoor
open Go.RowKit
namespace S
/-- How many bytes a number has. -/
def size (k : Int) : Nat := (min (max k 1) 8).toNat
theorem size_ge (k : Int) : 1 ≤ size k := by unfold size; omega
theorem size_le (k : Int) : size k ≤ 8 := by unfold size; omega
theorem size_cast (k : Int) : (size k : Int) = min (max k 1) 8 := by unfold size; omega
end S
set_option maxHeartbeats 400000 in
theorem numberSize_any (k : Int) (w : World) :
   Calls Tryd.prog 64 #[.int .i64 k] w fun e w' => e = .returned (.int .i64 (S.size k : Int)) ∧ w = w' := by
  go_enter Tryd.func64, Tryd.ntmps64
  by_cases h1 : k < 1
  · have e : (S.size k : Int) = 1 := by rw [S.size_cast]; omega
    have HE := hide e
    clear e
    go_wp2
    go_ret
    exact ⟨by rw [HE.out]; rfl, rfl⟩
  · by_cases h8 : 8 < k
    · have e : (S.size k : Int) = 8 := by rw [S.size_cast]; omega
      have HE := hide e
      clear e
      go_wp2
      go_ret
      exact ⟨by rw [HE.out]; rfl, rfl⟩
    · have e : (S.size k : Int) = k := by rw [S.size_cast]; omega
      have HE := hide e
      clear e
      go_wp2
      go_ret
      exact ⟨by rw [HE.out]; rfl, rfl⟩
set_option maxHeartbeats 800000 in
set_option maxRecDepth 100000 in
theorem copyOf_any (v : Value) (bs : List UInt8) (w : World) (hv : SliceAt w v bs) :
   Calls Tryd.prog 67 #[v] w fun e w' => e = .returned (.slice (some ⟨w.heap.size, 0, none⟩) bs.length bs.length) ∧ w'.heap[w.heap.size]? = some (.cells (S.v8 bs) 5 (0, 0)) ∧ Below w.heap.size w w' := by
  obtain ⟨ao, len, cap, rfl, hlen, hmax, hsrc⟩ := hv.shape
  have hmk : ∀ w : World, (Instr.makeSlice 30 (.int .i64 (len : Int)) (.int .i64 (len : Int))).run Tryd.prog w = .ok (.slice (some ⟨w.heap.size, 0, none⟩) len len) (w.alloc (.cells (S.v8 (S.zeros len)) 5)) := fun w => make_bytes_big len (by omega) w
  have HS := hide hsrc
  have HN : Hid ((S.v8l bs).length = Nat.min len len) := by show (S.v8l bs).length = Nat.min len len; rw [S.v8l_length]; show _ = min _ _; omega
  have HF : Hid (0 + (S.v8l bs).length ≤ (S.v8l (S.zeros len)).length) := by show 0 + (S.v8l bs).length ≤ (S.v8l (S.zeros len)).length; rw [S.v8l_length, S.v8l_length, S.zeros_length]; omega
  have HNX : Hid (Below w.heap.size w (w.alloc (.cells (S.v8 (S.zeros len)) 5))) := (Below.refl _ _).alloc (Nat.le_refl _) _
  have HL := hide hlen
  clear hsrc hv hlen
  go_enter Tryd.func67, Tryd.ntmps67
  go_wp2_with (first | (refine wpList_copy_splice rfl (.tmp 7) (.tmp 8) 30 30 rfl 5 Tryd.underlying30 size5 _ _ _ _ _ _ rfl rfl w.heap.size 0 (S.v8l (S.zeros len)) 5 (heap_alloc_new _ _) (S.v8l bs) HN.out (copy_src _ HS.out HNX.out) HF.out (S.v8l_one _) w.heap.size (w.alloc (.cells (S.v8 (S.zeros len)) 5)) (Below.refl _ _) (Nat.le_refl _) ?_; intro w2 HG2 hB2; have HG3 := hide (spl_rowT HG2); clear HG2; have HN2 := hide (HNX.out.trans hB2); clear hB2))
  go_ret
  refine ⟨by rw [HL.out]; rfl, ?_, HN2.out⟩
  have e : splice (S.zeros len) 0 bs = bs := by rw [splice_front, show len - bs.length = 0 from by have := HL.out; omega]; simp [S.zeros]
  rw [← e]; exact HG3.out
end Go.Proofs.YtlcilclhaahopaaDoor
namespace Go.Proofs.YtlcilclhaahopaaDoor
open Go.RowKit
namespace S
/-- The lowest m bytes of n, the highest first. -/
def num (n : Nat) : Nat → List UInt8
  | 0 => []
  | m + 1 => UInt8.ofNat (n / 256 ^ m) :: num n m
theorem num_length (n m : Nat) : (num n m).length = m := by
  induction m with
  | zero => rfl
  | succ m ih => simp [num, ih]
end S
/-- The writer in block g has written bs; its text is v. -/
structure WrIs (w : World) (g : Nat) (v : Value) (bs : List UInt8) : Prop where
  row : w.heap[g]? = some (.cells #[v] 118 (0, 0))
  text : URow w v bs
  sep : v.ownBlock ≠ some g
/-- What a writer's calls change. -/
structure WrTo (g : Nat) (v : Value) (w : World) (v' : Value) (w' : World) : Prop where
  chg : Chg (fun k => k = g ∨ v.ownBlock = some k) w w'
  own : ∀ k, v'.ownBlock = some k → v.ownBlock = some k ∨ w.heap.size ≤ k
theorem WrTo.refl (g : Nat) (v : Value) (w : World) : WrTo g v w v w := ⟨Chg.refl _ _, fun _ h => Or.inl h⟩
theorem WrTo.trans {g : Nat} {v v1 v2 : Value} {w w1 w2 : World} (h : WrTo g v w v1 w1) (k : WrTo g v1 w1 v2 w2) : WrTo g v w v2 w2 :=
  ⟨h.chg.trans k.chg (fun j hj e => by
      rcases e with e | e
      · exact Or.inl e
      · rcases h.own j e with h' | h'
        · exact Or.inr h'
        · omega),
    fun j e => by
      rcases k.own j e with e | e
      · exact h.own j e
      · exact Or.inr (Nat.le_trans h.chg.size e)⟩
theorem WrIs.chg {p : Nat → Prop} {w W : World} {g : Nat} {v : Value} {bs : List UInt8} (h : WrIs w g v bs) (hc : Chg p w W) (hg : ¬ p g) (hv : ∀ k, v.ownBlock = some k → ¬ p k) : WrIs W g v bs :=
  ⟨hc.row h.row hg, h.text.chg hc hv, h.sep⟩
theorem WrIs.lt {w : World} {g : Nat} {v : Value} {bs : List UInt8} (h : WrIs w g v bs) : g < w.heap.size := block_lt_of_row h.row
/-- The writer behind an append and a store. -/
theorem WrIs.put {w X : World} {g : Nat} {v v' : Value} {bs xs : List UInt8} (hs : v.ownBlock ≠ some g) (hg : g < w.heap.size) (hr : X.heap[g]? = some (.cells #[v] 118 (0, 0))) (hu : URow X v' (bs ++ xs)) (hc : Chg (fun k => k = g ∨ v.ownBlock = some k) w X) (ho : ∀ k, v'.ownBlock = some k → v.ownBlock = some k ∨ w.heap.size ≤ k) :
    WrIs (X.setCell ⟨g, 0, none⟩ v') g v' (bs ++ xs) ∧ WrTo g v w v' (X.setCell ⟨g, 0, none⟩ v') := by
  have hne : ∀ k, v'.ownBlock = some k → k ≠ g := fun k hk e => by
    rcases ho k hk with h' | h'
    · exact hs (e ▸ h')
    · omega
  refine ⟨⟨?_, hu.kept fun k hk => heap_setCell_other _ _ _ _ (hne k hk), fun e => hne g e rfl⟩, ⟨hc.setCell g 0 v' (fun _ => Or.inl rfl), ho⟩⟩
  rw [heap_setCell_same _ _ _ _ _ _ hr]
  rfl
theorem newWriter_any (w : World) :
   Calls Tryd.prog 34 #[] w fun e w' => e = .returned (.pointer (some ⟨w.heap.size, 0, none⟩)) ∧ WrIs w' w.heap.size (.slice none 0 0) [] ∧ Below w.heap.size w w' := by
  go_enter Tryd.func34, Tryd.ntmps34
  go_wp2
  go_ret
  exact ⟨rfl, ⟨heap_alloc_new _ _, urow_nil _, by simp [Value.ownBlock]⟩, (Below.refl _ _).alloc (Nat.le_refl _) _⟩
theorem done_any (g : Nat) (v : Value) (bs : List UInt8) (w : World) (hw : WrIs w g v bs) (hb : bs.length ≤ 140737488355328) :
   Calls Tryd.prog 38 #[.pointer (some ⟨g, 0, none⟩)] w fun e w' => e = .returned (.slice (some ⟨w.heap.size, 0, none⟩) bs.length bs.length) ∧ w'.heap[w.heap.size]? = some (.cells (S.v8 bs) 5 (0, 0)) ∧ Below w.heap.size w w' := by
  have c0 := cells1 hw.row
  have SL := hide (hw.text.sliceAt hb)
  obtain ⟨ao, c, hv⟩ := hw.text.shape
  subst hv
  clear hw
  go_enter Tryd.func38, Tryd.ntmps38
  go_wp2_with fail
  refine (copyOf_any _ bs _ SL.out).mono ?_
  rintro e w1 ⟨rfl, h1, h2⟩
  have H1 := hide h1
  have H2 := hide h2
  clear h1 h2 c0
  go_wp2_with fail
  go_ret
  exact ⟨rfl, H1.out, H2.out⟩
theorem shr_byte (n m : Nat) (hm : m < 8) : IntKind.u8.wrap ((n : Int) / 2 ^ (8 * (m : Int)).toNat) = ((UInt8.ofNat (n / 256 ^ m)).toNat : Int) := by
  have e : (8 * (m : Int)).toNat = 8 * m := by omega
  rw [e, show (2 : Int) ^ (8 * m) = ((256 ^ m : Nat) : Int) from by rw [Int.pow_mul]; norm_cast, ← Int.natCast_ediv]
  generalize n / 256 ^ m = q
  rw [IntKind.wrap_u8', UInt8.toNat_ofNat']
  omega
theorem one_new (w : World) (x : UInt8) : SliceAt (w.alloc (.cells #[.int .u8 (x.toNat : Int)] 5)) (.slice (some ⟨w.heap.size, 0, none⟩) 1 1) [x] :=
  Or.inr (Or.inr ⟨w.heap.size, 0, 1, rfl, Nat.le_refl _, by simp, by simp, fun j hj => by
    obtain rfl : j = 0 := by simpa using hj
    exact cells1 (heap_alloc_new _ _)⟩)
set_option maxHeartbeats 1600000 in
set_option maxRecDepth 100000 in
theorem wnumber_any (g : Nat) (v : Value) (bs : List UInt8) (n : Nat) (k : Int) (w : World) (hw : WrIs w g v bs) (hb : bs.length + 8 ≤ 140737488355328) :
   Calls Tryd.prog 35 #[.pointer (some ⟨g, 0, none⟩), .int .u64 (n : Int), .int .i64 k] w fun e w' => e = .returned (.tuple #[]) ∧ ∃ v', WrIs w' g v' (bs ++ S.num n (S.size k)) ∧ WrTo g v w v' w' := by
  have HW := hide hw
  have HB := hide hb
  clear hw hb
  go_enter Tryd.func35, Tryd.ntmps35
  go_wp2_with fail
  refine (numberSize_any k w).mono ?_
  rintro e w1 ⟨rfl, rfl⟩
  obtain ⟨sz, hsz⟩ : ∃ sz, sz = S.size k := ⟨_, rfl⟩
  have hs8 : sz ≤ 8 := by rw [hsz]; exact S.size_le k
  rw [← hsz]
  have HSZ := hide hsz
  clear hsz
  go_wp2_with fail
  go_loopw [6] (fun i wr => ∃ (left : Nat) (v1 : Value) (acc : List UInt8), left ≤ sz ∧ i = .int .i64 (left : Int) ∧ acc ++ S.num n left = bs ++ S.num n sz ∧ acc.length + left ≤ bs.length + 8 ∧ WrIs wr g v1 acc ∧ WrTo g v w v1 wr) (fun i _ => (intOf i).toNat)
  case atStart => exact ⟨sz, v, bs, Nat.le_refl _, rfl, rfl, by omega, HW.out, WrTo.refl _ _ _⟩
  case round =>
    obtain ⟨left, v1, acc, hl, rfl, hacc, hal, hwr, hto⟩ := hrel
    by_cases h0 : 0 < left
    · obtain ⟨m, rfl⟩ : ∃ m, left = m + 1 := ⟨left - 1, by omega⟩
      have q1 : (0 : Int) < ((m + 1 : Nat) : Int) := by omega
      obtain ⟨ao, c, hv1⟩ := hwr.text.shape
      subst hv1
      obtain ⟨x, hx⟩ : ∃ x : UInt8, x = UInt8.ofNat (n / 256 ^ m) := ⟨_, rfl⟩
      have s1 := shr_byte n m (by omega)
      rw [← hx] at s1
      have HACC : Hid (acc ++ ([x] ++ S.num n m) = bs ++ S.num n sz) := by show acc ++ ([x] ++ S.num n m) = bs ++ S.num n sz; rw [← hacc, hx]; rfl
      have HAL : Hid (acc.length + [x].length + m ≤ bs.length + 8) := by show acc.length + 1 + m ≤ bs.length + 8; omega
      have w1 : IntKind.i64.wrap (m : Int) = (m : Int) := by rw [IntKind.wrap_i64]; omega
      have w2 : IntKind.i64.wrap (8 * (m : Int)) = 8 * (m : Int) := by rw [IntKind.wrap_i64]; omega
      have ROW := hide hwr.row
      have UR := hide hwr.text
      have SEP := hide hwr.sep
      have TO := hide hto
      clear hx hacc hwr hto HW
      go_wp2_with fail
      refine wp_region_noPanic ?_
      refine wp_region_held_drew (S := (fun _ => True)) follows trivial (fun hHeld => ?_)
      refine wpAnyH_take (i := 0) (oi := { dst := some 13, op := Op.move (Operand.tmp 0), type := 75, pos := "writer.go:16", after := #[], guard := none }) (v := ?_) rfl (by kernel_rfl) (by kernel_rfl) (by kernel_rfl) (fun _ _ _ h => h) (Or.inl ⟨by rfl, ?_⟩) (by assumption) ?_
      rotate_left
      · intro w hSw
        clear hSw
        go_simp
        all_goals with_reducible rfl
      simp only [Act.put, List.setIfInBounds_toArray, List.set_cons_zero, List.set_cons_succ]
      refine wpAnyH_take (i := 1) (oi := { dst := some 14, op := Op.move (Operand.tmp 0), type := 75, pos := "writer.go:16", after := #[], guard := none }) (v := ?_) rfl (by kernel_rfl) (by kernel_rfl) (by kernel_rfl) (fun _ _ _ h => h) (Or.inl ⟨by rfl, ?_⟩) (by assumption) ?_
      rotate_left
      · intro w hSw
        clear hSw
        go_simp
        all_goals with_reducible rfl
      simp only [Act.put, List.setIfInBounds_toArray, List.set_cons_zero, List.set_cons_succ]
      refine wpAnyH_take (i := 2) (oi := { dst := some 15, op := Op.nilCheck (Operand.tmp 14), type := 0, pos := "writer.go:16", after := #[{ on := 1, ground := Ground.data }], guard := none }) (v := ?_) rfl (by kernel_rfl) (by kernel_rfl) (by kernel_rfl) (fun _ _ _ h => h) (Or.inl ⟨by rfl, ?_⟩) (by assumption) ?_
      rotate_left
      · intro w hSw
        clear hSw
        go_simp
        all_goals with_reducible rfl
      simp only [Act.put, List.setIfInBounds_toArray, List.set_cons_zero, List.set_cons_succ]
      refine wpAnyH_take (i := 3) (oi := { dst := some 16, op := Op.fieldAddr 118 (Operand.tmp 15) 0, type := 0, pos := "writer.go:16", after := #[{ on := 2, ground := Ground.data }], guard := none }) (v := ?_) rfl (by kernel_rfl) (by kernel_rfl) (by kernel_rfl) (fun _ _ _ h => h) (Or.inl ⟨by rfl, ?_⟩) (by assumption) ?_
      rotate_left
      · intro w hSw
        clear hSw
        go_simp
        all_goals with_reducible rfl
      simp only [Act.put, List.setIfInBounds_toArray, List.set_cons_zero, List.set_cons_succ]
      refine wpAnyH_take (i := 5) (oi := { dst := some 18, op := Op.move (Operand.tmp 1), type := 46, pos := "writer.go:16", after := #[], guard := none }) (v := ?_) rfl (by kernel_rfl) (by kernel_rfl) (by kernel_rfl) (fun _ _ _ h => h) (Or.inl ⟨by rfl, ?_⟩) (by assumption) ?_
      rotate_left
      · intro w hSw
        clear hSw
        go_simp
        all_goals with_reducible rfl
      simp only [Act.put, List.setIfInBounds_toArray, List.set_cons_zero, List.set_cons_succ]
      refine wpAnyH_take (i := 6) (oi := { dst := some 19, op := Op.move (Operand.tmp 6), type := 3, pos := "writer.go:16", after := #[], guard := none }) (v := ?_) rfl (by kernel_rfl) (by kernel_rfl) (by kernel_rfl) (fun _ _ _ h => h) (Or.inl ⟨by rfl, ?_⟩) (by assumption) ?_
      rotate_left
      · intro w hSw
        clear hSw
        go_simp
        all_goals with_reducible rfl
      simp only [Act.put, List.setIfInBounds_toArray, List.set_cons_zero, List.set_cons_succ]
      refine wpAnyH_take (i := 7) (oi := { dst := some 20, op := Op.binOp BinOp.sub 3 (Operand.tmp 19) (Operand.const (Value.int IntKind.i64 1)) 3, type := 3, pos := "writer.go:16", after := #[{ on := 6, ground := Ground.data }], guard := none }) (v := ?_) rfl (by kernel_rfl) (by kernel_rfl) (by kernel_rfl) (fun _ _ _ h => h) (Or.inl ⟨by rfl, ?_⟩) (by assumption) ?_
      rotate_left
      · intro w hSw
        clear hSw
        go_simp
        all_goals with_reducible rfl
      simp only [Act.put, List.setIfInBounds_toArray, List.set_cons_zero, List.set_cons_succ]
      refine wpAnyH_take (i := 8) (oi := { dst := some 21, op := Op.binOp BinOp.mul 3 (Operand.const (Value.int IntKind.i64 8)) (Operand.tmp 20) 3, type := 3, pos := "writer.go:16", after := #[{ on := 7, ground := Ground.data }], guard := none }) (v := ?_) rfl (by kernel_rfl) (by kernel_rfl) (by kernel_rfl) (fun _ _ _ h => h) (Or.inl ⟨by rfl, ?_⟩) (by assumption) ?_
      rotate_left
      · intro w hSw
        clear hSw
        go_simp
        all_goals with_reducible rfl
      simp only [Act.put, List.setIfInBounds_toArray, List.set_cons_zero, List.set_cons_succ]
      refine wpAnyH_take (i := 9) (oi := { dst := some 22, op := Op.binOp BinOp.shr 46 (Operand.tmp 18) (Operand.tmp 21) 3, type := 46, pos := "writer.go:16", after := #[{ on := 5, ground := Ground.data }, { on := 8, ground := Ground.data }], guard := none }) (v := ?_) rfl (by kernel_rfl) (by kernel_rfl) (by kernel_rfl) (fun _ _ _ h => h) (Or.inl ⟨by rfl, ?_⟩) (by assumption) ?_
      rotate_left
      · intro w hSw
        clear hSw
        go_simp
        all_goals with_reducible rfl
      simp only [Act.put, List.setIfInBounds_toArray, List.set_cons_zero, List.set_cons_succ]
      refine wpAnyH_take (i := 10) (oi := { dst := some 23, op := Op.convert 46 5 (Operand.tmp 22), type := 5, pos := "writer.go:16", after := #[{ on := 9, ground := Ground.data }], guard := none }) (v := ?_) rfl (by kernel_rfl) (by kernel_rfl) (by kernel_rfl) (fun _ _ _ h => h) (Or.inl ⟨by rfl, ?_⟩) (by assumption) ?_
      rotate_left
      · intro w hSw
        clear hSw
        go_simp
        all_goals with_reducible rfl
      simp only [Act.put, List.setIfInBounds_toArray, List.set_cons_zero, List.set_cons_succ]
      refine wpAnyH_ready (rs := [4, 11]) (by kernel_rfl) (by simp) ?_
      refine AllReadyH.cons (o := { dst := some 17, op := Op.load 30 (Operand.tmp 16), type := 30, pos := "writer.go:16", after := #[{ on := 3, ground := Ground.data }], guard := none }) rfl (fun K hK => ?_) ?_
      · skip
        have c0 := cells1 ROW.out
        go_simp
        refine hK.out _ _ trivial (fun hHeld => ?_)
        clear hK K c0
        try simp only [Act.put, List.setIfInBounds_toArray, List.set_cons_zero, List.set_cons_succ]
        refine wpAnyH_ready (rs := [11]) (by kernel_rfl) (by simp) ?_
        refine AllReadyH.cons (o := { dst := some 24, op := Op.buildSlice 30 1 #[(0, Operand.tmp 23)], type := 30, pos := "writer.go:16", after := #[{ on := 10, ground := Ground.data }], guard := none }) rfl (fun K hK => ?_) AllReadyH.nil
        go_simp
        refine hK.out _ _ trivial (fun hHeld => ?_)
        clear hK K 
        try simp only [Act.put, List.setIfInBounds_toArray, List.set_cons_zero, List.set_cons_succ]
        generalize hX : World.drew (World.alloc wr _) = X
        have rX : Hid (X.heap[g]? = some (.cells #[.slice ao acc.length c] 118 (0, 0))) := by rw [← hX]; exact (heap_alloc_old _ _ (block_lt_of_row ROW.out)).trans ROW.out
        have uX : Hid (URow X (.slice ao acc.length c) acc) := by rw [← hX]; exact UR.out.kept fun k hk => heap_alloc_old _ _ (UR.out.lt hk)
        have cX : Hid (Chg (fun k => k = g ∨ (Value.slice ao acc.length c).ownBlock = some k) wr X) := by rw [← hX]; exact ((Chg.refl _ _).alloc _).drew
        have nX : Hid (SliceAt X (.slice (some ⟨wr.heap.size, 0, none⟩) 1 1) [x]) := by rw [← hX]; exact (one_new wr x).of_heap rfl
        clear hX hHeld
        refine wpAnyH_ready (rs := [12]) (by kernel_rfl) (by simp) ?_
        refine step_append (o := { dst := some 25, op := Op.call { callee := Callee.builtin Builtin.append, args := #[Operand.tmp 17, Operand.tmp 24], argTypes := #[30, 30] }, type := 30, pos := "writer.go:16", after := #[{ on := 4, ground := Ground.data }, { on := 11, ground := Ground.data }], guard := none }) rfl rfl _ _ 30 30 rfl _ _ rfl rfl (run_append_row _ _ _ acc [x] 30 uX.out nX.out (by show acc.length + 1 ≤ 140737488355328; have := HB.out; omega)) AllReadyH.nil ?_
        rintro v2 Y ⟨hu, hg, ho⟩
        obtain ⟨ao2, c2, hv2⟩ := hu.shape
        simp only [List.length_append, List.length_singleton] at hv2
        subst hv2
        refine ⟨trivial, fun hHeld => ?_⟩
        try simp only [Act.put, List.setIfInBounds_toArray, List.set_cons_zero, List.set_cons_succ]
        have rY : Y.heap[g]? = some (.cells #[.slice ao acc.length c] 118 (0, 0)) := (hg.block g (block_lt_of_row rX.out) (fun e => SEP.out e.symm)).trans rX.out
        have Z := hide (WrIs.put SEP.out (block_lt_of_row ROW.out) rY hu (cX.out.grown hg (fun k _ h => Or.inr h)) (fun k hk => by rcases ho k hk with h' | h'; exact Or.inl h'; exact Or.inr (Nat.le_trans cX.out.size h')))
        have RY := hide rY
        clear rY hu hg ho rX uX cX nX
        refine wpAnyH_take (i := 13) (oi := { dst := some 26, op := Op.nilCheck (Operand.tmp 13), type := 0, pos := "writer.go:16", after := #[{ on := 0, ground := Ground.data }, { on := 0, ground := Ground.phase }, { on := 1, ground := Ground.phase }, { on := 2, ground := Ground.phase }, { on := 3, ground := Ground.phase }, { on := 4, ground := Ground.phase }, { on := 5, ground := Ground.phase }, { on := 6, ground := Ground.phase }, { on := 7, ground := Ground.phase }, { on := 8, ground := Ground.phase }, { on := 9, ground := Ground.phase }, { on := 10, ground := Ground.phase }, { on := 11, ground := Ground.phase }, { on := 12, ground := Ground.phase }], guard := none }) (v := ?_) rfl (by kernel_rfl) (by kernel_rfl) (by kernel_rfl) (fun _ _ _ h => h) (Or.inl ⟨by rfl, ?_⟩) (by assumption) ?_
        rotate_left
        · intro w hSw
          clear hSw
          go_simp
          all_goals with_reducible rfl
        simp only [Act.put, List.setIfInBounds_toArray, List.set_cons_zero, List.set_cons_succ]
        refine wpAnyH_take (i := 14) (oi := { dst := some 27, op := Op.fieldAddr 118 (Operand.tmp 26) 0, type := 0, pos := "writer.go:16", after := #[{ on := 13, ground := Ground.data }, { on := 0, ground := Ground.phase }, { on := 1, ground := Ground.phase }, { on := 2, ground := Ground.phase }, { on := 3, ground := Ground.phase }, { on := 4, ground := Ground.phase }, { on := 5, ground := Ground.phase }, { on := 6, ground := Ground.phase }, { on := 7, ground := Ground.phase }, { on := 8, ground := Ground.phase }, { on := 9, ground := Ground.phase }, { on := 10, ground := Ground.phase }, { on := 11, ground := Ground.phase }, { on := 12, ground := Ground.phase }], guard := none }) (v := ?_) rfl (by kernel_rfl) (by kernel_rfl) (by kernel_rfl) (fun _ _ _ h => h) (Or.inl ⟨by rfl, ?_⟩) (by assumption) ?_
        rotate_left
        · intro w hSw
          clear hSw
          go_simp
          all_goals with_reducible rfl
        simp only [Act.put, List.setIfInBounds_toArray, List.set_cons_zero, List.set_cons_succ]
        refine wpAnyH_ready (rs := [15]) (by kernel_rfl) (by simp) ?_
        refine AllReadyH.cons (o := { dst := none, op := Op.store 30 (Operand.tmp 27) (Operand.tmp 25), type := 0, pos := "writer.go:16", after := #[{ on := 14, ground := Ground.data }, { on := 12, ground := Ground.data }, { on := 12, ground := Ground.chain }, { on := 0, ground := Ground.phase }, { on := 1, ground := Ground.phase }, { on := 2, ground := Ground.phase }, { on := 3, ground := Ground.phase }, { on := 4, ground := Ground.phase }, { on := 5, ground := Ground.phase }, { on := 6, ground := Ground.phase }, { on := 7, ground := Ground.phase }, { on := 8, ground := Ground.phase }, { on := 9, ground := Ground.phase }, { on := 10, ground := Ground.phase }, { on := 11, ground := Ground.phase }, { on := 12, ground := Ground.phase }], guard := none }) rfl (fun K hK => ?_) AllReadyH.nil
        have c1 := cells1 RY.out
        have f1 := frozen_of_row _ _ 0 _ _ RY.out
        go_simp
        refine hK.out _ _ trivial (fun hHeld => ?_)
        clear hK K c1 f1
        try simp only [Act.put, List.setIfInBounds_toArray, List.set_cons_zero, List.set_cons_succ]
        refine wpAnyH_done (by kernel_rfl) ?_ _
        refine NoPanic.normal ?_
        clear hHeld RY
        go_wp2_with fail
        go_roundw
        case rel => exact ⟨m, _, acc ++ [x], by omega, by go_num, by rw [List.append_assoc]; exact HACC.out, by rw [List.length_append]; exact HAL.out, Z.out.1, TO.out.trans Z.out.2⟩
        case measure => simp [intOf]
      refine AllReadyH.cons (o := { dst := some 24, op := Op.buildSlice 30 1 #[(0, Operand.tmp 23)], type := 30, pos := "writer.go:16", after := #[{ on := 10, ground := Ground.data }], guard := none }) rfl (fun K hK => ?_) AllReadyH.nil
      go_simp
      refine hK.out _ _ trivial (fun hHeld => ?_)
      clear hK K 
      try simp only [Act.put, List.setIfInBounds_toArray, List.set_cons_zero, List.set_cons_succ]
      have rD : Hid ((World.alloc wr (.cells #[.int .u8 (x.toNat : Int)] 5)).heap[g]? = some (.cells #[.slice ao acc.length c] 118 (0, 0))) := (heap_alloc_old _ _ (block_lt_of_row ROW.out)).trans ROW.out
      refine wpAnyH_ready (rs := [4]) (by kernel_rfl) (by simp) ?_
      refine AllReadyH.cons (o := { dst := some 17, op := Op.load 30 (Operand.tmp 16), type := 30, pos := "writer.go:16", after := #[{ on := 3, ground := Ground.data }], guard := none }) rfl (fun K hK => ?_) AllReadyH.nil
      have c0 := cells1 rD.out
      go_simp
      refine hK.out _ _ trivial (fun hHeld => ?_)
      clear hK K c0 rD
      try simp only [Act.put, List.setIfInBounds_toArray, List.set_cons_zero, List.set_cons_succ]
      generalize hX : World.drew (World.alloc wr _) = X
      have rX : Hid (X.heap[g]? = some (.cells #[.slice ao acc.length c] 118 (0, 0))) := by rw [← hX]; exact (heap_alloc_old _ _ (block_lt_of_row ROW.out)).trans ROW.out
      have uX : Hid (URow X (.slice ao acc.length c) acc) := by rw [← hX]; exact UR.out.kept fun k hk => heap_alloc_old _ _ (UR.out.lt hk)
      have cX : Hid (Chg (fun k => k = g ∨ (Value.slice ao acc.length c).ownBlock = some k) wr X) := by rw [← hX]; exact ((Chg.refl _ _).alloc _).drew
      have nX : Hid (SliceAt X (.slice (some ⟨wr.heap.size, 0, none⟩) 1 1) [x]) := by rw [← hX]; exact (one_new wr x).of_heap rfl
      clear hX hHeld
      refine wpAnyH_ready (rs := [12]) (by kernel_rfl) (by simp) ?_
      refine step_append (o := { dst := some 25, op := Op.call { callee := Callee.builtin Builtin.append, args := #[Operand.tmp 17, Operand.tmp 24], argTypes := #[30, 30] }, type := 30, pos := "writer.go:16", after := #[{ on := 4, ground := Ground.data }, { on := 11, ground := Ground.data }], guard := none }) rfl rfl _ _ 30 30 rfl _ _ rfl rfl (run_append_row _ _ _ acc [x] 30 uX.out nX.out (by show acc.length + 1 ≤ 140737488355328; have := HB.out; omega)) AllReadyH.nil ?_
      rintro v2 Y ⟨hu, hg, ho⟩
      obtain ⟨ao2, c2, hv2⟩ := hu.shape
      simp only [List.length_append, List.length_singleton] at hv2
      subst hv2
      refine ⟨trivial, fun hHeld => ?_⟩
      try simp only [Act.put, List.setIfInBounds_toArray, List.set_cons_zero, List.set_cons_succ]
      have rY : Y.heap[g]? = some (.cells #[.slice ao acc.length c] 118 (0, 0)) := (hg.block g (block_lt_of_row rX.out) (fun e => SEP.out e.symm)).trans rX.out
      have Z := hide (WrIs.put SEP.out (block_lt_of_row ROW.out) rY hu (cX.out.grown hg (fun k _ h => Or.inr h)) (fun k hk => by rcases ho k hk with h' | h'; exact Or.inl h'; exact Or.inr (Nat.le_trans cX.out.size h')))
      have RY := hide rY
      clear rY hu hg ho rX uX cX nX
      refine wpAnyH_take (i := 13) (oi := { dst := some 26, op := Op.nilCheck (Operand.tmp 13), type := 0, pos := "writer.go:16", after := #[{ on := 0, ground := Ground.data }, { on := 0, ground := Ground.phase }, { on := 1, ground := Ground.phase }, { on := 2, ground := Ground.phase }, { on := 3, ground := Ground.phase }, { on := 4, ground := Ground.phase }, { on := 5, ground := Ground.phase }, { on := 6, ground := Ground.phase }, { on := 7, ground := Ground.phase }, { on := 8, ground := Ground.phase }, { on := 9, ground := Ground.phase }, { on := 10, ground := Ground.phase }, { on := 11, ground := Ground.phase }, { on := 12, ground := Ground.phase }], guard := none }) (v := ?_) rfl (by kernel_rfl) (by kernel_rfl) (by kernel_rfl) (fun _ _ _ h => h) (Or.inl ⟨by rfl, ?_⟩) (by assumption) ?_
      rotate_left
      · intro w hSw
        clear hSw
        go_simp
        all_goals with_reducible rfl
      simp only [Act.put, List.setIfInBounds_toArray, List.set_cons_zero, List.set_cons_succ]
      refine wpAnyH_take (i := 14) (oi := { dst := some 27, op := Op.fieldAddr 118 (Operand.tmp 26) 0, type := 0, pos := "writer.go:16", after := #[{ on := 13, ground := Ground.data }, { on := 0, ground := Ground.phase }, { on := 1, ground := Ground.phase }, { on := 2, ground := Ground.phase }, { on := 3, ground := Ground.phase }, { on := 4, ground := Ground.phase }, { on := 5, ground := Ground.phase }, { on := 6, ground := Ground.phase }, { on := 7, ground := Ground.phase }, { on := 8, ground := Ground.phase }, { on := 9, ground := Ground.phase }, { on := 10, ground := Ground.phase }, { on := 11, ground := Ground.phase }, { on := 12, ground := Ground.phase }], guard := none }) (v := ?_) rfl (by kernel_rfl) (by kernel_rfl) (by kernel_rfl) (fun _ _ _ h => h) (Or.inl ⟨by rfl, ?_⟩) (by assumption) ?_
      rotate_left
      · intro w hSw
        clear hSw
        go_simp
        all_goals with_reducible rfl
      simp only [Act.put, List.setIfInBounds_toArray, List.set_cons_zero, List.set_cons_succ]
      refine wpAnyH_ready (rs := [15]) (by kernel_rfl) (by simp) ?_
      refine AllReadyH.cons (o := { dst := none, op := Op.store 30 (Operand.tmp 27) (Operand.tmp 25), type := 0, pos := "writer.go:16", after := #[{ on := 14, ground := Ground.data }, { on := 12, ground := Ground.data }, { on := 12, ground := Ground.chain }, { on := 0, ground := Ground.phase }, { on := 1, ground := Ground.phase }, { on := 2, ground := Ground.phase }, { on := 3, ground := Ground.phase }, { on := 4, ground := Ground.phase }, { on := 5, ground := Ground.phase }, { on := 6, ground := Ground.phase }, { on := 7, ground := Ground.phase }, { on := 8, ground := Ground.phase }, { on := 9, ground := Ground.phase }, { on := 10, ground := Ground.phase }, { on := 11, ground := Ground.phase }, { on := 12, ground := Ground.phase }], guard := none }) rfl (fun K hK => ?_) AllReadyH.nil
      have c1 := cells1 RY.out
      have f1 := frozen_of_row _ _ 0 _ _ RY.out
      go_simp
      refine hK.out _ _ trivial (fun hHeld => ?_)
      clear hK K c1 f1
      try simp only [Act.put, List.setIfInBounds_toArray, List.set_cons_zero, List.set_cons_succ]
      refine wpAnyH_done (by kernel_rfl) ?_ _
      refine NoPanic.normal ?_
      clear hHeld RY
      go_wp2_with fail
      go_roundw
      case rel => exact ⟨m, _, acc ++ [x], by omega, by go_num, by rw [List.append_assoc]; exact HACC.out, by rw [List.length_append]; exact HAL.out, Z.out.1, TO.out.trans Z.out.2⟩
      case measure => simp [intOf]
    · obtain rfl : left = 0 := by omega
      have q1 : ¬ ((0 : Int) < ((0 : Nat) : Int)) := by omega
      have Z : Hid (WrIs wr g v1 (bs ++ S.num n (S.size k)) ∧ WrTo g v w v1 wr) := by
        rw [← HSZ.out, ← hacc, show S.num n 0 = [] from rfl, List.append_nil]
        exact ⟨hwr, hto⟩
      clear hacc hwr hto HW
      go_wp2_with fail
      go_end0
      exact ⟨rfl, _, Z.out.1, Z.out.2⟩
end Go.Proofs.YtlcilclhaahopaaDoor
namespace Go.Proofs.YtlcilclhaahopaaDoor
open Go.RowKit
/-- A text as it is written: its count, and as many of its bytes. -/
def S.text (xs : List UInt8) : List UInt8 := S.num (xs.length % 65536) 2 ++ xs.take (xs.length % 65536)
theorem S.text_length (xs : List UInt8) : (S.text xs).length = 2 + xs.length % 65536 := by
  rw [S.text, List.length_append, S.num_length, List.length_take]
  have := Nat.mod_le xs.length 65536
  omega
/-- The slice u reads as xs, whatever becomes of the blocks of p. -/
def Stays (p : Nat → Prop) (w : World) (u : Value) (xs : List UInt8) : Prop := ∀ W, Chg p w W → SliceAt W u xs
theorem Stays.now {p : Nat → Prop} {w : World} {u : Value} {xs : List UInt8} (h : Stays p w u xs) : SliceAt w u xs := h w (Chg.refl _ _)
theorem stays_row {p : Nat → Prop} {w : World} {t : Nat} {xs : List UInt8} (h : w.heap[t]? = some (.cells (S.v8 xs) 5 (0, 0))) (hp : ¬ p t) (hl : xs.length ≤ 140737488355328) : Stays p w (.slice (some ⟨t, 0, none⟩) xs.length xs.length) xs := fun _ hc =>
  Or.inr (Or.inr ⟨t, 0, xs.length, rfl, Nat.le_refl _, hl, Nat.lt_of_lt_of_le (block_lt_of_row h) hc.size, fun j hj => by rw [Nat.zero_add]; exact v8_cell (hc.row h hp) j hj⟩)
theorem SliceAt.chg {w W : World} {v : Value} {xs : List UInt8} (h : SliceAt w v xs) (hb : ∀ k, k < w.heap.size → W.heap[k]? = w.heap[k]?) (hs : w.heap.size ≤ W.heap.size) : SliceAt W v xs := by
  rcases h with h | h | ⟨b, off, cap, e, h1, h2, h3, h4⟩
  · exact Or.inl h
  · exact Or.inr (Or.inl h)
  · exact Or.inr (Or.inr ⟨b, off, cap, e, h1, h2, Nat.lt_of_lt_of_le h3 hs, fun j hj => (World.cell?_of_block (hb b h3)).trans (h4 j hj)⟩)
/-- What lay there ahead of a base stays where only blocks from it on change. -/
theorem stays_old {p : Nat → Prop} {w0 w : World} {u : Value} {xs : List UInt8} (h : SliceAt w0 u xs) (hb : Below w0.heap.size w0 w) (hp : ∀ k, k < w0.heap.size → ¬ p k) : Stays p w u xs := fun _ hc =>
  h.chg (fun k hk => (hc.block k (Nat.lt_of_lt_of_le hk hb.size) (hp k hk)).trans (hb.block k hk)) (Nat.le_trans hb.size hc.size)
theorem size_2 : S.size 2 = 2 := by decide
set_option maxHeartbeats 1600000 in
set_option maxRecDepth 100000 in
theorem wdigest_any (g : Nat) (v : Value) (bs d : List UInt8) (w0 : World) (hd : d.length = 32) (hw : WrIs w0 g v bs) (hb : bs.length + 32 ≤ 140737488355328) :
   Calls Tryd.prog 42 #[.pointer (some ⟨g, 0, none⟩), .agg (S.v8 d)] w0 fun e w' => e = .returned (.tuple #[]) ∧ ∃ v', WrIs w' g v' (bs ++ d) ∧ WrTo g v w0 v' w' := by
  have HW := hide hw
  obtain ⟨accn, hn⟩ : ∃ n, n = bs.length := ⟨_, rfl⟩
  obtain ⟨acc, hacc⟩ : ∃ acc, acc = bs := ⟨_, rfl⟩
  obtain ⟨ao, c, hv1⟩ := hw.text.shape
  rw [← hn] at hv1
  subst hv1
  have LEN : Hid (acc.length + d.length ≤ 140737488355328) := by show acc.length + d.length ≤ 140737488355328; rw [hacc]; omega
  have HD := hide hd
  have HA := hide hacc
  clear hw hb hn hd hacc
  go_enter Tryd.func42, Tryd.ntmps42
  go_wp2_with fail
  generalize hW : w0.alloc _ = w1
  have r1 : w1.heap[w0.heap.size]? = some (.cells (S.v8 d) 25 (0, 0)) := by rw [← hW]; exact heap_alloc_new _ _
  have hc1 : Chg (fun k => k = g ∨ (Value.slice ao accn c).ownBlock = some k) w0 w1 := by rw [← hW]; exact (Chg.refl _ _).alloc _
  have hb1 : Below w0.heap.size w0 w1 := by rw [← hW]; exact (Below.refl _ _).alloc (Nat.le_refl _) _
  have hw1 : WrIs w1 g (.slice ao accn c) acc := by rw [HA.out]; exact HW.out.chg (p := fun _ => False) (Chg.ofBelow' hb1) (fun e => e) (fun _ _ e => e)
  have ROW := hide hw1.row
  have UR := hide hw1.text
  have SEP := hide hw1.sep
  have TO : Hid (WrTo g (.slice ao accn c) w0 (.slice ao accn c) w1) := ⟨hc1, fun k hk => Or.inl hk⟩
  have SX : Hid (SliceAt w1 (.slice (some ⟨w0.heap.size, 0, none⟩) 32 32) d) := Or.inr (Or.inr ⟨w0.heap.size, 0, 32, by rw [HD.out], by rw [HD.out]; omega, by rw [HD.out]; omega, block_lt_of_row r1, fun j hj => by rw [Nat.zero_add]; exact v8_cell r1 j hj⟩)
  clear hW r1 hc1 hb1 hw1 HW
  generalize w0.heap.size = gd at *
  refine wp_region_noPanic ?_
  refine wp_region_held_drew (S := (fun _ => True)) follows trivial (fun hHeld => ?_)
  refine wpAnyH_take (i := 0) (oi := { dst := some 4, op := Op.move (Operand.tmp 0), type := 75, pos := "writer.go:29", after := #[], guard := none }) (v := ?_) rfl (by kernel_rfl) (by kernel_rfl) (by kernel_rfl) (fun _ _ _ h => h) (Or.inl ⟨by rfl, ?_⟩) (by assumption) ?_
  rotate_left
  · intro w hSw
    clear hSw
    go_simp
    all_goals with_reducible rfl
  simp only [Act.put, List.setIfInBounds_toArray, List.set_cons_zero, List.set_cons_succ]
  refine wpAnyH_take (i := 1) (oi := { dst := some 5, op := Op.move (Operand.tmp 0), type := 75, pos := "writer.go:29", after := #[], guard := none }) (v := ?_) rfl (by kernel_rfl) (by kernel_rfl) (by kernel_rfl) (fun _ _ _ h => h) (Or.inl ⟨by rfl, ?_⟩) (by assumption) ?_
  rotate_left
  · intro w hSw
    clear hSw
    go_simp
    all_goals with_reducible rfl
  simp only [Act.put, List.setIfInBounds_toArray, List.set_cons_zero, List.set_cons_succ]
  refine wpAnyH_take (i := 2) (oi := { dst := some 6, op := Op.nilCheck (Operand.tmp 5), type := 0, pos := "writer.go:29", after := #[{ on := 1, ground := Ground.data }], guard := none }) (v := ?_) rfl (by kernel_rfl) (by kernel_rfl) (by kernel_rfl) (fun _ _ _ h => h) (Or.inl ⟨by rfl, ?_⟩) (by assumption) ?_
  rotate_left
  · intro w hSw
    clear hSw
    go_simp
    all_goals with_reducible rfl
  simp only [Act.put, List.setIfInBounds_toArray, List.set_cons_zero, List.set_cons_succ]
  refine wpAnyH_take (i := 3) (oi := { dst := some 7, op := Op.fieldAddr 118 (Operand.tmp 6) 0, type := 0, pos := "writer.go:29", after := #[{ on := 2, ground := Ground.data }], guard := none }) (v := ?_) rfl (by kernel_rfl) (by kernel_rfl) (by kernel_rfl) (fun _ _ _ h => h) (Or.inl ⟨by rfl, ?_⟩) (by assumption) ?_
  rotate_left
  · intro w hSw
    clear hSw
    go_simp
    all_goals with_reducible rfl
  simp only [Act.put, List.setIfInBounds_toArray, List.set_cons_zero, List.set_cons_succ]
  refine wpAnyH_take (i := 5) (oi := { dst := some 9, op := Op.slice 25 (Operand.tmp 3) none none none, type := 30, pos := "writer.go:29", after := #[], guard := none }) (v := ?_) rfl (by kernel_rfl) (by kernel_rfl) (by kernel_rfl) (fun _ _ _ h => h) (Or.inl ⟨by rfl, ?_⟩) (by assumption) ?_
  rotate_left
  · intro w hSw
    clear hSw
    go_simp
    all_goals with_reducible rfl
  simp only [Act.put, List.setIfInBounds_toArray, List.set_cons_zero, List.set_cons_succ]
  refine wpAnyH_ready (rs := [4]) (by kernel_rfl) (by simp) ?_
  refine AllReadyH.cons (o := { dst := some 8, op := Op.load 30 (Operand.tmp 7), type := 30, pos := "writer.go:29", after := #[{ on := 3, ground := Ground.data }], guard := none }) rfl (fun K hK => ?_) AllReadyH.nil
  have c0 := cells1 ROW.out
  go_simp
  refine hK.out _ _ trivial (fun hHeld => ?_)
  clear hK K c0
  try simp only [Act.put, List.setIfInBounds_toArray, List.set_cons_zero, List.set_cons_succ]
  refine wpAnyH_ready (rs := [6]) (by kernel_rfl) (by simp) ?_
  refine step_append (o := { dst := some 10, op := Op.call { callee := Callee.builtin Builtin.append, args := #[Operand.tmp 8, Operand.tmp 9], argTypes := #[30, 30] }, type := 30, pos := "writer.go:29", after := #[{ on := 4, ground := Ground.data }, { on := 5, ground := Ground.data }], guard := none }) rfl rfl _ _ 30 30 rfl _ _ rfl rfl (run_append_row _ _ _ acc d 30 UR.out SX.out LEN.out) AllReadyH.nil ?_
  rintro v2 Y ⟨hu, hg, ho⟩
  obtain ⟨ao2, c2, hv2⟩ := hu.shape
  generalize hLL : List.length (acc ++ _) = LL at hv2
  subst hv2
  refine ⟨trivial, fun hHeld => ?_⟩
  try simp only [Act.put, List.setIfInBounds_toArray, List.set_cons_zero, List.set_cons_succ]
  have rY : Y.heap[g]? = some (.cells #[.slice ao accn c] 118 (0, 0)) := (hg.block g (block_lt_of_row ROW.out) (fun e => SEP.out e.symm)).trans ROW.out
  have Z := hide (WrIs.put SEP.out (block_lt_of_row ROW.out) rY hu (((Chg.refl _ w1).drew).grown hg (fun k _ h => Or.inr h)) ho)
  have RY := hide rY
  clear rY hu hg ho hLL
  refine wpAnyH_take (i := 7) (oi := { dst := some 11, op := Op.nilCheck (Operand.tmp 4), type := 0, pos := "writer.go:29", after := #[{ on := 0, ground := Ground.data }, { on := 0, ground := Ground.phase }, { on := 1, ground := Ground.phase }, { on := 2, ground := Ground.phase }, { on := 3, ground := Ground.phase }, { on := 4, ground := Ground.phase }, { on := 5, ground := Ground.phase }, { on := 6, ground := Ground.phase }], guard := none }) (v := ?_) rfl (by kernel_rfl) (by kernel_rfl) (by kernel_rfl) (fun _ _ _ h => h) (Or.inl ⟨by rfl, ?_⟩) (by assumption) ?_
  rotate_left
  · intro w hSw
    clear hSw
    go_simp
    all_goals with_reducible rfl
  simp only [Act.put, List.setIfInBounds_toArray, List.set_cons_zero, List.set_cons_succ]
  refine wpAnyH_take (i := 8) (oi := { dst := some 12, op := Op.fieldAddr 118 (Operand.tmp 11) 0, type := 0, pos := "writer.go:29", after := #[{ on := 7, ground := Ground.data }, { on := 0, ground := Ground.phase }, { on := 1, ground := Ground.phase }, { on := 2, ground := Ground.phase }, { on := 3, ground := Ground.phase }, { on := 4, ground := Ground.phase }, { on := 5, ground := Ground.phase }, { on := 6, ground := Ground.phase }], guard := none }) (v := ?_) rfl (by kernel_rfl) (by kernel_rfl) (by kernel_rfl) (fun _ _ _ h => h) (Or.inl ⟨by rfl, ?_⟩) (by assumption) ?_
  rotate_left
  · intro w hSw
    clear hSw
    go_simp
    all_goals with_reducible rfl
  simp only [Act.put, List.setIfInBounds_toArray, List.set_cons_zero, List.set_cons_succ]
  refine wpAnyH_ready (rs := [9]) (by kernel_rfl) (by simp) ?_
  refine AllReadyH.cons (o := { dst := none, op := Op.store 30 (Operand.tmp 12) (Operand.tmp 10), type := 0, pos := "writer.go:29", after := #[{ on := 8, ground := Ground.data }, { on := 6, ground := Ground.data }, { on := 6, ground := Ground.chain }, { on := 0, ground := Ground.phase }, { on := 1, ground := Ground.phase }, { on := 2, ground := Ground.phase }, { on := 3, ground := Ground.phase }, { on := 4, ground := Ground.phase }, { on := 5, ground := Ground.phase }, { on := 6, ground := Ground.phase }], guard := none }) rfl (fun K hK => ?_) AllReadyH.nil
  have c1 := cells1 RY.out
  have f1 := frozen_of_row _ _ 0 _ _ RY.out
  go_simp
  refine hK.out _ _ trivial (fun hHeld => ?_)
  clear hK K c1 f1
  try simp only [Act.put, List.setIfInBounds_toArray, List.set_cons_zero, List.set_cons_succ]
  refine wpAnyH_done (by kernel_rfl) ?_ _
  refine NoPanic.normal ?_
  clear hHeld RY
  go_wp2_with fail
  go_end0
  exact ⟨rfl, _, by rw [← HA.out]; exact Z.out.1, TO.out.trans Z.out.2⟩
end Go.Proofs.YtlcilclhaahopaaDoor
