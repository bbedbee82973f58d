/- numberSize brings a number between 1 and 8; copyOf answers a copy in memory of its own; nothing that was there changes. -/
/- A Writer: what is written is behind what was written; only the writer's own memory changes. -/
/- A Writer's Bytes and Digest: what is written is behind what was written; only the writer's own memory changes. -/
/- A Reader: its state, refused, refuse, take: what they answer is the plain function's; only the reader's own block changes. -/
import Derived.Test.YthjlhngjpbmieaaGreatDoorGa
namespace Go.Proofs.YthjlhngjpbmieaaGreatDoor
open Go.RowKit
namespace S
/-- How many bytes a number has. -/
def size (k : Int) : Nat := (min (max k 1) 8).toNat
theorem size_le (k : Int) : size k ≤ 8 := by unfold size; omega
theorem size_cast (k : Int) : (size k : Int) = min (max k 1) 8 := by unfold size; omega
end S
set_option maxHeartbeats 400000 in
theorem numberSize_any (k : Int) (w : World) :
   Calls Tryz.prog 105 #[.int .i64 k] w fun e w' => e = .returned (.int .i64 (S.size k : Int)) ∧ w = w' := by
  go_enter Tryz.func105, Tryz.ntmps105
  by_cases h1 : k < 1
  · have e : (S.size k : Int) = 1 := by rw [S.size_cast]; omega
    have HE := hide e
    clear e
    go_wp2
    go_ret
    exact ⟨by rw [HE.out]; rfl, rfl⟩
  · by_cases h8 : 8 < k
    · have e : (S.size k : Int) = 8 := by rw [S.size_cast]; omega
      have HE := hide e
      clear e
      go_wp2
      go_ret
      exact ⟨by rw [HE.out]; rfl, rfl⟩
    · have e : (S.size k : Int) = k := by rw [S.size_cast]; omega
      have HE := hide e
      clear e
      go_wp2
      go_ret
      exact ⟨by rw [HE.out]; rfl, rfl⟩
set_option maxHeartbeats 800000 in
set_option maxRecDepth 100000 in
theorem copyOf_any (v : Value) (bs : List UInt8) (w : World) (hv : SliceAt w v bs) :
   Calls Tryz.prog 106 #[v] w fun e w' => e = .returned (.slice (some ⟨w.heap.size, 0, none⟩) bs.length bs.length) ∧ w'.heap[w.heap.size]? = some (.cells (S.v8 bs) 5 (0, 0)) ∧ Below w.heap.size w w' := by
  obtain ⟨ao, len, cap, rfl, hlen, hmax, hsrc⟩ := hv.shape
  have hmk : ∀ w : World, (Instr.makeSlice 31 (.int .i64 (len : Int)) (.int .i64 (len : Int))).run Tryz.prog w = .ok (.slice (some ⟨w.heap.size, 0, none⟩) len len) (w.alloc (.cells (S.v8 (S.zeros len)) 5)) := fun w => make_bytes_big len (by omega) w
  have HS := hide hsrc
  have HN : Hid ((S.v8l bs).length = Nat.min len len) := by show (S.v8l bs).length = Nat.min len len; rw [S.v8l_length]; show _ = min _ _; omega
  have HF : Hid (0 + (S.v8l bs).length ≤ (S.v8l (S.zeros len)).length) := by show 0 + (S.v8l bs).length ≤ (S.v8l (S.zeros len)).length; rw [S.v8l_length, S.v8l_length, S.zeros_length]; omega
  have HNX : Hid (Below w.heap.size w (w.alloc (.cells (S.v8 (S.zeros len)) 5))) := (Below.refl _ _).alloc (Nat.le_refl _) _
  have HL := hide hlen
  clear hsrc hv hlen
  go_enter Tryz.func106, Tryz.ntmps106
  go_wp2_with (first | (refine wpList_copy_splice rfl (.tmp 7) (.tmp 8) 31 31 rfl 5 Tryz.underlying31 size5 _ _ _ _ _ _ rfl rfl w.heap.size 0 (S.v8l (S.zeros len)) 5 (heap_alloc_new _ _) (S.v8l bs) HN.out (copy_src _ HS.out HNX.out) HF.out (S.v8l_one _) w.heap.size (w.alloc (.cells (S.v8 (S.zeros len)) 5)) (Below.refl _ _) (Nat.le_refl _) ?_; intro w2 HG2 hB2; have HG3 := hide (spl_rowT HG2); clear HG2; have HN2 := hide (HNX.out.trans hB2); clear hB2))
  go_ret
  refine ⟨by rw [HL.out]; rfl, ?_, HN2.out⟩
  have e : splice (S.zeros len) 0 bs = bs := by rw [splice_front, show len - bs.length = 0 from by have := HL.out; omega]; simp [S.zeros]
  rw [← e]; exact HG3.out
end Go.Proofs.YthjlhngjpbmieaaGreatDoor
namespace Go.Proofs.YthjlhngjpbmieaaGreatDoor
open Go.RowKit
namespace S
/-- The lowest m bytes of n, the highest first. -/
def num (n : Nat) : Nat → List UInt8
  | 0 => []
  | m + 1 => UInt8.ofNat (n / 256 ^ m) :: num n m
theorem num_length (n m : Nat) : (num n m).length = m := by
  induction m with
  | zero => rfl
  | succ m ih => simp [num, ih]
end S
/-- The writer in block g has written bs; its text is v. -/
structure WrIs (w : World) (g : Nat) (v : Value) (bs : List UInt8) : Prop where
  row : w.heap[g]? = some (.cells #[v] 160 (0, 0))
  text : URow w v bs
  sep : v.ownBlock ≠ some g
/-- What a writer's calls change. -/
structure WrTo (g : Nat) (v : Value) (w : World) (v' : Value) (w' : World) : Prop where
  chg : Chg (fun k => k = g ∨ v.ownBlock = some k) w w'
  own : ∀ k, v'.ownBlock = some k → v.ownBlock = some k ∨ w.heap.size ≤ k
theorem WrTo.refl (g : Nat) (v : Value) (w : World) : WrTo g v w v w := ⟨Chg.refl _ _, fun _ h => Or.inl h⟩
theorem WrTo.trans {g : Nat} {v v1 v2 : Value} {w w1 w2 : World} (h : WrTo g v w v1 w1) (k : WrTo g v1 w1 v2 w2) : WrTo g v w v2 w2 :=
  ⟨h.chg.trans k.chg (fun j hj e => by
      rcases e with e | e
      · exact Or.inl e
      · rcases h.own j e with h' | h'
        · exact Or.inr h'
        · omega),
    fun j e => by
      rcases k.own j e with e | e
      · exact h.own j e
      · exact Or.inr (Nat.le_trans h.chg.size e)⟩
theorem WrIs.chg {p : Nat → Prop} {w W : World} {g : Nat} {v : Value} {bs : List UInt8} (h : WrIs w g v bs) (hc : Chg p w W) (hg : ¬ p g) (hv : ∀ k, v.ownBlock = some k → ¬ p k) : WrIs W g v bs :=
  ⟨hc.row h.row hg, h.text.chg hc hv, h.sep⟩
/-- The writer behind an append and a store. -/
theorem WrIs.put {w X : World} {g : Nat} {v v' : Value} {bs xs : List UInt8} (hs : v.ownBlock ≠ some g) (hg : g < w.heap.size) (hr : X.heap[g]? = some (.cells #[v] 160 (0, 0))) (hu : URow X v' (bs ++ xs)) (hc : Chg (fun k => k = g ∨ v.ownBlock = some k) w X) (ho : ∀ k, v'.ownBlock = some k → v.ownBlock = some k ∨ w.heap.size ≤ k) :
    WrIs (X.setCell ⟨g, 0, none⟩ v') g v' (bs ++ xs) ∧ WrTo g v w v' (X.setCell ⟨g, 0, none⟩ v') := by
  have hne : ∀ k, v'.ownBlock = some k → k ≠ g := fun k hk e => by
    rcases ho k hk with h' | h'
    · exact hs (e ▸ h')
    · omega
  refine ⟨⟨?_, hu.kept fun k hk => heap_setCell_other _ _ _ _ (hne k hk), fun e => hne g e rfl⟩, ⟨hc.setCell g 0 v' (fun _ => Or.inl rfl), ho⟩⟩
  rw [heap_setCell_same _ _ _ _ _ _ hr]
  rfl
theorem newWriter_any (w : World) :
   Calls Tryz.prog 75 #[] w fun e w' => e = .returned (.pointer (some ⟨w.heap.size, 0, none⟩)) ∧ WrIs w' w.heap.size (.slice none 0 0) [] ∧ Below w.heap.size w w' := by
  go_enter Tryz.func75, Tryz.ntmps75
  go_wp2
  go_ret
  exact ⟨rfl, ⟨heap_alloc_new _ _, urow_nil _, by simp [Value.ownBlock]⟩, (Below.refl _ _).alloc (Nat.le_refl _) _⟩
theorem done_any (g : Nat) (v : Value) (bs : List UInt8) (w : World) (hw : WrIs w g v bs) (hb : bs.length ≤ 140737488355328) :
   Calls Tryz.prog 77 #[.pointer (some ⟨g, 0, none⟩)] w fun e w' => e = .returned (.slice (some ⟨w.heap.size, 0, none⟩) bs.length bs.length) ∧ w'.heap[w.heap.size]? = some (.cells (S.v8 bs) 5 (0, 0)) ∧ Below w.heap.size w w' := by
  have c0 := cells1 hw.row
  have SL := hide (hw.text.sliceAt hb)
  obtain ⟨ao, c, hv⟩ := hw.text.shape
  subst hv
  clear hw
  go_enter Tryz.func77, Tryz.ntmps77
  go_wp2_with fail
  refine (copyOf_any _ bs _ SL.out).mono ?_
  rintro e w1 ⟨rfl, h1, h2⟩
  have H1 := hide h1
  have H2 := hide h2
  clear h1 h2 c0
  go_wp2_with fail
  go_ret
  exact ⟨rfl, H1.out, H2.out⟩
theorem shr_byte (n m : Nat) (hm : m < 8) : IntKind.u8.wrap ((n : Int) / 2 ^ (8 * (m : Int)).toNat) = ((UInt8.ofNat (n / 256 ^ m)).toNat : Int) := by
  have e : (8 * (m : Int)).toNat = 8 * m := by omega
  rw [e, show (2 : Int) ^ (8 * m) = ((256 ^ m : Nat) : Int) from by rw [Int.pow_mul]; norm_cast, ← Int.natCast_ediv]
  generalize n / 256 ^ m = q
  rw [IntKind.wrap_u8', UInt8.toNat_ofNat']
  omega
theorem one_new (w : World) (x : UInt8) : SliceAt (w.alloc (.cells #[.int .u8 (x.toNat : Int)] 5)) (.slice (some ⟨w.heap.size, 0, none⟩) 1 1) [x] :=
  Or.inr (Or.inr ⟨w.heap.size, 0, 1, rfl, Nat.le_refl _, by simp, by simp, fun j hj => by
    obtain rfl : j = 0 := by simpa using hj
    exact cells1 (heap_alloc_new _ _)⟩)
set_option maxHeartbeats 1600000 in
set_option maxRecDepth 100000 in
theorem wnumber_any (g : Nat) (v : Value) (bs : List UInt8) (n : Nat) (k : Int) (w : World) (hw : WrIs w g v bs) (hb : bs.length + 8 ≤ 140737488355328) :
   Calls Tryz.prog 76 #[.pointer (some ⟨g, 0, none⟩), .int .u64 (n : Int), .int .i64 k] w fun e w' => e = .returned (.tuple #[]) ∧ ∃ v', WrIs w' g v' (bs ++ S.num n (S.size k)) ∧ WrTo g v w v' w' := by
  have HW := hide hw
  have HB := hide hb
  clear hw hb
  go_enter Tryz.func76, Tryz.ntmps76
  go_wp2_with fail
  refine (numberSize_any k w).mono ?_
  rintro e w1 ⟨rfl, rfl⟩
  obtain ⟨sz, hsz⟩ : ∃ sz, sz = S.size k := ⟨_, rfl⟩
  have hs8 : sz ≤ 8 := by rw [hsz]; exact S.size_le k
  rw [← hsz]
  have HSZ := hide hsz
  clear hsz
  go_wp2_with fail
  go_loopw [6] (fun i wr => ∃ (left : Nat) (v1 : Value) (acc : List UInt8), left ≤ sz ∧ i = .int .i64 (left : Int) ∧ acc ++ S.num n left = bs ++ S.num n sz ∧ acc.length + left ≤ bs.length + 8 ∧ WrIs wr g v1 acc ∧ WrTo g v w v1 wr) (fun i _ => (intOf i).toNat)
  case atStart => exact ⟨sz, v, bs, Nat.le_refl _, rfl, rfl, by omega, HW.out, WrTo.refl _ _ _⟩
  case round =>
    obtain ⟨left, v1, acc, hl, rfl, hacc, hal, hwr, hto⟩ := hrel
    by_cases h0 : 0 < left
    · obtain ⟨m, rfl⟩ : ∃ m, left = m + 1 := ⟨left - 1, by omega⟩
      have q1 : (0 : Int) < ((m + 1 : Nat) : Int) := by omega
      obtain ⟨ao, c, hv1⟩ := hwr.text.shape
      subst hv1
      obtain ⟨x, hx⟩ : ∃ x : UInt8, x = UInt8.ofNat (n / 256 ^ m) := ⟨_, rfl⟩
      have s1 := shr_byte n m (by omega)
      rw [← hx] at s1
      have HACC : Hid (acc ++ ([x] ++ S.num n m) = bs ++ S.num n sz) := by show acc ++ ([x] ++ S.num n m) = bs ++ S.num n sz; rw [← hacc, hx]; rfl
      have HAL : Hid (acc.length + [x].length + m ≤ bs.length + 8) := by show acc.length + 1 + m ≤ bs.length + 8; omega
      have w1 : IntKind.i64.wrap (m : Int) = (m : Int) := by rw [IntKind.wrap_i64]; omega
      have w2 : IntKind.i64.wrap (8 * (m : Int)) = 8 * (m : Int) := by rw [IntKind.wrap_i64]; omega
      have ROW := hide hwr.row
      have UR := hide hwr.text
      have SEP := hide hwr.sep
      have TO := hide hto
      clear hx hacc hwr hto HW
      go_wp2_with fail
      refine wp_region_noPanic ?_
      refine wp_region_held_drew (S := (fun _ => True)) follows trivial (fun hHeld => ?_)
      refine tk 0 ?_ rfl (Or.inl ⟨by rfl, ?_⟩) ?_
      rotate_left
      · intro w hSw
        clear hSw
        go_simp
        all_goals with_reducible rfl
      simp only [Act.put, List.setIfInBounds_toArray, List.set_cons_zero, List.set_cons_succ]
      refine tk 1 ?_ rfl (Or.inl ⟨by rfl, ?_⟩) ?_
      rotate_left
      · intro w hSw
        clear hSw
        go_simp
        all_goals with_reducible rfl
      simp only [Act.put, List.setIfInBounds_toArray, List.set_cons_zero, List.set_cons_succ]
      refine tk 2 ?_ rfl (Or.inl ⟨by rfl, ?_⟩) ?_
      rotate_left
      · intro w hSw
        clear hSw
        go_simp
        all_goals with_reducible rfl
      simp only [Act.put, List.setIfInBounds_toArray, List.set_cons_zero, List.set_cons_succ]
      refine tk 3 ?_ rfl (Or.inl ⟨by rfl, ?_⟩) ?_
      rotate_left
      · intro w hSw
        clear hSw
        go_simp
        all_goals with_reducible rfl
      simp only [Act.put, List.setIfInBounds_toArray, List.set_cons_zero, List.set_cons_succ]
      refine tk 5 ?_ rfl (Or.inl ⟨by rfl, ?_⟩) ?_
      rotate_left
      · intro w hSw
        clear hSw
        go_simp
        all_goals with_reducible rfl
      simp only [Act.put, List.setIfInBounds_toArray, List.set_cons_zero, List.set_cons_succ]
      refine tk 6 ?_ rfl (Or.inl ⟨by rfl, ?_⟩) ?_
      rotate_left
      · intro w hSw
        clear hSw
        go_simp
        all_goals with_reducible rfl
      simp only [Act.put, List.setIfInBounds_toArray, List.set_cons_zero, List.set_cons_succ]
      refine tk 7 ?_ rfl (Or.inl ⟨by rfl, ?_⟩) ?_
      rotate_left
      · intro w hSw
        clear hSw
        go_simp
        all_goals with_reducible rfl
      simp only [Act.put, List.setIfInBounds_toArray, List.set_cons_zero, List.set_cons_succ]
      refine tk 8 ?_ rfl (Or.inl ⟨by rfl, ?_⟩) ?_
      rotate_left
      · intro w hSw
        clear hSw
        go_simp
        all_goals with_reducible rfl
      simp only [Act.put, List.setIfInBounds_toArray, List.set_cons_zero, List.set_cons_succ]
      refine tk 9 ?_ rfl (Or.inl ⟨by rfl, ?_⟩) ?_
      rotate_left
      · intro w hSw
        clear hSw
        go_simp
        all_goals with_reducible rfl
      simp only [Act.put, List.setIfInBounds_toArray, List.set_cons_zero, List.set_cons_succ]
      refine tk 10 ?_ rfl (Or.inl ⟨by rfl, ?_⟩) ?_
      rotate_left
      · intro w hSw
        clear hSw
        go_simp
        all_goals with_reducible rfl
      simp only [Act.put, List.setIfInBounds_toArray, List.set_cons_zero, List.set_cons_succ]
      refine wpAnyH_ready (rs := [4, 11]) (by kernel_rfl) (by simp) ?_
      refine AllReadyH.cons (o := { dst := some 17, op := Op.load 31 (Operand.tmp 16), type := 31, pos := "writer.go:16", after := #[⟨3, .data⟩], guard := none }) rfl (fun K hK => ?_) ?_
      · skip
        have c0 := cells1 ROW.out
        go_simp
        refine hK.out _ _ trivial (fun hHeld => ?_)
        clear hK K c0
        try simp only [Act.put, List.setIfInBounds_toArray, List.set_cons_zero, List.set_cons_succ]
        refine wpAnyH_ready (rs := [11]) (by kernel_rfl) (by simp) ?_
        refine AllReadyH.cons (o := { dst := some 24, op := Op.buildSlice 31 1 #[(0, Operand.tmp 23)], type := 31, pos := "writer.go:16", after := #[⟨10, .data⟩], guard := none }) rfl (fun K hK => ?_) AllReadyH.nil
        go_simp
        refine hK.out _ _ trivial (fun hHeld => ?_)
        clear hK K 
        try simp only [Act.put, List.setIfInBounds_toArray, List.set_cons_zero, List.set_cons_succ]
        generalize hX : World.drew (World.alloc wr _) = X
        have rX : Hid (X.heap[g]? = some (.cells #[.slice ao acc.length c] 160 (0, 0))) := by rw [← hX]; exact (heap_alloc_old _ _ (block_lt_of_row ROW.out)).trans ROW.out
        have uX : Hid (URow X (.slice ao acc.length c) acc) := by rw [← hX]; exact UR.out.kept fun k hk => heap_alloc_old _ _ (UR.out.lt hk)
        have cX : Hid (Chg (fun k => k = g ∨ (Value.slice ao acc.length c).ownBlock = some k) wr X) := by rw [← hX]; exact ((Chg.refl _ _).alloc _).drew
        have nX : Hid (SliceAt X (.slice (some ⟨wr.heap.size, 0, none⟩) 1 1) [x]) := by rw [← hX]; exact (one_new wr x).of_heap rfl
        clear hX hHeld
        refine wpAnyH_ready (rs := [12]) (by kernel_rfl) (by simp) ?_
        refine step_append (o := { dst := some 25, op := Op.call { callee := Callee.builtin Builtin.append, args := #[Operand.tmp 17, Operand.tmp 24], argTypes := #[31, 31] }, type := 31, pos := "writer.go:16", after := #[⟨4, .data⟩, ⟨11, .data⟩], guard := none }) rfl rfl _ _ 31 31 rfl _ _ rfl rfl (run_append_row _ _ _ acc [x] 31 uX.out nX.out (by show acc.length + 1 ≤ 140737488355328; have := HB.out; omega)) AllReadyH.nil ?_
        rintro v2 Y ⟨hu, hg, ho⟩
        obtain ⟨ao2, c2, hv2⟩ := hu.shape
        simp only [List.length_append, List.length_singleton] at hv2
        subst hv2
        refine ⟨trivial, fun hHeld => ?_⟩
        try simp only [Act.put, List.setIfInBounds_toArray, List.set_cons_zero, List.set_cons_succ]
        have rY : Y.heap[g]? = some (.cells #[.slice ao acc.length c] 160 (0, 0)) := (hg.block g (block_lt_of_row rX.out) (fun e => SEP.out e.symm)).trans rX.out
        have Z := hide (WrIs.put SEP.out (block_lt_of_row ROW.out) rY hu (cX.out.grown hg (fun k _ h => Or.inr h)) (fun k hk => by rcases ho k hk with h' | h'; exact Or.inl h'; exact Or.inr (Nat.le_trans cX.out.size h')))
        have RY := hide rY
        clear rY hu hg ho rX uX cX nX
        refine tk 13 ?_ rfl (Or.inl ⟨by rfl, ?_⟩) ?_
        rotate_left
        · intro w hSw
          clear hSw
          go_simp
          all_goals with_reducible rfl
        simp only [Act.put, List.setIfInBounds_toArray, List.set_cons_zero, List.set_cons_succ]
        refine tk 14 ?_ rfl (Or.inl ⟨by rfl, ?_⟩) ?_
        rotate_left
        · intro w hSw
          clear hSw
          go_simp
          all_goals with_reducible rfl
        simp only [Act.put, List.setIfInBounds_toArray, List.set_cons_zero, List.set_cons_succ]
        refine wpAnyH_ready (rs := [15]) (by kernel_rfl) (by simp) ?_
        refine AllReadyH.cons (o := { dst := none, op := Op.store 31 (Operand.tmp 27) (Operand.tmp 25), type := 0, pos := "writer.go:16", after := #[⟨14, .data⟩, ⟨12, .data⟩, ⟨12, .chain⟩, ⟨0, .phase⟩, ⟨1, .phase⟩, ⟨2, .phase⟩, ⟨3, .phase⟩, ⟨4, .phase⟩, ⟨5, .phase⟩, ⟨6, .phase⟩, ⟨7, .phase⟩, ⟨8, .phase⟩, ⟨9, .phase⟩, ⟨10, .phase⟩, ⟨11, .phase⟩, ⟨12, .phase⟩], guard := none }) rfl (fun K hK => ?_) AllReadyH.nil
        have c1 := cells1 RY.out
        have f1 := frozen_of_row _ _ 0 _ _ RY.out
        go_simp
        refine hK.out _ _ trivial (fun hHeld => ?_)
        clear hK K c1 f1
        try simp only [Act.put, List.setIfInBounds_toArray, List.set_cons_zero, List.set_cons_succ]
        refine wpAnyH_done (by kernel_rfl) ?_ _
        refine NoPanic.normal ?_
        clear hHeld RY
        go_wp2_with fail
        go_roundw
        case rel => exact ⟨m, _, acc ++ [x], by omega, by go_num, by rw [List.append_assoc]; exact HACC.out, by rw [List.length_append]; exact HAL.out, Z.out.1, TO.out.trans Z.out.2⟩
        case measure => simp [intOf]
      refine AllReadyH.cons (o := { dst := some 24, op := Op.buildSlice 31 1 #[(0, Operand.tmp 23)], type := 31, pos := "writer.go:16", after := #[⟨10, .data⟩], guard := none }) rfl (fun K hK => ?_) AllReadyH.nil
      go_simp
      refine hK.out _ _ trivial (fun hHeld => ?_)
      clear hK K 
      try simp only [Act.put, List.setIfInBounds_toArray, List.set_cons_zero, List.set_cons_succ]
      have rD : Hid ((World.alloc wr (.cells #[.int .u8 (x.toNat : Int)] 5)).heap[g]? = some (.cells #[.slice ao acc.length c] 160 (0, 0))) := (heap_alloc_old _ _ (block_lt_of_row ROW.out)).trans ROW.out
      refine wpAnyH_ready (rs := [4]) (by kernel_rfl) (by simp) ?_
      refine AllReadyH.cons (o := { dst := some 17, op := Op.load 31 (Operand.tmp 16), type := 31, pos := "writer.go:16", after := #[⟨3, .data⟩], guard := none }) rfl (fun K hK => ?_) AllReadyH.nil
      have c0 := cells1 rD.out
      go_simp
      refine hK.out _ _ trivial (fun hHeld => ?_)
      clear hK K c0 rD
      try simp only [Act.put, List.setIfInBounds_toArray, List.set_cons_zero, List.set_cons_succ]
      generalize hX : World.drew (World.alloc wr _) = X
      have rX : Hid (X.heap[g]? = some (.cells #[.slice ao acc.length c] 160 (0, 0))) := by rw [← hX]; exact (heap_alloc_old _ _ (block_lt_of_row ROW.out)).trans ROW.out
      have uX : Hid (URow X (.slice ao acc.length c) acc) := by rw [← hX]; exact UR.out.kept fun k hk => heap_alloc_old _ _ (UR.out.lt hk)
      have cX : Hid (Chg (fun k => k = g ∨ (Value.slice ao acc.length c).ownBlock = some k) wr X) := by rw [← hX]; exact ((Chg.refl _ _).alloc _).drew
      have nX : Hid (SliceAt X (.slice (some ⟨wr.heap.size, 0, none⟩) 1 1) [x]) := by rw [← hX]; exact (one_new wr x).of_heap rfl
      clear hX hHeld
      refine wpAnyH_ready (rs := [12]) (by kernel_rfl) (by simp) ?_
      refine step_append (o := { dst := some 25, op := Op.call { callee := Callee.builtin Builtin.append, args := #[Operand.tmp 17, Operand.tmp 24], argTypes := #[31, 31] }, type := 31, pos := "writer.go:16", after := #[⟨4, .data⟩, ⟨11, .data⟩], guard := none }) rfl rfl _ _ 31 31 rfl _ _ rfl rfl (run_append_row _ _ _ acc [x] 31 uX.out nX.out (by show acc.length + 1 ≤ 140737488355328; have := HB.out; omega)) AllReadyH.nil ?_
      rintro v2 Y ⟨hu, hg, ho⟩
      obtain ⟨ao2, c2, hv2⟩ := hu.shape
      simp only [List.length_append, List.length_singleton] at hv2
      subst hv2
      refine ⟨trivial, fun hHeld => ?_⟩
      try simp only [Act.put, List.setIfInBounds_toArray, List.set_cons_zero, List.set_cons_succ]
      have rY : Y.heap[g]? = some (.cells #[.slice ao acc.length c] 160 (0, 0)) := (hg.block g (block_lt_of_row rX.out) (fun e => SEP.out e.symm)).trans rX.out
      have Z := hide (WrIs.put SEP.out (block_lt_of_row ROW.out) rY hu (cX.out.grown hg (fun k _ h => Or.inr h)) (fun k hk => by rcases ho k hk with h' | h'; exact Or.inl h'; exact Or.inr (Nat.le_trans cX.out.size h')))
      have RY := hide rY
      clear rY hu hg ho rX uX cX nX
      refine tk 13 ?_ rfl (Or.inl ⟨by rfl, ?_⟩) ?_
      rotate_left
      · intro w hSw
        clear hSw
        go_simp
        all_goals with_reducible rfl
      simp only [Act.put, List.setIfInBounds_toArray, List.set_cons_zero, List.set_cons_succ]
      refine tk 14 ?_ rfl (Or.inl ⟨by rfl, ?_⟩) ?_
      rotate_left
      · intro w hSw
        clear hSw
        go_simp
        all_goals with_reducible rfl
      simp only [Act.put, List.setIfInBounds_toArray, List.set_cons_zero, List.set_cons_succ]
      refine wpAnyH_ready (rs := [15]) (by kernel_rfl) (by simp) ?_
      refine AllReadyH.cons (o := { dst := none, op := Op.store 31 (Operand.tmp 27) (Operand.tmp 25), type := 0, pos := "writer.go:16", after := #[⟨14, .data⟩, ⟨12, .data⟩, ⟨12, .chain⟩, ⟨0, .phase⟩, ⟨1, .phase⟩, ⟨2, .phase⟩, ⟨3, .phase⟩, ⟨4, .phase⟩, ⟨5, .phase⟩, ⟨6, .phase⟩, ⟨7, .phase⟩, ⟨8, .phase⟩, ⟨9, .phase⟩, ⟨10, .phase⟩, ⟨11, .phase⟩, ⟨12, .phase⟩], guard := none }) rfl (fun K hK => ?_) AllReadyH.nil
      have c1 := cells1 RY.out
      have f1 := frozen_of_row _ _ 0 _ _ RY.out
      go_simp
      refine hK.out _ _ trivial (fun hHeld => ?_)
      clear hK K c1 f1
      try simp only [Act.put, List.setIfInBounds_toArray, List.set_cons_zero, List.set_cons_succ]
      refine wpAnyH_done (by kernel_rfl) ?_ _
      refine NoPanic.normal ?_
      clear hHeld RY
      go_wp2_with fail
      go_roundw
      case rel => exact ⟨m, _, acc ++ [x], by omega, by go_num, by rw [List.append_assoc]; exact HACC.out, by rw [List.length_append]; exact HAL.out, Z.out.1, TO.out.trans Z.out.2⟩
      case measure => simp [intOf]
    · obtain rfl : left = 0 := by omega
      have q1 : ¬ ((0 : Int) < ((0 : Nat) : Int)) := by omega
      have Z : Hid (WrIs wr g v1 (bs ++ S.num n (S.size k)) ∧ WrTo g v w v1 wr) := by
        rw [← HSZ.out, ← hacc, show S.num n 0 = [] from rfl, List.append_nil]
        exact ⟨hwr, hto⟩
      clear hacc hwr hto HW
      go_wp2_with fail
      go_end0
      exact ⟨rfl, _, Z.out.1, Z.out.2⟩
end Go.Proofs.YthjlhngjpbmieaaGreatDoor
namespace Go.Proofs.YthjlhngjpbmieaaGreatDoor
open Go.RowKit
/-- The slice u reads as xs, whatever becomes of the blocks of p. -/
def Stays (p : Nat → Prop) (w : World) (u : Value) (xs : List UInt8) : Prop := ∀ W, Chg p w W → SliceAt W u xs
theorem Stays.now {p : Nat → Prop} {w : World} {u : Value} {xs : List UInt8} (h : Stays p w u xs) : SliceAt w u xs := h w (Chg.refl _ _)
theorem stays_row {p : Nat → Prop} {w : World} {t : Nat} {xs : List UInt8} (h : w.heap[t]? = some (.cells (S.v8 xs) 5 (0, 0))) (hp : ¬ p t) (hl : xs.length ≤ 140737488355328) : Stays p w (.slice (some ⟨t, 0, none⟩) xs.length xs.length) xs := fun _ hc =>
  Or.inr (Or.inr ⟨t, 0, xs.length, rfl, Nat.le_refl _, hl, Nat.lt_of_lt_of_le (block_lt_of_row h) hc.size, fun j hj => by rw [Nat.zero_add]; exact v8_cell (hc.row h hp) j hj⟩)
theorem SliceAt.chg {w W : World} {v : Value} {xs : List UInt8} (h : SliceAt w v xs) (hb : ∀ k, k < w.heap.size → W.heap[k]? = w.heap[k]?) (hs : w.heap.size ≤ W.heap.size) : SliceAt W v xs := by
  rcases h with h | h | ⟨b, off, cap, e, h1, h2, h3, h4⟩
  · exact Or.inl h
  · exact Or.inr (Or.inl h)
  · exact Or.inr (Or.inr ⟨b, off, cap, e, h1, h2, Nat.lt_of_lt_of_le h3 hs, fun j hj => (World.cell?_of_block (hb b h3)).trans (h4 j hj)⟩)
theorem size_2 : S.size 2 = 2 := by decide
set_option maxHeartbeats 1600000 in
set_option maxRecDepth 100000 in
theorem wdigest_any (g : Nat) (v : Value) (bs d : List UInt8) (w0 : World) (hd : d.length = 32) (hw : WrIs w0 g v bs) (hb : bs.length + 32 ≤ 140737488355328) :
   Calls Tryz.prog 112 #[.pointer (some ⟨g, 0, none⟩), .agg (S.v8 d)] w0 fun e w' => e = .returned (.tuple #[]) ∧ ∃ v', WrIs w' g v' (bs ++ d) ∧ WrTo g v w0 v' w' := by
  have HW := hide hw
  obtain ⟨accn, hn⟩ : ∃ n, n = bs.length := ⟨_, rfl⟩
  obtain ⟨acc, hacc⟩ : ∃ acc, acc = bs := ⟨_, rfl⟩
  obtain ⟨ao, c, hv1⟩ := hw.text.shape
  rw [← hn] at hv1
  subst hv1
  have LEN : Hid (acc.length + d.length ≤ 140737488355328) := by show acc.length + d.length ≤ 140737488355328; rw [hacc]; omega
  have HD := hide hd
  have HA := hide hacc
  clear hw hb hn hd hacc
  go_enter Tryz.func112, Tryz.ntmps112
  go_wp2_with fail
  generalize hW : w0.alloc _ = w1
  have r1 : w1.heap[w0.heap.size]? = some (.cells (S.v8 d) 104 (0, 0)) := by rw [← hW]; exact heap_alloc_new _ _
  have hc1 : Chg (fun k => k = g ∨ (Value.slice ao accn c).ownBlock = some k) w0 w1 := by rw [← hW]; exact (Chg.refl _ _).alloc _
  have hb1 : Below w0.heap.size w0 w1 := by rw [← hW]; exact (Below.refl _ _).alloc (Nat.le_refl _) _
  have hw1 : WrIs w1 g (.slice ao accn c) acc := by rw [HA.out]; exact HW.out.chg (p := fun _ => False) (Chg.ofBelow' hb1) (fun e => e) (fun _ _ e => e)
  have ROW := hide hw1.row
  have UR := hide hw1.text
  have SEP := hide hw1.sep
  have TO : Hid (WrTo g (.slice ao accn c) w0 (.slice ao accn c) w1) := ⟨hc1, fun k hk => Or.inl hk⟩
  have SX : Hid (SliceAt w1 (.slice (some ⟨w0.heap.size, 0, none⟩) 32 32) d) := Or.inr (Or.inr ⟨w0.heap.size, 0, 32, by rw [HD.out], by rw [HD.out]; omega, by rw [HD.out]; omega, block_lt_of_row r1, fun j hj => by rw [Nat.zero_add]; exact v8_cell r1 j hj⟩)
  clear hW r1 hc1 hb1 hw1 HW
  generalize w0.heap.size = gd at *
  refine wp_region_noPanic ?_
  refine wp_region_held_drew (S := (fun _ => True)) follows trivial (fun hHeld => ?_)
  refine tk 0 ?_ rfl (Or.inl ⟨by rfl, ?_⟩) ?_
  rotate_left
  · intro w hSw
    clear hSw
    go_simp
    all_goals with_reducible rfl
  simp only [Act.put, List.setIfInBounds_toArray, List.set_cons_zero, List.set_cons_succ]
  refine tk 1 ?_ rfl (Or.inl ⟨by rfl, ?_⟩) ?_
  rotate_left
  · intro w hSw
    clear hSw
    go_simp
    all_goals with_reducible rfl
  simp only [Act.put, List.setIfInBounds_toArray, List.set_cons_zero, List.set_cons_succ]
  refine tk 2 ?_ rfl (Or.inl ⟨by rfl, ?_⟩) ?_
  rotate_left
  · intro w hSw
    clear hSw
    go_simp
    all_goals with_reducible rfl
  simp only [Act.put, List.setIfInBounds_toArray, List.set_cons_zero, List.set_cons_succ]
  refine tk 3 ?_ rfl (Or.inl ⟨by rfl, ?_⟩) ?_
  rotate_left
  · intro w hSw
    clear hSw
    go_simp
    all_goals with_reducible rfl
  simp only [Act.put, List.setIfInBounds_toArray, List.set_cons_zero, List.set_cons_succ]
  refine tk 5 ?_ rfl (Or.inl ⟨by rfl, ?_⟩) ?_
  rotate_left
  · intro w hSw
    clear hSw
    go_simp
    all_goals with_reducible rfl
  simp only [Act.put, List.setIfInBounds_toArray, List.set_cons_zero, List.set_cons_succ]
  refine wpAnyH_ready (rs := [4]) (by kernel_rfl) (by simp) ?_
  refine AllReadyH.cons (o := { dst := some 8, op := Op.load 31 (Operand.tmp 7), type := 31, pos := "writer.go:29", after := #[⟨3, .data⟩], guard := none }) rfl (fun K hK => ?_) AllReadyH.nil
  have c0 := cells1 ROW.out
  go_simp
  refine hK.out _ _ trivial (fun hHeld => ?_)
  clear hK K c0
  try simp only [Act.put, List.setIfInBounds_toArray, List.set_cons_zero, List.set_cons_succ]
  refine wpAnyH_ready (rs := [6]) (by kernel_rfl) (by simp) ?_
  refine step_append (o := { dst := some 10, op := Op.call { callee := Callee.builtin Builtin.append, args := #[Operand.tmp 8, Operand.tmp 9], argTypes := #[31, 31] }, type := 31, pos := "writer.go:29", after := #[⟨4, .data⟩, ⟨5, .data⟩], guard := none }) rfl rfl _ _ 31 31 rfl _ _ rfl rfl (run_append_row _ _ _ acc d 31 UR.out SX.out LEN.out) AllReadyH.nil ?_
  rintro v2 Y ⟨hu, hg, ho⟩
  obtain ⟨ao2, c2, hv2⟩ := hu.shape
  generalize hLL : List.length (acc ++ _) = LL at hv2
  subst hv2
  refine ⟨trivial, fun hHeld => ?_⟩
  try simp only [Act.put, List.setIfInBounds_toArray, List.set_cons_zero, List.set_cons_succ]
  have rY : Y.heap[g]? = some (.cells #[.slice ao accn c] 160 (0, 0)) := (hg.block g (block_lt_of_row ROW.out) (fun e => SEP.out e.symm)).trans ROW.out
  have Z := hide (WrIs.put SEP.out (block_lt_of_row ROW.out) rY hu (((Chg.refl _ w1).drew).grown hg (fun k _ h => Or.inr h)) ho)
  have RY := hide rY
  clear rY hu hg ho hLL
  refine tk 7 ?_ rfl (Or.inl ⟨by rfl, ?_⟩) ?_
  rotate_left
  · intro w hSw
    clear hSw
    go_simp
    all_goals with_reducible rfl
  simp only [Act.put, List.setIfInBounds_toArray, List.set_cons_zero, List.set_cons_succ]
  refine tk 8 ?_ rfl (Or.inl ⟨by rfl, ?_⟩) ?_
  rotate_left
  · intro w hSw
    clear hSw
    go_simp
    all_goals with_reducible rfl
  simp only [Act.put, List.setIfInBounds_toArray, List.set_cons_zero, List.set_cons_succ]
  refine wpAnyH_ready (rs := [9]) (by kernel_rfl) (by simp) ?_
  refine AllReadyH.cons (o := { dst := none, op := Op.store 31 (Operand.tmp 12) (Operand.tmp 10), type := 0, pos := "writer.go:29", after := #[⟨8, .data⟩, ⟨6, .data⟩, ⟨6, .chain⟩, ⟨0, .phase⟩, ⟨1, .phase⟩, ⟨2, .phase⟩, ⟨3, .phase⟩, ⟨4, .phase⟩, ⟨5, .phase⟩, ⟨6, .phase⟩], guard := none }) rfl (fun K hK => ?_) AllReadyH.nil
  have c1 := cells1 RY.out
  have f1 := frozen_of_row _ _ 0 _ _ RY.out
  go_simp
  refine hK.out _ _ trivial (fun hHeld => ?_)
  clear hK K c1 f1
  try simp only [Act.put, List.setIfInBounds_toArray, List.set_cons_zero, List.set_cons_succ]
  refine wpAnyH_done (by kernel_rfl) ?_ _
  refine NoPanic.normal ?_
  clear hHeld RY
  go_wp2_with fail
  go_end0
  exact ⟨rfl, _, by rw [← HA.out]; exact Z.out.1, TO.out.trans Z.out.2⟩
end Go.Proofs.YthjlhngjpbmieaaGreatDoor
namespace Go.Proofs.YthjlhngjpbmieaaGreatDoor
open Go.RowKit
namespace S
/-- A reader: its text, where it stands, and the first refusal (why 0: none). -/
structure Rd where
  bs : List UInt8
  pl : Nat
  ba : Int
  why : Int
def Rd.refuse (r : Rd) (a y : Int) : Rd := if r.why = 0 then { r with ba := a, why := y } else r
def Rd.take (r : Rd) (n : Nat) : Rd × List UInt8 :=
  if r.why = 0 then (if r.pl + n ≤ r.bs.length then ({ r with pl := r.pl + n }, (r.bs.drop r.pl).take n) else ({ r with ba := r.bs.length, why := 10 }, [])) else (r, [])
end S
/-- The reader in block g, its text in block t. -/
structure RdIs (w : World) (g t : Nat) (r : S.Rd) : Prop where
  row : w.heap[g]? = some (.cells #[.slice (some ⟨t, 0, none⟩) r.bs.length r.bs.length, .int .i64 (r.pl : Int), .int .i64 r.ba, .int .i64 r.why] 171 (0, 0))
  text : w.heap[t]? = some (.cells (S.v8 r.bs) 5 (0, 0))
  sep : t ≠ g
  pl : r.pl ≤ r.bs.length
  len : r.bs.length ≤ 140737488355328
theorem RdIs.chg {p : Nat → Prop} {w W : World} {g t : Nat} {r : S.Rd} (h : RdIs w g t r) (hc : Chg p w W) (hg : ¬ p g) (ht : ¬ p t) : RdIs W g t r :=
  ⟨hc.row h.row hg, hc.row h.text ht, h.sep, h.pl, h.len⟩
theorem RdIs.below {w W : World} {g t : Nat} {r : S.Rd} (h : RdIs w g t r) (hb : Below w.heap.size w W) : RdIs W g t r := h.chg (p := fun _ => False) (Chg.ofBelow' hb) (fun e => e) (fun e => e)
theorem RdIs.lt {w : World} {g t : Nat} {r : S.Rd} (h : RdIs w g t r) : g < w.heap.size := block_lt_of_row h.row
theorem RdIs.tlt {w : World} {g t : Nat} {r : S.Rd} (h : RdIs w g t r) : t < w.heap.size := block_lt_of_row h.text
theorem newReader_any (v : Value) (bs : List UInt8) (w : World) (hv : SliceAt w v bs) (hb : bs.length ≤ 140737488355328) :
   Calls Tryz.prog 93 #[v] w fun e w' => ∃ g t, e = .returned (.pointer (some ⟨g, 0, none⟩)) ∧ w.heap.size ≤ g ∧ w.heap.size ≤ t ∧ RdIs w' g t ⟨bs, 0, 0, 0⟩ ∧ Below w.heap.size w w' := by
  have HV := hide hv
  clear hv
  go_enter Tryz.func93, Tryz.ntmps93
  go_wp2_with fail
  refine (copyOf_any _ bs w HV.out).mono ?_
  rintro e w1 ⟨rfl, h1, h2⟩
  have H1 := hide h1
  have H2 := hide h2
  have hlt := block_lt_of_row h1
  clear h1 h2
  go_wp2_with fail
  go_ret
  exact ⟨w1.heap.size, w.heap.size, rfl, H2.out.size, Nat.le_refl _, ⟨heap_alloc_new _ _, (heap_alloc_old _ _ hlt).trans H1.out, by omega, Nat.zero_le _, hb⟩, H2.out.alloc H2.out.size _⟩
theorem rrefused_any (g t : Nat) (r : S.Rd) (w : World) (hr : RdIs w g t r) :
   Calls Tryz.prog 132 #[.pointer (some ⟨g, 0, none⟩)] w fun e w' => e = .returned (.bool (r.why != 0)) ∧ w = w' := by
  obtain ⟨c0, c1, c2, c3⟩ := cells4 hr.row
  clear hr
  go_enter Tryz.func132, Tryz.ntmps132
  go_wp2
  go_ret
  exact ⟨rfl, rfl⟩
theorem rrefuse_any (g t : Nat) (r : S.Rd) (a y : Int) (w : World) (hr : RdIs w g t r) :
   Calls Tryz.prog 131 #[.pointer (some ⟨g, 0, none⟩), .int .i64 a, .int .i64 y] w fun e w' => e = .returned (.tuple #[]) ∧ RdIs w' g t (r.refuse a y) ∧ Chg (fun k => k = g) w w' := by
  have HR := hide hr
  obtain ⟨c0, c1, c2, c3⟩ := cells4 hr.row
  have f2 := frozen_of_row _ _ 2 _ _ hr.row
  have f3 := frozen_of_row _ _ 3 _ _ hr.row
  clear hr
  by_cases h0 : r.why = 0
  · have b0 : (r.why != 0) = false := by simp [h0]
    have E : Hid (r.refuse a y = { r with ba := a, why := y }) := by show r.refuse a y = _; unfold S.Rd.refuse; rw [if_pos h0]
    clear h0
    go_enter Tryz.func131, Tryz.ntmps131
    go_wp2_with fail
    refine (rrefused_any g t r w HR.out).mono ?_
    rintro e w1 ⟨rfl, rfl⟩
    go_wp2_with fail
    go_end0
    have R2 := heap_setCell_same _ _ 2 _ _ (.int .i64 a) HR.out.row
    have R3 := heap_setCell_same _ _ 3 _ _ (.int .i64 y) R2
    refine ⟨rfl, ?_, ((Chg.refl (fun k => k = g) w).setCell g 2 _ (fun _ => rfl)).setCell g 3 _ (fun _ => rfl)⟩
    rw [E.out]
    exact ⟨R3, ((heap_setCell_other _ _ _ _ HR.out.sep).trans (heap_setCell_other _ _ _ _ HR.out.sep)).trans HR.out.text, HR.out.sep, HR.out.pl, HR.out.len⟩
  · have b0 : (r.why != 0) = true := by simp [h0]
    have E : Hid (r.refuse a y = r) := by show r.refuse a y = _; unfold S.Rd.refuse; rw [if_neg h0]
    clear h0
    go_enter Tryz.func131, Tryz.ntmps131
    go_wp2_with fail
    refine (rrefused_any g t r w HR.out).mono ?_
    rintro e w1 ⟨rfl, rfl⟩
    go_wp2_with fail
    go_end0
    exact ⟨rfl, by rw [E.out]; exact HR.out, Chg.refl _ _⟩
theorem RdIs.drewN {w : World} {g t : Nat} {r : S.Rd} (n : Nat) (h : RdIs w g t r) : RdIs (w.drewN n) g t r := h.chg (p := fun _ => False) ((Chg.refl _ _).drewN n) (fun e => e) (fun e => e)
theorem RdIs.sliceAt {w : World} {g t : Nat} {r : S.Rd} (h : RdIs w g t r) : SliceAt w (.slice (some ⟨t, 0, none⟩) r.bs.length r.bs.length) r.bs := (stays_row (p := fun _ => False) h.text (fun e => e) h.len).now
theorem taken_form {w : World} {g t pl : Nat} {r : S.Rd} (h : RdIs w g t { r with pl := pl }) (n : Nat) (hf : r.pl + n ≤ r.bs.length) : SliceAt w (.slice (if r.bs.length = r.pl then some ⟨t, 0, none⟩ else some ⟨t, r.pl, none⟩) n (r.bs.length - r.pl)) ((r.bs.drop r.pl).take n) := by
  have hp := part_form h.sliceAt r.pl (r.pl + n) (Nat.le_add_right _ _) hf
  have e : (r.bs.take (r.pl + n)).drop r.pl = (r.bs.drop r.pl).take n := by rw [List.drop_take, Nat.add_sub_cancel_left]
  rw [Nat.add_sub_cancel_left, Option.map_some, Addr.add_lit, Nat.zero_add] at hp
  rw [← e]
  exact hp
set_option maxHeartbeats 800000 in
set_option maxRecDepth 100000 in
theorem take_any (g t : Nat) (r : S.Rd) (n : Nat) (w : World) (hn : n ≤ 140737488355328) (hr : RdIs w g t r) :
   Calls Tryz.prog 117 #[.pointer (some ⟨g, 0, none⟩), .int .i64 (n : Int)] w fun e w' => ∃ v, e = .returned v ∧ SliceAt w' v (r.take n).2 ∧ RdIs w' g t (r.take n).1 ∧ Chg (fun k => k = g) w w' := by
  have HR := hide hr
  obtain ⟨c0, c1, c2, c3⟩ := cells4 hr.row
  have f1 := frozen_of_row _ _ 1 _ _ hr.row
  have hp := hr.pl
  have hl := hr.len
  have q0 : IntKind.i64.wrap ((r.bs.length : Int) - (r.pl : Int)) = (r.bs.length : Int) - (r.pl : Int) := by rw [IntKind.wrap_i64]; omega
  clear hr
  by_cases hfit : r.pl + n ≤ r.bs.length
  · have q1 : ¬ ((r.bs.length : Int) - (r.pl : Int) < (n : Int)) := by omega
    by_cases h0 : r.why = 0
    · have b0 : (r.why != 0) = false := by simp [h0]
      have E : Hid (r.take n = ({ r with pl := r.pl + n }, (r.bs.drop r.pl).take n)) := by show r.take n = _; unfold S.Rd.take; rw [if_pos h0, if_pos hfit]
      have q2 : IntKind.i64.wrap ((r.pl : Int) + (n : Int)) = ((r.pl + n : Nat) : Int) := by rw [IntKind.wrap_i64]; omega
      have q3 : (0 : Int) ≤ (r.pl : Int) := by omega
      have q4 : (r.pl : Int) ≤ (r.pl : Int) + (n : Int) := by omega
      have q5 : (r.pl : Int) + (n : Int) ≤ (r.bs.length : Int) := by omega
      have HRD : ∀ w1 : World, RdIs w1 g t r → RdIs (w1.setCell ⟨g, 1, none⟩ (.int .i64 ((r.pl : Int) + (n : Int)))) g t { r with pl := r.pl + n } := fun w1 h1 => by
        have R1 := heap_setCell_same _ _ 1 _ _ (.int .i64 ((r.pl : Int) + (n : Int))) h1.row
        exact ⟨R1, (heap_setCell_other _ _ _ _ h1.sep).trans h1.text, h1.sep, hfit, h1.len⟩
      have RD := hide HRD
      clear h0 HRD
      go_enter Tryz.func117, Tryz.ntmps117
      go_wp2_with fail
      go_quiet (fail)
      generalize hw1 : w.drewN nq = w1
      have HR1 : Hid (RdIs w1 g t r) := by rw [← hw1]; exact HR.out.drewN nq
      have HC1 : Hid (Chg (fun k => k = g) w w1) := by rw [← hw1]; exact (Chg.refl _ _).drewN nq
      clear hw1 c0 c1 c2 c3 f1
      go_wp2_with fail
      refine (rrefused_any g t r w1 HR1.out).mono ?_
      rintro e w2 ⟨rfl, rfl⟩
      obtain ⟨c0, c1, c2, c3⟩ := cells4 HR1.out.row
      have f1 := frozen_of_row _ _ 1 _ _ HR1.out.row
      go_wp2_with fail
      go_quiet (fail)
      go_wp2_with fail
      all_goals
        go_ret
        have RX := RD.out w1 HR1.out
        have SP := taken_form RX n hfit
        first | rw [if_pos h, show r.bs.length - r.pl = 0 from by omega] at SP | rw [if_neg h] at SP
        refine ⟨_, rfl, ?_, ?_, ?_⟩
        · rw [E.out]; exact SP.of_heap rfl
        · rw [E.out]; exact RX.drewN _
        · exact (HC1.out.setCell g 1 _ (fun _ => rfl)).drewN _
    · have b0 : (r.why != 0) = true := by simp [h0]
      have E : Hid (r.take n = (r, [])) := by show r.take n = _; unfold S.Rd.take; rw [if_neg h0]
      clear h0
      go_enter Tryz.func117, Tryz.ntmps117
      go_wp2_with fail
      go_quiet (fail)
      go_wp2_with fail
      refine (rrefused_any g t r _ (HR.out.drewN nq)).mono ?_
      rintro e w1 ⟨rfl, rfl⟩
      go_wp2_with fail
      go_ret
      exact ⟨_, rfl, by rw [E.out]; exact Or.inl ⟨rfl, rfl⟩, by rw [E.out]; exact HR.out.drewN nq, (Chg.refl _ _).drewN nq⟩
  · have q1 : (r.bs.length : Int) - (r.pl : Int) < (n : Int) := by omega
    go_enter Tryz.func117, Tryz.ntmps117
    go_wp2_with fail
    go_quiet (fail)
    go_wp2_with fail
    refine (rrefuse_any g t r _ 10 _ (HR.out.drewN nq)).mono ?_
    rintro e w1 ⟨rfl, h1, h2⟩
    have H1 := hide h1
    have H2 := hide h2
    have b0 : ((r.refuse (r.bs.length : Int) 10).why != 0) = true := by
      unfold S.Rd.refuse
      split
      · rfl
      · rename_i h; simpa using h
    have E : Hid (r.take n = (r.refuse (r.bs.length : Int) 10, [])) := by
      show r.take n = (r.refuse (r.bs.length : Int) 10, [])
      unfold S.Rd.take S.Rd.refuse
      by_cases h : r.why = 0
      · rw [if_pos h, if_pos h, if_neg hfit]
      · rw [if_neg h, if_neg h]
    clear h1 h2 c0 c1 c2 c3 f1
    go_wp2_with fail
    refine (rrefused_any g t _ w1 H1.out).mono ?_
    rintro e w2 ⟨rfl, rfl⟩
    go_wp2_with fail
    go_ret
    exact ⟨_, rfl, by rw [E.out]; exact Or.inl ⟨rfl, rfl⟩, by rw [E.out]; exact H1.out, ((Chg.refl _ _).drewN nq).trans H2.out (fun _ _ h => h)⟩
end Go.Proofs.YthjlhngjpbmieaaGreatDoor
