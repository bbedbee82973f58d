/- A Writer's Bytes and Digest: what is written is behind what was written; only the writer's own memory changes. -/
import Derived.Test.YtdhaeepaemneaaaDoorWr
namespace Go.Proofs.YtdhaeepaemneaaaDoor
open Go.RowKit
/-- A text as it is written: its count, and as many of its bytes. -/
def S.text (xs : List UInt8) : List UInt8 := S.num (xs.length % 65536) 2 ++ xs.take (xs.length % 65536)
theorem S.text_length (xs : List UInt8) : (S.text xs).length = 2 + xs.length % 65536 := by
  rw [S.text, List.length_append, S.num_length, List.length_take]
  have := Nat.mod_le xs.length 65536
  omega
/-- The slice u reads as xs, whatever becomes of the blocks of p. -/
def Stays (p : Nat → Prop) (w : World) (u : Value) (xs : List UInt8) : Prop := ∀ W, Chg p w W → SliceAt W u xs
theorem Stays.now {p : Nat → Prop} {w : World} {u : Value} {xs : List UInt8} (h : Stays p w u xs) : SliceAt w u xs := h w (Chg.refl _ _)
theorem stays_row {p : Nat → Prop} {w : World} {t : Nat} {xs : List UInt8} (h : w.heap[t]? = some (.cells (S.v8 xs) 5 (0, 0))) (hp : ¬ p t) (hl : xs.length ≤ 140737488355328) : Stays p w (.slice (some ⟨t, 0, none⟩) xs.length xs.length) xs := fun _ hc =>
  Or.inr (Or.inr ⟨t, 0, xs.length, rfl, Nat.le_refl _, hl, Nat.lt_of_lt_of_le (block_lt_of_row h) hc.size, fun j hj => by rw [Nat.zero_add]; exact v8_cell (hc.row h hp) j hj⟩)
theorem SliceAt.chg {w W : World} {v : Value} {xs : List UInt8} (h : SliceAt w v xs) (hb : ∀ k, k < w.heap.size → W.heap[k]? = w.heap[k]?) (hs : w.heap.size ≤ W.heap.size) : SliceAt W v xs := by
  rcases h with h | h | ⟨b, off, cap, e, h1, h2, h3, h4⟩
  · exact Or.inl h
  · exact Or.inr (Or.inl h)
  · exact Or.inr (Or.inr ⟨b, off, cap, e, h1, h2, Nat.lt_of_lt_of_le h3 hs, fun j hj => (World.cell?_of_block (hb b h3)).trans (h4 j hj)⟩)
/-- What lay there ahead of a base stays where only blocks from it on change. -/
theorem stays_old {p : Nat → Prop} {w0 w : World} {u : Value} {xs : List UInt8} (h : SliceAt w0 u xs) (hb : Below w0.heap.size w0 w) (hp : ∀ k, k < w0.heap.size → ¬ p k) : Stays p w u xs := fun _ hc =>
  h.chg (fun k hk => (hc.block k (Nat.lt_of_lt_of_le hk hb.size) (hp k hk)).trans (hb.block k hk)) (Nat.le_trans hb.size hc.size)
theorem size_2 : S.size 2 = 2 := by decide
set_option maxHeartbeats 1600000 in
set_option maxRecDepth 100000 in
theorem wbytes_any (g : Nat) (v u : Value) (bs xs : List UInt8) (w : World) (hw : WrIs w g v bs) (hu : Stays (fun k => k = g ∨ v.ownBlock = some k) w u xs) (hb : bs.length + 65544 ≤ 140737488355328) :
   Calls Tryd.prog 20 #[.pointer (some ⟨g, 0, none⟩), u] w fun e w' => e = .returned (.tuple #[]) ∧ ∃ v', WrIs w' g v' (bs ++ S.text xs) ∧ WrTo g v w v' w' := by
  have HW := hide hw
  have HU := hide hu
  have HB := hide hb
  obtain ⟨aou, len, cap, rfl, hlen, hmax⟩ := hu.now.form
  have q1 : (0 : Int) ≤ (len : Int) := by omega
  obtain ⟨cnt, hcnt⟩ : ∃ cnt, cnt = len % 65536 := ⟨_, rfl⟩
  have e1 : (len : Int).tmod 65536 = (cnt : Int) := by rw [Int.tmod_eq_emod_of_nonneg q1, hcnt]; omega
  have q2 : cnt < 65536 := by omega
  have q3 : (0 : Int) ≤ (cnt : Int) := by omega
  have q4 : (cnt : Int) ≤ (len : Int) := by omega
  have q5 : (cnt : Int) < 18446744073709551616 := by omega
  have q6 : (cnt : Int) ≤ (cap : Int) := by have := hu.now.le_cap; omega
  have HL := hide hlen
  have HC := hide hcnt
  clear hw hu hb hlen hcnt
  go_enter Tryd.func20, Tryd.ntmps20
  go_wp2_with fail
  refine (wnumber_any g v bs cnt 2 w HW.out (by have := HB.out; omega)).mono ?_
  rintro e w1 ⟨rfl, v1, hw1, hto1⟩
  rw [size_2] at hw1
  obtain ⟨acc, hacc⟩ : ∃ acc, acc = bs ++ S.num cnt 2 := ⟨_, rfl⟩
  rw [← hacc] at hw1
  obtain ⟨accn, hn⟩ : ∃ n, n = acc.length := ⟨_, rfl⟩
  have hal : acc.length = bs.length + 2 := by rw [hacc, List.length_append, S.num_length]
  obtain ⟨ao, c, hv1⟩ := hw1.text.shape
  rw [← hn] at hv1
  subst hv1
  have ROW : Hid (w1.heap[g]? = some (.cells #[.slice ao accn c] 78 (0, 0))) := hw1.row
  have UR := hide hw1.text
  have SEP := hide hw1.sep
  have TO := hide hto1
  have SX : Hid (SliceAt w1 (.slice aou cnt cap) (xs.take cnt)) := part_to (HU.out w1 hto1.chg) cnt (by omega)
  have LEN : Hid (acc.length + (xs.take cnt).length ≤ 140737488355328) := by show acc.length + (xs.take cnt).length ≤ 140737488355328; rw [List.length_take]; have := HB.out; omega
  have FIN : Hid (acc ++ xs.take cnt = bs ++ S.text xs) := by show acc ++ xs.take cnt = bs ++ S.text xs; rw [hacc, S.text, ← HL.out, ← HC.out, List.append_assoc]
  clear hw1 hto1 hacc hal hn HU HW
  go_wp2_with fail
  refine wp_region_noPanic ?_
  refine wp_region_held_drew (S := (fun _ => True)) follows trivial (fun hHeld => ?_)
  refine wpAnyH_take (i := 0) (oi := { dst := some 12, op := Op.move (Operand.tmp 0), type := 25, pos := "writer.go:24", after := #[], guard := none }) (v := ?_) rfl (by kernel_rfl) (by kernel_rfl) (by kernel_rfl) (fun _ _ _ h => h) (Or.inl ⟨by rfl, ?_⟩) (by assumption) ?_
  rotate_left
  · intro w hSw
    clear hSw
    go_simp
    all_goals with_reducible rfl
  simp only [Act.put, List.setIfInBounds_toArray, List.set_cons_zero, List.set_cons_succ]
  refine wpAnyH_take (i := 1) (oi := { dst := some 13, op := Op.move (Operand.tmp 0), type := 25, pos := "writer.go:24", after := #[], guard := none }) (v := ?_) rfl (by kernel_rfl) (by kernel_rfl) (by kernel_rfl) (fun _ _ _ h => h) (Or.inl ⟨by rfl, ?_⟩) (by assumption) ?_
  rotate_left
  · intro w hSw
    clear hSw
    go_simp
    all_goals with_reducible rfl
  simp only [Act.put, List.setIfInBounds_toArray, List.set_cons_zero, List.set_cons_succ]
  refine wpAnyH_take (i := 2) (oi := { dst := some 14, op := Op.nilCheck (Operand.tmp 13), type := 0, pos := "writer.go:24", after := #[{ on := 1, ground := Ground.data }], guard := none }) (v := ?_) rfl (by kernel_rfl) (by kernel_rfl) (by kernel_rfl) (fun _ _ _ h => h) (Or.inl ⟨by rfl, ?_⟩) (by assumption) ?_
  rotate_left
  · intro w hSw
    clear hSw
    go_simp
    all_goals with_reducible rfl
  simp only [Act.put, List.setIfInBounds_toArray, List.set_cons_zero, List.set_cons_succ]
  refine wpAnyH_take (i := 3) (oi := { dst := some 15, op := Op.fieldAddr 78 (Operand.tmp 14) 0, type := 0, pos := "writer.go:24", after := #[{ on := 2, ground := Ground.data }], guard := none }) (v := ?_) rfl (by kernel_rfl) (by kernel_rfl) (by kernel_rfl) (fun _ _ _ h => h) (Or.inl ⟨by rfl, ?_⟩) (by assumption) ?_
  rotate_left
  · intro w hSw
    clear hSw
    go_simp
    all_goals with_reducible rfl
  simp only [Act.put, List.setIfInBounds_toArray, List.set_cons_zero, List.set_cons_succ]
  refine wpAnyH_take (i := 5) (oi := { dst := some 17, op := Op.move (Operand.tmp 1), type := 24, pos := "writer.go:24", after := #[], guard := none }) (v := ?_) rfl (by kernel_rfl) (by kernel_rfl) (by kernel_rfl) (fun _ _ _ h => h) (Or.inl ⟨by rfl, ?_⟩) (by assumption) ?_
  rotate_left
  · intro w hSw
    clear hSw
    go_simp
    all_goals with_reducible rfl
  simp only [Act.put, List.setIfInBounds_toArray, List.set_cons_zero, List.set_cons_succ]
  refine wpAnyH_take (i := 6) (oi := { dst := some 18, op := Op.move (Operand.tmp 4), type := 3, pos := "writer.go:24", after := #[], guard := none }) (v := ?_) rfl (by kernel_rfl) (by kernel_rfl) (by kernel_rfl) (fun _ _ _ h => h) (Or.inl ⟨by rfl, ?_⟩) (by assumption) ?_
  rotate_left
  · intro w hSw
    clear hSw
    go_simp
    all_goals with_reducible rfl
  simp only [Act.put, List.setIfInBounds_toArray, List.set_cons_zero, List.set_cons_succ]
  refine wpAnyH_take (i := 7) (oi := { dst := some 19, op := Op.slice 24 (Operand.tmp 17) none (some (Operand.tmp 18)) none, type := 24, pos := "writer.go:24", after := #[{ on := 5, ground := Ground.data }, { on := 6, ground := Ground.data }], guard := none }) (v := ?_) rfl (by kernel_rfl) (by kernel_rfl) (by kernel_rfl) (fun _ _ _ h => h) (Or.inl ⟨by rfl, ?_⟩) (by assumption) ?_
  rotate_left
  · intro w hSw
    clear hSw
    go_simp
    all_goals with_reducible rfl
  simp only [Act.put, List.setIfInBounds_toArray, List.set_cons_zero, List.set_cons_succ]
  refine wpAnyH_ready (rs := [4]) (by kernel_rfl) (by simp) ?_
  refine AllReadyH.cons (o := { dst := some 16, op := Op.load 24 (Operand.tmp 15), type := 24, pos := "writer.go:24", after := #[{ on := 3, ground := Ground.data }], guard := none }) rfl (fun K hK => ?_) AllReadyH.nil
  have c0 := cells1 ROW.out
  go_simp
  refine hK.out _ _ trivial (fun hHeld => ?_)
  clear hK K c0
  try simp only [Act.put, List.setIfInBounds_toArray, List.set_cons_zero, List.set_cons_succ]
  refine wpAnyH_ready (rs := [8]) (by kernel_rfl) (by simp) ?_
  refine step_append (o := { dst := some 20, op := Op.call { callee := Callee.builtin Builtin.append, args := #[Operand.tmp 16, Operand.tmp 19], argTypes := #[24, 24] }, type := 24, pos := "writer.go:24", after := #[{ on := 4, ground := Ground.data }, { on := 7, ground := Ground.data }], guard := none }) rfl rfl _ _ 24 24 rfl _ _ rfl rfl (run_append_row _ _ _ acc (xs.take cnt) 24 UR.out SX.out LEN.out) AllReadyH.nil ?_
  rintro v2 Y ⟨hu, hg, ho⟩
  obtain ⟨ao2, c2, hv2⟩ := hu.shape
  generalize hLL : List.length (acc ++ _) = LL at hv2
  subst hv2
  refine ⟨trivial, fun hHeld => ?_⟩
  try simp only [Act.put, List.setIfInBounds_toArray, List.set_cons_zero, List.set_cons_succ]
  have rY : Y.heap[g]? = some (.cells #[.slice ao accn c] 78 (0, 0)) := (hg.block g (block_lt_of_row ROW.out) (fun e => SEP.out e.symm)).trans ROW.out
  have Z := hide (WrIs.put SEP.out (block_lt_of_row ROW.out) rY hu (((Chg.refl _ w1).drew).grown hg (fun k _ h => Or.inr h)) ho)
  have RY := hide rY
  clear rY hu hg ho hLL
  refine wpAnyH_take (i := 9) (oi := { dst := some 21, op := Op.nilCheck (Operand.tmp 12), type := 0, pos := "writer.go:24", after := #[{ on := 0, ground := Ground.data }, { on := 0, ground := Ground.phase }, { on := 1, ground := Ground.phase }, { on := 2, ground := Ground.phase }, { on := 3, ground := Ground.phase }, { on := 4, ground := Ground.phase }, { on := 5, ground := Ground.phase }, { on := 6, ground := Ground.phase }, { on := 7, ground := Ground.phase }, { on := 8, ground := Ground.phase }], guard := none }) (v := ?_) rfl (by kernel_rfl) (by kernel_rfl) (by kernel_rfl) (fun _ _ _ h => h) (Or.inl ⟨by rfl, ?_⟩) (by assumption) ?_
  rotate_left
  · intro w hSw
    clear hSw
    go_simp
    all_goals with_reducible rfl
  simp only [Act.put, List.setIfInBounds_toArray, List.set_cons_zero, List.set_cons_succ]
  refine wpAnyH_take (i := 10) (oi := { dst := some 22, op := Op.fieldAddr 78 (Operand.tmp 21) 0, type := 0, pos := "writer.go:24", after := #[{ on := 9, ground := Ground.data }, { on := 0, ground := Ground.phase }, { on := 1, ground := Ground.phase }, { on := 2, ground := Ground.phase }, { on := 3, ground := Ground.phase }, { on := 4, ground := Ground.phase }, { on := 5, ground := Ground.phase }, { on := 6, ground := Ground.phase }, { on := 7, ground := Ground.phase }, { on := 8, ground := Ground.phase }], guard := none }) (v := ?_) rfl (by kernel_rfl) (by kernel_rfl) (by kernel_rfl) (fun _ _ _ h => h) (Or.inl ⟨by rfl, ?_⟩) (by assumption) ?_
  rotate_left
  · intro w hSw
    clear hSw
    go_simp
    all_goals with_reducible rfl
  simp only [Act.put, List.setIfInBounds_toArray, List.set_cons_zero, List.set_cons_succ]
  refine wpAnyH_ready (rs := [11]) (by kernel_rfl) (by simp) ?_
  refine AllReadyH.cons (o := { dst := none, op := Op.store 24 (Operand.tmp 22) (Operand.tmp 20), type := 0, pos := "writer.go:24", after := #[{ on := 10, ground := Ground.data }, { on := 8, ground := Ground.data }, { on := 8, ground := Ground.chain }, { on := 0, ground := Ground.phase }, { on := 1, ground := Ground.phase }, { on := 2, ground := Ground.phase }, { on := 3, ground := Ground.phase }, { on := 4, ground := Ground.phase }, { on := 5, ground := Ground.phase }, { on := 6, ground := Ground.phase }, { on := 7, ground := Ground.phase }, { on := 8, ground := Ground.phase }], guard := none }) rfl (fun K hK => ?_) AllReadyH.nil
  have c1 := cells1 RY.out
  have f1 := frozen_of_row _ _ 0 _ _ RY.out
  go_simp
  refine hK.out _ _ trivial (fun hHeld => ?_)
  clear hK K c1 f1
  try simp only [Act.put, List.setIfInBounds_toArray, List.set_cons_zero, List.set_cons_succ]
  refine wpAnyH_done (by kernel_rfl) ?_ _
  refine NoPanic.normal ?_
  clear hHeld RY
  go_wp2_with fail
  go_end0
  exact ⟨rfl, _, by rw [← FIN.out]; exact Z.out.1, TO.out.trans Z.out.2⟩
set_option maxHeartbeats 1600000 in
set_option maxRecDepth 100000 in
theorem wdigest_any (g : Nat) (v : Value) (bs d : List UInt8) (w0 : World) (hd : d.length = 32) (hw : WrIs w0 g v bs) (hb : bs.length + 32 ≤ 140737488355328) :
   Calls Tryd.prog 23 #[.pointer (some ⟨g, 0, none⟩), .agg (S.v8 d)] w0 fun e w' => e = .returned (.tuple #[]) ∧ ∃ v', WrIs w' g v' (bs ++ d) ∧ WrTo g v w0 v' w' := by
  have HW := hide hw
  obtain ⟨accn, hn⟩ : ∃ n, n = bs.length := ⟨_, rfl⟩
  obtain ⟨acc, hacc⟩ : ∃ acc, acc = bs := ⟨_, rfl⟩
  obtain ⟨ao, c, hv1⟩ := hw.text.shape
  rw [← hn] at hv1
  subst hv1
  have LEN : Hid (acc.length + d.length ≤ 140737488355328) := by show acc.length + d.length ≤ 140737488355328; rw [hacc]; omega
  have HD := hide hd
  have HA := hide hacc
  clear hw hb hn hd hacc
  go_enter Tryd.func23, Tryd.ntmps23
  go_wp2_with fail
  generalize hW : w0.alloc _ = w1
  have r1 : w1.heap[w0.heap.size]? = some (.cells (S.v8 d) 40 (0, 0)) := by rw [← hW]; exact heap_alloc_new _ _
  have hc1 : Chg (fun k => k = g ∨ (Value.slice ao accn c).ownBlock = some k) w0 w1 := by rw [← hW]; exact (Chg.refl _ _).alloc _
  have hb1 : Below w0.heap.size w0 w1 := by rw [← hW]; exact (Below.refl _ _).alloc (Nat.le_refl _) _
  have hw1 : WrIs w1 g (.slice ao accn c) acc := by rw [HA.out]; exact HW.out.chg (p := fun _ => False) (Chg.ofBelow' hb1) (fun e => e) (fun _ _ e => e)
  have ROW := hide hw1.row
  have UR := hide hw1.text
  have SEP := hide hw1.sep
  have TO : Hid (WrTo g (.slice ao accn c) w0 (.slice ao accn c) w1) := ⟨hc1, fun k hk => Or.inl hk⟩
  have SX : Hid (SliceAt w1 (.slice (some ⟨w0.heap.size, 0, none⟩) 32 32) d) := Or.inr (Or.inr ⟨w0.heap.size, 0, 32, by rw [HD.out], by rw [HD.out]; omega, by rw [HD.out]; omega, block_lt_of_row r1, fun j hj => by rw [Nat.zero_add]; exact v8_cell r1 j hj⟩)
  clear hW r1 hc1 hb1 hw1 HW
  generalize w0.heap.size = gd at *
  refine wp_region_noPanic ?_
  refine wp_region_held_drew (S := (fun _ => True)) follows trivial (fun hHeld => ?_)
  refine wpAnyH_take (i := 0) (oi := { dst := some 4, op := Op.move (Operand.tmp 0), type := 25, pos := "writer.go:29", after := #[], guard := none }) (v := ?_) rfl (by kernel_rfl) (by kernel_rfl) (by kernel_rfl) (fun _ _ _ h => h) (Or.inl ⟨by rfl, ?_⟩) (by assumption) ?_
  rotate_left
  · intro w hSw
    clear hSw
    go_simp
    all_goals with_reducible rfl
  simp only [Act.put, List.setIfInBounds_toArray, List.set_cons_zero, List.set_cons_succ]
  refine wpAnyH_take (i := 1) (oi := { dst := some 5, op := Op.move (Operand.tmp 0), type := 25, pos := "writer.go:29", after := #[], guard := none }) (v := ?_) rfl (by kernel_rfl) (by kernel_rfl) (by kernel_rfl) (fun _ _ _ h => h) (Or.inl ⟨by rfl, ?_⟩) (by assumption) ?_
  rotate_left
  · intro w hSw
    clear hSw
    go_simp
    all_goals with_reducible rfl
  simp only [Act.put, List.setIfInBounds_toArray, List.set_cons_zero, List.set_cons_succ]
  refine wpAnyH_take (i := 2) (oi := { dst := some 6, op := Op.nilCheck (Operand.tmp 5), type := 0, pos := "writer.go:29", after := #[{ on := 1, ground := Ground.data }], guard := none }) (v := ?_) rfl (by kernel_rfl) (by kernel_rfl) (by kernel_rfl) (fun _ _ _ h => h) (Or.inl ⟨by rfl, ?_⟩) (by assumption) ?_
  rotate_left
  · intro w hSw
    clear hSw
    go_simp
    all_goals with_reducible rfl
  simp only [Act.put, List.setIfInBounds_toArray, List.set_cons_zero, List.set_cons_succ]
  refine wpAnyH_take (i := 3) (oi := { dst := some 7, op := Op.fieldAddr 78 (Operand.tmp 6) 0, type := 0, pos := "writer.go:29", after := #[{ on := 2, ground := Ground.data }], guard := none }) (v := ?_) rfl (by kernel_rfl) (by kernel_rfl) (by kernel_rfl) (fun _ _ _ h => h) (Or.inl ⟨by rfl, ?_⟩) (by assumption) ?_
  rotate_left
  · intro w hSw
    clear hSw
    go_simp
    all_goals with_reducible rfl
  simp only [Act.put, List.setIfInBounds_toArray, List.set_cons_zero, List.set_cons_succ]
  refine wpAnyH_take (i := 5) (oi := { dst := some 9, op := Op.slice 40 (Operand.tmp 3) none none none, type := 24, pos := "writer.go:29", after := #[], guard := none }) (v := ?_) rfl (by kernel_rfl) (by kernel_rfl) (by kernel_rfl) (fun _ _ _ h => h) (Or.inl ⟨by rfl, ?_⟩) (by assumption) ?_
  rotate_left
  · intro w hSw
    clear hSw
    go_simp
    all_goals with_reducible rfl
  simp only [Act.put, List.setIfInBounds_toArray, List.set_cons_zero, List.set_cons_succ]
  refine wpAnyH_ready (rs := [4]) (by kernel_rfl) (by simp) ?_
  refine AllReadyH.cons (o := { dst := some 8, op := Op.load 24 (Operand.tmp 7), type := 24, pos := "writer.go:29", after := #[{ on := 3, ground := Ground.data }], guard := none }) rfl (fun K hK => ?_) AllReadyH.nil
  have c0 := cells1 ROW.out
  go_simp
  refine hK.out _ _ trivial (fun hHeld => ?_)
  clear hK K c0
  try simp only [Act.put, List.setIfInBounds_toArray, List.set_cons_zero, List.set_cons_succ]
  refine wpAnyH_ready (rs := [6]) (by kernel_rfl) (by simp) ?_
  refine step_append (o := { dst := some 10, op := Op.call { callee := Callee.builtin Builtin.append, args := #[Operand.tmp 8, Operand.tmp 9], argTypes := #[24, 24] }, type := 24, pos := "writer.go:29", after := #[{ on := 4, ground := Ground.data }, { on := 5, ground := Ground.data }], guard := none }) rfl rfl _ _ 24 24 rfl _ _ rfl rfl (run_append_row _ _ _ acc d 24 UR.out SX.out LEN.out) AllReadyH.nil ?_
  rintro v2 Y ⟨hu, hg, ho⟩
  obtain ⟨ao2, c2, hv2⟩ := hu.shape
  generalize hLL : List.length (acc ++ _) = LL at hv2
  subst hv2
  refine ⟨trivial, fun hHeld => ?_⟩
  try simp only [Act.put, List.setIfInBounds_toArray, List.set_cons_zero, List.set_cons_succ]
  have rY : Y.heap[g]? = some (.cells #[.slice ao accn c] 78 (0, 0)) := (hg.block g (block_lt_of_row ROW.out) (fun e => SEP.out e.symm)).trans ROW.out
  have Z := hide (WrIs.put SEP.out (block_lt_of_row ROW.out) rY hu (((Chg.refl _ w1).drew).grown hg (fun k _ h => Or.inr h)) ho)
  have RY := hide rY
  clear rY hu hg ho hLL
  refine wpAnyH_take (i := 7) (oi := { dst := some 11, op := Op.nilCheck (Operand.tmp 4), type := 0, pos := "writer.go:29", after := #[{ on := 0, ground := Ground.data }, { on := 0, ground := Ground.phase }, { on := 1, ground := Ground.phase }, { on := 2, ground := Ground.phase }, { on := 3, ground := Ground.phase }, { on := 4, ground := Ground.phase }, { on := 5, ground := Ground.phase }, { on := 6, ground := Ground.phase }], guard := none }) (v := ?_) rfl (by kernel_rfl) (by kernel_rfl) (by kernel_rfl) (fun _ _ _ h => h) (Or.inl ⟨by rfl, ?_⟩) (by assumption) ?_
  rotate_left
  · intro w hSw
    clear hSw
    go_simp
    all_goals with_reducible rfl
  simp only [Act.put, List.setIfInBounds_toArray, List.set_cons_zero, List.set_cons_succ]
  refine wpAnyH_take (i := 8) (oi := { dst := some 12, op := Op.fieldAddr 78 (Operand.tmp 11) 0, type := 0, pos := "writer.go:29", after := #[{ on := 7, ground := Ground.data }, { on := 0, ground := Ground.phase }, { on := 1, ground := Ground.phase }, { on := 2, ground := Ground.phase }, { on := 3, ground := Ground.phase }, { on := 4, ground := Ground.phase }, { on := 5, ground := Ground.phase }, { on := 6, ground := Ground.phase }], guard := none }) (v := ?_) rfl (by kernel_rfl) (by kernel_rfl) (by kernel_rfl) (fun _ _ _ h => h) (Or.inl ⟨by rfl, ?_⟩) (by assumption) ?_
  rotate_left
  · intro w hSw
    clear hSw
    go_simp
    all_goals with_reducible rfl
  simp only [Act.put, List.setIfInBounds_toArray, List.set_cons_zero, List.set_cons_succ]
  refine wpAnyH_ready (rs := [9]) (by kernel_rfl) (by simp) ?_
  refine AllReadyH.cons (o := { dst := none, op := Op.store 24 (Operand.tmp 12) (Operand.tmp 10), type := 0, pos := "writer.go:29", after := #[{ on := 8, ground := Ground.data }, { on := 6, ground := Ground.data }, { on := 6, ground := Ground.chain }, { on := 0, ground := Ground.phase }, { on := 1, ground := Ground.phase }, { on := 2, ground := Ground.phase }, { on := 3, ground := Ground.phase }, { on := 4, ground := Ground.phase }, { on := 5, ground := Ground.phase }, { on := 6, ground := Ground.phase }], guard := none }) rfl (fun K hK => ?_) AllReadyH.nil
  have c1 := cells1 RY.out
  have f1 := frozen_of_row _ _ 0 _ _ RY.out
  go_simp
  refine hK.out _ _ trivial (fun hHeld => ?_)
  clear hK K c1 f1
  try simp only [Act.put, List.setIfInBounds_toArray, List.set_cons_zero, List.set_cons_succ]
  refine wpAnyH_done (by kernel_rfl) ?_ _
  refine NoPanic.normal ?_
  clear hHeld RY
  go_wp2_with fail
  go_end0
  exact ⟨rfl, _, by rw [← HA.out]; exact Z.out.1, TO.out.trans Z.out.2⟩
end Go.Proofs.YtdhaeepaemneaaaDoor
