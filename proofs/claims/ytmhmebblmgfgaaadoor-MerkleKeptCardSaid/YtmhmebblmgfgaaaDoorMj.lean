/- The runs that are known; digests are the same; rows of digests are the same. -/
import Derived.Test.YtmhmebblmgfgaaaDoorMh
namespace Go.Proofs.YtmhmebblmgfgaaaDoor
open Go.RowKit

/-- The value v is a slice of digests that read so. -/
def DgAt (w : World) (v : Value) (ds : List (List UInt8)) : Prop :=
  ∃ ao cap, v = .slice ao ds.length cap ∧ ds.length ≤ 1000000 ∧ (∀ d ∈ ds, d.length = 32) ∧ (0 < ds.length → ∃ g off, ao = some ⟨g, off, none⟩ ∧ g < w.heap.size ∧ ∀ j, j < ds.length → w.rangeAt g (off + j * 32) (S.v8l (ds.getD j [])))
theorem DgAt.of_heap {w w' : World} {v : Value} {ds : List (List UInt8)} (h : DgAt w v ds) (hh : w'.heap = w.heap) : DgAt w' v ds := by
  obtain ⟨ao, cap, rfl, h1, h2, h3⟩ := h
  refine ⟨ao, cap, rfl, h1, h2, fun hp => ?_⟩
  obtain ⟨g, off, rfl, h4, h5⟩ := h3 hp
  exact ⟨g, off, rfl, by rw [hh]; exact h4, fun j hj k u hu => (World.cell?_of_block (by rw [hh])).trans (h5 j hj k u hu)⟩
theorem DgAt.below {w w' : World} {v : Value} {ds : List (List UInt8)} (h : DgAt w v ds) (hb : Below w.heap.size w w') : DgAt w' v ds := by
  obtain ⟨ao, cap, rfl, h1, h2, h3⟩ := h
  refine ⟨ao, cap, rfl, h1, h2, fun hp => ?_⟩
  obtain ⟨g, off, rfl, h4, h5⟩ := h3 hp
  exact ⟨g, off, rfl, Nat.lt_of_lt_of_le h4 hb.size, fun j hj k u hu => (hb.cell (p := ⟨g, off + j * 32 + k, none⟩) h4).trans (h5 j hj k u hu)⟩
theorem flat_at (ds : List (List UInt8)) (h : ∀ d ∈ ds, d.length = 32) (j k : Nat) (hj : j < ds.length) (hk : k < 32) : (ds.flatMap S.v8l)[j * 32 + k]? = (S.v8l (ds.getD j []))[k]? := by
  induction ds generalizing j with
  | nil => simp at hj
  | cons d ds ih =>
    have hd : (S.v8l d).length = 32 := by rw [S.v8l_length, h d (by simp)]
    rw [List.flatMap_cons]
    cases j with
    | zero => rw [List.getElem?_append_left (by omega)]; simp
    | succ j =>
      rw [List.getElem?_append_right (by omega), hd, show (j + 1) * 32 + k - 32 = j * 32 + k by omega, ih (fun x hx => h x (by simp [hx])) j (by simpa using hj)]
      simp
theorem DgRow.dgAt {B : Nat} {w : World} {v : Value} {ds : List (List UInt8)} (h : DgRow B w v ds) (hl : ds.length ≤ 1000000) (hd : ∀ d ∈ ds, d.length = 32) : DgAt w v ds := by
  rcases h.2 with ⟨rfl, h0⟩ | ⟨g, cap, cur, rfl, hB, hr, h1, h2, h3, h4⟩
  · exact ⟨none, 0, by rw [h0], hl, hd, fun hp => by omega⟩
  · refine ⟨_, cap, rfl, hl, hd, fun hp => ⟨g, 0, rfl, block_lt_of_row hr, fun j hj k u hu => ?_⟩⟩
    have hk : k < 32 := by
      have := (List.getElem?_eq_some_iff.1 hu).1
      rw [S.v8l_length, List.getD_eq_getElem?_getD, List.getElem?_eq_getElem hj] at this
      have h5 := hd _ (List.getElem_mem hj)
      simp only [Option.getD_some] at this
      omega
    rw [← flat_at ds hd j k hj hk, ← h4, List.getElem?_take, if_pos (by omega)] at hu
    rw [Nat.zero_add, cell_of_row w g (j * 32 + k) _ _ _ hr]
    simpa using hu
theorem equal_dig (xs ys : List UInt8) (hx : xs.length = 32) (hy : ys.length = 32) (b : Bool) (hb : (xs == ys) = b) (w : World) : (Op.equalIn 10000 31 (.agg (S.v8 xs)) (.agg (S.v8 ys))).run Tryd.prog w = .ok b w := by rw [← hb]; exact equal_digests xs ys hx hy w
theorem S.hsh32_nil : (S.hsh 32 []).getD 0 0 = 227 ∧ (S.hsh 32 []).getD 1 0 = 176 := by decide +kernel
theorem S.leaf32_nil : (S.leaf 32 []).getD 0 0 = 110 ∧ (S.leaf 32 []).getD 31 0 = 29 := by decide +kernel
def S.l2 : List UInt8 := [110, 52] ++ S.zeros 30
theorem S.leaf2_nil : S.leaf 2 [] = S.l2 := by decide +kernel
theorem alloc31 (w : World) : (Instr.alloc 31 true (.tuple #[])).run Tryd.prog w = .ok (.pointer (some ⟨w.heap.size, 0, none⟩)) (w.alloc (.cells (S.v8 (S.zeros 32)) 31)) := by
  obtain ⟨i, hi, hz, _, _⟩ := info_parts info31
  simp [Instr.alloc, zeroValue, typeInfo, hi, hz, newVar, newRow, Value.cells]
/-- A digest is laid into a new variable: what its alloc and its store leave. -/
theorem lay_dig (w : World) (D : List UInt8) (hD : D.length = 32) : ∃ A Y, (Instr.alloc 31 true (.tuple #[])).run Tryd.prog w = .ok (.pointer (some ⟨w.heap.size, 0, none⟩)) A ∧ (Instr.storeAt 31 (.pointer (some ⟨w.heap.size, 0, none⟩)) (.agg (S.v8 D))).run Tryd.prog A = .ok () Y ∧ Y.heap[w.heap.size]? = some (.cells (S.v8 D) 31 (0, 0)) ∧ Below w.heap.size w Y ∧ Y.heap.size = w.heap.size + 1 := by
  obtain ⟨Y, h1, h2, h3, h4⟩ := store_dig (w := w.alloc (.cells (S.v8 (S.zeros 32)) 31)) (g := w.heap.size) (heap_alloc_new _ _) (S.zeros_length _) hD
  exact ⟨_, Y, alloc31 w, h1, h2, ((Below.refl _ _).alloc (Nat.le_refl _) _).trans (h3.below _ (by simp) (fun k hk e => by omega)), by rw [h4]; simp⟩
set_option maxHeartbeats 4000000 in
set_option maxRecDepth 10000 in
theorem known_any (w : World) (hK : KAt w) : Calls Tryd.prog 15 #[] w fun e w' => e = .returned (.bool true) ∧ Below w.heap.size w w' := by
  have HK := hide hK
  have h0 := hK.pos
  clear hK
  go_enter Tryd.func15, Tryd.ntmps15
  go_wp2_with fail
  refine (root_any 32 (.slice none 0 0) [] w (BsAt.nil w) (by simp) (fun b hb => by simp at hb) HK.out).mono ?_
  rintro e w1 ⟨rfl, b1⟩
  rw [S.root_none 32 [] rfl]
  obtain ⟨D1, hD1⟩ : ∃ D, D = S.hsh 32 [] := ⟨_, rfl⟩
  rw [← hD1]
  have HL1 := hide (show D1.length = 32 by rw [hD1, S.hsh_length])
  have e0 := S.hsh32_nil
  rw [← hD1] at e0
  have E0 := hide e0
  have HB1 := hide b1
  clear hD1 b1 e0
  go_wp2_with (refine wpList_store_row rfl 31 _ _ rfl w1.heap.size (S.v8 D1) rfl rfl 31 _ (heap_alloc_new _ _) (size_dig D1 HL1.out) (zeros_dig D1 HL1.out) (S.v8_one _) ?_)
  generalize hX : World.setRow _ _ _ = X
  have RX : Hid (X.heap[w1.heap.size]? = some (.cells (S.v8 D1) 31 (0, 0))) := by rw [← hX]; exact setRow_heap _ _ _ _ _ _ (heap_alloc_new _ _)
  have BX : Hid (Below w.heap.size w X) := by rw [← hX]; exact below_setRow (HB1.out.alloc HB1.out.size _) HB1.out.size _
  clear hX
  obtain ⟨g1, hg1⟩ : ∃ g1, g1 = w1.heap.size := ⟨_, rfl⟩
  rw [← hg1] at RX ⊢
  clear hg1 HB1
  refine (leaf_any 32 (.slice none 0 0) [] X (Or.inl ⟨rfl, rfl⟩) (by simp) (HK.out.below BX.out h0)).mono ?_
  rintro e w2 ⟨rfl, b2⟩
  obtain ⟨D2, hD2⟩ : ∃ D, D = S.leaf 32 [] := ⟨_, rfl⟩
  rw [← hD2]
  have HL2 := hide (show D2.length = 32 by rw [hD2, S.leaf_length])
  have e1 := S.leaf32_nil
  rw [← hD2] at e1
  have E1 := hide e1
  have HB2 : Hid (Below w.heap.size w w2) := BX.out.trans (b2.mono BX.out.size)
  have R2 : Hid (w2.heap[g1]? = some (.cells (S.v8 D1) 31 (0, 0))) := (b2.block _ (block_lt_of_row RX.out)).trans RX.out
  clear hD2 b2 e1 RX BX
  obtain ⟨A, Y, hal, hst, ry, by1, sy⟩ := lay_dig w2 D2 HL2.out
  obtain ⟨g2, hg2⟩ : ∃ g2, g2 = w2.heap.size := ⟨_, rfl⟩
  rw [← hg2] at hal hst ry
  have HB3 : Hid (Below w.heap.size w Y) := HB2.out.trans (by1.mono HB2.out.size)
  have r1y : Y.heap[g1]? = some (.cells (S.v8 D1) 31 (0, 0)) := (by1.block _ (block_lt_of_row R2.out)).trans R2.out
  have c0 : Y.cell? ⟨g1, 0, none⟩ = some (.int .u8 227) := by rw [v8_cell r1y 0 (by rw [HL1.out]; omega), E0.out.1]; rfl
  have c1 : Y.cell? ⟨g1, 1, none⟩ = some (.int .u8 176) := by rw [v8_cell r1y 1 (by rw [HL1.out]; omega), E0.out.2]; rfl
  have c2 : Y.cell? ⟨g2, 0, none⟩ = some (.int .u8 110) := by rw [v8_cell ry 0 (by rw [HL2.out]; omega), E1.out.1]; rfl
  have c3 : Y.cell? ⟨g2, 31, none⟩ = some (.int .u8 29) := by rw [v8_cell ry 31 (by rw [HL2.out]; omega), E1.out.2]; rfl
  clear by1 sy hg2 ry r1y HB2 R2
  go_wp2_with (first | (with_reducible refine at_op { dst := some 2, op := Op.alloc 31, type := 0, pos := "law.go:28", after := #[], guard := none } ?_; refine wpList_alloc_known rfl 31 rfl (.pointer (some ⟨g2, 0, none⟩)) A hal ?_) | (with_reducible refine at_op { dst := none, op := Op.store 31 (Operand.tmp 2) (Operand.tmp 4), type := 0, pos := "law.go:28", after := #[{ on := 1, ground := Ground.data }, { on := 0, ground := Ground.data }, { on := 0, ground := Ground.chain }, { on := 0, ground := Ground.phase }, { on := 1, ground := Ground.phase }], guard := none } ?_; refine wpList_store_as rfl 31 (.tmp 2) (.tmp 4) rfl (.pointer (some ⟨g2, 0, none⟩)) (.agg (S.v8 D2)) rfl rfl Y hst ?_))
  clear hal hst c0 c1 c2 c3
  refine (leaf_any 2 (.slice none 0 0) [] Y (Or.inl ⟨rfl, rfl⟩) (by simp) (HK.out.below HB3.out h0)).mono ?_
  rintro e w3 ⟨rfl, b3⟩
  have B4 : Hid (Below w.heap.size w w3) := HB3.out.trans (b3.mono HB3.out.size)
  rw [S.leaf2_nil]
  have heq : ∀ w, (Op.equalIn 10000 31 (.agg (S.v8 S.l2)) (.agg #[.int .u8 110, .int .u8 52, .int .u8 0, .int .u8 0, .int .u8 0, .int .u8 0, .int .u8 0, .int .u8 0, .int .u8 0, .int .u8 0, .int .u8 0, .int .u8 0, .int .u8 0, .int .u8 0, .int .u8 0, .int .u8 0, .int .u8 0, .int .u8 0, .int .u8 0, .int .u8 0, .int .u8 0, .int .u8 0, .int .u8 0, .int .u8 0, .int .u8 0, .int .u8 0, .int .u8 0, .int .u8 0, .int .u8 0, .int .u8 0, .int .u8 0, .int .u8 0])).run Tryd.prog w = .ok true w := fun w => equal_dig S.l2 S.l2 rfl rfl true (by simp) w
  obtain ⟨L, hL⟩ : ∃ L, L = S.v8 S.l2 := ⟨_, rfl⟩
  rw [← hL] at heq ⊢
  clear hL b3
  go_wp2_with fail
  go_ret
  exact ⟨rfl, B4.out⟩
end Go.Proofs.YtmhmebblmgfgaaaDoor
namespace Go.Proofs.YtmhmebblmgfgaaaDoor
open Go.RowKit

set_option maxHeartbeats 2000000 in
set_option maxRecDepth 10000 in
theorem same_dg (v u : Value) (ds : List (List UInt8)) (w : World) (hv : DgAt w v ds) (hu : DgAt w u ds) :
   Calls Tryd.prog 12 #[v, u] w fun e w' => e = .returned (.bool true) ∧ Still w w' := by
  obtain ⟨ao, cap, rfl, hmax, hd, hA⟩ := hv
  obtain ⟨ao2, cap2, rfl, _, _, hA2⟩ := hu
  have HA := hide hA
  have HA2 := hide hA2
  have HD := hide hd
  obtain ⟨len, hlen⟩ : ∃ len, len = ds.length := ⟨_, rfl⟩
  have HL := hide hlen
  rw [← hlen] at hmax ⊢
  clear hA hA2 hd hlen
  go_enter Tryd.func12, Tryd.ntmps12
  go_wp2
  go_loopw [5] (fun i wr => ∃ k : Nat, k ≤ len ∧ i = .int .i64 (k : Int) ∧ Still w wr) (fun i _ => len - (intOf i).toNat)
  case atStart => exact ⟨0, by omega, rfl, Still.refl _⟩
  case round =>
    obtain ⟨k, hk, rfl, hst⟩ := hrel
    by_cases hlt : k < len
    · have hkd : k < ds.length := by have := HL.out; omega
      obtain ⟨g, off, rfl, _, hc⟩ := HA.out (by omega)
      obtain ⟨g2, off2, rfl, _, hc2⟩ := HA2.out (by omega)
      obtain ⟨D, hD⟩ : ∃ D, D = ds.getD k [] := ⟨_, rfl⟩
      have hDl : D.length = 32 := by rw [hD, List.getD_eq_getElem?_getD, List.getElem?_eq_getElem hkd]; exact HD.out _ (List.getElem_mem hkd)
      have r1 : wr.rangeAt g (off + k * 32) (S.v8l D) := fun j x hx => (World.cell?_of_block (by rw [hst.1])).trans (hc k hkd j x (by rw [← hD]; exact hx))
      have r2 : wr.rangeAt g2 (off2 + k * 32) (S.v8l D) := fun j x hx => (World.cell?_of_block (by rw [hst.1])).trans (hc2 k hkd j x (by rw [← hD]; exact hx))
      have hsz : (Tryd.prog.info? 31).map (·.size) = some (S.v8l D).length := by rw [S.v8l_length, hDl]; exact size23
      have heq : ∀ w, (Op.equalIn 10000 31 (.agg (S.v8l D).toArray) (.agg (S.v8l D).toArray)).run Tryd.prog w = .ok true w := fun w => equal_dig D D hDl hDl true (by simp) w
      have q1 : (0 : Int) ≤ (k : Int) := by omega
      have q2 : (k : Int) < (len : Int) := by omega
      have q4 : IntKind.i64.wrap ((k : Int) + 1) = (k : Int) + 1 := by rw [IntKind.wrap_i64]; omega
      have ST := hide hst
      have R1 := hide r1
      have R2 := hide r2
      have HS := hide hsz
      generalize hcs : S.v8l D = cs at R1 R2 HS heq
      clear hc hc2 hst r1 r2 hsz hD hDl hcs
      go_wp2_with fail
      refine wp_region_noPanic ?_
      refine wp_region_held_drew (S := (fun W => W.rangeAt g (off + k * 32) cs ∧ W.rangeAt g2 (off2 + k * 32) cs)) follows ⟨R1.out, R2.out⟩ (fun hHeld => ?_)
      have SZ : Hid (Still w wr.drew) := ST.out.drew
      clear ST R1 R2
      generalize wr.drew = Z at SZ hHeld ⊢
      refine wpAnyH_take (i := 0) (oi := { dst := some 17, op := Op.move (Operand.tmp 0), type := 24, pos := "book.go:17", after := #[], guard := none }) (v := ?_) rfl (by kernel_rfl) (by kernel_rfl) (by kernel_rfl) (fun _ _ _ h => h) (Or.inl ⟨by rfl, ?_⟩) (by assumption) ?_
      rotate_left
      · intro w hSw
        clear hSw
        go_simp
        all_goals with_reducible rfl
      simp only [Act.put, List.setIfInBounds_toArray, List.set_cons_zero, List.set_cons_succ]
      refine wpAnyH_take (i := 1) (oi := { dst := some 18, op := Op.move (Operand.tmp 5), type := 3, pos := "book.go:17", after := #[], guard := none }) (v := ?_) rfl (by kernel_rfl) (by kernel_rfl) (by kernel_rfl) (fun _ _ _ h => h) (Or.inl ⟨by rfl, ?_⟩) (by assumption) ?_
      rotate_left
      · intro w hSw
        clear hSw
        go_simp
        all_goals with_reducible rfl
      simp only [Act.put, List.setIfInBounds_toArray, List.set_cons_zero, List.set_cons_succ]
      refine wpAnyH_take (i := 2) (oi := { dst := some 19, op := Op.indexAddr 24 (Operand.tmp 17) (Operand.tmp 18), type := 0, pos := "book.go:17", after := #[{ on := 0, ground := Ground.data }, { on := 1, ground := Ground.data }], guard := none }) (v := ?_) rfl (by kernel_rfl) (by kernel_rfl) (by kernel_rfl) (fun _ _ _ h => h) (Or.inl ⟨by rfl, ?_⟩) (by assumption) ?_
      rotate_left
      · intro w hSw
        clear hSw
        go_simp
        all_goals with_reducible rfl
      simp only [Act.put, List.setIfInBounds_toArray, List.set_cons_zero, List.set_cons_succ]
      refine wpAnyH_take (i := 3) (oi := { dst := some 20, op := Op.load 31 (Operand.tmp 19), type := 31, pos := "book.go:17", after := #[{ on := 2, ground := Ground.data }], guard := none }) (v := .agg cs.toArray) rfl (by kernel_rfl) (by kernel_rfl) (by kernel_rfl) (fun _ _ _ h => h) (yieldsIf_load_mid (by rfl) _ _ rfl g (off + k * 32) rfl cs _ (fun _ hSw => hSw.1) Tryd.underlying31 rfl HS.out) (by assumption) ?_
      simp only [Act.put, List.setIfInBounds_toArray, List.set_cons_zero, List.set_cons_succ]
      refine wpAnyH_take (i := 4) (oi := { dst := some 21, op := Op.move (Operand.tmp 1), type := 24, pos := "book.go:17", after := #[], guard := none }) (v := ?_) rfl (by kernel_rfl) (by kernel_rfl) (by kernel_rfl) (fun _ _ _ h => h) (Or.inl ⟨by rfl, ?_⟩) (by assumption) ?_
      rotate_left
      · intro w hSw
        clear hSw
        go_simp
        all_goals with_reducible rfl
      simp only [Act.put, List.setIfInBounds_toArray, List.set_cons_zero, List.set_cons_succ]
      refine wpAnyH_take (i := 5) (oi := { dst := some 22, op := Op.move (Operand.tmp 5), type := 3, pos := "book.go:17", after := #[], guard := none }) (v := ?_) rfl (by kernel_rfl) (by kernel_rfl) (by kernel_rfl) (fun _ _ _ h => h) (Or.inl ⟨by rfl, ?_⟩) (by assumption) ?_
      rotate_left
      · intro w hSw
        clear hSw
        go_simp
        all_goals with_reducible rfl
      simp only [Act.put, List.setIfInBounds_toArray, List.set_cons_zero, List.set_cons_succ]
      refine wpAnyH_take (i := 6) (oi := { dst := some 23, op := Op.indexAddr 24 (Operand.tmp 21) (Operand.tmp 22), type := 0, pos := "book.go:17", after := #[{ on := 4, ground := Ground.data }, { on := 5, ground := Ground.data }], guard := none }) (v := ?_) rfl (by kernel_rfl) (by kernel_rfl) (by kernel_rfl) (fun _ _ _ h => h) (Or.inl ⟨by rfl, ?_⟩) (by assumption) ?_
      rotate_left
      · intro w hSw
        clear hSw
        go_simp
        all_goals with_reducible rfl
      simp only [Act.put, List.setIfInBounds_toArray, List.set_cons_zero, List.set_cons_succ]
      refine wpAnyH_take (i := 7) (oi := { dst := some 24, op := Op.load 31 (Operand.tmp 23), type := 31, pos := "book.go:17", after := #[{ on := 6, ground := Ground.data }], guard := none }) (v := .agg cs.toArray) rfl (by kernel_rfl) (by kernel_rfl) (by kernel_rfl) (fun _ _ _ h => h) (yieldsIf_load_mid (by rfl) _ _ rfl g2 (off2 + k * 32) rfl cs _ (fun _ hSw => hSw.2) Tryd.underlying31 rfl HS.out) (by assumption) ?_
      simp only [Act.put, List.setIfInBounds_toArray, List.set_cons_zero, List.set_cons_succ]
      refine wpAnyH_take (i := 8) (oi := { dst := some 25, op := Op.binOp BinOp.neq 31 (Operand.tmp 20) (Operand.tmp 24) 31, type := 4, pos := "book.go:17", after := #[{ on := 3, ground := Ground.data }, { on := 7, ground := Ground.data }], guard := none }) (v := ?_) rfl (by kernel_rfl) (by kernel_rfl) (by kernel_rfl) (fun _ _ _ h => h) (Or.inl ⟨by rfl, ?_⟩) (by assumption) ?_
      rotate_left
      · intro w hSw
        clear hSw
        go_simp
        all_goals with_reducible rfl
      simp only [Act.put, List.setIfInBounds_toArray, List.set_cons_zero, List.set_cons_succ]
      refine wpAnyH_done (by kernel_rfl) ?_ _
      refine NoPanic.normal ?_
      clear hHeld heq
      go_wp2_with fail
      go_roundw
      case rel => exact ⟨k + 1, by omega, by go_num, SZ.out⟩
      case measure => simp [intOf]; omega
    · obtain rfl : k = len := by omega
      go_wp2
      go_ret
      exact ⟨rfl, hst⟩
end Go.Proofs.YtmhmebblmgfgaaaDoor
