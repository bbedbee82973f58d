/- Rows of texts of one's own; a list of leaves is made. -/
import Derived.Test.YtkljajfgdelfgaaDoorMg
import Derived.Test.YtkljajfgdelfgaaDoorLists
namespace Go.Proofs.YtkljajfgdelfgaaDoor
open Go.RowKit

/-- A row of texts of one's own; the texts lie elsewhere. -/
structure TxRow (B : Nat) (w : World) (v : Value) (bss : List (List UInt8)) : Prop where
  ls : ∃ vs, Lists w v vs ∧ vs.length = bss.length ∧ (∀ k, v.ownBlock = some k → B ≤ k) ∧ ∀ (j : Nat) x, vs[j]? = some x → (∃ ao n c, x = .slice ao n c) ∧ ∀ W, Chg (fun k => v.ownBlock = some k) w W → SliceAt W x (bss.getD j [])
theorem TxRow.nil (B : Nat) (w : World) : TxRow B w (.slice none 0 0) [] := ⟨[], Or.inl ⟨rfl, rfl⟩, rfl, fun k h => by simp [Value.ownBlock] at h, fun j x h => by simp at h⟩
theorem TxRow.mono {B B' : Nat} {w : World} {v : Value} {bss : List (List UInt8)} (h : TxRow B w v bss) (hB : B' ≤ B) : TxRow B' w v bss := by
  obtain ⟨vs, h1, h2, h3, h4⟩ := h.ls
  exact ⟨vs, h1, h2, fun k hk => Nat.le_trans hB (h3 k hk), h4⟩
theorem TxRow.chg {p : Nat → Prop} {B : Nat} {w W : World} {v : Value} {bss : List (List UInt8)} (h : TxRow B w v bss) (hc : Chg p w W) (hp : ∀ k, p k → w.heap.size ≤ k) : TxRow B W v bss := by
  obtain ⟨vs, h1, h2, h3, h4⟩ := h.ls
  refine ⟨vs, h1.kept fun k hk => hc.block k (h1.lt hk) (fun e => absurd (hp k e) (by have := h1.lt hk; omega)), h2, h3, fun j x hj => ⟨(h4 j x hj).1, fun W' hW' => (h4 j x hj).2 W' ?_⟩⟩
  exact (hc.mono (q := fun k => v.ownBlock = some k) (fun k hk e => absurd (hp k e) (by omega))).trans hW' (fun _ _ e => e)
theorem TxRow.below {B : Nat} {w W : World} {v : Value} {bss : List (List UInt8)} (h : TxRow B w v bss) (hb : Below w.heap.size w W) : TxRow B W v bss := h.chg (p := fun _ => False) (Chg.ofBelow' hb) (fun _ e => False.elim e)
theorem TxRow.form {B : Nat} {w : World} {v : Value} {bss : List (List UInt8)} (h : TxRow B w v bss) : ∃ ao c, v = .slice ao bss.length c := by
  obtain ⟨vs, h1, h2, _⟩ := h.ls
  rw [← h2]
  exact h1.shape
theorem TxRow.bsAt {B : Nat} {w : World} {v : Value} {bss : List (List UInt8)} (h : TxRow B w v bss) : BsAt w v bss := by
  obtain ⟨vs, h1, h2, h3, h4⟩ := h.ls
  rcases h1 with ⟨rfl, rfl⟩ | ⟨g, off, c, cur, rfl, hr, hc, hl, hx⟩
  · obtain rfl : bss = [] := List.eq_nil_of_length_eq_zero (by simpa using h2.symm)
    exact BsAt.nil _
  · refine ⟨_, c, by rw [h2], by omega, fun hp => ⟨g, off, rfl, block_lt_of_row hr, fun j hj => ?_⟩⟩
    have hj2 : vs[j]? = some vs[j] := List.getElem?_eq_getElem (by omega)
    exact ⟨vs[j], by rw [cell_of_row w g (off + j) _ _ _ hr]; exact hx j _ hj2, (h4 j _ hj2).2 w (Chg.refl _ _)⟩
/-- A text is put behind a row. -/
theorem run_append_tx (w : World) (B gx : Nat) (v : Value) (xo : Option Addr) (xn xc : Nat) (bss : List (List UInt8)) (t : List UInt8) (ty : TypeId) (h : TxRow B w v bss) (hx : w.heap[gx]? = some (.cells #[.slice xo xn xc] 60 (0, 0))) (ht : ∀ W, Chg (fun k => v.ownBlock = some k) w W → SliceAt W (.slice xo xn xc) t) (hl : bss.length ≤ 1000000) (hB : B ≤ w.heap.size) :
    ∃ v' w', (Builtin.append_ #[53, 53] ty #[v, .slice (some ⟨gx, 0, none⟩) 1 1]).run Tryd.prog w = .ok v' w' ∧ (TxRow B w' v' (bss ++ [t]) ∧ Below B w w') := by
  obtain ⟨vs, h1, h2, h3, h4⟩ := h.ls
  obtain ⟨v', w', hr, a1, a2, a3⟩ := run_append_list w v (.slice xo xn xc) gx vs ty h1 hx rfl (by omega)
  have hch : Chg (fun k => v.ownBlock = some k) w w' := (Chg.refl _ w).grown a2 (fun k _ e => e)
  have hall : ∀ W, Chg (fun k => v'.ownBlock = some k) w' W → Chg (fun k => v.ownBlock = some k) w W := fun W hW => hch.trans hW (fun j hj e => by
    rcases a3 with a3 | a3
    · rw [← a3]; exact e
    · rw [a3] at e; simp only [Option.some.injEq] at e; omega)
  refine ⟨v', w', hr, ⟨vs ++ [.slice xo xn xc], a1, by simp [h2], fun k hk => ?_, fun j x hj => ?_⟩, (Below.refl _ _).grown a2 hB (fun k hk => h3 k hk)⟩
  · rcases a3 with a3 | a3
    · exact h3 k (by rw [← a3]; exact hk)
    · rw [a3] at hk; simp only [Option.some.injEq] at hk; omega
  · by_cases hjl : j < vs.length
    · rw [List.getElem?_append_left hjl] at hj
      obtain ⟨f, g⟩ := h4 j x hj
      refine ⟨f, fun W hW => ?_⟩
      rw [List.getD_eq_getElem?_getD, List.getElem?_append_left (by omega), ← List.getD_eq_getElem?_getD]
      exact g W (hall W hW)
    · have hlt := (List.getElem?_eq_some_iff.1 hj).1
      rw [List.length_append] at hlt
      simp only [List.length_cons, List.length_nil] at hlt
      obtain rfl : j = vs.length := by omega
      rw [List.getElem?_append_right (Nat.le_refl _), Nat.sub_self] at hj
      simp only [List.getElem?_cons_zero, Option.some.injEq] at hj
      subst hj
      refine ⟨⟨_, _, _, rfl⟩, fun W hW => ?_⟩
      rw [List.getD_eq_getElem?_getD, h2, List.getElem?_append_right (Nat.le_refl _), Nat.sub_self]
      exact ht W (hall W hW)
/-- The leaves of a list. -/
def S.lf (c : UInt8) (i : Nat) : List UInt8 := [c, UInt8.ofNat i, UInt8.ofNat (i / 256)]
def S.lst (n : Nat) (c : UInt8) : List (List UInt8) := (List.range n).map (S.lf c)
theorem S.lst_length (n : Nat) (c : UInt8) : (S.lst n c).length = n := by simp [S.lst]
theorem S.lst_succ (n : Nat) (c : UInt8) : S.lst (n + 1) c = S.lst n c ++ [S.lf c n] := by simp [S.lst, List.range_succ]
theorem S.lst_fit (n : Nat) (c : UInt8) : Fit (S.lst n c) := fun b hb => by
  simp only [S.lst, List.mem_map] at hb
  obtain ⟨i, _, rfl⟩ := hb
  simp [S.lf]
theorem three8_at {w : World} {g : Nat} {x y z : UInt8} (h : w.heap[g]? = some (.cells #[.int .u8 (x.toNat : Int), .int .u8 (y.toNat : Int), .int .u8 (z.toNat : Int)] 5 (0, 0))) : SliceAt w (.slice (some ⟨g, 0, none⟩) 3 3) [x, y, z] :=
  Or.inr (Or.inr ⟨g, 0, 3, rfl, Nat.le_refl _, by simp, block_lt_of_row h, fun j hj => by
    rcases (by simp at hj; omega : j = 0 ∨ j = 1 ∨ j = 2) with rfl | rfl | rfl <;> rw [cell_of_row w g _ _ _ _ h] <;> rfl⟩)
end Go.Proofs.YtkljajfgdelfgaaDoor
namespace Go.Proofs.YtkljajfgdelfgaaDoor
open Go.RowKit

/-- The value v is a slice of digests that read so. -/
def DgAt (w : World) (v : Value) (ds : List (List UInt8)) : Prop :=
  ∃ ao cap, v = .slice ao ds.length cap ∧ ds.length ≤ 1000000 ∧ (∀ d ∈ ds, d.length = 32) ∧ (0 < ds.length → ∃ g off, ao = some ⟨g, off, none⟩ ∧ g < w.heap.size ∧ ∀ j, j < ds.length → w.rangeAt g (off + j * 32) (S.v8l (ds.getD j [])))
theorem DgAt.of_heap {w w' : World} {v : Value} {ds : List (List UInt8)} (h : DgAt w v ds) (hh : w'.heap = w.heap) : DgAt w' v ds := by
  obtain ⟨ao, cap, rfl, h1, h2, h3⟩ := h
  refine ⟨ao, cap, rfl, h1, h2, fun hp => ?_⟩
  obtain ⟨g, off, rfl, h4, h5⟩ := h3 hp
  exact ⟨g, off, rfl, by rw [hh]; exact h4, fun j hj k u hu => (World.cell?_of_block (by rw [hh])).trans (h5 j hj k u hu)⟩
theorem DgAt.below {w w' : World} {v : Value} {ds : List (List UInt8)} (h : DgAt w v ds) (hb : Below w.heap.size w w') : DgAt w' v ds := by
  obtain ⟨ao, cap, rfl, h1, h2, h3⟩ := h
  refine ⟨ao, cap, rfl, h1, h2, fun hp => ?_⟩
  obtain ⟨g, off, rfl, h4, h5⟩ := h3 hp
  exact ⟨g, off, rfl, Nat.lt_of_lt_of_le h4 hb.size, fun j hj k u hu => (hb.cell (p := ⟨g, off + j * 32 + k, none⟩) h4).trans (h5 j hj k u hu)⟩
theorem flat_at (ds : List (List UInt8)) (h : ∀ d ∈ ds, d.length = 32) (j k : Nat) (hj : j < ds.length) (hk : k < 32) : (ds.flatMap S.v8l)[j * 32 + k]? = (S.v8l (ds.getD j []))[k]? := by
  induction ds generalizing j with
  | nil => simp at hj
  | cons d ds ih =>
    have hd : (S.v8l d).length = 32 := by rw [S.v8l_length, h d (by simp)]
    rw [List.flatMap_cons]
    cases j with
    | zero => rw [List.getElem?_append_left (by omega)]; simp
    | succ j =>
      rw [List.getElem?_append_right (by omega), hd, show (j + 1) * 32 + k - 32 = j * 32 + k by omega, ih (fun x hx => h x (by simp [hx])) j (by simpa using hj)]
      simp
theorem DgRow.dgAt {B : Nat} {w : World} {v : Value} {ds : List (List UInt8)} (h : DgRow B w v ds) (hl : ds.length ≤ 1000000) (hd : ∀ d ∈ ds, d.length = 32) : DgAt w v ds := by
  rcases h.2 with ⟨rfl, h0⟩ | ⟨g, cap, cur, rfl, hB, hr, h1, h2, h3, h4⟩
  · exact ⟨none, 0, by rw [h0], hl, hd, fun hp => by omega⟩
  · refine ⟨_, cap, rfl, hl, hd, fun hp => ⟨g, 0, rfl, block_lt_of_row hr, fun j hj k u hu => ?_⟩⟩
    have hk : k < 32 := by
      have := (List.getElem?_eq_some_iff.1 hu).1
      rw [S.v8l_length, List.getD_eq_getElem?_getD, List.getElem?_eq_getElem hj] at this
      have h5 := hd _ (List.getElem_mem hj)
      simp only [Option.getD_some] at this
      omega
    rw [← flat_at ds hd j k hj hk, ← h4, List.getElem?_take, if_pos (by omega)] at hu
    rw [Nat.zero_add, cell_of_row w g (j * 32 + k) _ _ _ hr]
    simpa using hu
theorem equal_dig (xs ys : List UInt8) (hx : xs.length = 32) (hy : ys.length = 32) (b : Bool) (hb : (xs == ys) = b) (w : World) : (Op.equalIn 10000 23 (.agg (S.v8 xs)) (.agg (S.v8 ys))).run Tryd.prog w = .ok b w := by rw [← hb]; exact equal_digests xs ys hx hy w
theorem S.hsh32_nil : (S.hsh 32 []).getD 0 0 = 227 ∧ (S.hsh 32 []).getD 1 0 = 176 := by decide +kernel
theorem S.leaf32_nil : (S.leaf 32 []).getD 0 0 = 110 ∧ (S.leaf 32 []).getD 31 0 = 29 := by decide +kernel
def S.l2 : List UInt8 := [110, 52] ++ S.zeros 30
theorem S.leaf2_nil : S.leaf 2 [] = S.l2 := by decide +kernel
theorem alloc31 (w : World) : (Instr.alloc 23 true (.tuple #[])).run Tryd.prog w = .ok (.pointer (some ⟨w.heap.size, 0, none⟩)) (w.alloc (.cells (S.v8 (S.zeros 32)) 23)) := by
  obtain ⟨i, hi, hz, _, _⟩ := info_parts info31
  simp [Instr.alloc, zeroValue, typeInfo, hi, hz, newVar, newRow, Value.cells]
/-- A digest is laid into a new variable: what its alloc and its store leave. -/
theorem lay_dig (w : World) (D : List UInt8) (hD : D.length = 32) : ∃ A Y, (Instr.alloc 23 true (.tuple #[])).run Tryd.prog w = .ok (.pointer (some ⟨w.heap.size, 0, none⟩)) A ∧ (Instr.storeAt 23 (.pointer (some ⟨w.heap.size, 0, none⟩)) (.agg (S.v8 D))).run Tryd.prog A = .ok () Y ∧ Y.heap[w.heap.size]? = some (.cells (S.v8 D) 23 (0, 0)) ∧ Below w.heap.size w Y ∧ Y.heap.size = w.heap.size + 1 := by
  obtain ⟨Y, h1, h2, h3, h4⟩ := store_dig (w := w.alloc (.cells (S.v8 (S.zeros 32)) 23)) (g := w.heap.size) (heap_alloc_new _ _) (S.zeros_length _) hD
  exact ⟨_, Y, alloc31 w, h1, h2, ((Below.refl _ _).alloc (Nat.le_refl _) _).trans (h3.below _ (by simp) (fun k hk e => by omega)), by rw [h4]; simp⟩
end Go.Proofs.YtkljajfgdelfgaaDoor
namespace Go.Proofs.YtkljajfgdelfgaaDoor
open Go.RowKit

set_option maxHeartbeats 2000000 in
set_option maxRecDepth 10000 in
theorem same_dg (v u : Value) (ds : List (List UInt8)) (w : World) (hv : DgAt w v ds) (hu : DgAt w u ds) :
   Calls Tryd.prog 39 #[v, u] w fun e w' => e = .returned (.bool true) ∧ Still w w' := by
  obtain ⟨ao, cap, rfl, hmax, hd, hA⟩ := hv
  obtain ⟨ao2, cap2, rfl, _, _, hA2⟩ := hu
  have HA := hide hA
  have HA2 := hide hA2
  have HD := hide hd
  obtain ⟨len, hlen⟩ : ∃ len, len = ds.length := ⟨_, rfl⟩
  have HL := hide hlen
  rw [← hlen] at hmax ⊢
  clear hA hA2 hd hlen
  go_enter Tryd.func39, Tryd.ntmps39
  go_wp2
  go_loopw [5] (fun i wr => ∃ k : Nat, k ≤ len ∧ i = .int .i64 (k : Int) ∧ Still w wr) (fun i _ => len - (intOf i).toNat)
  case atStart => exact ⟨0, by omega, rfl, Still.refl _⟩
  case round =>
    obtain ⟨k, hk, rfl, hst⟩ := hrel
    by_cases hlt : k < len
    · have hkd : k < ds.length := by have := HL.out; omega
      obtain ⟨g, off, rfl, _, hc⟩ := HA.out (by omega)
      obtain ⟨g2, off2, rfl, _, hc2⟩ := HA2.out (by omega)
      obtain ⟨D, hD⟩ : ∃ D, D = ds.getD k [] := ⟨_, rfl⟩
      have hDl : D.length = 32 := by rw [hD, List.getD_eq_getElem?_getD, List.getElem?_eq_getElem hkd]; exact HD.out _ (List.getElem_mem hkd)
      have r1 : wr.rangeAt g (off + k * 32) (S.v8l D) := fun j x hx => (World.cell?_of_block (by rw [hst.1])).trans (hc k hkd j x (by rw [← hD]; exact hx))
      have r2 : wr.rangeAt g2 (off2 + k * 32) (S.v8l D) := fun j x hx => (World.cell?_of_block (by rw [hst.1])).trans (hc2 k hkd j x (by rw [← hD]; exact hx))
      have hsz : (Tryd.prog.info? 23).map (·.size) = some (S.v8l D).length := by rw [S.v8l_length, hDl]; exact size23
      have heq : ∀ w, (Op.equalIn 10000 23 (.agg (S.v8l D).toArray) (.agg (S.v8l D).toArray)).run Tryd.prog w = .ok true w := fun w => equal_dig D D hDl hDl true (by simp) w
      have q1 : (0 : Int) ≤ (k : Int) := by omega
      have q2 : (k : Int) < (len : Int) := by omega
      have q4 : IntKind.i64.wrap ((k : Int) + 1) = (k : Int) + 1 := by rw [IntKind.wrap_i64]; omega
      have ST := hide hst
      have R1 := hide r1
      have R2 := hide r2
      have HS := hide hsz
      generalize hcs : S.v8l D = cs at R1 R2 HS heq
      clear hc hc2 hst r1 r2 hsz hD hDl hcs
      go_wp2_with fail
      refine wp_region_noPanic ?_
      refine wp_region_held_drew (S := (fun W => W.rangeAt g (off + k * 32) cs ∧ W.rangeAt g2 (off2 + k * 32) cs)) follows ⟨R1.out, R2.out⟩ (fun hHeld => ?_)
      have SZ : Hid (Still w wr.drew) := ST.out.drew
      clear ST R1 R2
      generalize wr.drew = Z at SZ hHeld ⊢
      refine wpAnyH_take (i := 0) (oi := { dst := some 17, op := Op.move (Operand.tmp 0), type := 28, pos := "book.go:17", after := #[], guard := none }) (v := ?_) rfl (by kernel_rfl) (by kernel_rfl) (by kernel_rfl) (fun _ _ _ h => h) (Or.inl ⟨by rfl, ?_⟩) (by assumption) ?_
      rotate_left
      · intro w hSw
        clear hSw
        go_simp
        all_goals with_reducible rfl
      simp only [Act.put, List.setIfInBounds_toArray, List.set_cons_zero, List.set_cons_succ]
      refine wpAnyH_take (i := 1) (oi := { dst := some 18, op := Op.move (Operand.tmp 5), type := 3, pos := "book.go:17", after := #[], guard := none }) (v := ?_) rfl (by kernel_rfl) (by kernel_rfl) (by kernel_rfl) (fun _ _ _ h => h) (Or.inl ⟨by rfl, ?_⟩) (by assumption) ?_
      rotate_left
      · intro w hSw
        clear hSw
        go_simp
        all_goals with_reducible rfl
      simp only [Act.put, List.setIfInBounds_toArray, List.set_cons_zero, List.set_cons_succ]
      refine wpAnyH_take (i := 2) (oi := { dst := some 19, op := Op.indexAddr 28 (Operand.tmp 17) (Operand.tmp 18), type := 0, pos := "book.go:17", after := #[{ on := 0, ground := Ground.data }, { on := 1, ground := Ground.data }], guard := none }) (v := ?_) rfl (by kernel_rfl) (by kernel_rfl) (by kernel_rfl) (fun _ _ _ h => h) (Or.inl ⟨by rfl, ?_⟩) (by assumption) ?_
      rotate_left
      · intro w hSw
        clear hSw
        go_simp
        all_goals with_reducible rfl
      simp only [Act.put, List.setIfInBounds_toArray, List.set_cons_zero, List.set_cons_succ]
      refine wpAnyH_take (i := 3) (oi := { dst := some 20, op := Op.load 23 (Operand.tmp 19), type := 23, pos := "book.go:17", after := #[{ on := 2, ground := Ground.data }], guard := none }) (v := .agg cs.toArray) rfl (by kernel_rfl) (by kernel_rfl) (by kernel_rfl) (fun _ _ _ h => h) (yieldsIf_load_mid (by rfl) _ _ rfl g (off + k * 32) rfl cs _ (fun _ hSw => hSw.1) Tryd.underlying23 rfl HS.out) (by assumption) ?_
      simp only [Act.put, List.setIfInBounds_toArray, List.set_cons_zero, List.set_cons_succ]
      refine wpAnyH_take (i := 4) (oi := { dst := some 21, op := Op.move (Operand.tmp 1), type := 28, pos := "book.go:17", after := #[], guard := none }) (v := ?_) rfl (by kernel_rfl) (by kernel_rfl) (by kernel_rfl) (fun _ _ _ h => h) (Or.inl ⟨by rfl, ?_⟩) (by assumption) ?_
      rotate_left
      · intro w hSw
        clear hSw
        go_simp
        all_goals with_reducible rfl
      simp only [Act.put, List.setIfInBounds_toArray, List.set_cons_zero, List.set_cons_succ]
      refine wpAnyH_take (i := 5) (oi := { dst := some 22, op := Op.move (Operand.tmp 5), type := 3, pos := "book.go:17", after := #[], guard := none }) (v := ?_) rfl (by kernel_rfl) (by kernel_rfl) (by kernel_rfl) (fun _ _ _ h => h) (Or.inl ⟨by rfl, ?_⟩) (by assumption) ?_
      rotate_left
      · intro w hSw
        clear hSw
        go_simp
        all_goals with_reducible rfl
      simp only [Act.put, List.setIfInBounds_toArray, List.set_cons_zero, List.set_cons_succ]
      refine wpAnyH_take (i := 6) (oi := { dst := some 23, op := Op.indexAddr 28 (Operand.tmp 21) (Operand.tmp 22), type := 0, pos := "book.go:17", after := #[{ on := 4, ground := Ground.data }, { on := 5, ground := Ground.data }], guard := none }) (v := ?_) rfl (by kernel_rfl) (by kernel_rfl) (by kernel_rfl) (fun _ _ _ h => h) (Or.inl ⟨by rfl, ?_⟩) (by assumption) ?_
      rotate_left
      · intro w hSw
        clear hSw
        go_simp
        all_goals with_reducible rfl
      simp only [Act.put, List.setIfInBounds_toArray, List.set_cons_zero, List.set_cons_succ]
      refine wpAnyH_take (i := 7) (oi := { dst := some 24, op := Op.load 23 (Operand.tmp 23), type := 23, pos := "book.go:17", after := #[{ on := 6, ground := Ground.data }], guard := none }) (v := .agg cs.toArray) rfl (by kernel_rfl) (by kernel_rfl) (by kernel_rfl) (fun _ _ _ h => h) (yieldsIf_load_mid (by rfl) _ _ rfl g2 (off2 + k * 32) rfl cs _ (fun _ hSw => hSw.2) Tryd.underlying23 rfl HS.out) (by assumption) ?_
      simp only [Act.put, List.setIfInBounds_toArray, List.set_cons_zero, List.set_cons_succ]
      refine wpAnyH_take (i := 8) (oi := { dst := some 25, op := Op.binOp BinOp.neq 23 (Operand.tmp 20) (Operand.tmp 24) 23, type := 4, pos := "book.go:17", after := #[{ on := 3, ground := Ground.data }, { on := 7, ground := Ground.data }], guard := none }) (v := ?_) rfl (by kernel_rfl) (by kernel_rfl) (by kernel_rfl) (fun _ _ _ h => h) (Or.inl ⟨by rfl, ?_⟩) (by assumption) ?_
      rotate_left
      · intro w hSw
        clear hSw
        go_simp
        all_goals with_reducible rfl
      simp only [Act.put, List.setIfInBounds_toArray, List.set_cons_zero, List.set_cons_succ]
      refine wpAnyH_done (by kernel_rfl) ?_ _
      refine NoPanic.normal ?_
      clear hHeld heq
      go_wp2_with fail
      go_roundw
      case rel => exact ⟨k + 1, by omega, by go_num, SZ.out⟩
      case measure => simp [intOf]; omega
    · obtain rfl : k = len := by omega
      go_wp2
      go_ret
      exact ⟨rfl, hst⟩
end Go.Proofs.YtkljajfgdelfgaaDoor
