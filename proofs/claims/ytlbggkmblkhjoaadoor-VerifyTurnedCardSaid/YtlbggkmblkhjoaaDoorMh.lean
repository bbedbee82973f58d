/- Rows of texts of one's own; a list of leaves is made. -/
import Derived.Test.YtlbggkmblkhjoaaDoorMg
import Derived.Test.YtlbggkmblkhjoaaDoorLists
namespace Go.Proofs.YtlbggkmblkhjoaaDoor
open Go.RowKit

/-- A row of texts of one's own; the texts lie elsewhere. -/
structure TxRow (B : Nat) (w : World) (v : Value) (bss : List (List UInt8)) : Prop where
  ls : ∃ vs, Lists w v vs ∧ vs.length = bss.length ∧ (∀ k, v.ownBlock = some k → B ≤ k) ∧ ∀ (j : Nat) x, vs[j]? = some x → (∃ ao n c, x = .slice ao n c) ∧ ∀ W, Chg (fun k => v.ownBlock = some k) w W → SliceAt W x (bss.getD j [])
theorem TxRow.nil (B : Nat) (w : World) : TxRow B w (.slice none 0 0) [] := ⟨[], Or.inl ⟨rfl, rfl⟩, rfl, fun k h => by simp [Value.ownBlock] at h, fun j x h => by simp at h⟩
theorem TxRow.mono {B B' : Nat} {w : World} {v : Value} {bss : List (List UInt8)} (h : TxRow B w v bss) (hB : B' ≤ B) : TxRow B' w v bss := by
  obtain ⟨vs, h1, h2, h3, h4⟩ := h.ls
  exact ⟨vs, h1, h2, fun k hk => Nat.le_trans hB (h3 k hk), h4⟩
theorem TxRow.chg {p : Nat → Prop} {B : Nat} {w W : World} {v : Value} {bss : List (List UInt8)} (h : TxRow B w v bss) (hc : Chg p w W) (hp : ∀ k, p k → w.heap.size ≤ k) : TxRow B W v bss := by
  obtain ⟨vs, h1, h2, h3, h4⟩ := h.ls
  refine ⟨vs, h1.kept fun k hk => hc.block k (h1.lt hk) (fun e => absurd (hp k e) (by have := h1.lt hk; omega)), h2, h3, fun j x hj => ⟨(h4 j x hj).1, fun W' hW' => (h4 j x hj).2 W' ?_⟩⟩
  exact (hc.mono (q := fun k => v.ownBlock = some k) (fun k hk e => absurd (hp k e) (by omega))).trans hW' (fun _ _ e => e)
theorem TxRow.below {B : Nat} {w W : World} {v : Value} {bss : List (List UInt8)} (h : TxRow B w v bss) (hb : Below w.heap.size w W) : TxRow B W v bss := h.chg (p := fun _ => False) (Chg.ofBelow' hb) (fun _ e => False.elim e)
theorem TxRow.form {B : Nat} {w : World} {v : Value} {bss : List (List UInt8)} (h : TxRow B w v bss) : ∃ ao c, v = .slice ao bss.length c := by
  obtain ⟨vs, h1, h2, _⟩ := h.ls
  rw [← h2]
  exact h1.shape
theorem TxRow.bsAt {B : Nat} {w : World} {v : Value} {bss : List (List UInt8)} (h : TxRow B w v bss) : BsAt w v bss := by
  obtain ⟨vs, h1, h2, h3, h4⟩ := h.ls
  rcases h1 with ⟨rfl, rfl⟩ | ⟨g, off, c, cur, rfl, hr, hc, hl, hx⟩
  · obtain rfl : bss = [] := List.eq_nil_of_length_eq_zero (by simpa using h2.symm)
    exact BsAt.nil _
  · refine ⟨_, c, by rw [h2], by omega, fun hp => ⟨g, off, rfl, block_lt_of_row hr, fun j hj => ?_⟩⟩
    have hj2 : vs[j]? = some vs[j] := List.getElem?_eq_getElem (by omega)
    exact ⟨vs[j], by rw [cell_of_row w g (off + j) _ _ _ hr]; exact hx j _ hj2, (h4 j _ hj2).2 w (Chg.refl _ _)⟩
/-- A text is put behind a row. -/
theorem run_append_tx (w : World) (B gx : Nat) (v : Value) (xo : Option Addr) (xn xc : Nat) (bss : List (List UInt8)) (t : List UInt8) (ty : TypeId) (h : TxRow B w v bss) (hx : w.heap[gx]? = some (.cells #[.slice xo xn xc] 25 (0, 0))) (ht : ∀ W, Chg (fun k => v.ownBlock = some k) w W → SliceAt W (.slice xo xn xc) t) (hl : bss.length ≤ 1000000) (hB : B ≤ w.heap.size) :
    ∃ v' w', (Builtin.append_ #[41, 41] ty #[v, .slice (some ⟨gx, 0, none⟩) 1 1]).run Tryd.prog w = .ok v' w' ∧ (TxRow B w' v' (bss ++ [t]) ∧ Below B w w') := by
  obtain ⟨vs, h1, h2, h3, h4⟩ := h.ls
  obtain ⟨v', w', hr, a1, a2, a3⟩ := run_append_list w v (.slice xo xn xc) gx vs ty h1 hx rfl (by omega)
  have hch : Chg (fun k => v.ownBlock = some k) w w' := (Chg.refl _ w).grown a2 (fun k _ e => e)
  have hall : ∀ W, Chg (fun k => v'.ownBlock = some k) w' W → Chg (fun k => v.ownBlock = some k) w W := fun W hW => hch.trans hW (fun j hj e => by
    rcases a3 with a3 | a3
    · rw [← a3]; exact e
    · rw [a3] at e; simp only [Option.some.injEq] at e; omega)
  refine ⟨v', w', hr, ⟨vs ++ [.slice xo xn xc], a1, by simp [h2], fun k hk => ?_, fun j x hj => ?_⟩, (Below.refl _ _).grown a2 hB (fun k hk => h3 k hk)⟩
  · rcases a3 with a3 | a3
    · exact h3 k (by rw [← a3]; exact hk)
    · rw [a3] at hk; simp only [Option.some.injEq] at hk; omega
  · by_cases hjl : j < vs.length
    · rw [List.getElem?_append_left hjl] at hj
      obtain ⟨f, g⟩ := h4 j x hj
      refine ⟨f, fun W hW => ?_⟩
      rw [List.getD_eq_getElem?_getD, List.getElem?_append_left (by omega), ← List.getD_eq_getElem?_getD]
      exact g W (hall W hW)
    · have hlt := (List.getElem?_eq_some_iff.1 hj).1
      rw [List.length_append] at hlt
      simp only [List.length_cons, List.length_nil] at hlt
      obtain rfl : j = vs.length := by omega
      rw [List.getElem?_append_right (Nat.le_refl _), Nat.sub_self] at hj
      simp only [List.getElem?_cons_zero, Option.some.injEq] at hj
      subst hj
      refine ⟨⟨_, _, _, rfl⟩, fun W hW => ?_⟩
      rw [List.getD_eq_getElem?_getD, h2, List.getElem?_append_right (Nat.le_refl _), Nat.sub_self]
      exact ht W (hall W hW)
/-- The leaves of a list. -/
def S.lf (c : UInt8) (i : Nat) : List UInt8 := [c, UInt8.ofNat i, UInt8.ofNat (i / 256)]
def S.lst (n : Nat) (c : UInt8) : List (List UInt8) := (List.range n).map (S.lf c)
theorem S.lst_length (n : Nat) (c : UInt8) : (S.lst n c).length = n := by simp [S.lst]
theorem S.lst_succ (n : Nat) (c : UInt8) : S.lst (n + 1) c = S.lst n c ++ [S.lf c n] := by simp [S.lst, List.range_succ]
theorem S.lst_fit (n : Nat) (c : UInt8) : Fit (S.lst n c) := fun b hb => by
  simp only [S.lst, List.mem_map] at hb
  obtain ⟨i, _, rfl⟩ := hb
  simp [S.lf]
theorem three8_at {w : World} {g : Nat} {x y z : UInt8} (h : w.heap[g]? = some (.cells #[.int .u8 (x.toNat : Int), .int .u8 (y.toNat : Int), .int .u8 (z.toNat : Int)] 5 (0, 0))) : SliceAt w (.slice (some ⟨g, 0, none⟩) 3 3) [x, y, z] :=
  Or.inr (Or.inr ⟨g, 0, 3, rfl, Nat.le_refl _, by simp, block_lt_of_row h, fun j hj => by
    rcases (by simp at hj; omega : j = 0 ∨ j = 1 ∨ j = 2) with rfl | rfl | rfl <;> rw [cell_of_row w g _ _ _ _ h] <;> rfl⟩)
set_option maxHeartbeats 2000000 in
set_option maxRecDepth 10000 in
theorem list_any (n : Nat) (c : UInt8) (hn : n ≤ 1000) (w : World) :
   Calls Tryd.prog 20 #[.int .i64 (n : Int), .int .u8 (c.toNat : Int)] w fun e w' => ∃ v, e = .returned v ∧ TxRow w.heap.size w' v (S.lst n c) ∧ Below w.heap.size w w' := by
  go_enter Tryd.func20, Tryd.ntmps20
  go_wp2
  go_loopw [5, 6] (fun s i wr => ∃ k : Nat, k ≤ n ∧ i = .int .i64 (k : Int) ∧ TxRow w.heap.size wr s (S.lst k c) ∧ Below w.heap.size w wr) (fun _ i _ => n - (intOf i).toNat)
  case atStart => exact ⟨0, by omega, rfl, TxRow.nil _ _, Below.refl _ _⟩
  case round =>
    obtain ⟨k, hk, rfl, hT, hB⟩ := hrel
    obtain ⟨so, sc, rfl⟩ := hT.form
    by_cases hlt : k < n
    · have q1 : (k : Int) < (n : Int) := by omega
      have q4 : IntKind.i64.wrap ((k : Int) + 1) = (k : Int) + 1 := by rw [IntKind.wrap_i64]; omega
      have TH := hide hT
      have BH := hide hB
      obtain ⟨m, hm⟩ : ∃ m, m = (S.lst k c).length := ⟨_, rfl⟩
      rw [← hm] at TH ⊢
      have HM := hide hm
      have e1 : (k : Int) % 256 = ((UInt8.ofNat k).toNat : Int) := byte_cast k
      have e2 : (k : Int) / 256 = ((UInt8.ofNat (k / 256)).toNat : Int) := by rw [← byte_cast]; omega
      obtain ⟨y, hy⟩ : ∃ y, y = UInt8.ofNat k := ⟨_, rfl⟩
      obtain ⟨z, hz⟩ : ∃ z, z = UInt8.ofNat (k / 256) := ⟨_, rfl⟩
      rw [← hy] at e1
      rw [← hz] at e2
      have HY := hide hy
      have HZ := hide hz
      clear hT hB hm hy hz
      obtain ⟨X0, hX0⟩ : ∃ X0, X0 = wr.alloc (.cells #[.int .u8 (c.toNat : Int), .int .u8 (y.toNat : Int), .int .u8 (z.toNat : Int)] 5) := ⟨_, rfl⟩
      obtain ⟨X1, hX1⟩ : ∃ X1, X1 = X0.alloc (.cells #[.slice (some ⟨wr.heap.size, 0, none⟩) 3 3] 25) := ⟨_, rfl⟩
      have s0 : X0.heap.size = wr.heap.size + 1 := by rw [hX0]; simp
      have s1 : X1.heap.size = wr.heap.size + 2 := by rw [hX1]; simp [s0]
      have b0 : Below wr.heap.size wr X0 := by rw [hX0]; exact (Below.refl _ _).alloc (Nat.le_refl _) _
      have b1 : Below X0.heap.size X0 X1 := by rw [hX1]; exact (Below.refl _ _).alloc (Nat.le_refl _) _
      have r0 : X0.heap[wr.heap.size]? = some (.cells #[.int .u8 (c.toNat : Int), .int .u8 (y.toNat : Int), .int .u8 (z.toNat : Int)] 5 (0, 0)) := by rw [hX0]; exact heap_alloc_new _ _
      have r1 : X1.heap[wr.heap.size + 1]? = some (.cells #[.slice (some ⟨wr.heap.size, 0, none⟩) 3 3] 25 (0, 0)) := by rw [hX1, ← s0]; exact heap_alloc_new _ _
      have bb : Below wr.heap.size wr X1 := b0.trans (b1.mono (by omega))
      have hlt0 : ∀ k', (Value.slice so m sc).ownBlock = some k' → k' < wr.heap.size := fun k' hk' => by
        obtain ⟨vs, h1, _⟩ := TH.out.ls
        exact h1.lt hk'
      have KEY := hide (run_append_tx X1 w.heap.size (wr.heap.size + 1) (.slice so m sc) (some ⟨wr.heap.size, 0, none⟩) 3 3 (S.lst k c) [c, y, z] 41 (TH.out.below bb) r1 (fun W hW => three8_at ((hW.block wr.heap.size (by omega) (fun e => by have := hlt0 _ e; omega)).trans ((b1.block _ (by omega)).trans r0))) (by rw [S.lst_length]; omega) (Nat.le_trans BH.out.size bb.size))
      have BX := hide (BH.out.trans (bb.mono BH.out.size))
      rw [hX1, hX0] at KEY BX
      clear hX0 hX1 s0 s1 b0 b1 r0 r1 bb hlt0
      go_wp2_with (at_builtin; (refine wpList_append_known rfl (.tmp 12) (.tmp 20) 41 41 rfl _ _ rfl rfl KEY.out ?_; rintro v' w' ⟨hR', hB'⟩))
      have hR2 := hide hR'
      exact ⟨⟨k + 1, by omega, by simp, by rw [S.lst_succ, S.lf, ← HY.out, ← HZ.out]; exact hR2.out, BX.out.trans hB'⟩, by simp [intOf]; omega⟩
    · obtain rfl : k = n := by omega
      go_wp2
      go_ret
      exact ⟨_, rfl, hT, hB⟩
end Go.Proofs.YtlbggkmblkhjoaaDoor
