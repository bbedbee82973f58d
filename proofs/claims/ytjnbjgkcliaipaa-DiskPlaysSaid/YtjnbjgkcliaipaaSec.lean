/- Sectors and writes in memory: how they lie, what stays, what a store or a copy makes of them. -/
import Derived.Test.YtjnbjgkcliaipaaPlain
import Derived.Deep.MidRow
namespace Go.Proofs.Ytjnbjgkcliaipaa
open Go.RowKit
theorem info73 : (Try.prog.info? 73).map (fun i => (i.size, i.bytes)) = some (128, 128) := by kernel_rfl
theorem size73 : (Try.prog.info? 73).map (·.size) = some 128 := by kernel_rfl
theorem info75 : (Try.prog.info? 75).map (fun i => (i.size, i.bytes)) = some (129, 136) := by kernel_rfl
theorem size75 : (Try.prog.info? 75).map (·.size) = some 129 := by kernel_rfl
theorem zero73 : (Try.prog.info? 73).bind (·.zero) = some (.agg (S.v8 (S.zeros 128))) := by kernel_rfl
theorem zero75 : (Try.prog.info? 75).bind (·.zero) = some (.agg (.int .i64 0 :: S.v8l (S.zeros 128)).toArray) := by kernel_rfl
theorem rangeAt_of_heap {w w' : World} {b o : Nat} {cs : List Value} (h : w.rangeAt b o cs) (hh : w'.heap[b]? = w.heap[b]?) : w'.rangeAt b o cs :=
  fun j v hv => (World.cell?_of_block (a := ⟨b, o + j, none⟩) hh).trans (h j v hv)
theorem Chg.setCells {p : Nat → Prop} {w : World} (g : Nat) (hg : g < w.heap.size → p g) : ∀ (vs : List Value) (o : Nat) {W : World}, Chg p w W → Chg p w (W.setCells g o vs)
  | [], _, _, h => h
  | v :: r, o, _, h => Chg.setCells g hg r (o + 1) (h.setCell g o v hg)
theorem row_setCells {w : World} {g : Nat} {t : TypeId} : ∀ (vs : List Value) (o : Nat) {w : World} {cur : Array Value}, w.heap[g]? = some (.cells cur t (0, 0)) → ∃ cur', (w.setCells g o vs).heap[g]? = some (.cells cur' t (0, 0)) ∧ cur'.size = cur.size
  | [], _, _, cur, h => ⟨cur, h, rfl⟩
  | v :: r, o, _, cur, h => by
    obtain ⟨c, h1, h2⟩ := row_setCells (w := w) r (o + 1) (heap_setCell_same _ _ o _ _ v h)
    exact ⟨c, h1, by rw [h2]; simp⟩
theorem v8l_get (l : List UInt8) (j : Nat) (hj : j < l.length) : (S.v8l l)[j]? = some (.int .u8 ((l.getD j 0).toNat : Int)) := by
  simp [S.v8l, List.getElem?_map, List.getElem?_eq_getElem hj, List.getD_eq_getElem?_getD]
/-- The sectors ss lie in block g, one behind the other. -/
structure SecAt (w : World) (g : Nat) (ss : List (List UInt8)) : Prop where
  row : ∃ cur, w.heap[g]? = some (.cells cur 73 (0, 0)) ∧ 128 * ss.length ≤ cur.size
  len : ∀ i, i < ss.length → (ss.getD i []).length = 128
  cells : ∀ i, i < ss.length → w.rangeAt g (i * 128) (S.v8l (ss.getD i []))
theorem SecAt.lt {w : World} {g : Nat} {ss : List (List UInt8)} (h : SecAt w g ss) : g < w.heap.size := by obtain ⟨c, h1, _⟩ := h.row; exact block_lt_of_row h1
theorem SecAt.kept {w W : World} {g : Nat} {ss : List (List UInt8)} (h : SecAt w g ss) (hh : W.heap[g]? = w.heap[g]?) : SecAt W g ss :=
  ⟨by rw [hh]; exact h.row, h.len, fun i hi => rangeAt_of_heap (h.cells i hi) hh⟩
theorem SecAt.chg {p : Nat → Prop} {w W : World} {g : Nat} {ss : List (List UInt8)} (h : SecAt w g ss) (hc : Chg p w W) (hp : ¬ p g) : SecAt W g ss := h.kept (hc.block g h.lt hp)
theorem SecAt.there {w : World} {g : Nat} {ss : List (List UInt8)} (h : SecAt w g ss) (i : Nat) (hi : i < ss.length) : w.there g (i * 128) 128 := by
  obtain ⟨cur, h1, h2⟩ := h.row
  intro j hj
  refine ⟨?_, frozen_of_row _ _ _ _ _ h1⟩
  rw [cell_of_row w g _ cur 73 (0, 0) h1, Array.getElem?_eq_getElem (by omega)]
  rfl
theorem v8l_one' (l : List UInt8) : (S.v8l l).toArray.all (·.oneCell') = true := all_oneCell_toArray (S.v8l_one l)
/-- A sector is stored. -/
theorem SecAt.store {w : World} {g : Nat} {ss : List (List UInt8)} (h : SecAt w g ss) (i : Nat) (hi : i < ss.length) (t : List UInt8) (ht : t.length = 128) : SecAt (w.setCells g (i * 128) (S.v8l t)) g (ss.set i t) := by
  obtain ⟨cur, h1, h2⟩ := h.row
  have hth : w.there g (i * 128) (S.v8l t).length := by rw [S.v8l_length, ht]; exact h.there i hi
  refine ⟨?_, fun k hk => ?_, fun k hk => ?_⟩
  · obtain ⟨c, h3, h4⟩ := row_setCells (w := w) (S.v8l t) (i * 128) h1
    exact ⟨c, h3, by rw [h4, List.length_set]; exact h2⟩
  · rw [S.getD_set _ _ _ _ _ hi]
    split
    · exact ht
    · exact h.len k (by simpa using hk)
  · rw [S.getD_set _ _ _ _ _ hi]
    have hk' : k < ss.length := by simpa using hk
    split
    · next e => subst e; exact World.rangeAt_setCells_same w g _ _ hth
    · next e =>
      refine World.rangeAt_setCells_apart (h.cells k hk') g _ _ ?_
      rw [S.v8l_length, S.v8l_length, ht, h.len k hk']
      omega
/-- The row behind a copy of some bytes into a sector. -/
theorem SecAt.splice {w W : World} {g : Nat} {ss : List (List UInt8)} {cur : List Value} (h : SecAt w g ss) (hr : w.heap[g]? = some (.cells cur.toArray 73 (0, 0))) (i : Nat) (hi : i < ss.length) (n : Nat) (hn : n ≤ 128) (t : List UInt8) (ht : t.length = 128)
    (hW : W.heap[g]? = some (.cells (splice cur (i * 128) (S.v8l (t.take n))).toArray 73 (0, 0))) : SecAt W g (ss.set i (S.mix n t (ss.getD i []))) := by
  obtain ⟨cur', h1, h2⟩ := h.row
  obtain rfl : cur.toArray = cur' := by rw [hr] at h1; simpa using h1
  have hlc : 128 * ss.length ≤ cur.length := by simpa using h2
  have hlt : (S.v8l (t.take n)).length = n := by rw [S.v8l_length, List.length_take]; omega
  have hmix : (S.mix n t (ss.getD i [])).length = 128 := by rw [S.mix_length _ _ _ (by omega) (by rw [ht, h.len i hi])]; exact h.len i hi
  have hget : ∀ k, (Go.splice cur (i * 128) (S.v8l (t.take n)))[k]? = if i * 128 ≤ k ∧ k < i * 128 + n then (S.v8l (t.take n))[k - i * 128]? else cur[k]? := fun k => by
    unfold Go.splice
    rw [List.getElem?_append]
    have hl1 : (cur.take (i * 128)).length = i * 128 := by rw [List.length_take]; omega
    rw [hl1]
    by_cases a : k < i * 128
    · rw [if_pos a, if_neg (by omega), List.getElem?_take, if_pos a]
    · rw [if_neg a, List.getElem?_append, hlt]
      by_cases b : k - i * 128 < n
      · rw [if_pos b, if_pos (by omega)]
      · rw [if_neg b, if_neg (by omega), List.getElem?_drop]
        congr 1
        omega
  have hcell : ∀ k, W.cell? ⟨g, k, none⟩ = (Go.splice cur (i * 128) (S.v8l (t.take n)))[k]? := fun k => by rw [cell_of_row W g k _ 73 (0, 0) hW]; simp
  have hold : ∀ k, w.cell? ⟨g, k, none⟩ = cur[k]? := fun k => by rw [cell_of_row w g k _ 73 (0, 0) hr]; simp
  refine ⟨⟨_, hW, ?_⟩, fun k hk => ?_, fun k hk => ?_⟩
  · rw [List.length_set, List.size_toArray, Go.length_splice _ _ _ (by rw [hlt]; omega)]
    exact hlc
  · rw [S.getD_set _ _ _ _ _ hi]
    split
    · exact hmix
    · exact h.len k (by simpa using hk)
  · have hk' : k < ss.length := by simpa using hk
    rw [S.getD_set _ _ _ _ _ hi]
    split
    · next e =>
      subst e
      intro j v hv
      obtain ⟨rfl, hj⟩ := S.v8l_at _ j v hv
      rw [hmix] at hj
      rw [hcell, hget]
      by_cases a : j < n
      · rw [if_pos (by omega), Nat.add_sub_cancel_left]
        have ha : j < (t.take n).length := by rw [List.length_take]; omega
        have : (S.mix n t (ss.getD i [])).getD j 0 = (t.take n).getD j 0 := by
          simp only [S.mix, List.getD_eq_getElem?_getD]
          rw [List.getElem?_append_left ha]
        rw [this]
        exact v8l_get _ _ ha
      · rw [if_neg (by omega), ← hold]
        have hlt' : (t.take n).length = n := by rw [List.length_take]; omega
        have : (S.mix n t (ss.getD i [])).getD j 0 = (ss.getD i []).getD j 0 := by
          simp only [S.mix, List.getD_eq_getElem?_getD]
          rw [List.getElem?_append_right (by omega), List.getElem?_drop, hlt']
          congr 2
          omega
        rw [this]
        refine h.cells i hi j _ ?_
        have hj' : j < (ss.getD i []).length := by rw [h.len i hi]; exact hj
        exact v8l_get _ _ hj'
    · next e =>
      intro j v hv
      have hj := (S.v8l_at _ j v hv).2
      rw [h.len k hk'] at hj
      rw [hcell, hget, if_neg (by omega), ← hold]
      exact h.cells k hk' j v hv
/-- A sector as a list of bytes. -/
theorem SecAt.src {w : World} {g : Nat} {ss : List (List UInt8)} (h : SecAt w g ss) (i : Nat) (hi : i < ss.length) : Src w (some ⟨g, i * 128, none⟩) (ss.getD i []) := fun _ =>
  ⟨g, i * 128, rfl, h.lt, fun j hj => h.cells i hi j _ (v8l_get _ _ hj)⟩
namespace S
def pc (p : Nat × List UInt8) : List Value := .int .i64 (p.1 : Int) :: v8l p.2
def pcs (p : Ws) : List Value := p.flatMap pc
theorem pcs_app (a b : Ws) : pcs (a ++ b) = pcs a ++ pcs b := by simp [pcs]
theorem pcs_length (p : Ws) (h : ∀ x ∈ p, x.2.length = 128) : (pcs p).length = p.length * 129 := by
  induction p with
  | nil => rfl
  | cons x r ih =>
    have h1 := h x (by simp)
    have h2 := ih (fun y hy => h y (by simp [hy]))
    simp only [pcs, List.flatMap_cons, List.length_append, pc, List.length_cons, v8l_length, h1] at h2 ⊢
    omega
theorem pcs_at (p : Ws) (h : ∀ x ∈ p, x.2.length = 128) (k : Nat) (hk : k < p.length) (j : Nat) (v : Value) (hv : (pc (Ws.nth p k))[j]? = some v) : (pcs p)[k * 129 + j]? = some v := by
  induction p generalizing k with
  | nil => simp at hk
  | cons x r ih =>
    have h1 := h x (by simp)
    have hl : (pc x).length = 129 := by simp [pc, v8l_length, h1]
    show (pc x ++ pcs r)[k * 129 + j]? = some v
    cases k with
    | zero =>
      have hv' : (pc x)[j]? = some v := hv
      have hj := (List.getElem?_eq_some_iff.1 hv').1
      rw [Nat.zero_mul, Nat.zero_add, List.getElem?_append_left hj]
      exact hv'
    | succ k =>
      rw [List.getElem?_append_right (by omega), hl]
      have := ih (fun y hy => h y (by simp [hy])) k (by simpa using hk) hv
      have e : (k + 1) * 129 + j - 129 = k * 129 + j := by omega
      rw [e]
      exact this
theorem mem_nth {p : Ws} {Q : Nat × List UInt8 → Prop} (h : ∀ k, k < p.length → Q (Ws.nth p k)) : ∀ x ∈ p, Q x := fun x hx => by
  obtain ⟨k, hk, rfl⟩ := List.getElem_of_mem hx
  have := h k hk
  simpa [Ws.nth, List.getD_eq_getElem?_getD, List.getElem?_eq_getElem hk] using this
theorem pc_one (p : Nat × List UInt8) : ∀ v ∈ pc p, v.oneCell' = true := by
  intro v hv
  simp only [pc, List.mem_cons] at hv
  rcases hv with rfl | hv
  · rfl
  · exact v8l_one _ v hv
theorem pc_length (p : Nat × List UInt8) (h : p.2.length = 128) : (pc p).length = 129 := by simp [pc, v8l_length, h]
end S
/-- The pending writes: a list of the disk's own. -/
def PRow (w : World) (v : Value) (p : S.Ws) : Prop := w.ownsRow 0 75 129 v p.length (S.pcs p)
theorem PRow.kept {w w' : World} {u : Value} {p : S.Ws} (h : PRow w u p) (hb : ∀ k, u.ownBlock = some k → w'.heap[k]? = w.heap[k]?) : PRow w' u p := by
  refine ⟨h.1, ?_⟩
  rcases h.2 with h2 | ⟨g, cap, cur, rfl, h3, h4, h5⟩
  · exact Or.inl h2
  · exact Or.inr ⟨g, cap, cur, rfl, h3, (hb g rfl).trans h4, h5⟩
theorem PRow.lt {w : World} {u : Value} {p : S.Ws} (h : PRow w u p) {k : Nat} (hk : u.ownBlock = some k) : k < w.heap.size := (World.ownsRow.lt h k hk).2
theorem PRow.chg {q : Nat → Prop} {w W : World} {u : Value} {p : S.Ws} (h : PRow w u p) (hc : Chg q w W) (hp : ∀ k, u.ownBlock = some k → ¬ q k) : PRow W u p := h.kept fun k hk => hc.block k (h.lt hk) (hp k hk)
theorem PRow.shape {w : World} {u : Value} {p : S.Ws} (h : PRow w u p) : (u = .slice none 0 0 ∧ p = []) ∨ ∃ g c, u = .slice (some ⟨g, 0, none⟩) p.length c ∧ p.length ≤ c := by
  rcases h.2 with ⟨rfl, h3⟩ | ⟨g, cap, cur, rfl, _, _, h5, _⟩
  · exact Or.inl ⟨rfl, List.eq_nil_of_length_eq_zero h3⟩
  · exact Or.inr ⟨_, _, rfl, h5⟩
theorem PRow.form {w : World} {u : Value} {p : S.Ws} (h : PRow w u p) : ∃ ao c, u = .slice ao p.length c := by
  rcases h.shape with ⟨rfl, rfl⟩ | ⟨g, c, rfl, _⟩
  · exact ⟨_, _, rfl⟩
  · exact ⟨_, _, rfl⟩
theorem prow_nil (w : World) : PRow w (.slice none 0 0) [] := World.ownsRow_nil w 0 75 129
theorem PRow.range {w : World} {g c n : Nat} {p : S.Ws} (h : PRow w (.slice (some ⟨g, 0, none⟩) n c) p) (hp : ∀ k, k < p.length → (S.Ws.nth p k).2.length = 128) (k : Nat) (hk : k < p.length) : w.rangeAt g (k * 129) (S.pc (S.Ws.nth p k)) := fun j v hv => by
  have := World.ownsRow.cells h (g := g) rfl (k * 129 + j) v (S.pcs_at p (S.mem_nth hp) k hk j v hv)
  rw [Addr.add_lit, Nat.zero_add] at this
  exact this
end Go.Proofs.Ytjnbjgkcliaipaa
