/- Sectors and writes in memory: how they lie, what stays, what a store or a copy makes of them. -/
/- A Disk in memory; New, Sectors, Pending, has, works, Stop: what they answer, and that only the disk's own memory changes. -/
/- New answers a disk of noughts in new memory, or refuses a number that may not be. -/
/- Read answers a copy of what was written last, in new memory. -/
import Derived.Test.YthjlhngjpbmieaaGreatDoorGg
import Derived.Deep.MidRow
namespace Go.Proofs.YthjlhngjpbmieaaGreatDoor
open Go.RowKit
theorem info73 : (Tryz.prog.info? 84).map (fun i => (i.size, i.bytes)) = some (128, 128) := by kernel_rfl
theorem size73 : (Tryz.prog.info? 84).map (·.size) = some 128 := by kernel_rfl
theorem info75 : (Tryz.prog.info? 86).map (fun i => (i.size, i.bytes)) = some (129, 136) := by kernel_rfl
theorem size75 : (Tryz.prog.info? 86).map (·.size) = some 129 := by kernel_rfl
theorem zero73 : (Tryz.prog.info? 84).bind (·.zero) = some (.agg (S.v8 (S.zeros 128))) := by kernel_rfl
theorem zero75 : (Tryz.prog.info? 86).bind (·.zero) = some (.agg (.int .i64 0 :: S.v8l (S.zeros 128)).toArray) := by kernel_rfl
theorem rangeAt_of_heap {w w' : World} {b o : Nat} {cs : List Value} (h : w.rangeAt b o cs) (hh : w'.heap[b]? = w.heap[b]?) : w'.rangeAt b o cs :=
  fun j v hv => (World.cell?_of_block (a := ⟨b, o + j, none⟩) hh).trans (h j v hv)
theorem Chg.setCells {p : Nat → Prop} {w : World} (g : Nat) (hg : g < w.heap.size → p g) : ∀ (vs : List Value) (o : Nat) {W : World}, Chg p w W → Chg p w (W.setCells g o vs)
  | [], _, _, h => h
  | v :: r, o, _, h => Chg.setCells g hg r (o + 1) (h.setCell g o v hg)
theorem row_setCells {w : World} {g : Nat} {t : TypeId} : ∀ (vs : List Value) (o : Nat) {w : World} {cur : Array Value}, w.heap[g]? = some (.cells cur t (0, 0)) → ∃ cur', (w.setCells g o vs).heap[g]? = some (.cells cur' t (0, 0)) ∧ cur'.size = cur.size
  | [], _, _, cur, h => ⟨cur, h, rfl⟩
  | v :: r, o, _, cur, h => by
    obtain ⟨c, h1, h2⟩ := row_setCells (w := w) r (o + 1) (heap_setCell_same _ _ o _ _ v h)
    exact ⟨c, h1, by rw [h2]; simp⟩
theorem v8l_get (l : List UInt8) (j : Nat) (hj : j < l.length) : (S.v8l l)[j]? = some (.int .u8 ((l.getD j 0).toNat : Int)) := by
  simp [S.v8l, List.getElem?_map, List.getElem?_eq_getElem hj, List.getD_eq_getElem?_getD]
/-- The sectors ss lie in block g, one behind the other. -/
structure SecAt (w : World) (g : Nat) (ss : List (List UInt8)) : Prop where
  row : ∃ cur, w.heap[g]? = some (.cells cur 84 (0, 0)) ∧ 128 * ss.length ≤ cur.size
  len : ∀ i, i < ss.length → (ss.getD i []).length = 128
  cells : ∀ i, i < ss.length → w.rangeAt g (i * 128) (S.v8l (ss.getD i []))
theorem SecAt.lt {w : World} {g : Nat} {ss : List (List UInt8)} (h : SecAt w g ss) : g < w.heap.size := by obtain ⟨c, h1, _⟩ := h.row; exact block_lt_of_row h1
theorem SecAt.kept {w W : World} {g : Nat} {ss : List (List UInt8)} (h : SecAt w g ss) (hh : W.heap[g]? = w.heap[g]?) : SecAt W g ss :=
  ⟨by rw [hh]; exact h.row, h.len, fun i hi => rangeAt_of_heap (h.cells i hi) hh⟩
theorem SecAt.chg {p : Nat → Prop} {w W : World} {g : Nat} {ss : List (List UInt8)} (h : SecAt w g ss) (hc : Chg p w W) (hp : ¬ p g) : SecAt W g ss := h.kept (hc.block g h.lt hp)
theorem SecAt.there {w : World} {g : Nat} {ss : List (List UInt8)} (h : SecAt w g ss) (i : Nat) (hi : i < ss.length) : w.there g (i * 128) 128 := by
  obtain ⟨cur, h1, h2⟩ := h.row
  intro j hj
  refine ⟨?_, frozen_of_row _ _ _ _ _ h1⟩
  rw [cell_of_row w g _ cur 84 (0, 0) h1, Array.getElem?_eq_getElem (by omega)]
  rfl
theorem v8l_one' (l : List UInt8) : (S.v8l l).toArray.all (·.oneCell') = true := all_oneCell_toArray (S.v8l_one l)
/-- A sector is stored. -/
theorem SecAt.store {w : World} {g : Nat} {ss : List (List UInt8)} (h : SecAt w g ss) (i : Nat) (hi : i < ss.length) (t : List UInt8) (ht : t.length = 128) : SecAt (w.setCells g (i * 128) (S.v8l t)) g (ss.set i t) := by
  obtain ⟨cur, h1, h2⟩ := h.row
  have hth : w.there g (i * 128) (S.v8l t).length := by rw [S.v8l_length, ht]; exact h.there i hi
  refine ⟨?_, fun k hk => ?_, fun k hk => ?_⟩
  · obtain ⟨c, h3, h4⟩ := row_setCells (w := w) (S.v8l t) (i * 128) h1
    exact ⟨c, h3, by rw [h4, List.length_set]; exact h2⟩
  · rw [S.getD_set _ _ _ _ _ hi]
    split
    · exact ht
    · exact h.len k (by simpa using hk)
  · rw [S.getD_set _ _ _ _ _ hi]
    have hk' : k < ss.length := by simpa using hk
    split
    · next e => subst e; exact World.rangeAt_setCells_same w g _ _ hth
    · next e =>
      refine World.rangeAt_setCells_apart (h.cells k hk') g _ _ ?_
      rw [S.v8l_length, S.v8l_length, ht, h.len k hk']
      omega
/-- The row behind a copy of some bytes into a sector. -/
theorem SecAt.splice {w W : World} {g : Nat} {ss : List (List UInt8)} {cur : List Value} (h : SecAt w g ss) (hr : w.heap[g]? = some (.cells cur.toArray 84 (0, 0))) (i : Nat) (hi : i < ss.length) (n : Nat) (hn : n ≤ 128) (t : List UInt8) (ht : t.length = 128)
    (hW : W.heap[g]? = some (.cells (splice cur (i * 128) (S.v8l (t.take n))).toArray 84 (0, 0))) : SecAt W g (ss.set i (S.mix n t (ss.getD i []))) := by
  obtain ⟨cur', h1, h2⟩ := h.row
  obtain rfl : cur.toArray = cur' := by rw [hr] at h1; simpa using h1
  have hlc : 128 * ss.length ≤ cur.length := by simpa using h2
  have hlt : (S.v8l (t.take n)).length = n := by rw [S.v8l_length, List.length_take]; omega
  have hmix : (S.mix n t (ss.getD i [])).length = 128 := by rw [S.mix_length _ _ _ (by omega) (by rw [ht, h.len i hi])]; exact h.len i hi
  have hget : ∀ k, (Go.splice cur (i * 128) (S.v8l (t.take n)))[k]? = if i * 128 ≤ k ∧ k < i * 128 + n then (S.v8l (t.take n))[k - i * 128]? else cur[k]? := fun k => by
    unfold Go.splice
    rw [List.getElem?_append]
    have hl1 : (cur.take (i * 128)).length = i * 128 := by rw [List.length_take]; omega
    rw [hl1]
    by_cases a : k < i * 128
    · rw [if_pos a, if_neg (by omega), List.getElem?_take, if_pos a]
    · rw [if_neg a, List.getElem?_append, hlt]
      by_cases b : k - i * 128 < n
      · rw [if_pos b, if_pos (by omega)]
      · rw [if_neg b, if_neg (by omega), List.getElem?_drop]
        congr 1
        omega
  have hcell : ∀ k, W.cell? ⟨g, k, none⟩ = (Go.splice cur (i * 128) (S.v8l (t.take n)))[k]? := fun k => by rw [cell_of_row W g k _ 84 (0, 0) hW]; simp
  have hold : ∀ k, w.cell? ⟨g, k, none⟩ = cur[k]? := fun k => by rw [cell_of_row w g k _ 84 (0, 0) hr]; simp
  refine ⟨⟨_, hW, ?_⟩, fun k hk => ?_, fun k hk => ?_⟩
  · rw [List.length_set, List.size_toArray, Go.length_splice _ _ _ (by rw [hlt]; omega)]
    exact hlc
  · rw [S.getD_set _ _ _ _ _ hi]
    split
    · exact hmix
    · exact h.len k (by simpa using hk)
  · have hk' : k < ss.length := by simpa using hk
    rw [S.getD_set _ _ _ _ _ hi]
    split
    · next e =>
      subst e
      intro j v hv
      obtain ⟨rfl, hj⟩ := S.v8l_at _ j v hv
      rw [hmix] at hj
      rw [hcell, hget]
      by_cases a : j < n
      · rw [if_pos (by omega), Nat.add_sub_cancel_left]
        have ha : j < (t.take n).length := by rw [List.length_take]; omega
        have : (S.mix n t (ss.getD i [])).getD j 0 = (t.take n).getD j 0 := by
          simp only [S.mix, List.getD_eq_getElem?_getD]
          rw [List.getElem?_append_left ha]
        rw [this]
        exact v8l_get _ _ ha
      · rw [if_neg (by omega), ← hold]
        have hlt' : (t.take n).length = n := by rw [List.length_take]; omega
        have : (S.mix n t (ss.getD i [])).getD j 0 = (ss.getD i []).getD j 0 := by
          simp only [S.mix, List.getD_eq_getElem?_getD]
          rw [List.getElem?_append_right (by omega), List.getElem?_drop, hlt']
          congr 2
          omega
        rw [this]
        refine h.cells i hi j _ ?_
        have hj' : j < (ss.getD i []).length := by rw [h.len i hi]; exact hj
        exact v8l_get _ _ hj'
    · next e =>
      intro j v hv
      have hj := (S.v8l_at _ j v hv).2
      rw [h.len k hk'] at hj
      rw [hcell, hget, if_neg (by omega), ← hold]
      exact h.cells k hk' j v hv
/-- A sector as a list of bytes. -/
theorem SecAt.src {w : World} {g : Nat} {ss : List (List UInt8)} (h : SecAt w g ss) (i : Nat) (hi : i < ss.length) : Src w (some ⟨g, i * 128, none⟩) (ss.getD i []) := fun _ =>
  ⟨g, i * 128, rfl, h.lt, fun j hj => h.cells i hi j _ (v8l_get _ _ hj)⟩
namespace S
def pc (p : Nat × List UInt8) : List Value := .int .i64 (p.1 : Int) :: v8l p.2
def pcs (p : Ws) : List Value := p.flatMap pc
theorem pcs_app (a b : Ws) : pcs (a ++ b) = pcs a ++ pcs b := by simp [pcs]
theorem pcs_at (p : Ws) (h : ∀ x ∈ p, x.2.length = 128) (k : Nat) (hk : k < p.length) (j : Nat) (v : Value) (hv : (pc (Ws.nth p k))[j]? = some v) : (pcs p)[k * 129 + j]? = some v := by
  induction p generalizing k with
  | nil => simp at hk
  | cons x r ih =>
    have h1 := h x (by simp)
    have hl : (pc x).length = 129 := by simp [pc, v8l_length, h1]
    show (pc x ++ pcs r)[k * 129 + j]? = some v
    cases k with
    | zero =>
      have hv' : (pc x)[j]? = some v := hv
      have hj := (List.getElem?_eq_some_iff.1 hv').1
      rw [Nat.zero_mul, Nat.zero_add, List.getElem?_append_left hj]
      exact hv'
    | succ k =>
      rw [List.getElem?_append_right (by omega), hl]
      have := ih (fun y hy => h y (by simp [hy])) k (by simpa using hk) hv
      have e : (k + 1) * 129 + j - 129 = k * 129 + j := by omega
      rw [e]
      exact this
theorem mem_nth {p : Ws} {Q : Nat × List UInt8 → Prop} (h : ∀ k, k < p.length → Q (Ws.nth p k)) : ∀ x ∈ p, Q x := fun x hx => by
  obtain ⟨k, hk, rfl⟩ := List.getElem_of_mem hx
  have := h k hk
  simpa [Ws.nth, List.getD_eq_getElem?_getD, List.getElem?_eq_getElem hk] using this
theorem pc_one (p : Nat × List UInt8) : ∀ v ∈ pc p, v.oneCell' = true := by
  intro v hv
  simp only [pc, List.mem_cons] at hv
  rcases hv with rfl | hv
  · rfl
  · exact v8l_one _ v hv
theorem pc_length (p : Nat × List UInt8) (h : p.2.length = 128) : (pc p).length = 129 := by simp [pc, v8l_length, h]
end S
/-- The pending writes: a list of the disk's own. -/
def PRow (w : World) (v : Value) (p : S.Ws) : Prop := w.ownsRow 0 86 129 v p.length (S.pcs p)
theorem PRow.kept {w w' : World} {u : Value} {p : S.Ws} (h : PRow w u p) (hb : ∀ k, u.ownBlock = some k → w'.heap[k]? = w.heap[k]?) : PRow w' u p := by
  refine ⟨h.1, ?_⟩
  rcases h.2 with h2 | ⟨g, cap, cur, rfl, h3, h4, h5⟩
  · exact Or.inl h2
  · exact Or.inr ⟨g, cap, cur, rfl, h3, (hb g rfl).trans h4, h5⟩
theorem PRow.lt {w : World} {u : Value} {p : S.Ws} (h : PRow w u p) {k : Nat} (hk : u.ownBlock = some k) : k < w.heap.size := (World.ownsRow.lt h k hk).2
theorem PRow.chg {q : Nat → Prop} {w W : World} {u : Value} {p : S.Ws} (h : PRow w u p) (hc : Chg q w W) (hp : ∀ k, u.ownBlock = some k → ¬ q k) : PRow W u p := h.kept fun k hk => hc.block k (h.lt hk) (hp k hk)
theorem PRow.shape {w : World} {u : Value} {p : S.Ws} (h : PRow w u p) : (u = .slice none 0 0 ∧ p = []) ∨ ∃ g c, u = .slice (some ⟨g, 0, none⟩) p.length c ∧ p.length ≤ c := by
  rcases h.2 with ⟨rfl, h3⟩ | ⟨g, cap, cur, rfl, _, _, h5, _⟩
  · exact Or.inl ⟨rfl, List.eq_nil_of_length_eq_zero h3⟩
  · exact Or.inr ⟨_, _, rfl, h5⟩
theorem PRow.form {w : World} {u : Value} {p : S.Ws} (h : PRow w u p) : ∃ ao c, u = .slice ao p.length c := by
  rcases h.shape with ⟨rfl, rfl⟩ | ⟨g, c, rfl, _⟩
  · exact ⟨_, _, rfl⟩
  · exact ⟨_, _, rfl⟩
theorem prow_nil (w : World) : PRow w (.slice none 0 0) [] := World.ownsRow_nil w 0 86 129
theorem PRow.range {w : World} {g c n : Nat} {p : S.Ws} (h : PRow w (.slice (some ⟨g, 0, none⟩) n c) p) (hp : ∀ k, k < p.length → (S.Ws.nth p k).2.length = 128) (k : Nat) (hk : k < p.length) : w.rangeAt g (k * 129) (S.pc (S.Ws.nth p k)) := fun j v hv => by
  have := World.ownsRow.cells h (g := g) rfl (k * 129 + j) v (S.pcs_at p (S.mem_nth hp) k hk j v hv)
  rw [Addr.add_lit, Nat.zero_add] at this
  exact this
end Go.Proofs.YthjlhngjpbmieaaGreatDoor
namespace Go.Proofs.YthjlhngjpbmieaaGreatDoor
open Go.RowKit
/-- Where a disk lies: its block, the blocks of its sectors with their room, the list of its writes, its counter. -/
structure Ow where
  g : Nat
  gs : Nat
  ge : Nat
  cs : Nat
  ce : Nat
  pv : Value
  lf : Int
/-- The blocks that are a disk's. -/
def Ow.has (o : Ow) (k : Nat) : Prop := k = o.g ∨ k = o.gs ∨ k = o.ge ∨ o.pv.ownBlock = some k
def Ow.ptr (o : Ow) : Value := .pointer (some ⟨o.g, 0, none⟩)
structure DkIs (w : World) (o : Ow) (d : S.Dk) : Prop where
  row : w.heap[o.g]? = some (.cells #[.slice (some ⟨o.gs, 0, none⟩) d.safe.length o.cs, .slice (some ⟨o.ge, 0, none⟩) d.safe.length o.ce, o.pv, .bool d.left.isSome, .int .i64 o.lf] 61 (0, 0))
  safe : SecAt w o.gs d.safe
  seen : SecAt w o.ge d.seen
  pend : PRow w o.pv d.pend
  ok : d.Ok
  left : ∀ k, d.left = some k → o.lf = (k : Int) ∧ k ≤ 9223372036854775807
  sep : o.g ≠ o.gs ∧ o.g ≠ o.ge ∧ o.gs ≠ o.ge
  psep : ∀ k, o.pv.ownBlock = some k → k ≠ o.g ∧ k ≠ o.gs ∧ k ≠ o.ge
  caps : d.safe.length ≤ o.cs ∧ d.safe.length ≤ o.ce
/-- What a disk's call changes. -/
structure DkTo (o : Ow) (w : World) (o' : Ow) (w' : World) : Prop where
  g : o'.g = o.g
  chg : Chg o.has w w'
  own : ∀ k, o'.has k → o.has k ∨ w.heap.size ≤ k
theorem DkTo.refl (o : Ow) (w : World) : DkTo o w o w := ⟨rfl, Chg.refl _ _, fun _ h => Or.inl h⟩
theorem DkTo.trans {o o1 o2 : Ow} {w w1 w2 : World} (h : DkTo o w o1 w1) (k : DkTo o1 w1 o2 w2) : DkTo o w o2 w2 :=
  ⟨k.g.trans h.g, h.chg.trans k.chg (fun j hj e => by rcases h.own j e with h' | h'; exact h'; omega), fun j e => by
    rcases k.own j e with e | e
    · exact h.own j e
    · exact Or.inr (Nat.le_trans h.chg.size e)⟩
theorem DkIs.lt {w : World} {o : Ow} {d : S.Dk} (h : DkIs w o d) : ∀ k, o.has k → k < w.heap.size := by
  rintro k (rfl | rfl | rfl | hk)
  · exact block_lt_of_row h.row
  · exact h.safe.lt
  · exact h.seen.lt
  · exact h.pend.lt hk
theorem DkIs.chg {p : Nat → Prop} {w W : World} {o : Ow} {d : S.Dk} (h : DkIs w o d) (hc : Chg p w W) (hp : ∀ k, o.has k → ¬ p k) : DkIs W o d :=
  ⟨hc.row h.row (hp _ (Or.inl rfl)), h.safe.chg hc (hp _ (Or.inr (Or.inl rfl))), h.seen.chg hc (hp _ (Or.inr (Or.inr (Or.inl rfl)))), h.pend.chg hc (fun k hk => hp k (Or.inr (Or.inr (Or.inr hk)))), h.ok, h.left, h.sep, h.psep, h.caps⟩
theorem DkIs.below {w W : World} {o : Ow} {d : S.Dk} (h : DkIs w o d) (hb : Below w.heap.size w W) : DkIs W o d := h.chg (p := fun _ => False) (Chg.ofBelow' hb) (fun _ _ e => e)
theorem DkIs.n {w : World} {o : Ow} {d : S.Dk} (h : DkIs w o d) : d.safe.length ≤ 8192 := h.ok.few
theorem sectors_any (o : Ow) (d : S.Dk) (w : World) (hd : DkIs w o d) :
   Calls Tryz.prog 40 #[o.ptr] w fun e w' => e = .returned (.int .i64 (d.safe.length : Int)) ∧ w = w' := by
  obtain ⟨c0, c1, c2, c3, c4⟩ := cells5 hd.row
  clear hd
  unfold Ow.ptr
  go_enter Tryz.func40, Tryz.ntmps40
  go_wp2
  go_ret
  exact ⟨rfl, rfl⟩
theorem pending_any (o : Ow) (d : S.Dk) (w : World) (hd : DkIs w o d) :
   Calls Tryz.prog 41 #[o.ptr] w fun e w' => e = .returned (.int .i64 (d.pend.length : Int)) ∧ w = w' := by
  obtain ⟨c0, c1, c2, c3, c4⟩ := cells5 hd.row
  obtain ⟨ao, c, e⟩ := hd.pend.form
  rw [e] at c2
  clear hd e
  unfold Ow.ptr
  go_enter Tryz.func41, Tryz.ntmps41
  go_wp2
  go_ret
  exact ⟨rfl, rfl⟩
theorem has_any (o : Ow) (d : S.Dk) (n : Int) (w : World) (hd : DkIs w o d) :
   Calls Tryz.prog 65 #[o.ptr, .int .i64 n] w fun e w' => e = .returned (.bool (d.inside n)) ∧ w = w' := by
  obtain ⟨c0, c1, c2, c3, c4⟩ := cells5 hd.row
  clear hd
  unfold Ow.ptr
  by_cases h0 : 0 ≤ n
  · have e : Hid (d.inside n = decide (n < d.safe.length)) := by show _ = _; simp [S.Dk.inside, h0]
    go_enter Tryz.func65, Tryz.ntmps65
    go_wp2
    go_ret
    exact ⟨by rw [e.out]; rfl, rfl⟩
  · have e : Hid (d.inside n = false) := S.Dk.inside_no (fun h => h0 h.1)
    go_enter Tryz.func65, Tryz.ntmps65
    go_wp2
    go_ret
    exact ⟨by rw [e.out]; rfl, rfl⟩
/-- The object's own row behind some stores. -/
theorem DkIs.put {w : World} {o o' : Ow} {d d' : S.Dk} (h : DkIs w o d) {W : World} (hr : W.heap[o.g]? = some (.cells #[.slice (some ⟨o.gs, 0, none⟩) d'.safe.length o.cs, .slice (some ⟨o.ge, 0, none⟩) d'.safe.length o.ce, o'.pv, .bool d'.left.isSome, .int .i64 o'.lf] 61 (0, 0))) (h1 : o'.g = o.g) (h2 : o'.gs = o.gs) (h3 : o'.ge = o.ge) (h4 : o'.cs = o.cs) (h5 : o'.ce = o.ce)
    (hs : SecAt W o.gs d'.safe) (he : SecAt W o.ge d'.seen) (hp : PRow W o'.pv d'.pend) (hok : d'.Ok) (hl : ∀ k, d'.left = some k → o'.lf = (k : Int) ∧ k ≤ 9223372036854775807) (hps : ∀ k, o'.pv.ownBlock = some k → k ≠ o.g ∧ k ≠ o.gs ∧ k ≠ o.ge) (hn : d'.safe.length = d.safe.length) : DkIs W o' d' := by
  obtain ⟨g, gs, ge, cs, ce, pv, lf⟩ := o'
  simp only at h1 h2 h3 h4 h5
  subst h1 h2 h3 h4 h5
  exact ⟨hr, hs, he, hp, hok, hl, h.sep, hps, by rw [hn]; exact h.caps⟩
theorem Chg.one {w : World} (g i : Nat) (v : Value) {p : Nat → Prop} (hp : p g) : Chg p w (w.setCell ⟨g, i, none⟩ v) := (Chg.refl _ _).setCell g i v (fun _ => hp)
theorem stop_any (o : Ow) (d : S.Dk) (a : Int) (w : World) (hd : DkIs w o d) (ha : a ≤ 9223372036854775807) :
   Calls Tryz.prog 18 #[o.ptr, .int .i64 a] w fun e w' => e = .returned (.tuple #[]) ∧ ∃ o', DkIs w' o' (d.stop a) ∧ DkTo o w o' w' := by
  obtain ⟨c0, c1, c2, c3, c4⟩ := cells5 hd.row
  have f3 := frozen_of_row _ _ 3 _ _ hd.row
  have f4 := frozen_of_row _ _ 4 _ _ hd.row
  have HD := hide hd
  clear hd
  have key : Hid (∀ m : Int, m = (a.toNat : Int) → ∃ o', DkIs ((w.setCell ⟨o.g, 3, none⟩ (.bool true)).setCell ⟨o.g, 4, none⟩ (.int .i64 m)) o' (d.stop a) ∧ DkTo o w o' ((w.setCell ⟨o.g, 3, none⟩ (.bool true)).setCell ⟨o.g, 4, none⟩ (.int .i64 m))) := by
    show ∀ m : Int, _
    intro m hm
    have h := HD.out
    have R3 := heap_setCell_same _ _ 3 _ _ (.bool true) h.row
    have R4 := heap_setCell_same _ _ 4 _ _ (.int .i64 m) R3
    have hc : Chg (fun k => k = o.g) w ((w.setCell ⟨o.g, 3, none⟩ (.bool true)).setCell ⟨o.g, 4, none⟩ (.int .i64 m)) := ((Chg.refl (fun k => k = o.g) w).setCell o.g 3 _ (fun _ => rfl)).setCell o.g 4 _ (fun _ => rfl)
    refine ⟨{ o with lf := m }, h.put R4 rfl rfl rfl rfl rfl (h.safe.chg hc (fun e => h.sep.1 e.symm)) (h.seen.chg hc (fun e => h.sep.2.1 e.symm)) (h.pend.chg hc (fun k hk => (h.psep k hk).1)) (h.ok.of rfl rfl) (fun k hk => ?_) h.psep rfl, ⟨rfl, hc.mono (fun k _ e => Or.inl e), fun k e => Or.inl e⟩⟩
    simp only [S.Dk.stop, Option.some.injEq] at hk
    subst hk
    exact ⟨hm, by omega⟩
  unfold Ow.ptr
  by_cases h0 : a < 0
  · have km := hide (key.out 0 (by omega))
    clear key
    go_enter Tryz.func18, Tryz.ntmps18
    go_wp2
    go_end0
    exact ⟨rfl, km.out⟩
  · have km := hide (key.out a (by omega))
    clear key
    go_enter Tryz.func18, Tryz.ntmps18
    go_wp2
    go_end0
    exact ⟨rfl, km.out⟩
theorem works_any (o : Ow) (d : S.Dk) (w : World) (hd : DkIs w o d) :
   Calls Tryz.prog 64 #[o.ptr] w fun e w' => e = .returned (.bool d.goes) ∧ ∃ o', DkIs w' o' d.tried ∧ DkTo o w o' w' ∧ Chg (fun k => k = o.g) w w' := by
  obtain ⟨c0, c1, c2, c3, c4⟩ := cells5 hd.row
  have f4 := frozen_of_row _ _ 4 _ _ hd.row
  have HD := hide hd
  unfold Ow.ptr
  rcases hl : d.left with _ | k
  · have G : d.goes = true := by simp [S.Dk.goes, hl]
    have E : Hid (d.goes = true ∧ d.tried = d) := ⟨G, by rw [S.Dk.tried_yes G]; cases d; simp_all [S.Dk.went]⟩
    clear G
    rw [hl, show (none : Option Nat).isSome = false from rfl] at c3
    clear hd hl
    go_enter Tryz.func64, Tryz.ntmps64
    go_wp2
    go_ret
    rw [E.out.1, E.out.2]
    exact ⟨rfl, o, HD.out, DkTo.refl _ _, Chg.refl _ _⟩
  · obtain ⟨h1, h2⟩ := hd.left k hl
    rw [hl, show (some k : Option Nat).isSome = true from rfl] at c3
    rw [h1] at c4
    rcases k with _ | k
    · have G : d.goes = false := by simp [S.Dk.goes, hl]
      have E : Hid (d.goes = false ∧ d.tried = d) := ⟨G, S.Dk.tried_no G⟩
      clear G
      clear hd hl h1 h2
      rw [show ((0 : Nat) : Int) = 0 from rfl] at c4
      go_enter Tryz.func64, Tryz.ntmps64
      go_wp2
      go_ret
      rw [E.out.1, E.out.2]
      exact ⟨rfl, o, HD.out, DkTo.refl _ _, Chg.refl _ _⟩
    · have G : d.goes = true := by simp [S.Dk.goes, hl]
      have E : Hid (d.goes = true ∧ d.tried = { d with left := some k }) := ⟨G, by rw [S.Dk.tried_yes G]; simp [S.Dk.went, hl]⟩
      clear G
      have key : Hid (∃ o', DkIs (w.setCell ⟨o.g, 4, none⟩ (.int .i64 (k : Int))) o' { d with left := some k } ∧ DkTo o w o' (w.setCell ⟨o.g, 4, none⟩ (.int .i64 (k : Int))) ∧ Chg (fun k => k = o.g) w (w.setCell ⟨o.g, 4, none⟩ (.int .i64 (k : Int)))) := by
        show ∃ o', _
        have h := HD.out
        have R4 := heap_setCell_same _ _ 4 _ _ (.int .i64 (k : Int)) h.row
        rw [hl] at R4
        have hc : Chg (fun j => j = o.g) w (w.setCell ⟨o.g, 4, none⟩ (.int .i64 (k : Int))) := (Chg.refl (fun j => j = o.g) w).setCell o.g 4 _ (fun _ => rfl)
        refine ⟨{ o with lf := k }, h.put R4 rfl rfl rfl rfl rfl (h.safe.chg hc (fun e => h.sep.1 e.symm)) (h.seen.chg hc (fun e => h.sep.2.1 e.symm)) (h.pend.chg hc (fun k hk => (h.psep k hk).1)) (h.ok.of rfl rfl) (fun j hj => ?_) h.psep rfl, ⟨rfl, hc.mono (fun k _ e => Or.inl e), fun k e => Or.inl e⟩, hc⟩
        simp only [Option.some.injEq] at hj
        subst hj
        exact ⟨rfl, by omega⟩
      have q1 : ¬ (((k + 1 : Nat) : Int) = 0) := by omega
      have q2 : IntKind.i64.wrap (((k + 1 : Nat) : Int) - 1) = (k : Int) := by rw [IntKind.wrap_i64]; omega
      clear hd hl h1
      go_enter Tryz.func64, Tryz.ntmps64
      go_wp2
      go_ret
      rw [E.out.1, E.out.2]
      exact ⟨rfl, key.out⟩
end Go.Proofs.YthjlhngjpbmieaaGreatDoor
namespace Go.Proofs.YthjlhngjpbmieaaGreatDoor
open Go.RowKit
theorem info_pair {P : Program} {e : TypeId} {a b : Nat} {z : Value} (h1 : (P.info? e).map (fun i => (i.size, i.bytes)) = some (a, b)) (h2 : (P.info? e).bind (·.zero) = some z) : ∃ i, P.info? e = some i ∧ i.zero = some z ∧ i.size = a ∧ i.bytes = b := by
  cases h : P.info? e with
  | none => rw [h] at h1; cases h1
  | some i =>
    rw [h] at h1 h2
    simp only [Option.map_some, Option.some.injEq, Prod.mk.injEq] at h1
    exact ⟨i, rfl, h2, h1.1, h1.2⟩
theorem zeros_getD (n j : Nat) : (S.zeros n).getD j 0 = 0 := by
  unfold S.zeros
  rw [List.getD_eq_getElem?_getD, List.getElem?_replicate]
  split <;> rfl
/-- The noughts that make lays. -/
def noughts (n : Nat) : Array Value := madeCells (S.v8 (S.zeros 128)) (n * 128)
theorem noughts_size (n : Nat) : (noughts n).size = n * 128 := size_madeCells _ _
theorem noughts_at (n j : Nat) (hj : j < n * 128) : (noughts n)[j]? = some (.int .u8 0) := by
  have hs : (S.v8 (S.zeros 128)).size = 128 := by rw [S.v8_size, S.zeros_length]
  simp only [noughts, madeCells, Array.getElem?_map]
  rw [Array.getElem?_eq_getElem (by simpa using hj)]
  simp only [Array.getElem_range, Option.map_some]
  have hm : j % (S.v8 (S.zeros 128)).size < (S.v8 (S.zeros 128)).size := by rw [hs]; omega
  rw [getElem!_pos (S.v8 (S.zeros 128)) _ hm]
  generalize j % (S.v8 (S.zeros 128)).size = k at hm
  rw [← Array.getElem?_eq_getElem hm, S.v8_eq, List.getElem?_toArray, v8l_get _ _ (by rw [S.v8_size] at hm; exact hm), zeros_getD]
  rfl
theorem make_secs (n : Nat) (hn : n ≤ 8192) (w : World) : (Instr.makeSlice 58 (.int .i64 (n : Int)) (.int .i64 (n : Int))).run Tryz.prog w = .ok (.slice (some ⟨w.heap.size, 0, none⟩) n n) (w.alloc (.cells (noughts n) 84)) := by
  obtain ⟨i, hi, hz, hsz, hby⟩ := info_pair info73 zero73
  have h := run_make (P := Tryz.prog) w 58 84 i _ Tryz.underlying58 hi hz .i64 .i64 (n : Int) (n : Int) (by omega) (Int.le_refl _) (by rw [hby]; omega) (by omega)
  rw [h, hsz]
  rfl
theorem secAt_noughts {w : World} {g n : Nat} (h : w.heap[g]? = some (.cells (noughts n) 84 (0, 0))) : SecAt w g (List.replicate n (S.zeros 128)) := by
  refine ⟨⟨_, h, by rw [noughts_size, List.length_replicate]; omega⟩, fun i hi => ?_, fun i hi => ?_⟩
  · have hi' : i < n := by simpa using hi
    simp [List.getD_eq_getElem?_getD, hi', S.zeros_length]
  · have hi' : i < n := by simpa using hi
    have e : (List.replicate n (S.zeros 128)).getD i [] = S.zeros 128 := by simp [List.getD_eq_getElem?_getD, hi']
    rw [e]
    intro j v hv
    obtain ⟨rfl, hj⟩ := S.v8l_at _ j v hv
    rw [S.zeros_length] at hj
    rw [cell_of_row w g _ _ 84 (0, 0) h, noughts_at n _ (by omega), zeros_getD]
    rfl
theorem dk_new {w W : World} {g gs ge n : Nat} (hn : n ≤ 8192) (h1 : W.heap[g]? = some (.cells #[.slice (some ⟨gs, 0, none⟩) n n, .slice (some ⟨ge, 0, none⟩) n n, .slice none 0 0, .bool false, .int .i64 0] 61 (0, 0))) (h2 : W.heap[gs]? = some (.cells (noughts n) 84 (0, 0))) (h3 : W.heap[ge]? = some (.cells (noughts n) 84 (0, 0))) (hs : g ≠ gs ∧ g ≠ ge ∧ gs ≠ ge) (hg : w.heap.size ≤ g) (hgs : w.heap.size ≤ gs) (hge : w.heap.size ≤ ge) (hb : Below w.heap.size w W) :
    ∃ o, o.g = g ∧ DkIs W o (S.Dk.new n) ∧ (∀ k, o.has k → w.heap.size ≤ k) ∧ Below w.heap.size w W := by
  have hl : (S.Dk.new n).safe.length = n := by simp [S.Dk.new]
  refine ⟨⟨g, gs, ge, n, n, .slice none 0 0, 0⟩, rfl, ⟨by rw [hl]; exact h1, secAt_noughts h2, secAt_noughts h3, prow_nil _, S.Dk.new_ok n hn, fun k hk => (by cases hk), hs, fun k hk => (by cases hk), by rw [hl]; exact ⟨Nat.le_refl _, Nat.le_refl _⟩⟩, ?_, hb⟩
  rintro k (rfl | rfl | rfl | hk)
  · exact hg
  · exact hgs
  · exact hge
  · cases hk
theorem new3 (w : World) (a b c : Obj) : (((w.alloc a).alloc b).alloc c).drew.heap[w.heap.size]? = some a ∧ (((w.alloc a).alloc b).alloc c).drew.heap[w.heap.size + 1]? = some b ∧ (((w.alloc a).alloc b).alloc c).drew.heap[w.heap.size + 1 + 1]? = some c := by
  have s1 : (w.alloc a).heap.size = w.heap.size + 1 := by simp
  have s2 : ((w.alloc a).alloc b).heap.size = w.heap.size + 1 + 1 := by simp
  refine ⟨?_, ?_, ?_⟩
  · exact (heap_alloc_old _ c (by omega)).trans ((heap_alloc_old _ b (by omega)).trans (heap_alloc_new w a))
  · have := heap_alloc_new (w.alloc a) b
    rw [s1] at this
    exact (heap_alloc_old _ c (by omega)).trans this
  · have := heap_alloc_new ((w.alloc a).alloc b) c
    rw [s2] at this
    exact this
theorem new3_below (w : World) (a b c : Obj) : Below w.heap.size w (((w.alloc a).alloc b).alloc c).drew :=
  (((Chg.refl (fun _ => False) w).alloc a).alloc b |>.alloc c).drew.below _ (Nat.le_refl _) (fun _ _ e => e)
set_option maxHeartbeats 800000 in
theorem new_any (n : Nat) (w : World) (h1 : 1 ≤ n) (h2 : n ≤ 8192) :
   Calls Tryz.prog 9 #[.int .i64 (n : Int)] w fun e w' => ∃ o, e = .returned (.tuple #[o.ptr, .int .i64 0]) ∧ DkIs w' o (S.Dk.new n) ∧ (∀ k, o.has k → w.heap.size ≤ k) ∧ Below w.heap.size w w' := by
  have hmk := make_secs n h2
  have q1 : ¬ ((n : Int) < 1) := by omega
  have q2 : ¬ ((8192 : Int) < (n : Int)) := by omega
  go_enter Tryz.func9, Tryz.ntmps9
  go_wp2_with fail
  go_region
  all_goals
    go_wp2_with fail
    go_ret2
  · obtain ⟨o, h3, h4, h5, h6⟩ := dk_new (w := w) (W := (((w.alloc (.cells (noughts n) 84)).alloc (.cells (noughts n) 84)).alloc (.cells #[.slice (some ⟨w.heap.size, 0, none⟩) n n, .slice (some ⟨w.heap.size + 1, 0, none⟩) n n, .slice none 0 0, .bool false, .int .i64 0] 61)).drew) (g := w.heap.size + 1 + 1) (gs := w.heap.size) (ge := w.heap.size + 1) h2
      (new3 w _ _ _).2.2 (new3 w _ _ _).1 (new3 w _ _ _).2.1 (by omega) (by omega) (by omega) (by omega) (new3_below w _ _ _)
    exact ⟨o, by rw [Ow.ptr, h3]; rfl, h4, h5, h6⟩
  · obtain ⟨o, h3, h4, h5, h6⟩ := dk_new (w := w) (W := (((w.alloc (.cells (noughts n) 84)).alloc (.cells (noughts n) 84)).alloc (.cells #[.slice (some ⟨w.heap.size + 1, 0, none⟩) n n, .slice (some ⟨w.heap.size, 0, none⟩) n n, .slice none 0 0, .bool false, .int .i64 0] 61)).drew) (g := w.heap.size + 1 + 1) (gs := w.heap.size + 1) (ge := w.heap.size) h2
      (new3 w _ _ _).2.2 (new3 w _ _ _).2.1 (new3 w _ _ _).1 (by omega) (by omega) (by omega) (by omega) (new3_below w _ _ _)
    exact ⟨o, by rw [Ow.ptr, h3]; rfl, h4, h5, h6⟩
end Go.Proofs.YthjlhngjpbmieaaGreatDoor
namespace Go.Proofs.YthjlhngjpbmieaaGreatDoor
open Go.RowKit
set_option maxHeartbeats 800000 in
set_option maxRecDepth 100000 in
theorem read_yes (o : Ow) (d : S.Dk) (n : Nat) (w : World) (hd : DkIs w o d) (hn : n < d.safe.length) :
   Calls Tryz.prog 43 #[o.ptr, .int .i64 (n : Int)] w fun e w' => e = .returned (.tuple #[.slice (some ⟨w.heap.size, 0, none⟩) 128 128, .int .i64 0]) ∧ w'.heap[w.heap.size]? = some (.cells (S.v8 (d.seen.getD n [])) 5 (0, 0)) ∧ Below w.heap.size w w' := by
  have E := S.Dk.inside_yes hn
  obtain ⟨c0, c1, c2, c3, c4⟩ := cells5 hd.row
  have hlt := block_lt_of_row hd.row
  have q1 : (0 : Int) ≤ (n : Int) := by omega
  have q2 : (n : Int) < (d.safe.length : Int) := by omega
  have hmk : ∀ w : World, (Instr.makeSlice 31 (.int .i64 128) (.int .i64 128)).run Tryz.prog w = .ok (.slice (some ⟨w.heap.size, 0, none⟩) 128 128) (w.alloc (.cells (S.v8 (S.zeros 128)) 5)) := fun w => make_bytes_big 128 (by omega) w
  obtain ⟨bs, hbs⟩ : ∃ bs, bs = d.seen.getD n [] := ⟨_, rfl⟩
  have hlen : bs.length = 128 := by rw [hbs]; exact hd.ok.seen n hn
  have HS : Hid (Src w (some ⟨o.ge, n * 128, none⟩) bs) := by rw [hbs]; exact hd.seen.src n (by rw [S.Dk.seen_length]; exact hn)
  have HN : Hid ((S.v8l bs).length = Nat.min 128 128) := by show (S.v8l bs).length = Nat.min 128 128; rw [S.v8l_length, hlen]; rfl
  have HF : Hid (0 + (S.v8l bs).length ≤ (S.v8l (S.zeros 128)).length) := by show 0 + (S.v8l bs).length ≤ (S.v8l (S.zeros 128)).length; rw [S.v8l_length, S.v8l_length, S.zeros_length, hlen]; omega
  have HB : Hid (Below w.heap.size w (w.alloc (.cells (S.v8 (S.zeros 128)) 5))) := (Below.refl _ _).alloc (Nat.le_refl _) _
  have HD := hide hd
  have HL := hide hlen
  have HBS := hide hbs
  clear hd hn hlen hbs
  unfold Ow.ptr
  go_enter Tryz.func43, Tryz.ntmps43
  go_wp2_with fail
  refine (has_any o d n w HD.out).mono ?_
  rintro e w1 ⟨rfl, rfl⟩
  go_wp2_with (first | (refine wpList_copy_splice rfl (.tmp 12) (.tmp 19) 31 31 rfl 5 Tryz.underlying31 size5 _ _ _ _ _ _ rfl rfl w.heap.size 0 (S.v8l (S.zeros 128)) 5 (heap_alloc_new _ _) (S.v8l bs) HN.out (copy_src _ HS.out HB.out) HF.out (S.v8l_one _) w.heap.size (w.alloc (.cells (S.v8 (S.zeros 128)) 5)) (Below.refl _ _) (Nat.le_refl _) ?_; intro w2 HG2 hB2; have HG3 := hide (spl_rowT HG2); clear HG2; have HN2 := hide (HB.out.trans hB2); clear hB2))
  go_ret2
  refine ⟨rfl, ?_, HN2.out⟩
  have e : splice (S.zeros 128) 0 bs = bs := by rw [splice_front, HL.out]; simp [S.zeros]
  rw [← HBS.out, ← e]
  exact HG3.out
end Go.Proofs.YthjlhngjpbmieaaGreatDoor
