/- Rows of sheets; Clone of any number of them. -/
import Derived.Test.YthjlhngjpbmieaaGreatDoorJc
import Derived.Test.YthjlhngjpbmieaaGreatDoorTa
namespace Go.Proofs.YthjlhngjpbmieaaGreatDoor
open Go.RowKit

theorem flatSh_length (d : List ShV) : (d.flatMap encSh).length = d.length * 2 := by
  induction d with
  | nil => rfl
  | cons x r ih => rw [List.flatMap_cons, List.length_append, ih]; simp [encSh]; omega
theorem flatSh_get (d : List ShV) (i : Nat) (x : ShV) (h : d[i]? = some x) : (d.flatMap encSh)[i * 2]? = some (.int .i64 x.1) ∧ (d.flatMap encSh)[i * 2 + 1]? = some x.list := by
  induction d generalizing i with
  | nil => simp at h
  | cons y r ih =>
    rw [List.flatMap_cons]
    match i, h with
    | 0, h => simp at h; subst h; exact ⟨rfl, rfl⟩
    | i + 1, h =>
      have := ih i (by simpa using h)
      have e : (i + 1) * 2 = i * 2 + 2 := by omega
      rw [e]
      exact this
theorem flatSh_one (d : List ShV) : ∀ v ∈ d.flatMap encSh, v.oneCell' = true := by
  intro v hv
  rw [List.mem_flatMap] at hv
  obtain ⟨x, _, hv⟩ := hv
  simp [encSh, ShV.list] at hv
  rcases hv with rfl | rfl <;> rfl
/-- A row of sheets of the call's own. -/
structure ShR (w : World) (g : Nat) (d : List ShV) : Prop where
  row : ∃ cur, w.heap[g]? = some (.cells cur 37 (0, 0)) ∧ cur.toList.take (d.length * 2) = d.flatMap encSh
theorem ShR.cells {w : World} {g : Nat} {d : List ShV} (h : ShR w g d) (i : Nat) (x : ShV) (hx : d[i]? = some x) : w.cell? ⟨g, i * 2, none⟩ = some (.int .i64 x.1) ∧ w.cell? ⟨g, i * 2 + 1, none⟩ = some x.list := by
  obtain ⟨cur, h1, h2⟩ := h.row
  have hl : i < d.length := (List.getElem?_eq_some_iff.1 hx).1
  obtain ⟨e0, e1⟩ := flatSh_get d i x hx
  rw [← h2, List.getElem?_take, if_pos (by omega)] at e0 e1
  exact ⟨by rw [cell_of_row w g _ _ 37 _ h1]; simpa using e0, by rw [cell_of_row w g _ _ 37 _ h1]; simpa using e1⟩
theorem ShR.lt {w : World} {g : Nat} {d : List ShV} (h : ShR w g d) : g < w.heap.size := by obtain ⟨cur, h1, _⟩ := h.row; exact block_lt_of_row h1
theorem ShR.below {w W : World} {g : Nat} {d : List ShV} (h : ShR w g d) (hb : Below w.heap.size w W) : ShR W g d := by
  obtain ⟨cur, h1, h2⟩ := h.row
  exact ⟨cur, (hb.block g (block_lt_of_row h1)).trans h1, h2⟩
set_option maxHeartbeats 4000000 in
set_option maxRecDepth 10000 in
theorem pclone_any (b off cap : Nat) (d : List ShV) (w : World) (h0 : ∀ j u, (d.flatMap encSh)[j]? = some u → w.cell? ⟨b, off + j, none⟩ = some u) (hd : d ≠ []) (hl : d.length ≤ 100000) :
   Calls Tryz.prog 49 #[.slice (some ⟨b, off, none⟩) d.length cap] w fun e w' => ∃ g c, e = .returned (.slice (some ⟨g, 0, none⟩) d.length c) ∧ w.heap.size ≤ g ∧ ShR w' g d ∧ Below w.heap.size w w' := by
  have hnil := eql_nil38 ⟨b, off, none⟩ d.length cap
  obtain ⟨i, hi, hz0, hz1, hz2⟩ := info_parts info37
  obtain ⟨w1, hw1⟩ : ∃ w1, w1 = w.alloc (.cells #[] 37) := ⟨_, rfl⟩
  have b1 : Below w.heap.size w w1 := by rw [hw1]; exact (Below.refl _ _).alloc (Nat.le_refl _) _
  have r1 : w1.heap[w.heap.size]? = some (.cells #[] 37 (0, 0)) := by rw [hw1]; exact heap_alloc_new _ _
  have hown : w1.ownsRow w.heap.size 37 2 (.slice (some ⟨w.heap.size, 0, none⟩) 0 0) 0 [] := ⟨rfl, Or.inr ⟨w.heap.size, 0, #[], rfl, Nat.le_refl _, r1, Nat.le_refl _, by simp [maxLen], rfl, rfl⟩⟩
  have hdl : 0 < d.length := List.length_pos_iff.2 hd
  have hb0 : b < w.heap.size := by
    obtain ⟨x, r, rfl⟩ := List.exists_cons_of_ne_nil hd
    exact World.block_lt_of_cell? w _ (h0 0 (.int .i64 x.1) rfl)
  have APP := hide (run_append_own (P := Tryz.prog) w1 w.heap.size 38 38 37 i (.agg #[.int .i64 0, .slice none 0 0]) 2 32 Tryz.underlying38 hi hz0 hz1 hz2 rfl (by omega) (.slice (some ⟨w.heap.size, 0, none⟩) 0 0) 0 [] hown ⟨b, off, none⟩ d.length cap (d.flatMap encSh) (flatSh_length d) (fun j u hu => by
    rw [Addr.add_lit]
    exact (b1.cell (p := ⟨b, off + j, none⟩) hb0).trans (h0 j u hu)) (flatSh_one d) (by simp [maxLen]; omega) (by omega) b1.size)
  have HB := hide b1
  have HW := hide hw1
  have HD : Hid (0 < d.length) := hdl
  generalize hdn : d.length = dn at hnil APP HD ⊢
  have HN : Hid (d.length = dn) := hdn
  clear b1 r1 hw1 hown h0 hi hz0 hz1 hz2 hb0 hdn hl hd hdl
  clear i
  go_enter Tryz.func49, Tryz.ntmps49
  go_wp2_with (at_builtin; (rw [← HW.out]; refine wpList_append_known rfl (.tmp 5) (.tmp 6) 38 38 rfl _ _ rfl rfl (by obtain ⟨v', w', h1, h2⟩ := APP.out; exact ⟨v', w', h1, h2⟩) ?_; rintro v2 w2 ⟨ho, hg, hn⟩; have OW := hide ho; have GR := hide hg; clear ho hg hn))
  rcases OW.out.2 with ⟨e, e2⟩ | ⟨g, c, cur, e, hge, h1, h2, h3, h4, h5⟩
  · exact absurd e2 (by have := HD.out; simp; omega)
  · subst e
    have S2 : Hid (ShR w2 g d) := ⟨cur, h1, by rw [HN.out]; simpa using h5⟩
    have B2 : Hid (Below w.heap.size w w2) := HB.out.trans (((Chg.refl (fun k => w.heap.size ≤ k) w1).grown GR.out (fun k _ e => by simp only [Value.ownBlock, Option.some.injEq] at e; omega)).below _ HB.out.size (fun k hk e => by omega))
    have GE : Hid (w.heap.size ≤ g) := hge
    clear h1 h2 h3 h4 h5 hge OW GR HB HW APP hnil HD HN
    go_wp2_with fail
    go_ret
    exact ⟨g, c, by simp, GE.out, S2.out, B2.out⟩
end Go.Proofs.YthjlhngjpbmieaaGreatDoor
