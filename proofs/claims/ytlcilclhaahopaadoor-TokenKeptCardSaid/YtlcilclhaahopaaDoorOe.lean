/- The runs that are known; digests are the same; rows of digests are the same. -/
import Derived.Test.YtlcilclhaahopaaDoorMf
import Derived.Test.YtlcilclhaahopaaDoorLists
import Derived.Laws.IdiomStrings
import Derived.Lib.BufferRead
namespace Go.Proofs.YtlcilclhaahopaaDoor
open Go.RowKit

/-- The value v is a slice of digests that read so. -/
def DgAt (w : World) (v : Value) (ds : List (List UInt8)) : Prop :=
  ∃ ao cap, v = .slice ao ds.length cap ∧ ds.length ≤ 1000000 ∧ (∀ d ∈ ds, d.length = 32) ∧ (0 < ds.length → ∃ g off, ao = some ⟨g, off, none⟩ ∧ g < w.heap.size ∧ ∀ j, j < ds.length → w.rangeAt g (off + j * 32) (S.v8l (ds.getD j [])))
theorem DgAt.of_heap {w w' : World} {v : Value} {ds : List (List UInt8)} (h : DgAt w v ds) (hh : w'.heap = w.heap) : DgAt w' v ds := by
  obtain ⟨ao, cap, rfl, h1, h2, h3⟩ := h
  refine ⟨ao, cap, rfl, h1, h2, fun hp => ?_⟩
  obtain ⟨g, off, rfl, h4, h5⟩ := h3 hp
  exact ⟨g, off, rfl, by rw [hh]; exact h4, fun j hj k u hu => (World.cell?_of_block (by rw [hh])).trans (h5 j hj k u hu)⟩
theorem DgAt.below {w w' : World} {v : Value} {ds : List (List UInt8)} (h : DgAt w v ds) (hb : Below w.heap.size w w') : DgAt w' v ds := by
  obtain ⟨ao, cap, rfl, h1, h2, h3⟩ := h
  refine ⟨ao, cap, rfl, h1, h2, fun hp => ?_⟩
  obtain ⟨g, off, rfl, h4, h5⟩ := h3 hp
  exact ⟨g, off, rfl, Nat.lt_of_lt_of_le h4 hb.size, fun j hj k u hu => (hb.cell (p := ⟨g, off + j * 32 + k, none⟩) h4).trans (h5 j hj k u hu)⟩
theorem flat_at (ds : List (List UInt8)) (h : ∀ d ∈ ds, d.length = 32) (j k : Nat) (hj : j < ds.length) (hk : k < 32) : (ds.flatMap S.v8l)[j * 32 + k]? = (S.v8l (ds.getD j []))[k]? := by
  induction ds generalizing j with
  | nil => simp at hj
  | cons d ds ih =>
    have hd : (S.v8l d).length = 32 := by rw [S.v8l_length, h d (by simp)]
    rw [List.flatMap_cons]
    cases j with
    | zero => rw [List.getElem?_append_left (by omega)]; simp
    | succ j =>
      rw [List.getElem?_append_right (by omega), hd, show (j + 1) * 32 + k - 32 = j * 32 + k by omega, ih (fun x hx => h x (by simp [hx])) j (by simpa using hj)]
      simp
theorem DgRow.dgAt {B : Nat} {w : World} {v : Value} {ds : List (List UInt8)} (h : DgRow B w v ds) (hl : ds.length ≤ 1000000) (hd : ∀ d ∈ ds, d.length = 32) : DgAt w v ds := by
  rcases h.2 with ⟨rfl, h0⟩ | ⟨g, cap, cur, rfl, hB, hr, h1, h2, h3, h4⟩
  · exact ⟨none, 0, by rw [h0], hl, hd, fun hp => by omega⟩
  · refine ⟨_, cap, rfl, hl, hd, fun hp => ⟨g, 0, rfl, block_lt_of_row hr, fun j hj k u hu => ?_⟩⟩
    have hk : k < 32 := by
      have := (List.getElem?_eq_some_iff.1 hu).1
      rw [S.v8l_length, List.getD_eq_getElem?_getD, List.getElem?_eq_getElem hj] at this
      have h5 := hd _ (List.getElem_mem hj)
      simp only [Option.getD_some] at this
      omega
    rw [← flat_at ds hd j k hj hk, ← h4, List.getElem?_take, if_pos (by omega)] at hu
    rw [Nat.zero_add, cell_of_row w g (j * 32 + k) _ _ _ hr]
    simpa using hu
theorem equal_dig (xs ys : List UInt8) (hx : xs.length = 32) (hy : ys.length = 32) (b : Bool) (hb : (xs == ys) = b) (w : World) : (Op.equalIn 10000 25 (.agg (S.v8 xs)) (.agg (S.v8 ys))).run Tryd.prog w = .ok b w := by rw [← hb]; exact equal_digests xs ys hx hy w
def S.l2 : List UInt8 := [110, 52] ++ S.zeros 30
theorem alloc31 (w : World) : (Instr.alloc 25 true (.tuple #[])).run Tryd.prog w = .ok (.pointer (some ⟨w.heap.size, 0, none⟩)) (w.alloc (.cells (S.v8 (S.zeros 32)) 25)) := by
  obtain ⟨i, hi, hz, _, _⟩ := info_parts info31
  simp [Instr.alloc, zeroValue, typeInfo, hi, hz, newVar, newRow, Value.cells]
/-- A digest is laid into a new variable: what its alloc and its store leave. -/
theorem lay_dig (w : World) (D : List UInt8) (hD : D.length = 32) : ∃ A Y, (Instr.alloc 25 true (.tuple #[])).run Tryd.prog w = .ok (.pointer (some ⟨w.heap.size, 0, none⟩)) A ∧ (Instr.storeAt 25 (.pointer (some ⟨w.heap.size, 0, none⟩)) (.agg (S.v8 D))).run Tryd.prog A = .ok () Y ∧ Y.heap[w.heap.size]? = some (.cells (S.v8 D) 25 (0, 0)) ∧ Below w.heap.size w Y ∧ Y.heap.size = w.heap.size + 1 := by
  obtain ⟨Y, h1, h2, h3, h4⟩ := store_dig (w := w.alloc (.cells (S.v8 (S.zeros 32)) 25)) (g := w.heap.size) (heap_alloc_new _ _) (S.zeros_length _) hD
  exact ⟨_, Y, alloc31 w, h1, h2, ((Below.refl _ _).alloc (Nat.le_refl _) _).trans (h3.below _ (by simp) (fun k hk e => by omega)), by rw [h4]; simp⟩
end Go.Proofs.YtlcilclhaahopaaDoor
namespace Go.Proofs.YtlcilclhaahopaaDoor
open Go.RowKit

theorem conv_slice {w : World} {v : Value} {bs : List UInt8} (h : SliceAt w v bs) : (convert 30 9 v).run Tryd.prog w = .ok (.string ⟨bs.toArray⟩) w := by
  rcases h with ⟨rfl, rfl⟩ | ⟨a, cap, rfl, _, rfl⟩ | ⟨b, off, cap, rfl, h1, h2, h3, h4⟩
  · exact Lib.run_convert_nil_bytes w 30 9 5 0 Tryd.underlying30 Tryd.underlying5 Tryd.underlying9
  · exact run_convert_bytes_back w 30 9 5 a cap [] Tryd.underlying30 Tryd.underlying5 Tryd.underlying9 (fun j hj => by simp at hj)
  · refine run_convert_bytes_back w 30 9 5 ⟨b, off, none⟩ cap bs Tryd.underlying30 Tryd.underlying5 Tryd.underlying9 (fun j hj => ?_)
    rw [Addr.add_lit, h4 j hj, List.getD_eq_getElem?_getD, List.getElem?_eq_getElem hj]
    rfl
end Go.Proofs.YtlcilclhaahopaaDoor
