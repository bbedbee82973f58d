/- Rows of digests: built, and put one behind the other. The path of a leaf and the proof of a beginning, as plain functions. -/
import Derived.Test.YtkljajfgdelfgaaDoorMe
import Derived.Great.BuildSlice
namespace Go.Proofs.YtkljajfgdelfgaaDoor
open Go.RowKit

namespace S
/-- The path of leaf i. -/
def path (a : Int) (l : List (List UInt8)) (i : Nat) : List (List UInt8) :=
  if _h : l.length ≤ 1 then [] else
  if i < half l.length then path a (l.take (half l.length)) i ++ [root a (l.drop (half l.length))]
  else path a (l.drop (half l.length)) (i - half l.length) ++ [root a (l.take (half l.length))]
  termination_by l.length
  decreasing_by
    · have := half_lt' (show 2 ≤ l.length by omega); rw [List.length_take]; omega
    · have := half_pos l.length; rw [List.length_drop]; omega
theorem path_one (a : Int) (l : List (List UInt8)) (i : Nat) (h : l.length ≤ 1) : path a l i = [] := by rw [path, dif_pos h]
theorem path_left (a : Int) (l : List (List UInt8)) (i : Nat) (h : 2 ≤ l.length) (hi : i < half l.length) : path a l i = path a (l.take (half l.length)) i ++ [root a (l.drop (half l.length))] := by rw [path, dif_neg (by omega), if_pos hi]
theorem path_right (a : Int) (l : List (List UInt8)) (i : Nat) (h : 2 ≤ l.length) (hi : ¬ i < half l.length) : path a l i = path a (l.drop (half l.length)) (i - half l.length) ++ [root a (l.take (half l.length))] := by rw [path, dif_neg (by omega), if_neg hi]
/-- The proof of the first m of all. -/
def grow (a : Int) (l : List (List UInt8)) (m : Nat) (b : Bool) : List (List UInt8) :=
  if m = l.length then (if b then [] else [root a l]) else
  if _h : l.length ≤ 1 then [] else
  if m ≤ half l.length then grow a (l.take (half l.length)) m b ++ [root a (l.drop (half l.length))]
  else grow a (l.drop (half l.length)) (m - half l.length) false ++ [root a (l.take (half l.length))]
  termination_by l.length
  decreasing_by
    · have := half_lt' (show 2 ≤ l.length by omega); rw [List.length_take]; omega
    · have := half_pos l.length; rw [List.length_drop]; omega
theorem grow_all (a : Int) (l : List (List UInt8)) (m : Nat) (h : m = l.length) : grow a l m true = [] := by rw [grow, if_pos h]; rfl
theorem grow_part (a : Int) (l : List (List UInt8)) (m : Nat) (h : m = l.length) : grow a l m false = [root a l] := by rw [grow, if_pos h]; rfl
theorem grow_left (a : Int) (l : List (List UInt8)) (m : Nat) (b : Bool) (h : 2 ≤ l.length) (hm : m ≠ l.length) (hi : m ≤ half l.length) : grow a l m b = grow a (l.take (half l.length)) m b ++ [root a (l.drop (half l.length))] := by rw [grow, if_neg hm, dif_neg (by omega), if_pos hi]
theorem grow_right (a : Int) (l : List (List UInt8)) (m : Nat) (b : Bool) (h : 2 ≤ l.length) (hm : m ≠ l.length) (hi : ¬ m ≤ half l.length) : grow a l m b = grow a (l.drop (half l.length)) (m - half l.length) false ++ [root a (l.take (half l.length))] := by rw [grow, if_neg hm, dif_neg (by omega), if_neg hi]
theorem path_len32 (a : Int) (l : List (List UInt8)) (i : Nat) : ∀ d ∈ path a l i, d.length = 32 := by
  have : ∀ N (l : List (List UInt8)) i, l.length = N → ∀ d ∈ path a l i, d.length = 32 := by
    intro N
    induction N using Nat.strongRecOn with
    | ind N IH =>
    intro l i hl d hd
    by_cases h : l.length ≤ 1
    · rw [path_one a l i h] at hd; simp at hd
    · have h2 := half_lt' (show 2 ≤ l.length by omega)
      have h3 := half_pos l.length
      by_cases hi : i < half l.length
      · rw [path_left a l i (by omega) hi, List.mem_append] at hd
        rcases hd with hd | hd
        · exact IH _ (by rw [List.length_take]; omega) _ _ rfl d hd
        · simp only [List.mem_singleton] at hd; rw [hd, root_length]
      · rw [path_right a l i (by omega) hi, List.mem_append] at hd
        rcases hd with hd | hd
        · exact IH _ (by rw [List.length_drop]; omega) _ _ rfl d hd
        · simp only [List.mem_singleton] at hd; rw [hd, root_length]
  exact this _ l i rfl
theorem path_len (a : Int) (l : List (List UInt8)) (i : Nat) : (path a l i).length ≤ l.length := by
  have : ∀ N (l : List (List UInt8)) i, l.length = N → (path a l i).length ≤ N := by
    intro N
    induction N using Nat.strongRecOn with
    | ind N IH =>
    intro l i hl
    by_cases h : l.length ≤ 1
    · rw [path_one a l i h]; simp
    · have h2 := half_lt' (show 2 ≤ l.length by omega)
      have h3 := half_pos l.length
      by_cases hi : i < half l.length
      · rw [path_left a l i (by omega) hi, List.length_append]
        have := IH _ (by rw [List.length_take]; omega) (l.take (half l.length)) i rfl
        rw [List.length_take] at this
        simp; omega
      · rw [path_right a l i (by omega) hi, List.length_append]
        have := IH _ (by rw [List.length_drop]; omega) (l.drop (half l.length)) (i - half l.length) rfl
        rw [List.length_drop] at this
        simp; omega
  exact this _ l i rfl
theorem grow_ok (a : Int) (l : List (List UInt8)) (m : Nat) (b : Bool) : (∀ d ∈ grow a l m b, d.length = 32) ∧ (grow a l m b).length ≤ l.length + 1 := by
  have : ∀ N (l : List (List UInt8)) m b, l.length = N → (∀ d ∈ grow a l m b, d.length = 32) ∧ (grow a l m b).length ≤ N + 1 := by
    intro N
    induction N using Nat.strongRecOn with
    | ind N IH =>
    intro l m b hl
    by_cases hm : m = l.length
    · cases b
      · rw [grow_part a l m hm]
        exact ⟨fun d hd => by simp only [List.mem_singleton] at hd; rw [hd, root_length], by simp⟩
      · rw [grow_all a l m hm]
        exact ⟨fun d hd => by simp at hd, by simp⟩
    · by_cases h : l.length ≤ 1
      · rw [grow, if_neg hm, dif_pos h]
        exact ⟨fun d hd => by simp at hd, by simp⟩
      · have h2 := half_lt' (show 2 ≤ l.length by omega)
        have h3 := half_pos l.length
        by_cases hi : m ≤ half l.length
        · rw [grow_left a l m b (by omega) hm hi]
          obtain ⟨i1, i2⟩ := IH _ (by rw [List.length_take]; omega) (l.take (half l.length)) m b rfl
          rw [List.length_take] at i2
          refine ⟨fun d hd => ?_, by rw [List.length_append]; simp; omega⟩
          rw [List.mem_append] at hd
          rcases hd with hd | hd
          · exact i1 d hd
          · simp only [List.mem_singleton] at hd; rw [hd, root_length]
        · rw [grow_right a l m b (by omega) hm hi]
          obtain ⟨i1, i2⟩ := IH _ (by rw [List.length_drop]; omega) (l.drop (half l.length)) (m - half l.length) false rfl
          rw [List.length_drop] at i2
          refine ⟨fun d hd => ?_, by rw [List.length_append]; simp; omega⟩
          rw [List.mem_append] at hd
          rcases hd with hd | hd
          · exact i1 d hd
          · simp only [List.mem_singleton] at hd; rw [hd, root_length]
  exact this _ l m b rfl
end S
theorem info31 : (Tryd.prog.info? 23).map (fun i => (i.zero, i.size, i.bytes)) = some (some (.agg (S.v8 (S.zeros 32))), 32, 32) := by kernel_rfl
theorem flat_len (ds : List (List UInt8)) (h : ∀ d ∈ ds, d.length = 32) : (ds.flatMap S.v8l).length = ds.length * 32 := by
  induction ds with
  | nil => rfl
  | cons d ds ih =>
    rw [List.flatMap_cons, List.length_append, S.v8l_length, h d (by simp), ih (fun x hx => h x (by simp [hx])), List.length_cons]
    omega
theorem flat_one (ds : List (List UInt8)) : ∀ v ∈ ds.flatMap S.v8l, v.oneCell' = true := fun v hv => by
  rw [List.mem_flatMap] at hv
  obtain ⟨d, _, hd⟩ := hv
  exact S.v8l_one d v hd
/-- A row of digests of one's own. -/
def DgRow (B : Nat) (w : World) (v : Value) (ds : List (List UInt8)) : Prop := w.ownsRow B 23 32 v ds.length (ds.flatMap S.v8l)
theorem DgRow.nil (B : Nat) (w : World) : DgRow B w (.slice none 0 0) [] := ⟨rfl, Or.inl ⟨rfl, rfl⟩⟩
theorem DgRow.form {B : Nat} {w : World} {v : Value} {ds : List (List UInt8)} (h : DgRow B w v ds) : ∃ ao cap, v = .slice ao ds.length cap := by
  rcases h.2 with ⟨rfl, h0⟩ | ⟨g, cap, cur, rfl, _⟩
  · exact ⟨none, 0, by rw [h0]⟩
  · exact ⟨_, _, rfl⟩
theorem DgRow.blk {B : Nat} {w : World} {v : Value} {ds : List (List UInt8)} (h : DgRow B w v ds) {k : Nat} (hk : v.ownBlock = some k) : B ≤ k ∧ k < w.heap.size ∧ ∃ cur, w.heap[k]? = some (.cells cur 23 (0, 0)) := by
  rcases h.2 with ⟨rfl, h0⟩ | ⟨g, cap, cur, rfl, hB, hr, _⟩
  · simp [Value.ownBlock] at hk
  · simp only [Value.ownBlock, Option.some.injEq] at hk
    subst hk
    exact ⟨hB, block_lt_of_row hr, cur, hr⟩
theorem DgRow.mono {B B' : Nat} {w : World} {v : Value} {ds : List (List UInt8)} (h : DgRow B w v ds) (hB : B' ≤ B) : DgRow B' w v ds := by
  refine ⟨h.1, ?_⟩
  rcases h.2 with h0 | ⟨g, cap, cur, h1, h2, h3⟩
  · exact Or.inl h0
  · exact Or.inr ⟨g, cap, cur, h1, Nat.le_trans hB h2, h3⟩
theorem DgRow.chg {p : Nat → Prop} {B : Nat} {w W : World} {v : Value} {ds : List (List UInt8)} (h : DgRow B w v ds) (hc : Chg p w W) (hp : ∀ k, v.ownBlock = some k → ¬ p k) : DgRow B W v ds := by
  refine ⟨h.1, ?_⟩
  rcases h.2 with h0 | ⟨g, cap, cur, rfl, hB, hr, h1⟩
  · exact Or.inl h0
  · exact Or.inr ⟨g, cap, cur, rfl, hB, hc.row hr (hp g rfl), h1⟩
theorem DgRow.below {B : Nat} {w W : World} {v : Value} {ds : List (List UInt8)} (h : DgRow B w v ds) (hb : Below w.heap.size w W) : DgRow B W v ds := h.chg (p := fun _ => False) (Chg.ofBelow' hb) (fun _ _ e => e)
/-- A digest is put behind a row. -/
theorem run_append_dig (w : World) (B g : Nat) (v : Value) (ds : List (List UInt8)) (D : List UInt8) (ty : TypeId) (hown : DgRow B w v ds) (hD : D.length = 32) (hu : w.heap[g]? = some (.cells (S.v8 D) 23 (0, 0))) (hl : ds.length ≤ 100000) (hB : B ≤ w.heap.size) :
    ∃ v' w', (Builtin.append_ #[28, 28] ty #[v, .slice (some ⟨g, 0, none⟩) 1 1]).run Tryd.prog w = .ok v' w' ∧ DgRow B w' v' (ds ++ [D]) ∧ Below B w w' := by
  obtain ⟨i, hi, hz0, hz1, hz2⟩ := info_parts info31
  have hc : ∀ j x, (S.v8l D)[j]? = some x → w.cell? ((⟨g, 0, none⟩ : Addr).add j) = some x := fun j x hx => by
    rw [Addr.add_lit, Nat.zero_add, cell_of_row w g j _ _ _ hu]
    simpa [S.v8_eq] using hx
  obtain ⟨v', w', h1, h2, h3, h4⟩ := run_append_own (P := Tryd.prog) w B 28 ty 23 i (.agg (S.v8 (S.zeros 32))) 32 32 Tryd.underlying28 hi hz0 hz1 hz2 (by rw [Value.cells, S.v8_size]; rfl) (by omega) v ds.length (ds.flatMap S.v8l) hown ⟨g, 0, none⟩ 1 1 (S.v8l D) (by rw [S.v8l_length, hD]) hc (S.v8l_one D) (by simp [maxLen]; omega) (by omega) hB
  have h2b : DgRow B w' v' (ds ++ [D]) := by unfold DgRow; rw [List.length_append, List.flatMap_append]; simpa using h2
  exact ⟨v', w', h1, h2b, (Below.refl _ _).grown h3 hB (fun k hk => (DgRow.blk hown hk).1)⟩
theorem bs24one (W : World) (D : List UInt8) (hD : D.length = 32) : (Instr.buildSlice 28 1 #[(0, .agg (S.v8 D))]).run Tryd.prog W = .ok (.slice (some ⟨W.heap.size, 0, none⟩) 1 1) (W.alloc (.cells (S.v8 D) 23)) := by
  obtain ⟨i, hi, hz, hs, _⟩ := info_parts info31
  refine run_buildSlice W 28 23 1 _ _ i _ Tryd.underlying28 hi hz (by rw [hs]; omega) (by rw [hs]; omega) ?_
  have h := Great.fill_whole (s := 32) (by omega) [.agg (S.v8 D)] ((Array.range (1 * i.size)).map ((Value.agg (S.v8 (S.zeros 32))).cells[· % (Value.agg (S.v8 (S.zeros 32))).cells.size]!)) (fun v hv => by
    simp only [List.mem_singleton] at hv
    subst hv
    show (S.v8 D).size = 32
    rw [S.v8_size, hD]) (by simp [hs])
  rw [hs] at h ⊢
  refine h.trans ?_
  simp [Value.cells]
theorem dgRow_one {W : World} {g B : Nat} {D : List UInt8} (h : W.heap[g]? = some (.cells (S.v8 D) 23 (0, 0))) (hD : D.length = 32) (hB : B ≤ g) : DgRow B W (.slice (some ⟨g, 0, none⟩) 1 1) [D] := by
  refine ⟨by simp [S.v8l_length, hD], Or.inr ⟨g, 1, S.v8 D, rfl, hB, h, by simp, by simp [maxLen], by simp [S.v8_size, hD], ?_⟩⟩
  simp [S.v8_eq, List.take_of_length_le, S.v8l_length, hD]
end Go.Proofs.YtkljajfgdelfgaaDoor
namespace Go.Proofs.YtkljajfgdelfgaaDoor
open Go.RowKit

/-- What Prove and Compare answer: a row of digests and a number. -/
structure Told (w w' : World) (e : Ending) (ds : List (List UInt8)) (n : Int) : Prop where
  is : ∃ v', e = .returned (.tuple #[v', .int .i64 n]) ∧ DgRow w.heap.size w' v' ds
  below : Below w.heap.size w w'
def S.prove (a : Int) (l : List (List UInt8)) (i : Nat) : List (List UInt8) := if i < l.length then S.path a l i else []
def S.proveNo (l : List (List UInt8)) (i : Nat) : Int := if i < l.length then 0 else 25
def S.comp_ (a : Int) (l : List (List UInt8)) (i : Nat) : List (List UInt8) := if i = 0 ∨ l.length < i then [] else S.grow a l i true
def S.compNo (l : List (List UInt8)) (i : Nat) : Int := if i = 0 ∨ l.length < i then 25 else 0
end Go.Proofs.YtkljajfgdelfgaaDoor
