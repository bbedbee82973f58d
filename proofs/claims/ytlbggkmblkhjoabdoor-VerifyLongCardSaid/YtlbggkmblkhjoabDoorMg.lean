/- Rows of digests: built, and put one behind the other. The path of a leaf and the proof of a beginning, as plain functions. -/
import Derived.Test.YtlbggkmblkhjoabDoorMe
import Derived.Great.BuildSlice
namespace Go.Proofs.YtlbggkmblkhjoabDoor
open Go.RowKit

namespace S
/-- The path of leaf i. -/
def path (a : Int) (l : List (List UInt8)) (i : Nat) : List (List UInt8) :=
  if _h : l.length ≤ 1 then [] else
  if i < half l.length then path a (l.take (half l.length)) i ++ [root a (l.drop (half l.length))]
  else path a (l.drop (half l.length)) (i - half l.length) ++ [root a (l.take (half l.length))]
  termination_by l.length
  decreasing_by
    · have := half_lt' (show 2 ≤ l.length by omega); rw [List.length_take]; omega
    · have := half_pos l.length; rw [List.length_drop]; omega
theorem path_one (a : Int) (l : List (List UInt8)) (i : Nat) (h : l.length ≤ 1) : path a l i = [] := by rw [path, dif_pos h]
theorem path_left (a : Int) (l : List (List UInt8)) (i : Nat) (h : 2 ≤ l.length) (hi : i < half l.length) : path a l i = path a (l.take (half l.length)) i ++ [root a (l.drop (half l.length))] := by rw [path, dif_neg (by omega), if_pos hi]
theorem path_right (a : Int) (l : List (List UInt8)) (i : Nat) (h : 2 ≤ l.length) (hi : ¬ i < half l.length) : path a l i = path a (l.drop (half l.length)) (i - half l.length) ++ [root a (l.take (half l.length))] := by rw [path, dif_neg (by omega), if_neg hi]
/-- The proof of the first m of all. -/
def grow (a : Int) (l : List (List UInt8)) (m : Nat) (b : Bool) : List (List UInt8) :=
  if m = l.length then (if b then [] else [root a l]) else
  if _h : l.length ≤ 1 then [] else
  if m ≤ half l.length then grow a (l.take (half l.length)) m b ++ [root a (l.drop (half l.length))]
  else grow a (l.drop (half l.length)) (m - half l.length) false ++ [root a (l.take (half l.length))]
  termination_by l.length
  decreasing_by
    · have := half_lt' (show 2 ≤ l.length by omega); rw [List.length_take]; omega
    · have := half_pos l.length; rw [List.length_drop]; omega
theorem grow_all (a : Int) (l : List (List UInt8)) (m : Nat) (h : m = l.length) : grow a l m true = [] := by rw [grow, if_pos h]; rfl
theorem grow_part (a : Int) (l : List (List UInt8)) (m : Nat) (h : m = l.length) : grow a l m false = [root a l] := by rw [grow, if_pos h]; rfl
theorem grow_left (a : Int) (l : List (List UInt8)) (m : Nat) (b : Bool) (h : 2 ≤ l.length) (hm : m ≠ l.length) (hi : m ≤ half l.length) : grow a l m b = grow a (l.take (half l.length)) m b ++ [root a (l.drop (half l.length))] := by rw [grow, if_neg hm, dif_neg (by omega), if_pos hi]
theorem grow_right (a : Int) (l : List (List UInt8)) (m : Nat) (b : Bool) (h : 2 ≤ l.length) (hm : m ≠ l.length) (hi : ¬ m ≤ half l.length) : grow a l m b = grow a (l.drop (half l.length)) (m - half l.length) false ++ [root a (l.take (half l.length))] := by rw [grow, if_neg hm, dif_neg (by omega), if_neg hi]
theorem path_len32 (a : Int) (l : List (List UInt8)) (i : Nat) : ∀ d ∈ path a l i, d.length = 32 := by
  have : ∀ N (l : List (List UInt8)) i, l.length = N → ∀ d ∈ path a l i, d.length = 32 := by
    intro N
    induction N using Nat.strongRecOn with
    | ind N IH =>
    intro l i hl d hd
    by_cases h : l.length ≤ 1
    · rw [path_one a l i h] at hd; simp at hd
    · have h2 := half_lt' (show 2 ≤ l.length by omega)
      have h3 := half_pos l.length
      by_cases hi : i < half l.length
      · rw [path_left a l i (by omega) hi, List.mem_append] at hd
        rcases hd with hd | hd
        · exact IH _ (by rw [List.length_take]; omega) _ _ rfl d hd
        · simp only [List.mem_singleton] at hd; rw [hd, root_length]
      · rw [path_right a l i (by omega) hi, List.mem_append] at hd
        rcases hd with hd | hd
        · exact IH _ (by rw [List.length_drop]; omega) _ _ rfl d hd
        · simp only [List.mem_singleton] at hd; rw [hd, root_length]
  exact this _ l i rfl
theorem path_len (a : Int) (l : List (List UInt8)) (i : Nat) : (path a l i).length ≤ l.length := by
  have : ∀ N (l : List (List UInt8)) i, l.length = N → (path a l i).length ≤ N := by
    intro N
    induction N using Nat.strongRecOn with
    | ind N IH =>
    intro l i hl
    by_cases h : l.length ≤ 1
    · rw [path_one a l i h]; simp
    · have h2 := half_lt' (show 2 ≤ l.length by omega)
      have h3 := half_pos l.length
      by_cases hi : i < half l.length
      · rw [path_left a l i (by omega) hi, List.length_append]
        have := IH _ (by rw [List.length_take]; omega) (l.take (half l.length)) i rfl
        rw [List.length_take] at this
        simp; omega
      · rw [path_right a l i (by omega) hi, List.length_append]
        have := IH _ (by rw [List.length_drop]; omega) (l.drop (half l.length)) (i - half l.length) rfl
        rw [List.length_drop] at this
        simp; omega
  exact this _ l i rfl
theorem grow_ok (a : Int) (l : List (List UInt8)) (m : Nat) (b : Bool) : (∀ d ∈ grow a l m b, d.length = 32) ∧ (grow a l m b).length ≤ l.length + 1 := by
  have : ∀ N (l : List (List UInt8)) m b, l.length = N → (∀ d ∈ grow a l m b, d.length = 32) ∧ (grow a l m b).length ≤ N + 1 := by
    intro N
    induction N using Nat.strongRecOn with
    | ind N IH =>
    intro l m b hl
    by_cases hm : m = l.length
    · cases b
      · rw [grow_part a l m hm]
        exact ⟨fun d hd => by simp only [List.mem_singleton] at hd; rw [hd, root_length], by simp⟩
      · rw [grow_all a l m hm]
        exact ⟨fun d hd => by simp at hd, by simp⟩
    · by_cases h : l.length ≤ 1
      · rw [grow, if_neg hm, dif_pos h]
        exact ⟨fun d hd => by simp at hd, by simp⟩
      · have h2 := half_lt' (show 2 ≤ l.length by omega)
        have h3 := half_pos l.length
        by_cases hi : m ≤ half l.length
        · rw [grow_left a l m b (by omega) hm hi]
          obtain ⟨i1, i2⟩ := IH _ (by rw [List.length_take]; omega) (l.take (half l.length)) m b rfl
          rw [List.length_take] at i2
          refine ⟨fun d hd => ?_, by rw [List.length_append]; simp; omega⟩
          rw [List.mem_append] at hd
          rcases hd with hd | hd
          · exact i1 d hd
          · simp only [List.mem_singleton] at hd; rw [hd, root_length]
        · rw [grow_right a l m b (by omega) hm hi]
          obtain ⟨i1, i2⟩ := IH _ (by rw [List.length_drop]; omega) (l.drop (half l.length)) (m - half l.length) false rfl
          rw [List.length_drop] at i2
          refine ⟨fun d hd => ?_, by rw [List.length_append]; simp; omega⟩
          rw [List.mem_append] at hd
          rcases hd with hd | hd
          · exact i1 d hd
          · simp only [List.mem_singleton] at hd; rw [hd, root_length]
  exact this _ l m b rfl
end S
theorem info31 : (Tryd.prog.info? 31).map (fun i => (i.zero, i.size, i.bytes)) = some (some (.agg (S.v8 (S.zeros 32))), 32, 32) := by kernel_rfl
theorem flat_len (ds : List (List UInt8)) (h : ∀ d ∈ ds, d.length = 32) : (ds.flatMap S.v8l).length = ds.length * 32 := by
  induction ds with
  | nil => rfl
  | cons d ds ih =>
    rw [List.flatMap_cons, List.length_append, S.v8l_length, h d (by simp), ih (fun x hx => h x (by simp [hx])), List.length_cons]
    omega
theorem flat_one (ds : List (List UInt8)) : ∀ v ∈ ds.flatMap S.v8l, v.oneCell' = true := fun v hv => by
  rw [List.mem_flatMap] at hv
  obtain ⟨d, _, hd⟩ := hv
  exact S.v8l_one d v hd
/-- A row of digests of one's own. -/
def DgRow (B : Nat) (w : World) (v : Value) (ds : List (List UInt8)) : Prop := w.ownsRow B 31 32 v ds.length (ds.flatMap S.v8l)
theorem DgRow.nil (B : Nat) (w : World) : DgRow B w (.slice none 0 0) [] := ⟨rfl, Or.inl ⟨rfl, rfl⟩⟩
theorem DgRow.form {B : Nat} {w : World} {v : Value} {ds : List (List UInt8)} (h : DgRow B w v ds) : ∃ ao cap, v = .slice ao ds.length cap := by
  rcases h.2 with ⟨rfl, h0⟩ | ⟨g, cap, cur, rfl, _⟩
  · exact ⟨none, 0, by rw [h0]⟩
  · exact ⟨_, _, rfl⟩
theorem DgRow.blk {B : Nat} {w : World} {v : Value} {ds : List (List UInt8)} (h : DgRow B w v ds) {k : Nat} (hk : v.ownBlock = some k) : B ≤ k ∧ k < w.heap.size ∧ ∃ cur, w.heap[k]? = some (.cells cur 31 (0, 0)) := by
  rcases h.2 with ⟨rfl, h0⟩ | ⟨g, cap, cur, rfl, hB, hr, _⟩
  · simp [Value.ownBlock] at hk
  · simp only [Value.ownBlock, Option.some.injEq] at hk
    subst hk
    exact ⟨hB, block_lt_of_row hr, cur, hr⟩
theorem DgRow.mono {B B' : Nat} {w : World} {v : Value} {ds : List (List UInt8)} (h : DgRow B w v ds) (hB : B' ≤ B) : DgRow B' w v ds := by
  refine ⟨h.1, ?_⟩
  rcases h.2 with h0 | ⟨g, cap, cur, h1, h2, h3⟩
  · exact Or.inl h0
  · exact Or.inr ⟨g, cap, cur, h1, Nat.le_trans hB h2, h3⟩
theorem DgRow.chg {p : Nat → Prop} {B : Nat} {w W : World} {v : Value} {ds : List (List UInt8)} (h : DgRow B w v ds) (hc : Chg p w W) (hp : ∀ k, v.ownBlock = some k → ¬ p k) : DgRow B W v ds := by
  refine ⟨h.1, ?_⟩
  rcases h.2 with h0 | ⟨g, cap, cur, rfl, hB, hr, h1⟩
  · exact Or.inl h0
  · exact Or.inr ⟨g, cap, cur, rfl, hB, hc.row hr (hp g rfl), h1⟩
theorem DgRow.below {B : Nat} {w W : World} {v : Value} {ds : List (List UInt8)} (h : DgRow B w v ds) (hb : Below w.heap.size w W) : DgRow B W v ds := h.chg (p := fun _ => False) (Chg.ofBelow' hb) (fun _ _ e => e)
/-- A digest is put behind a row. -/
theorem run_append_dig (w : World) (B g : Nat) (v : Value) (ds : List (List UInt8)) (D : List UInt8) (ty : TypeId) (hown : DgRow B w v ds) (hD : D.length = 32) (hu : w.heap[g]? = some (.cells (S.v8 D) 31 (0, 0))) (hl : ds.length ≤ 100000) (hB : B ≤ w.heap.size) :
    ∃ v' w', (Builtin.append_ #[24, 24] ty #[v, .slice (some ⟨g, 0, none⟩) 1 1]).run Tryd.prog w = .ok v' w' ∧ DgRow B w' v' (ds ++ [D]) ∧ Below B w w' := by
  obtain ⟨i, hi, hz0, hz1, hz2⟩ := info_parts info31
  have hc : ∀ j x, (S.v8l D)[j]? = some x → w.cell? ((⟨g, 0, none⟩ : Addr).add j) = some x := fun j x hx => by
    rw [Addr.add_lit, Nat.zero_add, cell_of_row w g j _ _ _ hu]
    simpa [S.v8_eq] using hx
  obtain ⟨v', w', h1, h2, h3, h4⟩ := run_append_own (P := Tryd.prog) w B 24 ty 31 i (.agg (S.v8 (S.zeros 32))) 32 32 Tryd.underlying24 hi hz0 hz1 hz2 (by rw [Value.cells, S.v8_size]; rfl) (by omega) v ds.length (ds.flatMap S.v8l) hown ⟨g, 0, none⟩ 1 1 (S.v8l D) (by rw [S.v8l_length, hD]) hc (S.v8l_one D) (by simp [maxLen]; omega) (by omega) hB
  have h2b : DgRow B w' v' (ds ++ [D]) := by unfold DgRow; rw [List.length_append, List.flatMap_append]; simpa using h2
  exact ⟨v', w', h1, h2b, (Below.refl _ _).grown h3 hB (fun k hk => (DgRow.blk hown hk).1)⟩
theorem bs24one (W : World) (D : List UInt8) (hD : D.length = 32) : (Instr.buildSlice 24 1 #[(0, .agg (S.v8 D))]).run Tryd.prog W = .ok (.slice (some ⟨W.heap.size, 0, none⟩) 1 1) (W.alloc (.cells (S.v8 D) 31)) := by
  obtain ⟨i, hi, hz, hs, _⟩ := info_parts info31
  refine run_buildSlice W 24 31 1 _ _ i _ Tryd.underlying24 hi hz (by rw [hs]; omega) (by rw [hs]; omega) ?_
  have h := Great.fill_whole (s := 32) (by omega) [.agg (S.v8 D)] ((Array.range (1 * i.size)).map ((Value.agg (S.v8 (S.zeros 32))).cells[· % (Value.agg (S.v8 (S.zeros 32))).cells.size]!)) (fun v hv => by
    simp only [List.mem_singleton] at hv
    subst hv
    show (S.v8 D).size = 32
    rw [S.v8_size, hD]) (by simp [hs])
  rw [hs] at h ⊢
  refine h.trans ?_
  simp [Value.cells]
theorem dgRow_one {W : World} {g B : Nat} {D : List UInt8} (h : W.heap[g]? = some (.cells (S.v8 D) 31 (0, 0))) (hD : D.length = 32) (hB : B ≤ g) : DgRow B W (.slice (some ⟨g, 0, none⟩) 1 1) [D] := by
  refine ⟨by simp [S.v8l_length, hD], Or.inr ⟨g, 1, S.v8 D, rfl, hB, h, by simp, by simp [maxLen], by simp [S.v8_size, hD], ?_⟩⟩
  simp [S.v8_eq, List.take_of_length_le, S.v8l_length, hD]
end Go.Proofs.YtlbggkmblkhjoabDoor
namespace Go.Proofs.YtlbggkmblkhjoabDoor
open Go.RowKit

set_option maxHeartbeats 4000000 in
set_option maxRecDepth 10000 in
theorem path_any (a : Int) : ∀ N (bss : List (List UInt8)) (v : Value) (i : Nat) (w : World), bss.length = N → 1 ≤ N → N ≤ 256 → i < N → BsAt w v bss → Fit bss → KAt w →
   Calls Tryd.prog 31 #[.int .i64 a, v, .int .i64 (i : Int)] w fun e w' => ∃ v', e = .returned v' ∧ DgRow w.heap.size w' v' (S.path a bss i) ∧ Below w.heap.size w w' := by
  intro N
  induction N using Nat.strongRecOn with
  | ind N IH =>
  intro bss v i w hN h1 h256 hi hv hf hK
  obtain ⟨b, off, cap, rfl, hcap, hb, hcells⟩ := hv.src (by omega)
  have HV := hide hv
  have HF := hide hf
  have HK := hide hK
  have HI := hide @IH
  have h0 := hK.pos
  have hN2 := hide hN
  rw [hN] at hcap ⊢
  clear hv hf hK IH hcells hN
  by_cases hone : N = 1
  · have q1 : ((N : Int) == 1) = true := by simp; omega
    go_enter Tryd.func31, Tryd.ntmps31
    go_wp2_with fail
    go_ret
    exact ⟨_, rfl, by rw [S.path_one a bss i (by have := hN2.out; omega)]; exact DgRow.nil _ _, Below.refl _ _⟩
  · have q1 : ((N : Int) == 1) = false := by simp; omega
    go_enter Tryd.func31, Tryd.ntmps31
    go_wp2_with fail
    clear q1
    refine (parting_any N (by omega) h256 w).mono ?_
    rintro e w3 ⟨rfl, rfl⟩
    obtain ⟨k, hk⟩ : ∃ k, k = S.half N := ⟨_, rfl⟩
    have hkl : k < N := by rw [hk]; exact S.half_lt h256 (by omega)
    have hkp : 0 < k := by rw [hk]; exact S.half_pos N
    rw [← hk]
    have HKK := hide hk
    clear hk
    by_cases hik : i < k
    · have q1 : (i : Int) < (k : Int) := by omega
      go_wp2_with fail
      clear q1
      refine wp_region_noPanic ?_
      refine wp_region_held_drew (S := (fun _ => True)) follows trivial (fun hHeld => ?_)
      have BZ : Hid (Below w.heap.size w w.drew) := (Below.refl _ _).drew
      generalize w.drew = Z at BZ ⊢
      have q2 : (0 : Int) ≤ (k : Int) := by omega
      have q3 : (k : Int) ≤ (cap : Int) := by omega
      have q4 : (k : Int) ≤ (N : Int) := by omega
      have q5 : (N : Int) ≤ (cap : Int) := by omega
      have q6 : ¬ cap = k := by omega
      refine wpAnyH_take (i := 0) (oi := { dst := some 17, op := Op.move (Operand.tmp 0), type := 3, pos := "proof.go:20", after := #[], guard := none }) (v := ?_) rfl (by kernel_rfl) (by kernel_rfl) (by kernel_rfl) (fun _ _ _ h => h) (Or.inl ⟨by rfl, ?_⟩) (by assumption) ?_
      rotate_left
      · intro w hSw
        clear hSw
        go_simp
        all_goals with_reducible rfl
      simp only [Act.put, List.setIfInBounds_toArray, List.set_cons_zero, List.set_cons_succ]
      refine wpAnyH_take (i := 1) (oi := { dst := some 18, op := Op.move (Operand.tmp 1), type := 39, pos := "proof.go:20", after := #[], guard := none }) (v := ?_) rfl (by kernel_rfl) (by kernel_rfl) (by kernel_rfl) (fun _ _ _ h => h) (Or.inl ⟨by rfl, ?_⟩) (by assumption) ?_
      rotate_left
      · intro w hSw
        clear hSw
        go_simp
        all_goals with_reducible rfl
      simp only [Act.put, List.setIfInBounds_toArray, List.set_cons_zero, List.set_cons_succ]
      refine wpAnyH_take (i := 2) (oi := { dst := some 19, op := Op.move (Operand.tmp 7), type := 3, pos := "proof.go:20", after := #[], guard := none }) (v := ?_) rfl (by kernel_rfl) (by kernel_rfl) (by kernel_rfl) (fun _ _ _ h => h) (Or.inl ⟨by rfl, ?_⟩) (by assumption) ?_
      rotate_left
      · intro w hSw
        clear hSw
        go_simp
        all_goals with_reducible rfl
      simp only [Act.put, List.setIfInBounds_toArray, List.set_cons_zero, List.set_cons_succ]
      refine wpAnyH_take (i := 3) (oi := { dst := some 20, op := Op.slice 39 (Operand.tmp 18) none (some (Operand.tmp 19)) none, type := 39, pos := "proof.go:20", after := #[{ on := 1, ground := Ground.data }, { on := 2, ground := Ground.data }], guard := none }) (v := ?_) rfl (by kernel_rfl) (by kernel_rfl) (by kernel_rfl) (fun _ _ _ h => h) (Or.inl ⟨by rfl, ?_⟩) (by assumption) ?_
      rotate_left
      · intro w hSw
        clear hSw
        go_simp
        all_goals with_reducible rfl
      simp only [Act.put, List.setIfInBounds_toArray, List.set_cons_zero, List.set_cons_succ]
      refine wpAnyH_take (i := 4) (oi := { dst := some 21, op := Op.move (Operand.tmp 2), type := 3, pos := "proof.go:20", after := #[], guard := none }) (v := ?_) rfl (by kernel_rfl) (by kernel_rfl) (by kernel_rfl) (fun _ _ _ h => h) (Or.inl ⟨by rfl, ?_⟩) (by assumption) ?_
      rotate_left
      · intro w hSw
        clear hSw
        go_simp
        all_goals with_reducible rfl
      simp only [Act.put, List.setIfInBounds_toArray, List.set_cons_zero, List.set_cons_succ]
      refine wpAnyH_take (i := 6) (oi := { dst := some 23, op := Op.move (Operand.tmp 0), type := 3, pos := "proof.go:20", after := #[], guard := none }) (v := ?_) rfl (by kernel_rfl) (by kernel_rfl) (by kernel_rfl) (fun _ _ _ h => h) (Or.inl ⟨by rfl, ?_⟩) (by assumption) ?_
      rotate_left
      · intro w hSw
        clear hSw
        go_simp
        all_goals with_reducible rfl
      simp only [Act.put, List.setIfInBounds_toArray, List.set_cons_zero, List.set_cons_succ]
      refine wpAnyH_take (i := 7) (oi := { dst := some 24, op := Op.move (Operand.tmp 1), type := 39, pos := "proof.go:20", after := #[], guard := none }) (v := ?_) rfl (by kernel_rfl) (by kernel_rfl) (by kernel_rfl) (fun _ _ _ h => h) (Or.inl ⟨by rfl, ?_⟩) (by assumption) ?_
      rotate_left
      · intro w hSw
        clear hSw
        go_simp
        all_goals with_reducible rfl
      simp only [Act.put, List.setIfInBounds_toArray, List.set_cons_zero, List.set_cons_succ]
      refine wpAnyH_take (i := 8) (oi := { dst := some 25, op := Op.move (Operand.tmp 7), type := 3, pos := "proof.go:20", after := #[], guard := none }) (v := ?_) rfl (by kernel_rfl) (by kernel_rfl) (by kernel_rfl) (fun _ _ _ h => h) (Or.inl ⟨by rfl, ?_⟩) (by assumption) ?_
      rotate_left
      · intro w hSw
        clear hSw
        go_simp
        all_goals with_reducible rfl
      simp only [Act.put, List.setIfInBounds_toArray, List.set_cons_zero, List.set_cons_succ]
      refine wpAnyH_take (i := 9) (oi := { dst := some 26, op := Op.slice 39 (Operand.tmp 24) (some (Operand.tmp 25)) none none, type := 39, pos := "proof.go:20", after := #[{ on := 7, ground := Ground.data }, { on := 8, ground := Ground.data }], guard := none }) (v := ?_) rfl (by kernel_rfl) (by kernel_rfl) (by kernel_rfl) (fun _ _ _ h => h) (Or.inl ⟨by rfl, ?_⟩) (by assumption) ?_
      rotate_left
      · intro w hSw
        clear hSw
        go_simp
        all_goals with_reducible rfl
      simp only [Act.put, List.setIfInBounds_toArray, List.set_cons_zero, List.set_cons_succ]
      clear q2 q3 q4 q5 q6
      refine wpAnyH_ready (rs := [5]) (by kernel_rfl) (by simp) ?_
      refine AllReadyH.cons (o := { dst := some 22, op := Op.call { callee := Callee.value (Operand.func 31), args := #[Operand.tmp 17, Operand.tmp 20, Operand.tmp 21], argTypes := #[3, 39, 3] }, type := 24, pos := "proof.go:20", after := #[{ on := 0, ground := Ground.data }, { on := 3, ground := Ground.data }, { on := 4, ground := Ground.data }], guard := none }) rfl (fun K hK => ?_) AllReadyH.nil
      go_simp
      have VT := hide ((HV.out.take k (by have := hN2.out; omega)).below BZ.out (Nat.le_refl _))
      refine (HI.out k hkl (bss.take k) _ i Z (by rw [List.length_take]; have := hN2.out; omega) (by omega) (by omega) hik VT.out (HF.out.take k) (HK.out.below BZ.out h0)).mono ?_
      rintro e Z2 ⟨vp, rfl, p2, b2⟩
      obtain ⟨ds, hds⟩ : ∃ ds, ds = S.path a (bss.take k) i := ⟨_, rfl⟩
      rw [← hds] at p2
      have HDS := hide (show ds.length ≤ 100000 by rw [hds]; have := S.path_len a (bss.take k) i; rw [List.length_take] at this; have := hN2.out; omega)
      have B2 : Hid (Below w.heap.size w Z2) := BZ.out.trans (b2.mono BZ.out.size)
      have P2 := hide (p2.mono BZ.out.size)
      have HS := hide hds
      clear p2 b2 hds BZ
      clear VT
      refine hK.out _ _ trivial (fun hHeld => ?_)
      clear hK K
      try simp only [Act.put, List.setIfInBounds_toArray, List.set_cons_zero, List.set_cons_succ]
      refine wpAnyH_ready (rs := [10]) (by kernel_rfl) (by simp) ?_
      refine AllReadyH.cons (o := { dst := some 27, op := Op.call { callee := Callee.value (Operand.func 14), args := #[Operand.tmp 23, Operand.tmp 26], argTypes := #[3, 39] }, type := 31, pos := "proof.go:20", after := #[{ on := 6, ground := Ground.data }, { on := 9, ground := Ground.data }, { on := 5, ground := Ground.chain }], guard := none }) rfl (fun K hK => ?_) AllReadyH.nil
      go_simp
      have VD : Hid (BsAt Z2 (.slice (some ⟨b, off + k, none⟩) (N - k) (cap - k)) (bss.drop k)) := by have := (HV.out.drop k (by have := hN2.out; omega)).below B2.out (Nat.le_refl _); rw [hN2.out] at this; exact this
      refine (root_any a _ (bss.drop k) Z2 VD.out (by rw [List.length_drop]; have := hN2.out; omega) (HF.out.drop k) (HK.out.below B2.out h0)).mono ?_
      rintro e Z3 ⟨rfl, b3⟩
      obtain ⟨D, hD⟩ : ∃ D, D = S.root a (bss.drop k) := ⟨_, rfl⟩
      rw [← hD]
      have HDL : Hid (D.length = 32) := by rw [hD, S.root_length]; exact rfl
      have HD := hide hD
      have B3 : Hid (Below w.heap.size w Z3) := B2.out.trans (b3.mono B2.out.size)
      have P3 := hide (P2.out.below b3)
      clear b3 hD VD B2 P2
      refine hK.out _ _ trivial (fun hHeld => ?_)
      clear hK K
      try simp only [Act.put, List.setIfInBounds_toArray, List.set_cons_zero, List.set_cons_succ]
      refine wpAnyH_ready (rs := [11]) (by kernel_rfl) (by simp) ?_
      have bs1 := bs24one Z3 D HDL.out
      refine step_buildSlice_as (o := { dst := some 28, op := Op.buildSlice 24 1 #[(0, Operand.tmp 27)], type := 24, pos := "proof.go:20", after := #[{ on := 10, ground := Ground.data }], guard := none }) rfl rfl 24 1 [(0, .tmp 27)] rfl [(0, .agg (S.v8 D))] rfl _ _ bs1 AllReadyH.nil ⟨trivial, fun hHeld => ?_⟩
      clear hHeld bs1
      simp only [Act.put, List.setIfInBounds_toArray, List.set_cons_zero, List.set_cons_succ]
      obtain ⟨g4, hg4⟩ : ∃ g4, g4 = Z3.heap.size := ⟨_, rfl⟩
      generalize hZ4 : Z3.alloc _ = Z4
      have C4 : Below Z3.heap.size Z3 Z4 := by rw [← hZ4]; exact (Below.refl _ _).alloc (Nat.le_refl _) _
      have R4 : Hid (Z4.heap[g4]? = some (.cells (S.v8 D) 31 (0, 0))) := by rw [← hZ4, hg4]; exact heap_alloc_new _ _
      have B4 : Hid (Below w.heap.size w Z4) := B3.out.trans (C4.mono B3.out.size)
      have P4 := hide (P3.out.below C4)
      rw [← hg4]
      clear hZ4 C4 hg4 B3 P3
      refine wpAnyH_ready (rs := [12]) (by kernel_rfl) (by simp) ?_
      obtain ⟨v5, Z5, hr5, p5, b5⟩ := run_append_dig Z4 w.heap.size g4 vp ds D 24 P4.out HDL.out R4.out HDS.out B4.out.size
      refine step_append_as (o := { dst := some 29, op := Op.call { callee := Callee.builtin Builtin.append, args := #[Operand.tmp 22, Operand.tmp 28], argTypes := #[24, 24] }, type := 24, pos := "proof.go:20", after := #[{ on := 5, ground := Ground.data }, { on := 11, ground := Ground.data }, { on := 10, ground := Ground.chain }], guard := none }) rfl rfl (.tmp 22) (.tmp 28) 24 24 rfl _ _ rfl rfl v5 Z5 hr5 AllReadyH.nil ⟨trivial, fun hHeld => ?_⟩
      clear hHeld hr5
      simp only [Act.put, List.setIfInBounds_toArray, List.set_cons_zero, List.set_cons_succ]
      have B5 : Hid (Below w.heap.size w Z5) := B4.out.trans b5
      have P5 := hide p5
      clear p5 b5 B4 P4 R4
      refine wpAnyH_take (i := 13) (oi := { dst := some 6, op := Op.assign (Operand.tmp 29), type := 24, pos := "proof.go:20", after := #[{ on := 12, ground := Ground.data }, { on := 12, ground := Ground.chain }, { on := 0, ground := Ground.phase }, { on := 1, ground := Ground.phase }, { on := 2, ground := Ground.phase }, { on := 3, ground := Ground.phase }, { on := 4, ground := Ground.phase }, { on := 5, ground := Ground.phase }, { on := 6, ground := Ground.phase }, { on := 7, ground := Ground.phase }, { on := 8, ground := Ground.phase }, { on := 9, ground := Ground.phase }, { on := 10, ground := Ground.phase }, { on := 11, ground := Ground.phase }, { on := 12, ground := Ground.phase }], guard := none }) (v := ?_) rfl (by kernel_rfl) (by kernel_rfl) (by kernel_rfl) (fun _ _ _ h => h) (Or.inl ⟨by rfl, ?_⟩) (by assumption) ?_
      rotate_left
      · intro w hSw
        clear hSw
        go_simp
        all_goals with_reducible rfl
      simp only [Act.put, List.setIfInBounds_toArray, List.set_cons_zero, List.set_cons_succ]
      refine wpAnyH_done (by kernel_rfl) ?_ _
      refine NoPanic.normal ?_
      go_wp2_with fail
      go_ret
      exact ⟨v5, rfl, by rw [S.path_left a bss i (by have := hN2.out; omega) (by rw [hN2.out, ← HKK.out]; exact hik), hN2.out, ← HKK.out, ← HS.out, ← HD.out]; exact P5.out, B5.out⟩
    · have q1 : ¬ (i : Int) < (k : Int) := by omega
      have q1' : (k : Int) ≤ (i : Int) := by omega
      go_wp2_with fail
      clear q1 q1'
      refine wp_region_noPanic ?_
      refine wp_region_held_drew (S := (fun _ => True)) follows trivial (fun hHeld => ?_)
      have BZ : Hid (Below w.heap.size w w.drew) := (Below.refl _ _).drew
      generalize w.drew = Z at BZ ⊢
      have q2 : (0 : Int) ≤ (k : Int) := by omega
      have q3 : (k : Int) ≤ (cap : Int) := by omega
      have q4 : (k : Int) ≤ (N : Int) := by omega
      have q5 : (N : Int) ≤ (cap : Int) := by omega
      have q6 : ¬ cap = k := by omega
      have q7 : IntKind.i64.wrap ((i : Int) - (k : Int)) = ((i - k : Nat) : Int) := by rw [IntKind.wrap_i64]; omega
      refine wpAnyH_take (i := 0) (oi := { dst := some 30, op := Op.move (Operand.tmp 0), type := 3, pos := "proof.go:22", after := #[], guard := none }) (v := ?_) rfl (by kernel_rfl) (by kernel_rfl) (by kernel_rfl) (fun _ _ _ h => h) (Or.inl ⟨by rfl, ?_⟩) (by assumption) ?_
      rotate_left
      · intro w hSw
        clear hSw
        go_simp
        all_goals with_reducible rfl
      simp only [Act.put, List.setIfInBounds_toArray, List.set_cons_zero, List.set_cons_succ]
      refine wpAnyH_take (i := 1) (oi := { dst := some 31, op := Op.move (Operand.tmp 1), type := 39, pos := "proof.go:22", after := #[], guard := none }) (v := ?_) rfl (by kernel_rfl) (by kernel_rfl) (by kernel_rfl) (fun _ _ _ h => h) (Or.inl ⟨by rfl, ?_⟩) (by assumption) ?_
      rotate_left
      · intro w hSw
        clear hSw
        go_simp
        all_goals with_reducible rfl
      simp only [Act.put, List.setIfInBounds_toArray, List.set_cons_zero, List.set_cons_succ]
      refine wpAnyH_take (i := 2) (oi := { dst := some 32, op := Op.move (Operand.tmp 7), type := 3, pos := "proof.go:22", after := #[], guard := none }) (v := ?_) rfl (by kernel_rfl) (by kernel_rfl) (by kernel_rfl) (fun _ _ _ h => h) (Or.inl ⟨by rfl, ?_⟩) (by assumption) ?_
      rotate_left
      · intro w hSw
        clear hSw
        go_simp
        all_goals with_reducible rfl
      simp only [Act.put, List.setIfInBounds_toArray, List.set_cons_zero, List.set_cons_succ]
      refine wpAnyH_take (i := 3) (oi := { dst := some 33, op := Op.slice 39 (Operand.tmp 31) (some (Operand.tmp 32)) none none, type := 39, pos := "proof.go:22", after := #[{ on := 1, ground := Ground.data }, { on := 2, ground := Ground.data }], guard := none }) (v := ?_) rfl (by kernel_rfl) (by kernel_rfl) (by kernel_rfl) (fun _ _ _ h => h) (Or.inl ⟨by rfl, ?_⟩) (by assumption) ?_
      rotate_left
      · intro w hSw
        clear hSw
        go_simp
        all_goals with_reducible rfl
      simp only [Act.put, List.setIfInBounds_toArray, List.set_cons_zero, List.set_cons_succ]
      refine wpAnyH_take (i := 4) (oi := { dst := some 34, op := Op.move (Operand.tmp 2), type := 3, pos := "proof.go:22", after := #[], guard := none }) (v := ?_) rfl (by kernel_rfl) (by kernel_rfl) (by kernel_rfl) (fun _ _ _ h => h) (Or.inl ⟨by rfl, ?_⟩) (by assumption) ?_
      rotate_left
      · intro w hSw
        clear hSw
        go_simp
        all_goals with_reducible rfl
      simp only [Act.put, List.setIfInBounds_toArray, List.set_cons_zero, List.set_cons_succ]
      refine wpAnyH_take (i := 5) (oi := { dst := some 35, op := Op.move (Operand.tmp 7), type := 3, pos := "proof.go:22", after := #[], guard := none }) (v := ?_) rfl (by kernel_rfl) (by kernel_rfl) (by kernel_rfl) (fun _ _ _ h => h) (Or.inl ⟨by rfl, ?_⟩) (by assumption) ?_
      rotate_left
      · intro w hSw
        clear hSw
        go_simp
        all_goals with_reducible rfl
      simp only [Act.put, List.setIfInBounds_toArray, List.set_cons_zero, List.set_cons_succ]
      refine wpAnyH_take (i := 6) (oi := { dst := some 36, op := Op.binOp BinOp.sub 3 (Operand.tmp 34) (Operand.tmp 35) 3, type := 3, pos := "proof.go:22", after := #[{ on := 4, ground := Ground.data }, { on := 5, ground := Ground.data }], guard := none }) (v := ?_) rfl (by kernel_rfl) (by kernel_rfl) (by kernel_rfl) (fun _ _ _ h => h) (Or.inl ⟨by rfl, ?_⟩) (by assumption) ?_
      rotate_left
      · intro w hSw
        clear hSw
        go_simp
        all_goals with_reducible rfl
      simp only [Act.put, List.setIfInBounds_toArray, List.set_cons_zero, List.set_cons_succ]
      refine wpAnyH_take (i := 8) (oi := { dst := some 38, op := Op.move (Operand.tmp 0), type := 3, pos := "proof.go:22", after := #[], guard := none }) (v := ?_) rfl (by kernel_rfl) (by kernel_rfl) (by kernel_rfl) (fun _ _ _ h => h) (Or.inl ⟨by rfl, ?_⟩) (by assumption) ?_
      rotate_left
      · intro w hSw
        clear hSw
        go_simp
        all_goals with_reducible rfl
      simp only [Act.put, List.setIfInBounds_toArray, List.set_cons_zero, List.set_cons_succ]
      refine wpAnyH_take (i := 9) (oi := { dst := some 39, op := Op.move (Operand.tmp 1), type := 39, pos := "proof.go:22", after := #[], guard := none }) (v := ?_) rfl (by kernel_rfl) (by kernel_rfl) (by kernel_rfl) (fun _ _ _ h => h) (Or.inl ⟨by rfl, ?_⟩) (by assumption) ?_
      rotate_left
      · intro w hSw
        clear hSw
        go_simp
        all_goals with_reducible rfl
      simp only [Act.put, List.setIfInBounds_toArray, List.set_cons_zero, List.set_cons_succ]
      refine wpAnyH_take (i := 10) (oi := { dst := some 40, op := Op.move (Operand.tmp 7), type := 3, pos := "proof.go:22", after := #[], guard := none }) (v := ?_) rfl (by kernel_rfl) (by kernel_rfl) (by kernel_rfl) (fun _ _ _ h => h) (Or.inl ⟨by rfl, ?_⟩) (by assumption) ?_
      rotate_left
      · intro w hSw
        clear hSw
        go_simp
        all_goals with_reducible rfl
      simp only [Act.put, List.setIfInBounds_toArray, List.set_cons_zero, List.set_cons_succ]
      refine wpAnyH_take (i := 11) (oi := { dst := some 41, op := Op.slice 39 (Operand.tmp 39) none (some (Operand.tmp 40)) none, type := 39, pos := "proof.go:22", after := #[{ on := 9, ground := Ground.data }, { on := 10, ground := Ground.data }], guard := none }) (v := ?_) rfl (by kernel_rfl) (by kernel_rfl) (by kernel_rfl) (fun _ _ _ h => h) (Or.inl ⟨by rfl, ?_⟩) (by assumption) ?_
      rotate_left
      · intro w hSw
        clear hSw
        go_simp
        all_goals with_reducible rfl
      simp only [Act.put, List.setIfInBounds_toArray, List.set_cons_zero, List.set_cons_succ]
      clear q2 q3 q4 q5 q6 q7
      refine wpAnyH_ready (rs := [7]) (by kernel_rfl) (by simp) ?_
      refine AllReadyH.cons (o := { dst := some 37, op := Op.call { callee := Callee.value (Operand.func 31), args := #[Operand.tmp 30, Operand.tmp 33, Operand.tmp 36], argTypes := #[3, 39, 3] }, type := 24, pos := "proof.go:22", after := #[{ on := 0, ground := Ground.data }, { on := 3, ground := Ground.data }, { on := 6, ground := Ground.data }], guard := none }) rfl (fun K hK => ?_) AllReadyH.nil
      go_simp
      have VT : Hid (BsAt Z (.slice (some ⟨b, off + k, none⟩) (N - k) (cap - k)) (bss.drop k)) := by have := (HV.out.drop k (by have := hN2.out; omega)).below BZ.out (Nat.le_refl _); rw [hN2.out] at this; exact this
      refine (HI.out (N - k) (by omega) (bss.drop k) _ (i - k) Z (by rw [List.length_drop, hN2.out]) (by omega) (by omega) (by omega) VT.out (HF.out.drop k) (HK.out.below BZ.out h0)).mono ?_
      rintro e Z2 ⟨vp, rfl, p2, b2⟩
      obtain ⟨ds, hds⟩ : ∃ ds, ds = S.path a (bss.drop k) (i - k) := ⟨_, rfl⟩
      rw [← hds] at p2
      have HDS := hide (show ds.length ≤ 100000 by rw [hds]; have := S.path_len a (bss.drop k) (i - k); rw [List.length_drop] at this; have := hN2.out; omega)
      have B2 : Hid (Below w.heap.size w Z2) := BZ.out.trans (b2.mono BZ.out.size)
      have P2 := hide (p2.mono BZ.out.size)
      have HS := hide hds
      clear p2 b2 hds BZ
      clear VT
      refine hK.out _ _ trivial (fun hHeld => ?_)
      clear hK K
      try simp only [Act.put, List.setIfInBounds_toArray, List.set_cons_zero, List.set_cons_succ]
      refine wpAnyH_ready (rs := [12]) (by kernel_rfl) (by simp) ?_
      refine AllReadyH.cons (o := { dst := some 42, op := Op.call { callee := Callee.value (Operand.func 14), args := #[Operand.tmp 38, Operand.tmp 41], argTypes := #[3, 39] }, type := 31, pos := "proof.go:22", after := #[{ on := 8, ground := Ground.data }, { on := 11, ground := Ground.data }, { on := 7, ground := Ground.chain }], guard := none }) rfl (fun K hK => ?_) AllReadyH.nil
      go_simp
      have VD := hide ((HV.out.take k (by have := hN2.out; omega)).below B2.out (Nat.le_refl _))
      refine (root_any a _ (bss.take k) Z2 VD.out (by rw [List.length_take]; have := hN2.out; omega) (HF.out.take k) (HK.out.below B2.out h0)).mono ?_
      rintro e Z3 ⟨rfl, b3⟩
      obtain ⟨D, hD⟩ : ∃ D, D = S.root a (bss.take k) := ⟨_, rfl⟩
      rw [← hD]
      have HDL : Hid (D.length = 32) := by rw [hD, S.root_length]; exact rfl
      have HD := hide hD
      have B3 : Hid (Below w.heap.size w Z3) := B2.out.trans (b3.mono B2.out.size)
      have P3 := hide (P2.out.below b3)
      clear b3 hD VD B2 P2
      refine hK.out _ _ trivial (fun hHeld => ?_)
      clear hK K
      try simp only [Act.put, List.setIfInBounds_toArray, List.set_cons_zero, List.set_cons_succ]
      refine wpAnyH_ready (rs := [13]) (by kernel_rfl) (by simp) ?_
      have bs1 := bs24one Z3 D HDL.out
      refine step_buildSlice_as (o := { dst := some 43, op := Op.buildSlice 24 1 #[(0, Operand.tmp 42)], type := 24, pos := "proof.go:22", after := #[{ on := 12, ground := Ground.data }], guard := none }) rfl rfl 24 1 [(0, .tmp 42)] rfl [(0, .agg (S.v8 D))] rfl _ _ bs1 AllReadyH.nil ⟨trivial, fun hHeld => ?_⟩
      clear hHeld bs1
      simp only [Act.put, List.setIfInBounds_toArray, List.set_cons_zero, List.set_cons_succ]
      obtain ⟨g4, hg4⟩ : ∃ g4, g4 = Z3.heap.size := ⟨_, rfl⟩
      generalize hZ4 : Z3.alloc _ = Z4
      have C4 : Below Z3.heap.size Z3 Z4 := by rw [← hZ4]; exact (Below.refl _ _).alloc (Nat.le_refl _) _
      have R4 : Hid (Z4.heap[g4]? = some (.cells (S.v8 D) 31 (0, 0))) := by rw [← hZ4, hg4]; exact heap_alloc_new _ _
      have B4 : Hid (Below w.heap.size w Z4) := B3.out.trans (C4.mono B3.out.size)
      have P4 := hide (P3.out.below C4)
      rw [← hg4]
      clear hZ4 C4 hg4 B3 P3
      refine wpAnyH_ready (rs := [14]) (by kernel_rfl) (by simp) ?_
      obtain ⟨v5, Z5, hr5, p5, b5⟩ := run_append_dig Z4 w.heap.size g4 vp ds D 24 P4.out HDL.out R4.out HDS.out B4.out.size
      refine step_append_as (o := { dst := some 44, op := Op.call { callee := Callee.builtin Builtin.append, args := #[Operand.tmp 37, Operand.tmp 43], argTypes := #[24, 24] }, type := 24, pos := "proof.go:22", after := #[{ on := 7, ground := Ground.data }, { on := 13, ground := Ground.data }, { on := 12, ground := Ground.chain }], guard := none }) rfl rfl (.tmp 37) (.tmp 43) 24 24 rfl _ _ rfl rfl v5 Z5 hr5 AllReadyH.nil ⟨trivial, fun hHeld => ?_⟩
      clear hHeld hr5
      simp only [Act.put, List.setIfInBounds_toArray, List.set_cons_zero, List.set_cons_succ]
      have B5 : Hid (Below w.heap.size w Z5) := B4.out.trans b5
      have P5 := hide p5
      clear p5 b5 B4 P4 R4
      refine wpAnyH_take (i := 15) (oi := { dst := some 6, op := Op.assign (Operand.tmp 44), type := 24, pos := "proof.go:22", after := #[{ on := 14, ground := Ground.data }, { on := 14, ground := Ground.chain }, { on := 0, ground := Ground.phase }, { on := 1, ground := Ground.phase }, { on := 2, ground := Ground.phase }, { on := 3, ground := Ground.phase }, { on := 4, ground := Ground.phase }, { on := 5, ground := Ground.phase }, { on := 6, ground := Ground.phase }, { on := 7, ground := Ground.phase }, { on := 8, ground := Ground.phase }, { on := 9, ground := Ground.phase }, { on := 10, ground := Ground.phase }, { on := 11, ground := Ground.phase }, { on := 12, ground := Ground.phase }, { on := 13, ground := Ground.phase }, { on := 14, ground := Ground.phase }], guard := none }) (v := ?_) rfl (by kernel_rfl) (by kernel_rfl) (by kernel_rfl) (fun _ _ _ h => h) (Or.inl ⟨by rfl, ?_⟩) (by assumption) ?_
      rotate_left
      · intro w hSw
        clear hSw
        go_simp
        all_goals with_reducible rfl
      simp only [Act.put, List.setIfInBounds_toArray, List.set_cons_zero, List.set_cons_succ]
      refine wpAnyH_done (by kernel_rfl) ?_ _
      refine NoPanic.normal ?_
      go_wp2_with fail
      go_ret
      exact ⟨v5, rfl, by rw [S.path_right a bss i (by have := hN2.out; omega) (by rw [hN2.out, ← HKK.out]; exact hik), hN2.out, ← HKK.out, ← HS.out, ← HD.out]; exact P5.out, B5.out⟩

/-- What Prove and Compare answer: a row of digests and a number. -/
structure Told (w w' : World) (e : Ending) (ds : List (List UInt8)) (n : Int) : Prop where
  is : ∃ v', e = .returned (.tuple #[v', .int .i64 n]) ∧ DgRow w.heap.size w' v' ds
  below : Below w.heap.size w w'
def S.prove (a : Int) (l : List (List UInt8)) (i : Nat) : List (List UInt8) := if i < l.length then S.path a l i else []
def S.proveNo (l : List (List UInt8)) (i : Nat) : Int := if i < l.length then 0 else 25
def S.comp_ (a : Int) (l : List (List UInt8)) (i : Nat) : List (List UInt8) := if i = 0 ∨ l.length < i then [] else S.grow a l i true
def S.compNo (l : List (List UInt8)) (i : Nat) : Int := if i = 0 ∨ l.length < i then 25 else 0
set_option maxHeartbeats 1000000 in
set_option maxRecDepth 10000 in
theorem prove_any (a : Int) (bss : List (List UInt8)) (v : Value) (i : Nat) (w : World) (hi : i < 18446744073709551616) (h256 : bss.length ≤ 256) (hv : BsAt w v bss) (hf : Fit bss) (hK : KAt w) :
   Calls Tryd.prog 13 #[.int .i64 a, v, .int .u64 (i : Int)] w fun e w' => Told w w' e (S.prove a bss i) (S.proveNo bss i) := by
  obtain ⟨ao, cap, rfl, hcap⟩ := hv.form
  obtain ⟨N, hN⟩ : ∃ N, N = bss.length := ⟨_, rfl⟩
  have HV := hide hv
  have HF := hide hf
  have HK := hide hK
  have HN := hide hN
  rw [← hN] at hcap HV h256 ⊢
  have q2 : IntKind.u64.wrap (N : Int) = (N : Int) := by rw [IntKind.wrap_u64]; omega
  clear hv hf hK hN
  by_cases hlt : i < N
  · have q1 : ¬ (N : Int) ≤ (i : Int) := by omega
    have q1' : (i : Int) < (N : Int) := by omega
    have q3 : IntKind.i64.wrap (i : Int) = (i : Int) := by rw [IntKind.wrap_i64]; omega
    go_enter Tryd.func13, Tryd.ntmps13
    go_wp2_with fail
    clear q1 q1' q2 q3
    refine (path_any a N bss _ i w HN.out.symm (by omega) h256 hlt HV.out HF.out HK.out).mono ?_
    rintro e w1 ⟨v1, rfl, h1, h2⟩
    obtain ⟨ao1, c1, rfl⟩ := h1.form
    have H1 := hide h1
    clear h1
    go_wp2_with fail
    go_ret2
    exact ⟨⟨_, by rw [S.proveNo, if_pos (by rw [← HN.out]; exact hlt)]; rfl, by rw [S.prove, if_pos (by rw [← HN.out]; exact hlt)]; exact H1.out⟩, h2⟩
  · have q1 : (N : Int) ≤ (i : Int) := by omega
    go_enter Tryd.func13, Tryd.ntmps13
    go_wp2_with fail
    go_ret2
    exact ⟨⟨_, by rw [S.proveNo, if_neg (by rw [← HN.out]; exact hlt)]; rfl, by rw [S.prove, if_neg (by rw [← HN.out]; exact hlt)]; exact DgRow.nil _ _⟩, Below.refl _ _⟩
end Go.Proofs.YtlbggkmblkhjoabDoor
