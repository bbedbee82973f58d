/- Rows of one's own, of any kind: read, put behind one another, made shorter. Rows of numbers, rows of blocks. -/
import Derived.Test.YtkljajfgdelfgaaDoorZe
import Derived.Test.YtkljajfgdelfgaaDoorEa
import Derived.Deep.LoopGhost
import Derived.Deep.DeepAppendRoom
namespace Go.Proofs.YtkljajfgdelfgaaDoor
open Go.RowKit

section
variable {α : Type}
/-- A row of one's own: elements of k cells each. -/
def Rw (el : TypeId) (k : Nat) (enc : α → List Value) (B : Nat) (w : World) (v : Value) (xs : List α) : Prop := w.ownsRow B el k v xs.length (xs.flatMap enc)
variable {el : TypeId} {k : Nat} {enc : α → List Value} {B : Nat} {w W : World} {v : Value} {xs : List α}
theorem Rw.nil (el : TypeId) (k : Nat) (enc : α → List Value) (B : Nat) (w : World) : Rw el k enc B w (.slice none 0 0) [] := ⟨by simp, Or.inl ⟨rfl, rfl⟩⟩
theorem Rw.form (h : Rw el k enc B w v xs) : ∃ ao cap, v = .slice ao xs.length cap := by
  rcases h.2 with ⟨rfl, h0⟩ | ⟨g, cap, cur, rfl, _⟩
  · exact ⟨none, 0, by rw [h0]⟩
  · exact ⟨_, _, rfl⟩
theorem Rw.blk (h : Rw el k enc B w v xs) {j : Nat} (hj : v.ownBlock = some j) : B ≤ j ∧ j < w.heap.size ∧ ∃ cur, w.heap[j]? = some (.cells cur el (0, 0)) := by
  rcases h.2 with ⟨rfl, h0⟩ | ⟨g, cap, cur, rfl, hB, hr, _⟩
  · simp [Value.ownBlock] at hj
  · simp only [Value.ownBlock, Option.some.injEq] at hj
    subst hj
    exact ⟨hB, block_lt_of_row hr, cur, hr⟩
theorem Rw.apart (h : Rw el k enc B w v xs) {j : Nat} {c : Array Value} {t : TypeId} {p : Nat × Nat} (hj : w.heap[j]? = some (.cells c t p)) (ht : t ≠ el) : v.ownBlock ≠ some j := fun e => by
  obtain ⟨_, _, cur, hr⟩ := h.blk e
  rw [hj] at hr
  injection hr with hr
  injection hr with _ h2 _
  exact ht h2
theorem Rw.mono {B' : Nat} (h : Rw el k enc B w v xs) (hB : B' ≤ B) : Rw el k enc B' w v xs := by
  refine ⟨h.1, ?_⟩
  rcases h.2 with h0 | ⟨g, cap, cur, h1, h2, h3⟩
  · exact Or.inl h0
  · exact Or.inr ⟨g, cap, cur, h1, Nat.le_trans hB h2, h3⟩
theorem Rw.chg {p : Nat → Prop} (h : Rw el k enc B w v xs) (hc : Chg p w W) (hp : ∀ j, v.ownBlock = some j → ¬ p j) : Rw el k enc B W v xs := by
  refine ⟨h.1, ?_⟩
  rcases h.2 with h0 | ⟨g, cap, cur, rfl, hB, hr, h1⟩
  · exact Or.inl h0
  · exact Or.inr ⟨g, cap, cur, rfl, hB, hc.row hr (hp g rfl), h1⟩
theorem Rw.below (h : Rw el k enc B w v xs) (hb : Below w.heap.size w W) : Rw el k enc B W v xs := h.chg (p := fun _ => False) (Chg.ofBelow' hb) (fun _ _ e => e)
theorem flat_gen (xs : List α) (h : ∀ x ∈ xs, (enc x).length = k) : (xs.flatMap enc).length = xs.length * k := by
  induction xs with
  | nil => simp
  | cons x xs ih =>
    rw [List.flatMap_cons, List.length_append, h x (by simp), ih (fun y hy => h y (by simp [hy])), List.length_cons, Nat.succ_mul]
    omega
theorem flat_get (xs : List α) (h : ∀ x ∈ xs, (enc x).length = k) (j i : Nat) (hj : j < xs.length) (hi : i < k) : (xs.flatMap enc)[j * k + i]? = (enc (xs[j]'hj))[i]? := by
  induction xs generalizing j with
  | nil => simp at hj
  | cons x xs ih =>
    have hd := h x (by simp)
    rw [List.flatMap_cons]
    cases j with
    | zero => rw [List.getElem?_append_left (by omega)]; simp
    | succ j =>
      rw [List.getElem?_append_right (by rw [hd, Nat.succ_mul]; omega), hd, show (j + 1) * k + i - k = j * k + i by rw [Nat.succ_mul]; omega, ih (fun y hy => h y (by simp [hy])) j (by simpa using hj)]
      simp
/-- What lies at a place of a row. -/
theorem Rw.at_ (h : Rw el k enc B w v xs) (hk : ∀ x ∈ xs, (enc x).length = k) (j : Nat) (x : α) (hx : xs[j]? = some x) :
    ∃ g cap, v = .slice (some ⟨g, 0, none⟩) xs.length cap ∧ g < w.heap.size ∧ B ≤ g ∧ w.rangeAt g (j * k) (enc x) := by
  obtain ⟨hj, hxe⟩ := List.getElem?_eq_some_iff.1 hx
  rcases h.2 with ⟨rfl, h0⟩ | ⟨g, cap, cur, rfl, hB, hr, q1, q2, q3, q4⟩
  · omega
  · refine ⟨g, cap, rfl, block_lt_of_row hr, hB, fun i u hu => ?_⟩
    have hi : i < k := by
      have := (List.getElem?_eq_some_iff.1 hu).1
      rwa [hk x (List.mem_of_getElem? hx)] at this
    rw [← hxe, ← flat_get xs hk j i hj hi, ← q4, List.getElem?_take, if_pos (by
      have : (j + 1) * k ≤ xs.length * k := Nat.mul_le_mul_right k hj
      rw [Nat.succ_mul] at this; omega)] at hu
    rw [cell_of_row w g (j * k + i) _ _ _ hr]
    simpa using hu
/-- The last one is left out. -/
theorem Rw.pop {ao : Option Addr} {n cap : Nat} {x : α} (h : Rw el k enc B w (.slice ao n cap) (xs ++ [x])) (hk : ∀ y ∈ xs ++ [x], (enc y).length = k) : Rw el k enc B w (.slice ao xs.length cap) xs := by
  have hl : (xs.flatMap enc).length = xs.length * k := flat_gen xs (fun y hy => hk y (List.mem_append_left _ hy))
  rcases h.2 with ⟨e, h0⟩ | ⟨g, cap', cur, e, hB, hr, q1, q2, q3, q4⟩
  · simp at h0
  · simp only [Value.slice.injEq] at e
    obtain ⟨rfl, rfl, rfl⟩ := e
    rw [List.length_append] at q1 q4
    refine ⟨hl, Or.inr ⟨g, cap, cur, rfl, hB, hr, by omega, q2, q3, ?_⟩⟩
    rw [List.flatMap_append] at q4
    have := congrArg (List.take (xs.length * k)) q4
    rw [List.take_take, Nat.min_eq_left (Nat.mul_le_mul_right k (by omega)), ← hl, List.take_left] at this
    rw [← hl]; exact this
/-- What is put behind a row. -/
def Sce (enc : α → List Value) (w : World) (u : Value) (ys : List α) : Prop := (u = .slice none 0 0 ∧ ys = []) ∨ ∃ a c, u = .slice (some a) ys.length c ∧ ∀ j y, (ys.flatMap enc)[j]? = some y → w.cell? (a.add j) = some y
theorem Sce.of_row {g c : Nat} {y : α} {t : TypeId} {p : Nat × Nat} (h : w.heap[g]? = some (.cells (enc y).toArray t p)) : Sce enc w (.slice (some ⟨g, 0, none⟩) 1 c) [y] :=
  Or.inr ⟨⟨g, 0, none⟩, c, rfl, fun j u hu => by
    rw [Addr.add_lit, Nat.zero_add, cell_of_row w g j _ _ _ h]
    simpa using hu⟩
theorem Rw.src (h : Rw el k enc B w v xs) : Sce enc w v xs := by
  rcases h.2 with ⟨rfl, h0⟩ | ⟨g, cap, cur, rfl, hB, hr, q1, q2, q3, q4⟩
  · exact Or.inl ⟨rfl, List.length_eq_zero_iff.1 h0⟩
  · refine Or.inr ⟨⟨g, 0, none⟩, cap, rfl, fun j u hu => ?_⟩
    have hj := (List.getElem?_eq_some_iff.1 hu).1
    rw [h.1] at hj
    rw [Addr.add_lit, Nat.zero_add, cell_of_row w g j _ _ _ hr]
    rw [← q4, List.getElem?_take, if_pos hj] at hu
    simpa using hu
/-- What is known of a kind of element. -/
structure Kd (P : Program) (t el : TypeId) (k bytes : Nat) (enc : α → List Value) : Prop where
  ht : P.underlying t = some (.slice el)
  hi : ∃ i z, P.info? el = some i ∧ i.zero = some z ∧ i.size = k ∧ i.bytes = bytes ∧ z.cells.size = k
  hk : 0 < k
  hb : bytes ≤ 1000
  one : ∀ x, ∀ u ∈ enc x, u.oneCell' = true
theorem Rw.append {P : Program} {t : TypeId} {bytes : Nat} (K : Kd P t el k bytes enc) (ty : TypeId) {u : Value} {ys : List α} (h : Rw el k enc B w v xs) (hu : Sce enc w u ys) (hk : ∀ y ∈ ys, (enc y).length = k) (hl : xs.length + ys.length ≤ 100000) (hB : B ≤ w.heap.size) :
    ∃ v' w', (Builtin.append_ #[t, t] ty #[v, u]).run P w = .ok v' w' ∧ (Rw el k enc B w' v' (xs ++ ys) ∧ Chg (fun j => v.ownBlock = some j) w w') := by
  obtain ⟨i, z, hi, hz, hs, hby, hzs⟩ := K.hi
  have hb := K.hb
  rcases hu with ⟨rfl, rfl⟩ | ⟨a, c, rfl, hc⟩
  · exact ⟨v, w, run_append_owned_none (P := P) (w := w) B t ty el i k K.ht hi v xs.length (xs.flatMap enc) h, by rw [List.append_nil]; exact h, Chg.refl _ _⟩
  · obtain ⟨v', w', h1, h2, h3, h4⟩ := run_append_own (P := P) w B t ty el i z k bytes K.ht hi hz hs hby hzs K.hk v xs.length (xs.flatMap enc) h a ys.length c (ys.flatMap enc) (flat_gen ys hk) hc (fun x hx => by
      rw [List.mem_flatMap] at hx
      obtain ⟨y, _, hy⟩ := hx
      exact K.one y x hy) (by simp [maxLen]; omega) (by
      have : (xs.length + ys.length) * bytes ≤ 100000 * 1000 := Nat.mul_le_mul hl hb
      omega) hB
    have h2b : Rw el k enc B w' v' (xs ++ ys) := by unfold Rw; rw [List.length_append, List.flatMap_append]; exact h2
    exact ⟨v', w', h1, h2b, (Chg.refl _ w).grown h3 (fun k _ e => e)⟩
theorem Rw.one {g : Nat} {y : α} (h : w.heap[g]? = some (.cells (enc y).toArray el (0, 0))) (hk : (enc y).length = k) (hB : B ≤ g) : Rw el k enc B w (.slice (some ⟨g, 0, none⟩) 1 1) [y] := by
  refine ⟨by simp [hk], Or.inr ⟨g, 1, _, rfl, hB, h, by simp, by simp [maxLen], by simp [hk], ?_⟩⟩
  simp [List.take_of_length_le, hk]
end
/-- Rows of numbers. -/
def encU (n : Nat) : List Value := [.int .u64 (n : Int)]
abbrev NRow := Rw 27 1 encU
theorem info27 : (Tryd.prog.info? 27).map (fun i => (i.zero, i.size, i.bytes)) = some (some (.int .u64 0), 1, 8) := by kernel_rfl
theorem kdU : Kd Tryd.prog 38 27 1 8 encU := by
  obtain ⟨i, hi, h1, h2, h3⟩ := info_parts info27
  exact ⟨Tryd.underlying38, ⟨i, _, hi, h1, h2, h3, rfl⟩, by omega, by omega, fun x u hu => by simp [encU] at hu; rw [hu]; rfl⟩
theorem encU_len (xs : List Nat) : ∀ x ∈ xs, (encU x).length = 1 := fun _ _ => rfl
/-- Rows of blocks. -/
def encB (x : C.Bk (List UInt8)) : List Value := .int .u64 (x.b : Int) :: .int .u64 (x.s : Int) :: S.v8l x.h
abbrev BRow := Rw 93 34 encB
theorem encB_length (x : C.Bk (List UInt8)) (h : x.h.length = 32) : (encB x).length = 34 := by simp [encB, S.v8l_length, h]
theorem encB_one (x : C.Bk (List UInt8)) : ∀ u ∈ encB x, u.oneCell' = true := fun u hu => by
  rcases List.mem_cons.1 hu with rfl | hu
  · rfl
  rcases List.mem_cons.1 hu with rfl | hu
  · rfl
  · exact S.v8l_one _ u hu
def S.b0 : C.Bk (List UInt8) := ⟨0, 0, S.zeros 32⟩
theorem info93 : (Tryd.prog.info? 93).map (fun i => (i.zero, i.size, i.bytes)) = some (some (.agg (encB S.b0).toArray), 34, 48) := by kernel_rfl
theorem kdB : Kd Tryd.prog 90 93 34 48 encB := by
  obtain ⟨i, hi, h1, h2, h3⟩ := info_parts info93
  exact ⟨Tryd.underlying90, ⟨i, _, hi, h1, h2, h3, by rw [Value.cells, List.size_toArray, encB_length _ (S.zeros_length 32)]⟩, by omega, by omega, encB_one⟩
theorem kdD : Kd Tryd.prog 28 23 32 32 S.v8l := by
  obtain ⟨i, hi, h1, h2, h3⟩ := info_parts info31
  exact ⟨Tryd.underlying28, ⟨i, _, hi, h1, h2, h3, by rw [Value.cells, S.v8_size]; rfl⟩, by omega, by omega, fun x u hu => S.v8l_one x u hu⟩
theorem bs38one (W : World) (n : Nat) : (Instr.buildSlice 38 1 #[(0, .int .u64 (n : Int))]).run Tryd.prog W = .ok (.slice (some ⟨W.heap.size, 0, none⟩) 1 1) (W.alloc (.cells (encU n).toArray 27)) := by
  obtain ⟨i, hi, hz, hs, _⟩ := info_parts info27
  refine run_buildSlice W 38 27 1 _ _ i _ Tryd.underlying38 hi hz (by rw [hs]; omega) (by rw [hs]; omega) ?_
  have h := Great.fill_whole (s := 1) (by omega) [.int .u64 (n : Int)] ((Array.range (1 * i.size)).map ((Value.int .u64 0).cells[· % (Value.int .u64 0).cells.size]!)) (fun v hv => by
    simp only [List.mem_singleton] at hv
    subst hv
    rfl) (by simp [hs])
  rw [hs] at h ⊢
  refine h.trans ?_
  simp [Value.cells, encU]
theorem bs90one (W : World) (x : C.Bk (List UInt8)) (hx : x.h.length = 32) : (Instr.buildSlice 90 1 #[(0, .agg (encB x).toArray)]).run Tryd.prog W = .ok (.slice (some ⟨W.heap.size, 0, none⟩) 1 1) (W.alloc (.cells (encB x).toArray 93)) := by
  obtain ⟨i, hi, hz, hs, _⟩ := info_parts info93
  refine run_buildSlice W 90 93 1 _ _ i _ Tryd.underlying90 hi hz (by rw [hs]; omega) (by rw [hs]; omega) ?_
  have h := Great.fill_whole (s := 34) (by omega) [.agg (encB x).toArray] ((Array.range (1 * i.size)).map ((Value.agg (encB S.b0).toArray).cells[· % (Value.agg (encB S.b0).toArray).cells.size]!)) (fun v hv => by
    simp only [List.mem_singleton] at hv
    subst hv
    show (encB x).toArray.size = 34
    rw [List.size_toArray, encB_length x hx]) (by simp [hs])
  rw [hs] at h ⊢
  refine h.trans ?_
  simp [Value.cells]
theorem lay_at (off : Nat) (v cs : Array Value) (k : Nat) : (v.zipIdx.foldl (fun cs (x : Value × Nat) => cs.setIfInBounds (off + x.2) x.1) cs)[k]? = if off ≤ k ∧ k < off + v.size ∧ k < cs.size then v[k - off]? else cs[k]? := by
  obtain ⟨_, h⟩ := Great.foldl_set off v.toList 0 cs
  have e : v.zipIdx.foldl (fun cs (x : Value × Nat) => cs.setIfInBounds (off + x.2) x.1) cs = (v.toList.zipIdx 0).foldl (fun cs (x : Value × Nat) => cs.setIfInBounds (off + x.2) x.1) cs := by
    rw [← Array.foldl_toList, Array.toList_zipIdx]
  rw [e, h k]
  simp
set_option maxRecDepth 100000 in
theorem built93 (b s : Nat) (t : List UInt8) (ht : t.length = 32) : Tryd.prog.built 93 [(0, .int .u64 (b : Int)), (1, .int .u64 (s : Int)), (2, .agg (S.v8 t))] = some (encB ⟨b, s, t⟩).toArray := by
  have h : ∀ parts, Tryd.prog.built 93 parts = Instr.fill ((#[(0, 1), (1, 1), (2, 32)] : Array (Nat × Nat))[·]?) (encB S.b0).toArray parts := fun parts => by
    obtain ⟨i, hi, hz, _, _⟩ := info_parts info93
    unfold Program.built
    rw [hi, Tryd.underlying93]
    simp only [hz]
    rfl
  rw [h]
  have hl : (S.v8l t).length = 32 := by rw [S.v8l_length, ht]
  have hz : (encB S.b0).toArray.size = 34 := by rw [List.size_toArray, encB_length _ (S.zeros_length 32)]
  have c0 : (Value.int .u64 (b : Int)).cells = #[.int .u64 (b : Int)] := rfl
  have c1 : (Value.int .u64 (s : Int)).cells = #[.int .u64 (s : Int)] := rfl
  have c2 : (Value.agg (S.v8 t)).cells = (S.v8l t).toArray := by rw [S.v8_eq]; rfl
  unfold Instr.fill
  simp only [show (#[(0, 1), (1, 1), (2, 32)] : Array (Nat × Nat))[0]? = some (0, 1) from rfl]
  rw [if_neg (by rw [hz]; simp [Value.cells])]
  unfold Instr.fill
  simp only [show (#[(0, 1), (1, 1), (2, 32)] : Array (Nat × Nat))[1]? = some (1, 1) from rfl]
  rw [c0]
  have hs0 : (#[Value.int .u64 (b : Int)].zipIdx.foldl (fun cs (x : Value × Nat) => cs.setIfInBounds (0 + x.2) x.1) (encB S.b0).toArray).size = 34 := by rw [← hz]; simp
  rw [if_neg (by rw [hs0]; simp [Value.cells])]
  unfold Instr.fill
  simp only [show (#[(0, 1), (1, 1), (2, 32)] : Array (Nat × Nat))[2]? = some (2, 32) from rfl]
  rw [c1, c2]
  have hs1 : (#[Value.int .u64 (s : Int)].zipIdx.foldl (fun cs (x : Value × Nat) => cs.setIfInBounds (1 + x.2) x.1) (#[Value.int .u64 (b : Int)].zipIdx.foldl (fun cs (x : Value × Nat) => cs.setIfInBounds (0 + x.2) x.1) (encB S.b0).toArray)).size = 34 := by rw [← hz]; simp
  rw [if_neg (by rw [hs1]; simp [hl])]
  unfold Instr.fill
  congr 1
  apply Array.ext_getElem?
  intro k
  have l2 := lay_at 2 (S.v8l t).toArray (#[Value.int .u64 (s : Int)].zipIdx.foldl (fun cs (x : Value × Nat) => cs.setIfInBounds (1 + x.2) x.1) (#[Value.int .u64 (b : Int)].zipIdx.foldl (fun cs (x : Value × Nat) => cs.setIfInBounds (0 + x.2) x.1) (encB S.b0).toArray)) k
  have l1 := lay_at 1 #[Value.int .u64 (s : Int)] (#[Value.int .u64 (b : Int)].zipIdx.foldl (fun cs (x : Value × Nat) => cs.setIfInBounds (0 + x.2) x.1) (encB S.b0).toArray) k
  have l0 := lay_at 0 #[Value.int .u64 (b : Int)] (encB S.b0).toArray k
  refine l2.trans ?_
  rw [hs1, l1, hs0, l0, hz]
  simp only [encB, List.size_toArray, hl, List.getElem?_toArray]
  match k with
  | 0 => rw [if_neg (by omega), if_neg (by simp), if_pos ⟨Nat.le_refl _, by simp, by omega⟩]; rfl
  | 1 => rw [if_neg (by omega), if_pos ⟨by omega, by simp, by omega⟩]; rfl
  | k + 2 =>
    rw [List.getElem?_cons_succ, List.getElem?_cons_succ]
    by_cases hk : k < 32
    · rw [if_pos ⟨by omega, by omega, by omega⟩]; rfl
    · rw [if_neg (by omega), if_neg (fun c => by have h := c.2.1; simp only [List.length_cons, List.length_nil] at h; omega), if_neg (fun c => by have h := c.2.1; simp only [List.length_cons, List.length_nil] at h; omega), List.getElem?_cons_succ, List.getElem?_cons_succ, List.getElem?_eq_none (by rw [S.v8l_length]; show (S.zeros 32).length ≤ k; rw [S.zeros_length]; omega), List.getElem?_eq_none (by omega)]
theorem build93 (b s : Nat) (t : List UInt8) (ht : t.length = 32) (w : World) : (Instr.build 93 #[(0, .int .u64 (b : Int)), (1, .int .u64 (s : Int)), (2, .agg (S.v8 t))]).run Tryd.prog w = .ok (.agg (encB ⟨b, s, t⟩).toArray) w :=
  run_build w 93 _ _ (built93 b s t ht)
theorem alloc93 (w : World) : (Instr.alloc 93 true (.tuple #[])).run Tryd.prog w = .ok (.pointer (some ⟨w.heap.size, 0, none⟩)) (w.alloc (.cells (encB S.b0).toArray 93)) := by
  obtain ⟨i, hi, hz, _, _⟩ := info_parts info93
  simp [Instr.alloc, zeroValue, typeInfo, hi, hz, newVar, newRow, Value.cells]
theorem size93 (x : C.Bk (List UInt8)) (hx : x.h.length = 32) : (Tryd.prog.info? 93).map (·.size) = some (encB x).toArray.size := by
  obtain ⟨i, hi, _, hs, _⟩ := info_parts info93
  rw [hi, List.size_toArray, encB_length x hx]
  simp [hs]
/-- A block is stored where another one lay. -/
theorem store_bk {w : World} {g : Nat} {c : Array Value} {x : C.Bk (List UInt8)} (h : w.heap[g]? = some (.cells c 93 (0, 0))) (hc : c.size = 34) (hx : x.h.length = 32) :
    ∃ w', (Instr.storeAt 93 (.pointer (some ⟨g, 0, none⟩)) (.agg (encB x).toArray)).run Tryd.prog w = .ok () w' ∧ w'.heap[g]? = some (.cells (encB x).toArray 93 (0, 0)) ∧ Chg (fun k => k = g) w w' ∧ w'.heap.size = w.heap.size := by
  have hr := run_storeVar_row (P := Tryd.prog) w g 93 93 c (encB x).toArray h (size93 x hx) (by rw [hc, List.size_toArray, encB_length x hx]) (all_oneCell_toArray (encB_one x))
  refine ⟨w.setRow g (encB x).toArray, ?_, setRow_heap _ _ _ _ _ _ h, ?_, ?_⟩
  · simp only [Instr.storeAt, Instr.sureAddr, Sem.run_bind, Sem.run_pure, Result.andThen_ok, hr]
  · exact ⟨rfl, rfl, rfl, by simp, fun k _ hk => setRow_other _ _ _ _ hk⟩
  · simp
/-- A block is laid into a new variable. -/
theorem lay_bk (w : World) (x : C.Bk (List UInt8)) (hx : x.h.length = 32) : ∃ A Y, (Instr.alloc 93 true (.tuple #[])).run Tryd.prog w = .ok (.pointer (some ⟨w.heap.size, 0, none⟩)) A ∧ (Instr.storeAt 93 (.pointer (some ⟨w.heap.size, 0, none⟩)) (.agg (encB x).toArray)).run Tryd.prog A = .ok () Y ∧ Y.heap[w.heap.size]? = some (.cells (encB x).toArray 93 (0, 0)) ∧ Below w.heap.size w Y ∧ Y.heap.size = w.heap.size + 1 := by
  obtain ⟨Y, q1, q2, q3, q4⟩ := store_bk (w := w.alloc (.cells (encB S.b0).toArray 93)) (g := w.heap.size) (x := x) (heap_alloc_new _ _) (by rw [List.size_toArray, encB_length _ (S.zeros_length 32)]) hx
  exact ⟨_, Y, alloc93 w, q1, q2, ((Below.refl _ _).alloc (Nat.le_refl _) _).trans (q3.below _ (by simp) (fun k hk e => by omega)), by rw [q4]; simp⟩
end Go.Proofs.YtkljajfgdelfgaaDoor
namespace Go.Proofs.YtkljajfgdelfgaaDoor
open Go.RowKit

theorem Nat.pow_sub_one_two (j : Nat) (h : 1 ≤ j) : 2 ^ (j - 1) = 2 ^ j / 2 := by
  obtain ⟨k, rfl⟩ : ∃ k, j = k + 1 := ⟨j - 1, by omega⟩
  rw [Nat.add_sub_cancel, Nat.pow_succ]; omega
namespace C
theorem blk_down (p e j : Nat) (h : p < e) (he : e ≤ 2 ^ 32) (hn : ∀ i, j < i → ¬ (p % 2 ^ i = 0 ∧ 2 ^ i ≤ e - p)) (h1 : p % 2 ^ j = 0) (h2 : 2 ^ j ≤ e - p) : blk p e = 2 ^ j := by
  obtain ⟨i, a, -, b, c, -⟩ := blk_spec p e h he
  have h3 := blk_max p e j h he (Nat.dvd_of_mod_eq_zero h1) (by omega)
  rw [a] at h3 ⊢
  have h4 := pow_le_pow h3
  by_cases hij : i = j
  · rw [hij]
  · exact absurd ⟨Nat.mod_eq_zero_of_dvd b, by omega⟩ (hn i (by omega))
end C
set_option maxHeartbeats 4000000 in
set_option maxRecDepth 10000 in
theorem blocks_any (b e : Nat) (w : World) (hb : b < 18446744073709551616) (he : e < 18446744073709551616) :
   Calls Tryd.prog 15 #[.int .u64 (b : Int), .int .u64 (e : Int)] w fun r w' => (∃ v, r = .returned v ∧ NRow w.heap.size w' v (C.blocks b e)) ∧ Below w.heap.size w w' := by
  go_enter Tryd.func15, Tryd.ntmps15
  go_wp2
  go_step3
  by_cases hE : 4294967296 < e
  · have q1 : (e : Int) > 4294967296 := by omega
    have hnone := C.blocks_none b e (by omega)
    go_wp2_with fail
    rw [Exit.noGoto_ret]
    go_ret
    exact ⟨⟨_, rfl, by rw [hnone]; exact Rw.nil _ _ _ _ _⟩, Below.refl _ _⟩
  · have q1 : ¬ (e : Int) > 4294967296 := by omega
    have q1' : ¬ (4294967296 : Int) < (e : Int) := by omega
    go_wp2_with fail
    go_step3
    go_wp2_with fail
    go_loopg [5, 6] (e - b) (fun gk s5 s6 wr => ∃ (p : Nat) (ns : List Nat), gk = e - p ∧ s6 = .int .u64 (p : Int) ∧ p < 18446744073709551616 ∧ Hid (C.blocks b e = ns ++ C.blocks p e) ∧ ns.length ≤ 64 ∧ Hid (NRow w.heap.size wr s5 ns) ∧ Hid (Below w.heap.size w wr))
    case atStart => exact ⟨b, [], rfl, rfl, hb, rfl, by simp, Rw.nil _ _ _ _ _, Below.refl _ _⟩
    case round =>
      clear hb
      obtain ⟨p, ns, rfl, rfl, hp, HB, hns, HR, BW⟩ := hrel
      obtain ⟨so, sc, rfl⟩ := HR.out.form
      by_cases hlt : p < e
      · have q2 : (p : Int) < (e : Int) := by omega
        have qs : IntKind.u64.wrap ((e : Int) - (p : Int)) = (e : Int) - (p : Int) := by rw [IntKind.wrap_u64]; omega
        have HF : Hid (∀ i, 32 < i → ¬ (p % 2 ^ i = 0 ∧ 2 ^ i ≤ e - p)) := fun i hi c => by
          have h33 : 2 ^ 33 ≤ 2 ^ i := Nat.pow_le_pow_right (by omega) hi
          have := c.2
          omega
        go_wp2_with fail
        go_loopg [5, 6, 7] 32 (fun j s5 s6 s7 wz => ∃ z : Nat, s5 = .slice so ns.length sc ∧ s6 = .int .u64 (p : Int) ∧ s7 = .int .u64 (z : Int) ∧ z = 2 ^ j ∧ j ≤ 32 ∧ Hid (∀ i, j < i → ¬ (p % 2 ^ i = 0 ∧ 2 ^ i ≤ e - p)) ∧ wr = wz)
        case atStart => exact ⟨2 ^ 32, rfl, rfl, rfl, rfl, Nat.le_refl _, hide HF.out, rfl⟩
        case round =>
          obtain ⟨z, rfl, rfl, rfl, hz, hj, HN, rfl⟩ := hrel
          have hz0 : 0 < z := by rw [hz]; exact C.two_pos _
          have hz32 : z ≤ 4294967296 := by rw [hz]; exact Nat.pow_le_pow_right (n := 2) (by omega) hj
          have HZ := hide hz
          clear hz
          have q3 : (z : Int) > 0 := by omega
          have q3' : (0 : Int) < (z : Int) := by omega
          have q3n : ¬ (z : Int) = 0 := by omega
          by_cases hd : p % z = 0
          · have q4 : (p : Int) % (z : Int) = 0 := by exact_mod_cast hd
            by_cases hle : z ≤ e - p
            · have q5 : (z : Int) ≤ (e : Int) - (p : Int) := by omega
              have hblk : C.blk p e = z := by rw [HZ.out]; exact C.blk_down p e _ hlt (by omega) HN.out (by rw [← HZ.out]; exact hd) (by rw [← HZ.out]; exact hle)
              have HBN : Hid (C.blocks b e = (ns ++ [z]) ++ C.blocks (p + z) e) := by
                have := HB.out
                rw [C.blocks_cons p e hlt (by omega), hblk] at this
                rw [List.append_assoc]; exact this
              have hlen : (ns ++ [z]).length ≤ 64 := by
                have h1 := C.blocks_len b e
                rw [HBN.out, List.length_append] at h1
                omega
              have qa : IntKind.u64.wrap ((p : Int) + (z : Int)) = ((p + z : Nat) : Int) := by rw [IntKind.wrap_u64]; omega
              have hbs := bs38one wr z
              obtain ⟨X, hX⟩ : ∃ X, X = wr.alloc (.cells (encU z).toArray 27) := ⟨_, rfl⟩
              rw [← hX] at hbs
              have bx : Below wr.heap.size wr X := by rw [hX]; exact (Below.refl _ _).alloc (Nat.le_refl _) _
              have rx : X.heap[wr.heap.size]? = some (.cells (encU z).toArray 27 (0, 0)) := by rw [hX]; exact heap_alloc_new _ _
              have KEY := hide (Rw.append kdU 38 (HR.out.below bx) (Sce.of_row (c := 1) rx) (encU_len _) (by simp at hlen ⊢; omega) (Nat.le_trans BW.out.size bx.size))
              have BX := hide (BW.out.trans (bx.mono BW.out.size))
              have HW := hide (fun j (e : (Value.slice so ns.length sc).ownBlock = some j) => ((HR.out.below bx).blk e).1)
              obtain ⟨gx, hgx⟩ : ∃ g, g = wr.heap.size := ⟨_, rfl⟩
              rw [← hgx] at hbs KEY
              clear bx rx HN HB HR hX hgx hblk
              go_wp2_with (first | (with_reducible refine at_op { dst := some 31, op := Op.buildSlice 38 1 #[(0, Operand.tmp 30)], type := 38, pos := "block.go:25", after := #[{ on := 1, ground := Ground.data }], guard := none } ?_; refine wpList_buildSlice_as rfl 38 1 [(0, .tmp 30)] rfl [(0, .int .u64 (z : Int))] rfl _ _ hbs ?_) | (at_builtin; (refine wpList_append_known rfl (.tmp 29) (.tmp 31) 38 38 rfl _ _ rfl rfl KEY.out ?_; rintro v' Y ⟨hR', hC'⟩; have RN := hide hR'; have BN := hide (BX.out.trans (hC'.below _ BX.out.size (fun k hk e => by have := HW.out _ e; omega))); clear hR' hC')))
              go_roundg (e - (p + z))
              case measure => omega
              case rel => exact ⟨p + z, ns ++ [z], rfl, rfl, by omega, HBN, hlen, RN, BN⟩
            · have q5 : ¬ (z : Int) ≤ (e : Int) - (p : Int) := by omega
              go_wp2_with fail
              have hj1 : 1 ≤ gk := by
                cases gk with
                | zero => exfalso; have h1 := HZ.out; rw [Nat.pow_zero] at h1; subst h1; omega
                | succ k => omega
              go_roundg (gk - 1)
              case measure => omega
              case rel => exact ⟨z / 2, rfl, rfl, by simp, by rw [HZ.out, ← Nat.pow_sub_one_two gk hj1], by omega, hide (fun i hi => by
                by_cases h : gk < i
                · exact HN.out i h
                · have : i = gk := by omega
                  subst this; rw [← HZ.out]; exact fun c => hle c.2), rfl⟩
          · have q4 : ¬ (p : Int) % (z : Int) = 0 := by exact_mod_cast hd
            go_wp2_with fail
            have hj1 : 1 ≤ gk := by
              cases gk with
              | zero => exfalso; have h1 := HZ.out; rw [Nat.pow_zero] at h1; subst h1; rw [Nat.mod_one] at hd; omega
              | succ k => omega
            go_roundg (gk - 1)
            case measure => omega
            case rel => exact ⟨z / 2, rfl, rfl, by simp, by rw [HZ.out, ← Nat.pow_sub_one_two gk hj1], by omega, hide (fun i hi => by
              by_cases h : gk < i
              · exact HN.out i h
              · have : i = gk := by omega
                subst this; rw [← HZ.out]; exact fun c => hd c.1), rfl⟩
      · have q2 : ¬ (p : Int) < (e : Int) := by omega
        have hnone := C.blocks_none p e (by omega)
        go_wp2_with fail
        try rw [Exit.noGoto_ret]
        go_ret
        exact ⟨⟨_, rfl, by rw [HB.out, hnone, List.append_nil]; exact HR.out⟩, BW.out⟩
end Go.Proofs.YtkljajfgdelfgaaDoor
