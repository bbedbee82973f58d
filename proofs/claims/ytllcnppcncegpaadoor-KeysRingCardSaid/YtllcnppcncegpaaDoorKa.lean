/- Heads and signed heads, in memory. -/
import Derived.Test.YtllcnppcncegpaaDoorFa
import Derived.Test.YtllcnppcncegpaaDoorRmac
import Derived.Test.YtllcnppcncegpaaDoorWrb
import Derived.Test.YtllcnppcncegpaaDoorIntact
import Derived.Test.YtllcnppcncegpaaDoorArgt
import Derived.Deep.MidRow
namespace Go.Proofs.YtllcnppcncegpaaDoor
open Go.RowKit

namespace S
/-- A number as a word of 64 bits. -/
def u64 (x : Int) : Nat := (x % 18446744073709551616).toNat
theorem u64_wrap (x : Int) : IntKind.u64.wrap x = (u64 x : Int) := by rw [IntKind.wrap_u64, u64]; omega
/-- A head. -/
structure Hd where
  tree : Int
  epoch : Int
  size : Nat
  clock : Nat
  root : List UInt8
/-- A head with its tag. -/
structure Sg where
  h : Hd
  tag : List UInt8
end S
def encH (h : S.Hd) : List Value := .int .i64 h.tree :: .int .i64 h.epoch :: .int .u64 (h.size : Int) :: .int .u64 (h.clock : Int) :: S.v8l h.root
def encG (s : S.Sg) : List Value := encH s.h ++ S.v8l s.tag
theorem encH_length (h : S.Hd) (hr : h.root.length = 32) : (encH h).length = 36 := by simp [encH, S.v8l_length, hr]
theorem encG_length (s : S.Sg) (hr : s.h.root.length = 32) (ht : s.tag.length = 32) : (encG s).length = 68 := by rw [encG, List.length_append, encH_length _ hr, S.v8l_length, ht]
theorem encH_one (h : S.Hd) : ∀ u ∈ encH h, u.oneCell' = true := fun u hu => by
  rcases List.mem_cons.1 hu with rfl | hu
  · rfl
  rcases List.mem_cons.1 hu with rfl | hu
  · rfl
  rcases List.mem_cons.1 hu with rfl | hu
  · rfl
  rcases List.mem_cons.1 hu with rfl | hu
  · rfl
  · exact S.v8l_one _ u hu
theorem encG_one (s : S.Sg) : ∀ u ∈ encG s, u.oneCell' = true := fun u hu => by
  rcases List.mem_append.1 hu with hu | hu
  · exact encH_one _ u hu
  · exact S.v8l_one _ u hu
/-- Heads whose fields fit. -/
structure S.Hd.Ok (h : S.Hd) : Prop where
  t1 : -9223372036854775808 ≤ h.tree
  t2 : h.tree ≤ 9223372036854775807
  e1 : -9223372036854775808 ≤ h.epoch
  e2 : h.epoch ≤ 9223372036854775807
  s2 : h.size < 18446744073709551616
  c2 : h.clock < 18446744073709551616
  r : h.root.length = 32
def S.h0 : S.Hd := ⟨0, 0, 0, 0, S.zeros 32⟩
def S.g0 : S.Sg := ⟨S.h0, S.zeros 32⟩
theorem info32 : (Tryd.prog.info? 32).map (fun i => (i.zero, i.size, i.bytes)) = some (some (.agg (encH S.h0).toArray), 36, 64) := by kernel_rfl
theorem info34 : (Tryd.prog.info? 34).map (fun i => (i.zero, i.size, i.bytes)) = some (some (.agg (encG S.g0).toArray), 68, 96) := by kernel_rfl
theorem size_h (h : S.Hd) (hr : h.root.length = 32) : (Tryd.prog.info? 32).map (·.size) = some (encH h).toArray.size := by
  obtain ⟨i, hi, _, hs, _⟩ := info_parts info32
  rw [hi, List.size_toArray, encH_length h hr]
  simp [hs]
theorem size_g (s : S.Sg) (hr : s.h.root.length = 32) (ht : s.tag.length = 32) : (Tryd.prog.info? 34).map (·.size) = some (encG s).toArray.size := by
  obtain ⟨i, hi, _, hs, _⟩ := info_parts info34
  rw [hi, List.size_toArray, encG_length s hr ht]
  simp [hs]
theorem alloc34 (w : World) : (Instr.alloc 34 true (.tuple #[])).run Tryd.prog w = .ok (.pointer (some ⟨w.heap.size, 0, none⟩)) (w.alloc (.cells (encG S.g0).toArray 34)) := by
  obtain ⟨i, hi, hz, _, _⟩ := info_parts info34
  simp [Instr.alloc, zeroValue, typeInfo, hi, hz, newVar, newRow, Value.cells]
/-- A signed head is stored where another one lay. -/
theorem store_g {w : World} {g : Nat} {c : Array Value} {x : S.Sg} (h : w.heap[g]? = some (.cells c 34 (0, 0))) (hc : c.size = 68) (hr : x.h.root.length = 32) (ht : x.tag.length = 32) :
    ∃ w', (Instr.storeAt 34 (.pointer (some ⟨g, 0, none⟩)) (.agg (encG x).toArray)).run Tryd.prog w = .ok () w' ∧ w'.heap[g]? = some (.cells (encG x).toArray 34 (0, 0)) ∧ Chg (fun k => k = g) w w' ∧ w'.heap.size = w.heap.size := by
  have hr := run_storeVar_row (P := Tryd.prog) w g 34 34 c (encG x).toArray h (size_g x hr ht) (by rw [hc, List.size_toArray, encG_length x hr ht]) (all_oneCell_toArray (encG_one x))
  refine ⟨w.setRow g (encG x).toArray, ?_, setRow_heap _ _ _ _ _ _ h, ?_, ?_⟩
  · simp only [Instr.storeAt, Instr.sureAddr, Sem.run_bind, Sem.run_pure, Result.andThen_ok, hr]
  · exact ⟨rfl, rfl, rfl, by simp, fun k _ hk => setRow_other _ _ _ _ hk⟩
  · simp
/-- A signed head is laid into a new variable. -/
theorem lay_g (w : World) (x : S.Sg) (hr : x.h.root.length = 32) (ht : x.tag.length = 32) : ∃ A Y, (Instr.alloc 34 true (.tuple #[])).run Tryd.prog w = .ok (.pointer (some ⟨w.heap.size, 0, none⟩)) A ∧ (Instr.storeAt 34 (.pointer (some ⟨w.heap.size, 0, none⟩)) (.agg (encG x).toArray)).run Tryd.prog A = .ok () Y ∧ Y.heap[w.heap.size]? = some (.cells (encG x).toArray 34 (0, 0)) ∧ Below w.heap.size w Y ∧ Y.heap.size = w.heap.size + 1 := by
  obtain ⟨Y, q1, q2, q3, q4⟩ := store_g (w := w.alloc (.cells (encG S.g0).toArray 34)) (g := w.heap.size) (x := x) (heap_alloc_new _ _) (by rw [List.size_toArray, encG_length _ (S.zeros_length 32) (S.zeros_length 32)]) hr ht
  exact ⟨_, Y, alloc34 w, q1, q2, ((Below.refl _ _).alloc (Nat.le_refl _) _).trans (q3.below _ (by simp) (fun k hk e => by omega)), by rw [q4]; simp⟩
/-- Whole loads. -/
theorem load_dig {w : World} {g : Nat} {d : List UInt8} (h : w.heap[g]? = some (.cells (S.v8 d) 30 (0, 0))) (hd : d.length = 32) : (Instr.loadAt 30 (.pointer (some ⟨g, 0, none⟩))).run Tryd.prog w = .ok (.agg (S.v8 d)) w := by
  have := run_loadVar_row (P := Tryd.prog) w g 30 30 (S.v8 d) (0, 0) _ h Tryd.underlying30 rfl (size_dig d hd)
  simp only [Instr.loadAt, Instr.sureAddr, Sem.run_bind, Sem.run_pure, Result.andThen_ok, this]
theorem load_h {w : World} {g : Nat} {x : S.Hd} (h : w.heap[g]? = some (.cells (encH x).toArray 32 (0, 0))) (hr : x.root.length = 32) : (Instr.loadAt 32 (.pointer (some ⟨g, 0, none⟩))).run Tryd.prog w = .ok (.agg (encH x).toArray) w := by
  have := run_loadVar_row (P := Tryd.prog) w g 32 32 (encH x).toArray (0, 0) _ h Tryd.underlying32 rfl (size_h x hr)
  simp only [Instr.loadAt, Instr.sureAddr, Sem.run_bind, Sem.run_pure, Result.andThen_ok, this]
theorem load_g {w : World} {g : Nat} {x : S.Sg} (h : w.heap[g]? = some (.cells (encG x).toArray 34 (0, 0))) (hr : x.h.root.length = 32) (ht : x.tag.length = 32) : (Instr.loadAt 34 (.pointer (some ⟨g, 0, none⟩))).run Tryd.prog w = .ok (.agg (encG x).toArray) w := by
  have := run_loadVar_row (P := Tryd.prog) w g 34 34 (encG x).toArray (0, 0) _ h Tryd.underlying34 rfl (size_g x hr ht)
  simp only [Instr.loadAt, Instr.sureAddr, Sem.run_bind, Sem.run_pure, Result.andThen_ok, this]
/-- The cells of a head, one by one. -/
theorem h_cells {w : World} {g : Nat} {x : S.Hd} {ty : TypeId} (h : w.heap[g]? = some (.cells (encH x).toArray ty (0, 0))) :
    w.cell? ⟨g, 0, none⟩ = some (.int .i64 x.tree) ∧ w.cell? ⟨g, 1, none⟩ = some (.int .i64 x.epoch) ∧ w.cell? ⟨g, 2, none⟩ = some (.int .u64 (x.size : Int)) ∧ w.cell? ⟨g, 3, none⟩ = some (.int .u64 (x.clock : Int)) := by
  refine ⟨?_, ?_, ?_, ?_⟩ <;> (rw [cell_of_row w g _ _ _ _ h]; simp [encH])
theorem g_cells {w : World} {g : Nat} {x : S.Sg} {ty : TypeId} (h : w.heap[g]? = some (.cells (encG x).toArray ty (0, 0))) :
    w.cell? ⟨g, 0, none⟩ = some (.int .i64 x.h.tree) ∧ w.cell? ⟨g, 1, none⟩ = some (.int .i64 x.h.epoch) ∧ w.cell? ⟨g, 2, none⟩ = some (.int .u64 (x.h.size : Int)) ∧ w.cell? ⟨g, 3, none⟩ = some (.int .u64 (x.h.clock : Int)) := by
  refine ⟨?_, ?_, ?_, ?_⟩ <;> (rw [cell_of_row w g _ _ _ _ h]; simp [encG, encH])
theorem h_root {w : World} {g : Nat} {x : S.Hd} {ty : TypeId} (h : w.heap[g]? = some (.cells (encH x).toArray ty (0, 0))) : w.rangeAt g 4 (S.v8l x.root) := fun j v hv => by
  rw [cell_of_row w g _ _ _ _ h]
  rw [show 4 + j = j + 4 by omega]
  simpa [encH] using hv
theorem g_root {w : World} {g : Nat} {x : S.Sg} {ty : TypeId} (h : w.heap[g]? = some (.cells (encG x).toArray ty (0, 0))) : w.rangeAt g 4 (S.v8l x.h.root) := fun j v hv => by
  rw [cell_of_row w g _ _ _ _ h]
  have hl : 4 + j < (encH x.h).length := by
    have := (List.getElem?_eq_some_iff.1 hv).1
    rw [encH]; simp only [List.length_cons]; omega
  rw [List.getElem?_toArray, encG, List.getElem?_append_left hl, show 4 + j = j + 4 by omega]
  simpa [encH] using hv
theorem g_head {w : World} {g : Nat} {x : S.Sg} {ty : TypeId} (h : w.heap[g]? = some (.cells (encG x).toArray ty (0, 0))) : w.rangeAt g 0 (encH x.h) := fun j v hv => by
  rw [cell_of_row w g _ _ _ _ h, Nat.zero_add, List.getElem?_toArray, encG, List.getElem?_append_left (List.getElem?_eq_some_iff.1 hv).1]
  exact hv
theorem g_tag {w : World} {g : Nat} {x : S.Sg} {ty : TypeId} (h : w.heap[g]? = some (.cells (encG x).toArray ty (0, 0))) (hr : x.h.root.length = 32) : w.rangeAt g 36 (S.v8l x.tag) := fun j v hv => by
  rw [cell_of_row w g _ _ _ _ h, List.getElem?_toArray, encG, List.getElem?_append_right (by rw [encH_length _ hr]; omega), encH_length _ hr, show 36 + j - 36 = j by omega]
  exact hv
/-- The head in a signed head is loaded. -/
theorem load_gh {w : World} {g : Nat} {x : S.Sg} {ty : TypeId} (h : w.heap[g]? = some (.cells (encG x).toArray ty (0, 0))) (hr : x.h.root.length = 32) : (Instr.loadAt 32 (.pointer (some ⟨g, 0, none⟩))).run Tryd.prog w = .ok (.agg (encH x.h).toArray) w :=
  run_loadAt_mid w g 0 32 (encH x.h) _ (g_head h) Tryd.underlying32 rfl (by rw [size_h _ hr, List.size_toArray])
theorem load_gt {w : World} {g : Nat} {x : S.Sg} {ty : TypeId} (h : w.heap[g]? = some (.cells (encG x).toArray ty (0, 0))) (hr : x.h.root.length = 32) (ht : x.tag.length = 32) : (Instr.loadAt 30 (.pointer (some ⟨g, 36, none⟩))).run Tryd.prog w = .ok (.agg (S.v8 x.tag)) w :=
  run_loadAt_mid w g 36 30 (S.v8l x.tag) _ (g_tag h hr) Tryd.underlying30 rfl (by rw [size_dig _ ht, S.v8_size, S.v8l_length])
theorem load_hr {w : World} {g : Nat} {x : S.Hd} {ty : TypeId} (h : w.heap[g]? = some (.cells (encH x).toArray ty (0, 0))) (hr : x.root.length = 32) : (Instr.loadAt 30 (.pointer (some ⟨g, 4, none⟩))).run Tryd.prog w = .ok (.agg (S.v8 x.root)) w :=
  run_loadAt_mid w g 4 30 (S.v8l x.root) _ (h_root h) Tryd.underlying30 rfl (by rw [size_dig _ hr, S.v8_size, S.v8l_length])
/-- A digest in the middle of a block, sliced whole. -/
theorem mid_part {w : World} {g o c : Nat} {d : List UInt8} (h : w.rangeAt g o (S.v8l d)) (hd : d.length = 32) (hg : g < w.heap.size) (hc : 32 ≤ c) : SliceAt w (.slice (some ⟨g, o, none⟩) 32 c) d := by
  refine Or.inr (Or.inr ⟨g, o, c, by rw [hd], by omega, by omega, hg, fun j hj => h j _ ?_⟩)
  simp [S.v8l, List.getElem?_map, List.getElem?_eq_getElem hj, List.getD_eq_getElem?_getD]
theorem lay_size (off : Nat) (v cs : Array Value) : (v.zipIdx.foldl (fun cs (x : Value × Nat) => cs.setIfInBounds (off + x.2) x.1) cs).size = cs.size := by
  have e : v.zipIdx.foldl (fun cs (x : Value × Nat) => cs.setIfInBounds (off + x.2) x.1) cs = (v.toList.zipIdx 0).foldl (fun cs (x : Value × Nat) => cs.setIfInBounds (off + x.2) x.1) cs := by
    rw [← Array.foldl_toList, Array.toList_zipIdx]
  rw [e]
  exact (Great.foldl_set off v.toList 0 cs).1
set_option maxRecDepth 100000 in
/-- {h, tag}. -/
theorem built34 (x : S.Hd) (hx : x.root.length = 32) (t : List UInt8) (ht : t.length = 32) : Tryd.prog.built 34 [(0, .agg (encH x).toArray), (1, .agg (S.v8 t))] = some (encG ⟨x, t⟩).toArray := by
  have h : ∀ parts, Tryd.prog.built 34 parts = Instr.fill ((#[(0, 36), (36, 32)] : Array (Nat × Nat))[·]?) (encG S.g0).toArray parts := fun parts => by
    obtain ⟨i, hi, hz, _, _⟩ := info_parts info34
    unfold Program.built
    rw [hi, Tryd.underlying34]
    simp only [hz]
    rfl
  rw [h]
  have hl : (S.v8l t).length = 32 := by rw [S.v8l_length, ht]
  have hlx := encH_length x hx
  have hz : (encG S.g0).toArray.size = 68 := by rw [List.size_toArray, encG_length _ (S.zeros_length 32) (S.zeros_length 32)]
  have c0 : (Value.agg (encH x).toArray).cells = (encH x).toArray := rfl
  have c1 : (Value.agg (S.v8 t)).cells = (S.v8l t).toArray := by rw [S.v8_eq]; rfl
  unfold Instr.fill
  simp only [show (#[(0, 36), (36, 32)] : Array (Nat × Nat))[0]? = some (0, 36) from rfl]
  rw [if_neg (by rw [hz, c0, List.size_toArray, hlx]; simp)]
  unfold Instr.fill
  simp only [show (#[(0, 36), (36, 32)] : Array (Nat × Nat))[1]? = some (36, 32) from rfl]
  rw [c0, c1]
  have hs0 : ((encH x).toArray.zipIdx.foldl (fun cs (x : Value × Nat) => cs.setIfInBounds (0 + x.2) x.1) (encG S.g0).toArray).size = 68 := by rw [lay_size, hz]
  rw [if_neg (by rw [hs0]; simp [hl])]
  unfold Instr.fill
  congr 1
  apply Array.ext_getElem?
  intro k
  have l1 := lay_at 36 (S.v8l t).toArray ((encH x).toArray.zipIdx.foldl (fun cs (x : Value × Nat) => cs.setIfInBounds (0 + x.2) x.1) (encG S.g0).toArray) k
  have l0 := lay_at 0 (encH x).toArray (encG S.g0).toArray k
  refine l1.trans ?_
  rw [hs0, l0, hz]
  simp only [List.size_toArray, hl, hlx, List.getElem?_toArray, encG]
  by_cases h1 : k < 36
  · rw [if_neg (by omega), if_pos ⟨by omega, by omega, by omega⟩, List.getElem?_append_left (by omega), Nat.sub_zero]
  · by_cases h2 : k < 68
    · rw [if_pos ⟨by omega, by omega, by omega⟩, List.getElem?_append_right (by omega), hlx]
    · rw [if_neg (by omega), if_neg (by omega), List.getElem?_eq_none (by rw [List.length_append, encH_length _ (S.zeros_length 32), S.v8l_length]; show 36 + (S.zeros 32).length ≤ k; rw [S.zeros_length]; omega), List.getElem?_eq_none (by rw [List.length_append, hl, hlx]; omega)]
theorem build34 (x : S.Hd) (hx : x.root.length = 32) (t : List UInt8) (ht : t.length = 32) (w : World) : (Instr.build 34 #[(0, .agg (encH x).toArray), (1, .agg (S.v8 t))]).run Tryd.prog w = .ok (.agg (encG ⟨x, t⟩).toArray) w :=
  run_build w 34 _ _ (built34 x hx t ht)
end Go.Proofs.YtllcnppcncegpaaDoor
