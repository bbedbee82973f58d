/- Small laws that verify's texts had: digests that lie somewhere; steps whose runs are known. -/
import Derived.Test.YtlcilclhaahopaaDoorOe
import Derived.Test.YtlcilclhaahopaaDoorMf
import Derived.Test.YtlcilclhaahopaaDoorArgt
import Derived.Test.YtlcilclhaahopaaDoorPush
import Derived.Lib.AppendZerosOnto
namespace Go.Proofs.YtlcilclhaahopaaDoor
open Go.RowKit
theorem Chg.then {p : Nat → Prop} {a b c : World} (h : Chg p a b) (k : Below b.heap.size b c) : Chg p a c := h.trans (Chg.ofBelow' (p := fun _ => False) k) (fun _ _ e => e.elim)
theorem dg_at {w : World} {v : Value} {ds : List (List UInt8)} (h : DgAt w v ds) (k : Nat) (hk : k < ds.length) : ∃ g off cap, v = .slice (some ⟨g, off, none⟩) ds.length cap ∧ g < w.heap.size ∧ w.rangeAt g (off + k * 32) (S.v8l (ds.getD k [])) ∧ (ds.getD k []).length = 32 := by
  obtain ⟨ao, cap, rfl, h1, h2, h3⟩ := h
  obtain ⟨g, off, rfl, h4, h5⟩ := h3 (by omega)
  exact ⟨g, off, cap, rfl, h4, h5 k hk, h2 _ (by rw [List.getD_eq_getElem?_getD, List.getElem?_eq_getElem hk]; exact List.getElem_mem hk)⟩
theorem DgAt.form {w : World} {v : Value} {ds : List (List UInt8)} (h : DgAt w v ds) : ∃ ao cap, v = .slice ao ds.length cap := by
  obtain ⟨ao, cap, rfl, _⟩ := h
  exact ⟨ao, cap, rfl⟩
theorem drop_cons {ds : List (List UInt8)} (k : Nat) (hk : k < ds.length) : ds.drop k = ds.getD k [] :: ds.drop (k + 1) := by
  rw [List.getD_eq_getElem?_getD, List.getElem?_eq_getElem hk]
  exact List.drop_eq_getElem_cons hk
theorem DgAt.nil (w : World) : DgAt w (.slice none 0 0) [] := ⟨none, 0, rfl, by simp, by simp, fun h => by simp at h⟩
theorem DgRow.cap {B : Nat} {w : World} {v : Value} {ds : List (List UInt8)} (h : DgRow B w v ds) : ∀ ao n c, v = .slice ao n c → n ≤ c := fun ao n c e => by
  rcases h.2 with ⟨rfl, h0⟩ | ⟨g, cap, cur, rfl, _, _, h1, _⟩
  · simp only [Value.slice.injEq] at e; omega
  · simp only [Value.slice.injEq] at e; omega
theorem buildSlice_when {w : World} {ops : Array Oper} {rest : List Oper} {o : Oper} {a : Act} {Q : Exit → Act → World → Prop} (hw : Region.wanted o (yielded ops a.tmps) = true) (t : TypeId) (n : Nat) (parts : List (Nat × Operand)) (ho : o.op = .buildSlice t n parts.toArray) (vs : List (Nat × Value)) (hvs : (parts.map fun p => (p.1, a.eval p.2)) = vs) (v : Value) (w' : World)
    (hr : (Instr.buildSlice t n vs.toArray).run Tryd.prog w = .ok v w') (h : wpList Tryd.prog ops Q rest (a.put o.dst v) w') : wpList Tryd.prog ops Q (o :: rest) a w := by
  subst hvs
  exact wpList_step fun _ hK => by
    rw [if_pos hw]
    unfold Oper.wp execOp
    simp only [ho, Sem.run_bind, List.map_toArray, hr, Result.andThen_ok]
    exact hK _ _ h
theorem mark_at {w : World} {x : UInt8} {c : Int} {r : Nat × Nat} (hc : c = (x.toNat : Int)) : ∀ W, Below (w.heap.size + 1) (w.alloc (.cells #[.int .u8 c] 5 r)) W → SliceAt W (.slice (some ⟨w.heap.size, 0, none⟩) 1 1) [x] := fun W hW => by
  refine Or.inr (Or.inr ⟨w.heap.size, 0, 1, rfl, by simp, by simp, Nat.lt_of_lt_of_le (by simp) hW.size, fun j hj => ?_⟩)
  rw [hW.cell (p := ⟨w.heap.size, 0 + j, none⟩) (by show w.heap.size < _; omega)]
  obtain rfl : j = 0 := by simp at hj; exact hj
  rw [World.cell?_alloc_mark, hc]
  rfl
/-- A text of one byte is laid. -/
theorem mark_new (w : World) (x : UInt8) (c : Int) (r : Nat × Nat) (hc : c = (x.toNat : Int)) : Below w.heap.size w (w.alloc (.cells #[.int .u8 c] 5 r)) ∧ SliceAt (w.alloc (.cells #[.int .u8 c] 5 r)) (.slice (some ⟨w.heap.size, 0, none⟩) 1 1) [x] :=
  ⟨(Below.refl _ _).alloc (Nat.le_refl _) _, mark_at hc _ (Below.refl _ _)⟩
theorem results_dd {fn : Func} {p q r : Tmp} (h : fn.results = #[.cell p 25, .cell q 25, .tmp r]) (tmps : Array Value) (w : World) (g1 g2 : Nat) (x y : List UInt8) (hx : x.length = 32) (hy : y.length = 32)
    (hp : tmps.getD p undef = .pointer (some ⟨g1, 0, none⟩)) (hq : tmps.getD q undef = .pointer (some ⟨g2, 0, none⟩)) (h1 : w.heap[g1]? = some (.cells (S.v8 x) 25 (0, 0))) (h2 : w.heap[g2]? = some (.cells (S.v8 y) 25 (0, 0))) :
    (results fn tmps).run Tryd.prog w = .ok (.tuple #[.agg (S.v8 x), .agg (S.v8 y), tmps.getD r undef]) w := by
  have hp' : tmps[p]?.getD undef = .pointer (some ⟨g1, 0, none⟩) := by simpa using hp
  have hq' : tmps[q]?.getD undef = .pointer (some ⟨g2, 0, none⟩) := by simpa using hq
  simp [results, h, hp', hq', asAddr, run_loadVar_row w g1 25 25 (S.v8 x) (0, 0) _ h1 Tryd.underlying25 rfl (size_dig x hx), run_loadVar_row w g2 25 25 (S.v8 y) (0, 0) _ h2 Tryd.underlying25 rfl (size_dig y hy)]
set_option maxRecDepth 100000 in
theorem zero_dig : (Instr.build 25 #[]).run Tryd.prog = fun w => .ok (.agg (S.v8 (S.zeros 32))) w := by
  funext w
  refine run_build w 25 _ _ ?_
  obtain ⟨i, hi, hz, _, _⟩ := info_parts info31
  unfold Program.built
  rw [hi, Tryd.underlying25]
  simp only [hz]
  rfl
theorem step_build_as {md : Region.Mode} {ops : Array Oper} {Q : Exit → Act → World → Prop} {S : World → Prop} {fuel : Nat} {listed : Array Bool} {a : Act} {w : World} {i : Nat} {o : Oper} {rs : List Nat} (ho : ops[i]? = some o) (hgd : o.guard = none) (t : TypeId) (parts : List (Nat × Operand))
    (hop : o.op = .build t parts.toArray) (vs : List (Nat × Value)) (hvs : (parts.map fun p => (p.1, a.eval p.2)) = vs) (v' : Value) (hr : (Instr.build t vs.toArray).run Tryd.prog w = .ok v' w) (hrest : AllReadyH Tryd.prog md ops Q S fuel listed a w rs)
    (h : S w ∧ (S w → wpAnyH Tryd.prog md ops Q S fuel (listed.setIfInBounds i true) (a.put o.dst v') w)) : AllReadyH Tryd.prog md ops Q S fuel listed a w (i :: rs) := by
  subst hvs
  refine AllReadyH.cons ho (fun K hK => ?_) hrest
  rw [if_pos (by simp [Region.wanted, hgd])]
  unfold Oper.wp execOp
  simp only [hop, Sem.run_bind, List.map_toArray, hr, Result.andThen_ok]
  exact hK.out _ _ h.1 h.2
theorem step_alloc_as {md : Region.Mode} {ops : Array Oper} {Q : Exit → Act → World → Prop} {S : World → Prop} {fuel : Nat} {listed : Array Bool} {a : Act} {w : World} {i : Nat} {o : Oper} {rs : List Nat} (ho : ops[i]? = some o) (hgd : o.guard = none) (t : TypeId)
    (hop : o.op = .alloc t) (v' : Value) (w' : World) (hr : (Instr.alloc t true (.tuple #[])).run Tryd.prog w = .ok v' w') (hrest : AllReadyH Tryd.prog md ops Q S fuel listed a w rs)
    (h : S w' ∧ (S w' → wpAnyH Tryd.prog md ops Q S fuel (listed.setIfInBounds i true) (a.put o.dst v') w')) : AllReadyH Tryd.prog md ops Q S fuel listed a w (i :: rs) := by
  refine AllReadyH.cons ho (fun K hK => ?_) hrest
  rw [if_pos (by simp [Region.wanted, hgd])]
  unfold Oper.wp execOp
  simp only [hop, Sem.run_bind, hr, Result.andThen_ok]
  exact hK.out _ _ h.1 h.2
theorem load_dig_when {ops : Array Oper} {rest : List Oper} {o : Oper} {a : Act} {w : World} {Q : Exit → Act → World → Prop} (hw : Region.wanted o (yielded ops a.tmps) = true) (x : Operand) (ho : o.op = .load 25 x)
    (g : Nat) (hx : a.eval x = .pointer (some ⟨g, 0, none⟩)) (D : List UInt8) (hg : w.heap[g]? = some (.cells (S.v8 D) 25 (0, 0))) (hD : D.length = 32)
    (h : wpList Tryd.prog ops Q rest (a.put o.dst (.agg (S.v8 D))) w) : wpList Tryd.prog ops Q (o :: rest) a w :=
  wpList_step fun _ hK => by rw [if_pos hw]; exact wp_load_row 25 x ho g hx 25 (S.v8 D) (0, 0) _ hg Tryd.underlying25 rfl (size_dig D hD) (hK _ _ h)
end Go.Proofs.YtlcilclhaahopaaDoor
namespace Go.Proofs.YtlcilclhaahopaaDoor
open Go.RowKit
open Go.ChangeShapes Go.WideShapes Go.ChangeAt
theorem cellsDg : Tryd.prog.cellsOf 25 = 32 := by kernel_rfl
theorem cellsU8 : Tryd.prog.cellsOf 5 = 1 := by kernel_rfl
theorem bytesDg : Tryd.prog.bytesOf 25 = 32 := by kernel_rfl
def byteAt : Value → UInt8
  | .int _ n => UInt8.ofNat n.toNat
  | _ => 0
/-- The cells of a digest that can be read are 32 bytes. -/
theorem digest_cells {H : Type} {enc : TypeId × Value → H} {W : World} {base fuel : Nat} {spare : Nat → Bool} {held : Bool} {cs : List Value} {y : DataW H × List MemPlace} (hl : cs.length = 32)
    (h : DataW.trod enc Tryd.prog W base spare held fuel 25 cs = some y) : ∃ l : List UInt8, l.length = 32 ∧ cs = S.v8l l := by
  obtain ⟨xs, m, _, _, _, hxl, hx⟩ := DataW.trod_array Tryd.underlying25 h
  have key : ∀ i, i < 32 → ∃ x : UInt8, cs[i]? = some (.int .u8 (x.toNat : Int)) := fun i hi => by
    have h1 := hx i hi
    rw [cellsU8, Nat.mul_one] at h1
    have h2 : xs[i]? = some (xs[i]'(by omega)) := List.getElem?_eq_getElem (by omega)
    rw [h2] at h1
    obtain ⟨n, hn, _, hw⟩ := DataW.trod_int Tryd.underlying5 h1
    obtain ⟨x, hxx⟩ := byte_of hw
    refine ⟨x, ?_⟩
    rw [← hxx]
    have h3 : ((cs.drop i).take 1)[0]? = some (.int .u8 n) := by rw [hn]; rfl
    simpa using h3
  refine ⟨cs.map byteAt, by rw [List.length_map]; exact hl, ?_⟩
  apply List.ext_getElem?
  intro i
  by_cases hi : i < 32
  · obtain ⟨x, hx⟩ := key i hi
    rw [hx]
    simp [S.v8l, List.getElem?_map, hx, byteAt]
  · rw [List.getElem?_eq_none (by omega), List.getElem?_eq_none (by rw [S.v8l_length, List.length_map]; omega)]
set_option maxRecDepth 100000 in
/-- A digest that came in is 32 bytes. -/
theorem open_digest {H : Type} {enc : TypeId × Value → H} {W : World} {r : Reach} {b0 base : Nat} {spare : Nat → Bool} {held : Bool} {v : Value} {d : DataW H} {p : List MemPlace}
    (hv : Value.okWide Tryd.prog W r b0 25 v) (h : DataW.Trod enc Tryd.prog W base spare held 25 v d p) : ∃ l : List UInt8, l.length = 32 ∧ v = .agg (S.v8 l) := by
  have hs : ∃ cs, v = .agg cs ∧ cs.size = Tryd.prog.cellsOf 25 := by
    simp only [Value.okWide, Tryd.underlying25] at hv
    obtain ⟨cs, h1, h2, _⟩ := hv
    exact ⟨cs, h1, h2⟩
  obtain ⟨cs, rfl, hsz⟩ := hs
  rw [cellsDg] at hsz
  obtain ⟨fuel, hf⟩ := h
  obtain ⟨l, h1, h2⟩ := digest_cells (cs := cs.toList) (by simpa using hsz) (by simpa [Value.cells] using hf)
  refine ⟨l, h1, congrArg Value.agg ?_⟩
  apply Array.ext'
  rw [h2, S.v8_eq]
/-- A slice of digests that came in, of any length. -/
def DgAny (w : World) (v : Value) (ds : List (List UInt8)) : Prop :=
  ∃ ao cap, v = .slice ao ds.length cap ∧ ds.length ≤ cap ∧ (∀ d ∈ ds, d.length = 32) ∧ (0 < ds.length → ∃ g off, ao = some ⟨g, off, none⟩ ∧ g < w.heap.size ∧ ∀ j, j < ds.length → w.rangeAt g (off + j * 32) (S.v8l (ds.getD j [])))
theorem DgAny.dgAt {w : World} {v : Value} {ds : List (List UInt8)} (h : DgAny w v ds) (hl : ds.length ≤ 1000000) : DgAt w v ds := by
  obtain ⟨ao, cap, h1, _, h2, h3⟩ := h
  exact ⟨ao, cap, h1, hl, h2, h3⟩
theorem DgAny.cap {w : World} {v : Value} {ds : List (List UInt8)} (h : DgAny w v ds) : ∀ ao n c, v = .slice ao n c → n ≤ c := fun ao n c e => by
  obtain ⟨ao', cap, h1, h2, _⟩ := h
  rw [h1] at e
  simp only [Value.slice.injEq] at e
  omega
theorem DgAny.form {w : World} {v : Value} {ds : List (List UInt8)} (h : DgAny w v ds) : ∃ ao cap, v = .slice ao ds.length cap ∧ ds.length ≤ cap := by
  obtain ⟨ao, cap, h1, h2, _⟩ := h
  exact ⟨ao, cap, h1, h2⟩
theorem DgAny.below {w w' : World} {v : Value} {ds : List (List UInt8)} (h : DgAny w v ds) (hb : Below w.heap.size w w') : DgAny w' v ds := by
  obtain ⟨ao, cap, rfl, h1, h2, h3⟩ := h
  refine ⟨ao, cap, rfl, h1, h2, fun hp => ?_⟩
  obtain ⟨g, off, rfl, h4, h5⟩ := h3 hp
  exact ⟨g, off, rfl, Nat.lt_of_lt_of_le h4 hb.size, fun j hj k u hu => (hb.cell (p := ⟨g, off + j * 32 + k, none⟩) h4).trans (h5 j hj k u hu)⟩
theorem DgAny.take {w : World} {ao : Option Addr} {n cap : Nat} {ds : List (List UInt8)} (h : DgAny w (.slice ao n cap) ds) (k : Nat) (hk : k ≤ n) : DgAny w (.slice ao k cap) (ds.take k) := by
  obtain ⟨ao', cap', e, h1, h2, h3⟩ := h
  simp only [Value.slice.injEq] at e
  obtain ⟨rfl, rfl, rfl⟩ := e
  have hl : (ds.take k).length = k := by rw [List.length_take]; omega
  refine ⟨ao, cap, by rw [hl], by omega, fun d hd => h2 d (List.mem_of_mem_take hd), fun hp => ?_⟩
  rw [hl] at hp
  obtain ⟨g, off, e2, h4, h5⟩ := h3 (by omega)
  refine ⟨g, off, e2, h4, fun j hj => ?_⟩
  rw [hl] at hj
  rw [List.getD_eq_getElem?_getD, List.getElem?_take, if_pos hj, ← List.getD_eq_getElem?_getD]
  exact h5 j (by omega)
theorem add_add' (a : Addr) (m n : Nat) : (a.add m).add n = a.add (m + n) := by
  obtain ⟨b, off, spot⟩ := a
  unfold Addr.add
  by_cases h1 : m = 0 <;> by_cases h2 : n = 0 <;> simp [h1, h2, Nat.add_assoc]
end Go.Proofs.YtlcilclhaahopaaDoor
namespace Go.Proofs.YtlcilclhaahopaaDoor
open Go.RowKit

theorem flat_zeros (N : Nat) : (List.replicate N (S.zeros 32)).flatMap S.v8l = List.replicate (N * 32) (.int .u8 0) := by
  induction N with
  | zero => rfl
  | succ n ih =>
    rw [List.replicate_succ, List.flatMap_cons, ih, show S.v8l (S.zeros 32) = List.replicate 32 (.int .u8 0) from rfl, List.replicate_append_replicate]
    congr 1
    omega
theorem made_zeros (N : Nat) : (madeCells (S.v8 (S.zeros 32)) (N * 32)).toList = List.replicate (N * 32) (.int .u8 0) := by
  apply List.ext_getElem?
  intro j
  by_cases hj : j < N * 32
  · have h32 : j % 32 < 32 := Nat.mod_lt _ (by omega)
    have hs : (S.v8 (S.zeros 32)).size = 32 := by rw [S.v8_size, S.zeros_length]
    have hz : ∀ k, k < 32 → (S.v8 (S.zeros 32))[k]! = .int .u8 0 := fun k hk => by
      rw [S.v8_eq, show S.v8l (S.zeros 32) = List.replicate 32 (.int .u8 0) from rfl]
      rw [getElem!_pos _ _ (by rw [List.size_toArray, List.length_replicate]; exact hk)]
      rw [List.getElem_toArray, List.getElem_replicate]
    have e1 : (madeCells (S.v8 (S.zeros 32)) (N * 32)).toList[j]? = some (.int .u8 0) := by
      simp only [madeCells, Array.toList_map, Array.toList_range, List.getElem?_map, List.getElem?_range hj, Option.map_some, hs, hz _ h32]
    rw [e1, List.getElem?_replicate, if_pos hj]
  · rw [List.getElem?_eq_none (by simp [madeCells]; omega), List.getElem?_eq_none (by rw [List.length_replicate]; omega)]
theorem DgRow.made (w : World) (N : Nat) (hN : N ≤ 100000) : DgRow w.heap.size (w.alloc (.cells (madeCells (S.v8 (S.zeros 32)) (N * 32)) 25)) (.slice (some ⟨w.heap.size, 0, none⟩) N N) (List.replicate N (S.zeros 32)) := by
  unfold DgRow
  rw [List.length_replicate, flat_zeros]
  refine ⟨by rw [List.length_replicate], Or.inr ⟨w.heap.size, N, _, rfl, Nat.le_refl _, heap_alloc_new _ _, Nat.le_refl _, by simp [maxLen]; omega, size_madeCells _ _, ?_⟩⟩
  rw [made_zeros, List.take_of_length_le (by rw [List.length_replicate]; exact Nat.le_refl _)]
theorem flat_take (ds : List (List UInt8)) (h : ∀ d ∈ ds, d.length = 32) (k : Nat) (hk : k ≤ ds.length) : (ds.flatMap S.v8l).take (k * 32) = (ds.take k).flatMap S.v8l := by
  have e : ds.flatMap S.v8l = (ds.take k).flatMap S.v8l ++ (ds.drop k).flatMap S.v8l := by rw [← List.flatMap_append, List.take_append_drop]
  have hl : ((ds.take k).flatMap S.v8l).length = k * 32 := by rw [flat_len _ (fun d hd => h d (List.mem_of_mem_take hd)), List.length_take]; congr 1; omega
  rw [e, List.take_append_of_le_length (by omega), List.take_of_length_le (by omega)]
theorem flat_drop (ds : List (List UInt8)) (h : ∀ d ∈ ds, d.length = 32) (k : Nat) (hk : k ≤ ds.length) : (ds.flatMap S.v8l).drop (k * 32) = (ds.drop k).flatMap S.v8l := by
  have e : ds.flatMap S.v8l = (ds.take k).flatMap S.v8l ++ (ds.drop k).flatMap S.v8l := by rw [← List.flatMap_append, List.take_append_drop]
  have hl : ((ds.take k).flatMap S.v8l).length = k * 32 := by rw [flat_len _ (fun d hd => h d (List.mem_of_mem_take hd)), List.length_take]; congr 1; omega
  rw [e, ← hl, List.drop_left]
/-- New digests es are laid over those from the place k on. -/
theorem flat_lay (xs : List Value) (ds es : List (List UInt8)) (hd : ∀ d ∈ ds, d.length = 32) (he : ∀ d ∈ es, d.length = 32) (k N : Nat) (hN : N = ds.length) (hk : k + es.length ≤ N) (hx : xs.take (N * 32) = ds.flatMap S.v8l) :
    (xs.take (k * 32) ++ es.flatMap S.v8l ++ xs.drop (k * 32 + es.length * 32)).take (N * 32) = (ds.take k ++ es ++ ds.drop (k + es.length)).flatMap S.v8l := by
  have e1 : xs.take (k * 32) = (ds.take k).flatMap S.v8l := by
    rw [← flat_take ds hd k (by omega), ← hx, List.take_take]; congr 1; omega
  have hl1 : ((ds.take k).flatMap S.v8l).length = k * 32 := by rw [flat_len _ (fun d hd' => hd d (List.mem_of_mem_take hd')), List.length_take]; congr 1; omega
  have hl2 : (es.flatMap S.v8l).length = es.length * 32 := flat_len es he
  have e3 : (xs.drop (k * 32 + es.length * 32)).take (N * 32 - (k * 32 + es.length * 32)) = (ds.drop (k + es.length)).flatMap S.v8l := by
    rw [← flat_drop ds hd (k + es.length) (by omega), ← hx, List.drop_take]
    congr 1
    · omega
    · congr 1; omega
  rw [e1, List.take_append, List.take_of_length_le (by rw [List.length_append]; omega), List.length_append, hl1, hl2, e3, List.flatMap_append, List.flatMap_append]
/-- A row of digests over which others are laid. -/
theorem DgRow.laid {B : Nat} {w : World} {g N cap : Nat} {ds es : List (List UInt8)} (h : DgRow B w (.slice (some ⟨g, 0, none⟩) N cap) ds) (hd : ∀ d ∈ ds, d.length = 32) (he : ∀ d ∈ es, d.length = 32) (k : Nat) (hk : k + es.length ≤ ds.length) :
    ∃ cur : Array Value, w.heap[g]? = some (.cells cur 25 (0, 0)) ∧ k * 32 + es.length * 32 ≤ cur.size ∧ DgRow B (w.setRow g (cur.toList.take (k * 32) ++ es.flatMap S.v8l ++ cur.toList.drop (k * 32 + es.length * 32)).toArray) (.slice (some ⟨g, 0, none⟩) N cap) (ds.take k ++ es ++ ds.drop (k + es.length)) ∧ Chg (fun j => j = g) w (w.setRow g (cur.toList.take (k * 32) ++ es.flatMap S.v8l ++ cur.toList.drop (k * 32 + es.length * 32)).toArray) := by
  rcases h.2 with ⟨e, _⟩ | ⟨g', cap', cur, e, hB, hr, h1, h2, h3, h4⟩
  · simp at e
  simp only [Value.slice.injEq, Option.some.injEq, Addr.mk.injEq, and_true] at e
  obtain ⟨⟨rfl, _⟩, rfl, rfl⟩ := e
  have hNN : (ds.take k ++ es ++ ds.drop (k + es.length)).length = ds.length := by simp only [List.length_append, List.length_take, List.length_drop]; omega
  have hall : ∀ d ∈ ds.take k ++ es ++ ds.drop (k + es.length), d.length = 32 := fun d hd' => by
    rw [List.mem_append, List.mem_append] at hd'
    rcases hd' with (h | h) | h
    · exact hd d (List.mem_of_mem_take h)
    · exact he d h
    · exact hd d (List.mem_of_mem_drop h)
  refine ⟨cur, hr, by omega, ⟨by rw [flat_len _ hall], Or.inr ⟨g, cap, _, by rw [hNN], hB, setRow_heap _ _ _ _ _ _ hr, by rw [hNN]; exact h1, h2, ?_, ?_⟩⟩, ⟨rfl, rfl, rfl, by simp, fun j _ hj => setRow_other _ _ _ _ hj⟩⟩
  · have hl2 : (es.flatMap S.v8l).length = es.length * 32 := flat_len es he
    simp only [List.size_toArray, List.length_append, List.length_take, List.length_drop, hl2, Array.length_toList]
    omega
  · rw [hNN, List.toList_toArray]
    exact flat_lay cur.toList ds es hd he k ds.length rfl hk h4
/-- One digest of a row is stored. -/
theorem DgRow.set {B : Nat} {w : World} {g N cap : Nat} {ds : List (List UInt8)} (h : DgRow B w (.slice (some ⟨g, 0, none⟩) N cap) ds) (hd : ∀ d ∈ ds, d.length = 32) (k : Nat) (hk : k < ds.length) (m : List UInt8) (hm : m.length = 32) :
    ∃ w', (Instr.storeAt 25 (.pointer (some ⟨g, k * 32, none⟩)) (.agg (S.v8 m))).run Tryd.prog w = .ok () w' ∧ DgRow B w' (.slice (some ⟨g, 0, none⟩) N cap) (ds.set k m) ∧ Chg (fun j => j = g) w w' := by
  obtain ⟨cur, hr, hsz, hrow, hch⟩ := DgRow.laid h hd (es := [m]) (fun d hd' => by simp only [List.mem_singleton] at hd'; rw [hd']; exact hm) k (by show k + 1 ≤ ds.length; omega)
  have e1 : ds.take k ++ [m] ++ ds.drop (k + 1) = ds.set k m := by rw [List.set_eq_take_append_cons_drop, if_pos hk]; simp
  have hml : (S.v8l m).length = 32 := by rw [S.v8l_length, hm]
  rw [show [m].length = 1 from rfl, e1] at hrow
  refine ⟨_, ?_, hrow, hch⟩
  have hst := run_storeCells_at Tryd.prog g (k * 32) 25 (S.v8l m) 0 cur w hr (by rw [hml]; simpa using hsz) (S.v8l_one m)
  have hi := size_dig m hm
  cases hq : Tryd.prog.info? 25 with
  | none => simp [hq] at hi
  | some i =>
    have hs : (S.v8 m).size = i.size := by simp [hq] at hi; omega
    have hl : (S.v8 m).toList = S.v8l m := by rw [S.v8_eq]
    simp only [Nat.add_zero] at hst
    simp [Instr.storeAt, Instr.sureAddr, storeVar, sizeOf, typeInfo, hq, Value.cells, hs, hl, hst, hml]
theorem DgAt.take {w : World} {ao : Option Addr} {n cap : Nat} {ds : List (List UInt8)} (h : DgAt w (.slice ao n cap) ds) (k : Nat) (hk : k ≤ n) : DgAt w (.slice ao k cap) (ds.take k) := by
  obtain ⟨ao', cap', e, h1, h2, h3⟩ := h
  simp only [Value.slice.injEq] at e
  obtain ⟨rfl, rfl, rfl⟩ := e
  have hl : (ds.take k).length = k := by rw [List.length_take]; omega
  refine ⟨ao, cap, by rw [hl], by omega, fun d hd => h2 d (List.mem_of_mem_take hd), fun hp => ?_⟩
  rw [hl] at hp
  obtain ⟨g, off, e2, h4, h5⟩ := h3 (by omega)
  refine ⟨g, off, e2, h4, fun j hj => ?_⟩
  rw [hl] at hj
  rw [List.getD_eq_getElem?_getD, List.getElem?_take, if_pos hj, ← List.getD_eq_getElem?_getD]
  exact h5 j (by omega)
end Go.Proofs.YtlcilclhaahopaaDoor
namespace Go.Proofs.YtlcilclhaahopaaDoor
open Go.RowKit

theorem zeroCells_dig (m : Nat) : Builtin.zeroCells (Value.agg (S.v8 (S.zeros 32))).cells m = (List.replicate (m * 32) (Value.int .u8 0)).toArray := by
  have hs : (Value.agg (S.v8 (S.zeros 32))).cells.size = 32 := by rw [Value.cells, S.v8_size, S.zeros_length]
  have h := made_zeros m
  apply Array.ext'
  rw [List.toList_toArray, ← h]
  unfold Builtin.zeroCells madeCells
  rw [hs]
  rfl
theorem DgRow.empty {w : World} {g : Nat} (h0 : w.heap[g]? = some (.cells #[] 25 (0, 0))) (B : Nat) (hB : B ≤ g) : DgRow B w (.slice (some ⟨g, 0, none⟩) 0 0) [] := ⟨rfl, Or.inr ⟨g, 0, #[], rfl, hB, h0, Nat.le_refl _, by simp [maxLen], rfl, rfl⟩⟩
end Go.Proofs.YtlcilclhaahopaaDoor
