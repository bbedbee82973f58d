/- Small laws that verify's texts had: digests that lie somewhere; steps whose runs are known. -/
import Derived.Test.YtllcnppcncegpaaDoorOe
import Derived.Test.YtllcnppcncegpaaDoorMf
import Derived.Test.YtllcnppcncegpaaDoorArgt
import Derived.Test.YtllcnppcncegpaaDoorPush
import Derived.Lib.AppendZerosOnto
namespace Go.Proofs.YtllcnppcncegpaaDoor
open Go.RowKit
theorem Chg.then {p : Nat → Prop} {a b c : World} (h : Chg p a b) (k : Below b.heap.size b c) : Chg p a c := h.trans (Chg.ofBelow' (p := fun _ => False) k) (fun _ _ e => e.elim)
theorem dg_at {w : World} {v : Value} {ds : List (List UInt8)} (h : DgAt w v ds) (k : Nat) (hk : k < ds.length) : ∃ g off cap, v = .slice (some ⟨g, off, none⟩) ds.length cap ∧ g < w.heap.size ∧ w.rangeAt g (off + k * 32) (S.v8l (ds.getD k [])) ∧ (ds.getD k []).length = 32 := by
  obtain ⟨ao, cap, rfl, h1, h2, h3⟩ := h
  obtain ⟨g, off, rfl, h4, h5⟩ := h3 (by omega)
  exact ⟨g, off, cap, rfl, h4, h5 k hk, h2 _ (by rw [List.getD_eq_getElem?_getD, List.getElem?_eq_getElem hk]; exact List.getElem_mem hk)⟩
theorem DgAt.form {w : World} {v : Value} {ds : List (List UInt8)} (h : DgAt w v ds) : ∃ ao cap, v = .slice ao ds.length cap := by
  obtain ⟨ao, cap, rfl, _⟩ := h
  exact ⟨ao, cap, rfl⟩
theorem drop_cons {ds : List (List UInt8)} (k : Nat) (hk : k < ds.length) : ds.drop k = ds.getD k [] :: ds.drop (k + 1) := by
  rw [List.getD_eq_getElem?_getD, List.getElem?_eq_getElem hk]
  exact List.drop_eq_getElem_cons hk
theorem DgAt.nil (w : World) : DgAt w (.slice none 0 0) [] := ⟨none, 0, rfl, by simp, by simp, fun h => by simp at h⟩
theorem DgRow.cap {B : Nat} {w : World} {v : Value} {ds : List (List UInt8)} (h : DgRow B w v ds) : ∀ ao n c, v = .slice ao n c → n ≤ c := fun ao n c e => by
  rcases h.2 with ⟨rfl, h0⟩ | ⟨g, cap, cur, rfl, _, _, h1, _⟩
  · simp only [Value.slice.injEq] at e; omega
  · simp only [Value.slice.injEq] at e; omega
theorem buildSlice_when {w : World} {ops : Array Oper} {rest : List Oper} {o : Oper} {a : Act} {Q : Exit → Act → World → Prop} (hw : Region.wanted o (yielded ops a.tmps) = true) (t : TypeId) (n : Nat) (parts : List (Nat × Operand)) (ho : o.op = .buildSlice t n parts.toArray) (vs : List (Nat × Value)) (hvs : (parts.map fun p => (p.1, a.eval p.2)) = vs) (v : Value) (w' : World)
    (hr : (Instr.buildSlice t n vs.toArray).run Tryd.prog w = .ok v w') (h : wpList Tryd.prog ops Q rest (a.put o.dst v) w') : wpList Tryd.prog ops Q (o :: rest) a w := by
  subst hvs
  exact wpList_step fun _ hK => by
    rw [if_pos hw]
    unfold Oper.wp execOp
    simp only [ho, Sem.run_bind, List.map_toArray, hr, Result.andThen_ok]
    exact hK _ _ h
theorem mark_at {w : World} {x : UInt8} {c : Int} {r : Nat × Nat} (hc : c = (x.toNat : Int)) : ∀ W, Below (w.heap.size + 1) (w.alloc (.cells #[.int .u8 c] 5 r)) W → SliceAt W (.slice (some ⟨w.heap.size, 0, none⟩) 1 1) [x] := fun W hW => by
  refine Or.inr (Or.inr ⟨w.heap.size, 0, 1, rfl, by simp, by simp, Nat.lt_of_lt_of_le (by simp) hW.size, fun j hj => ?_⟩)
  rw [hW.cell (p := ⟨w.heap.size, 0 + j, none⟩) (by show w.heap.size < _; omega)]
  obtain rfl : j = 0 := by simp at hj; exact hj
  rw [World.cell?_alloc_mark, hc]
  rfl
/-- A text of one byte is laid. -/
theorem mark_new (w : World) (x : UInt8) (c : Int) (r : Nat × Nat) (hc : c = (x.toNat : Int)) : Below w.heap.size w (w.alloc (.cells #[.int .u8 c] 5 r)) ∧ SliceAt (w.alloc (.cells #[.int .u8 c] 5 r)) (.slice (some ⟨w.heap.size, 0, none⟩) 1 1) [x] :=
  ⟨(Below.refl _ _).alloc (Nat.le_refl _) _, mark_at hc _ (Below.refl _ _)⟩
theorem results_dd {fn : Func} {p q r : Tmp} (h : fn.results = #[.cell p 30, .cell q 30, .tmp r]) (tmps : Array Value) (w : World) (g1 g2 : Nat) (x y : List UInt8) (hx : x.length = 32) (hy : y.length = 32)
    (hp : tmps.getD p undef = .pointer (some ⟨g1, 0, none⟩)) (hq : tmps.getD q undef = .pointer (some ⟨g2, 0, none⟩)) (h1 : w.heap[g1]? = some (.cells (S.v8 x) 30 (0, 0))) (h2 : w.heap[g2]? = some (.cells (S.v8 y) 30 (0, 0))) :
    (results fn tmps).run Tryd.prog w = .ok (.tuple #[.agg (S.v8 x), .agg (S.v8 y), tmps.getD r undef]) w := by
  have hp' : tmps[p]?.getD undef = .pointer (some ⟨g1, 0, none⟩) := by simpa using hp
  have hq' : tmps[q]?.getD undef = .pointer (some ⟨g2, 0, none⟩) := by simpa using hq
  simp [results, h, hp', hq', asAddr, run_loadVar_row w g1 30 30 (S.v8 x) (0, 0) _ h1 Tryd.underlying30 rfl (size_dig x hx), run_loadVar_row w g2 30 30 (S.v8 y) (0, 0) _ h2 Tryd.underlying30 rfl (size_dig y hy)]
set_option maxRecDepth 100000 in
theorem zero_dig : (Instr.build 30 #[]).run Tryd.prog = fun w => .ok (.agg (S.v8 (S.zeros 32))) w := by
  funext w
  refine run_build w 30 _ _ ?_
  obtain ⟨i, hi, hz, _, _⟩ := info_parts info31
  unfold Program.built
  rw [hi, Tryd.underlying30]
  simp only [hz]
  rfl
theorem step_build_as {md : Region.Mode} {ops : Array Oper} {Q : Exit → Act → World → Prop} {S : World → Prop} {fuel : Nat} {listed : Array Bool} {a : Act} {w : World} {i : Nat} {o : Oper} {rs : List Nat} (ho : ops[i]? = some o) (hgd : o.guard = none) (t : TypeId) (parts : List (Nat × Operand))
    (hop : o.op = .build t parts.toArray) (vs : List (Nat × Value)) (hvs : (parts.map fun p => (p.1, a.eval p.2)) = vs) (v' : Value) (hr : (Instr.build t vs.toArray).run Tryd.prog w = .ok v' w) (hrest : AllReadyH Tryd.prog md ops Q S fuel listed a w rs)
    (h : S w ∧ (S w → wpAnyH Tryd.prog md ops Q S fuel (listed.setIfInBounds i true) (a.put o.dst v') w)) : AllReadyH Tryd.prog md ops Q S fuel listed a w (i :: rs) := by
  subst hvs
  refine AllReadyH.cons ho (fun K hK => ?_) hrest
  rw [if_pos (by simp [Region.wanted, hgd])]
  unfold Oper.wp execOp
  simp only [hop, Sem.run_bind, List.map_toArray, hr, Result.andThen_ok]
  exact hK.out _ _ h.1 h.2
theorem step_alloc_as {md : Region.Mode} {ops : Array Oper} {Q : Exit → Act → World → Prop} {S : World → Prop} {fuel : Nat} {listed : Array Bool} {a : Act} {w : World} {i : Nat} {o : Oper} {rs : List Nat} (ho : ops[i]? = some o) (hgd : o.guard = none) (t : TypeId)
    (hop : o.op = .alloc t) (v' : Value) (w' : World) (hr : (Instr.alloc t true (.tuple #[])).run Tryd.prog w = .ok v' w') (hrest : AllReadyH Tryd.prog md ops Q S fuel listed a w rs)
    (h : S w' ∧ (S w' → wpAnyH Tryd.prog md ops Q S fuel (listed.setIfInBounds i true) (a.put o.dst v') w')) : AllReadyH Tryd.prog md ops Q S fuel listed a w (i :: rs) := by
  refine AllReadyH.cons ho (fun K hK => ?_) hrest
  rw [if_pos (by simp [Region.wanted, hgd])]
  unfold Oper.wp execOp
  simp only [hop, Sem.run_bind, hr, Result.andThen_ok]
  exact hK.out _ _ h.1 h.2
theorem load_dig_when {ops : Array Oper} {rest : List Oper} {o : Oper} {a : Act} {w : World} {Q : Exit → Act → World → Prop} (hw : Region.wanted o (yielded ops a.tmps) = true) (x : Operand) (ho : o.op = .load 30 x)
    (g : Nat) (hx : a.eval x = .pointer (some ⟨g, 0, none⟩)) (D : List UInt8) (hg : w.heap[g]? = some (.cells (S.v8 D) 30 (0, 0))) (hD : D.length = 32)
    (h : wpList Tryd.prog ops Q rest (a.put o.dst (.agg (S.v8 D))) w) : wpList Tryd.prog ops Q (o :: rest) a w :=
  wpList_step fun _ hK => by rw [if_pos hw]; exact wp_load_row 30 x ho g hx 30 (S.v8 D) (0, 0) _ hg Tryd.underlying30 rfl (size_dig D hD) (hK _ _ h)
end Go.Proofs.YtllcnppcncegpaaDoor
namespace Go.Proofs.YtllcnppcncegpaaDoor
open Go.RowKit
open Go.ChangeShapes Go.WideShapes Go.ChangeAt
theorem cellsDg : Tryd.prog.cellsOf 30 = 32 := by kernel_rfl
theorem cellsU8 : Tryd.prog.cellsOf 5 = 1 := by kernel_rfl
theorem bytesDg : Tryd.prog.bytesOf 30 = 32 := by kernel_rfl
def byteAt : Value → UInt8
  | .int _ n => UInt8.ofNat n.toNat
  | _ => 0
/-- The cells of a digest that can be read are 32 bytes. -/
theorem digest_cells {H : Type} {enc : TypeId × Value → H} {W : World} {base fuel : Nat} {spare : Nat → Bool} {held : Bool} {cs : List Value} {y : DataW H × List MemPlace} (hl : cs.length = 32)
    (h : DataW.trod enc Tryd.prog W base spare held fuel 30 cs = some y) : ∃ l : List UInt8, l.length = 32 ∧ cs = S.v8l l := by
  obtain ⟨xs, m, _, _, _, hxl, hx⟩ := DataW.trod_array Tryd.underlying30 h
  have key : ∀ i, i < 32 → ∃ x : UInt8, cs[i]? = some (.int .u8 (x.toNat : Int)) := fun i hi => by
    have h1 := hx i hi
    rw [cellsU8, Nat.mul_one] at h1
    have h2 : xs[i]? = some (xs[i]'(by omega)) := List.getElem?_eq_getElem (by omega)
    rw [h2] at h1
    obtain ⟨n, hn, _, hw⟩ := DataW.trod_int Tryd.underlying5 h1
    obtain ⟨x, hxx⟩ := byte_of hw
    refine ⟨x, ?_⟩
    rw [← hxx]
    have h3 : ((cs.drop i).take 1)[0]? = some (.int .u8 n) := by rw [hn]; rfl
    simpa using h3
  refine ⟨cs.map byteAt, by rw [List.length_map]; exact hl, ?_⟩
  apply List.ext_getElem?
  intro i
  by_cases hi : i < 32
  · obtain ⟨x, hx⟩ := key i hi
    rw [hx]
    simp [S.v8l, List.getElem?_map, hx, byteAt]
  · rw [List.getElem?_eq_none (by omega), List.getElem?_eq_none (by rw [S.v8l_length, List.length_map]; omega)]
set_option maxRecDepth 100000 in
/-- A digest that came in is 32 bytes. -/
theorem open_digest {H : Type} {enc : TypeId × Value → H} {W : World} {r : Reach} {b0 base : Nat} {spare : Nat → Bool} {held : Bool} {v : Value} {d : DataW H} {p : List MemPlace}
    (hv : Value.okWide Tryd.prog W r b0 30 v) (h : DataW.Trod enc Tryd.prog W base spare held 30 v d p) : ∃ l : List UInt8, l.length = 32 ∧ v = .agg (S.v8 l) := by
  have hs : ∃ cs, v = .agg cs ∧ cs.size = Tryd.prog.cellsOf 30 := by
    simp only [Value.okWide, Tryd.underlying30] at hv
    obtain ⟨cs, h1, h2, _⟩ := hv
    exact ⟨cs, h1, h2⟩
  obtain ⟨cs, rfl, hsz⟩ := hs
  rw [cellsDg] at hsz
  obtain ⟨fuel, hf⟩ := h
  obtain ⟨l, h1, h2⟩ := digest_cells (cs := cs.toList) (by simpa using hsz) (by simpa [Value.cells] using hf)
  refine ⟨l, h1, congrArg Value.agg ?_⟩
  apply Array.ext'
  rw [h2, S.v8_eq]
/-- A slice of digests that came in, of any length. -/
def DgAny (w : World) (v : Value) (ds : List (List UInt8)) : Prop :=
  ∃ ao cap, v = .slice ao ds.length cap ∧ ds.length ≤ cap ∧ (∀ d ∈ ds, d.length = 32) ∧ (0 < ds.length → ∃ g off, ao = some ⟨g, off, none⟩ ∧ g < w.heap.size ∧ ∀ j, j < ds.length → w.rangeAt g (off + j * 32) (S.v8l (ds.getD j [])))
theorem DgAny.dgAt {w : World} {v : Value} {ds : List (List UInt8)} (h : DgAny w v ds) (hl : ds.length ≤ 1000000) : DgAt w v ds := by
  obtain ⟨ao, cap, h1, _, h2, h3⟩ := h
  exact ⟨ao, cap, h1, hl, h2, h3⟩
theorem DgAny.cap {w : World} {v : Value} {ds : List (List UInt8)} (h : DgAny w v ds) : ∀ ao n c, v = .slice ao n c → n ≤ c := fun ao n c e => by
  obtain ⟨ao', cap, h1, h2, _⟩ := h
  rw [h1] at e
  simp only [Value.slice.injEq] at e
  omega
theorem DgAny.form {w : World} {v : Value} {ds : List (List UInt8)} (h : DgAny w v ds) : ∃ ao cap, v = .slice ao ds.length cap ∧ ds.length ≤ cap := by
  obtain ⟨ao, cap, h1, h2, _⟩ := h
  exact ⟨ao, cap, h1, h2⟩
theorem DgAny.below {w w' : World} {v : Value} {ds : List (List UInt8)} (h : DgAny w v ds) (hb : Below w.heap.size w w') : DgAny w' v ds := by
  obtain ⟨ao, cap, rfl, h1, h2, h3⟩ := h
  refine ⟨ao, cap, rfl, h1, h2, fun hp => ?_⟩
  obtain ⟨g, off, rfl, h4, h5⟩ := h3 hp
  exact ⟨g, off, rfl, Nat.lt_of_lt_of_le h4 hb.size, fun j hj k u hu => (hb.cell (p := ⟨g, off + j * 32 + k, none⟩) h4).trans (h5 j hj k u hu)⟩
theorem DgAny.take {w : World} {ao : Option Addr} {n cap : Nat} {ds : List (List UInt8)} (h : DgAny w (.slice ao n cap) ds) (k : Nat) (hk : k ≤ n) : DgAny w (.slice ao k cap) (ds.take k) := by
  obtain ⟨ao', cap', e, h1, h2, h3⟩ := h
  simp only [Value.slice.injEq] at e
  obtain ⟨rfl, rfl, rfl⟩ := e
  have hl : (ds.take k).length = k := by rw [List.length_take]; omega
  refine ⟨ao, cap, by rw [hl], by omega, fun d hd => h2 d (List.mem_of_mem_take hd), fun hp => ?_⟩
  rw [hl] at hp
  obtain ⟨g, off, e2, h4, h5⟩ := h3 (by omega)
  refine ⟨g, off, e2, h4, fun j hj => ?_⟩
  rw [hl] at hj
  rw [List.getD_eq_getElem?_getD, List.getElem?_take, if_pos hj, ← List.getD_eq_getElem?_getD]
  exact h5 j (by omega)
theorem add_add' (a : Addr) (m n : Nat) : (a.add m).add n = a.add (m + n) := by
  obtain ⟨b, off, spot⟩ := a
  unfold Addr.add
  by_cases h1 : m = 0 <;> by_cases h2 : n = 0 <;> simp [h1, h2, Nat.add_assoc]
set_option maxHeartbeats 800000 in
set_option maxRecDepth 100000 in
/-- A list of digests that came in. -/
theorem open_digs {H : Type} {enc : TypeId × Value → H} {W : World} {ts : List TypeId} {ds : List (DataW H)} {j : Nat} {a0 : Option Addr} {len0 cap0 : Nat} {d0 : DataW H} {p0 : List MemPlace} {held : Bool}
    (hj : ts[j]? = some 69) (hd : ds[j]? = some d0) (h0 : DataW.Trod enc Tryd.prog W 0 (fun _ => true) held 69 (.slice a0 len0 cap0) d0 p0)
    (hsz : (DataW.weightsEach Tryd.prog ts ds).all (· ≤ reachBytes) = true) : ∃ l : List (List UInt8), DgAny W (.slice a0 len0 cap0) l ∧ len0 ≤ 4398046511104 ∧ l.length = len0 := by
  obtain ⟨fuel, hf⟩ := h0
  rcases Go.Deep.open_slice Tryd.underlying69 hf with ⟨hcs, _⟩ | ⟨a, len, cap, m, n, D, Pl, hcs, _, hl, hm, hmm, hx, hel⟩
  · simp [Value.cells] at hcs
    obtain ⟨rfl, rfl, rfl⟩ := hcs
    exact ⟨[], ⟨none, 0, rfl, by simp, by simp, fun h => by simp at h⟩, by omega, rfl⟩
  · simp [Value.cells] at hcs
    obtain ⟨rfl, rfl, rfl⟩ := hcs
    simp only [if_true] at hmm
    rw [cellsDg] at hel
    have hwt : ∀ k ∈ d0.weights Tryd.prog 69, k ≤ reachBytes := fun k hk => by
      have := List.all_eq_true.1 hsz k (DataW.weights_mem_each hj hd k hk)
      simpa using this
    have hd0 : d0 = .slice ((List.range len0).map D) ((List.range (m - len0)).map fun j => D (len0 + j)) := congrArg Prod.fst hx
    have hlen : len0 ≤ 4398046511104 := by
      rw [hd0] at hwt
      have h2 := hwt ((_ + _) * Tryd.prog.bytesOf 30) (by rw [DataW.weights, Tryd.underlying69]; exact List.mem_cons_self)
      rw [bytesDg] at h2
      simp only [List.length_map, List.length_range, reachBytes] at h2
      omega
    have hb : ∀ i, ∃ l : List UInt8, i < len0 → l.length = 32 ∧ ∀ k u, (S.v8l l)[k]? = some u → W.cell? (a.add (i * 32 + k)) = some u := fun i => by
      by_cases hi : i < len0
      · obtain ⟨cs', h1, h2⟩ := hel i (by omega)
        obtain ⟨_, hcl, hce⟩ := World.cells?_some h1
        obtain ⟨l, hl1, rfl⟩ := digest_cells hcl h2
        refine ⟨l, fun _ => ⟨hl1, fun k u hu => ?_⟩⟩
        have hk : k < 32 := by
          have := (List.getElem?_eq_some_iff.1 hu).1
          rwa [S.v8l_length, hl1] at this
        have := hce k hk
        rw [hu] at this
        rw [← add_add']
        exact this
      · exact ⟨[], fun h => absurd h hi⟩
    obtain ⟨f, hfb⟩ := Classical.axiomOfChoice hb
    refine ⟨(List.range len0).map f, ⟨some a, cap0, by simp, by simpa using hl, fun d hd => ?_, fun hp => ?_⟩, hlen, by simp⟩
    · obtain ⟨i, hi, rfl⟩ := List.mem_map.1 hd
      exact (hfb i (List.mem_range.1 hi)).1
    · have hp0 : 0 < len0 := by simpa using hp
      obtain ⟨b, off, spot⟩ := a
      have h00 := (hfb 0 hp0).2 0 (.int .u8 ((((f 0).getD 0 0)).toNat : Int)) (by
        have := (hfb 0 hp0).1
        rw [S.v8l, List.getElem?_map, List.getElem?_eq_getElem (by omega)]
        simp [List.getD_eq_getElem?_getD, List.getElem?_eq_getElem (show 0 < (f 0).length by omega)])
      have hspot : spot = none := by simpa [Addr.add] using World.cell?_spot h00
      subst hspot
      refine ⟨b, off, rfl, ?_, fun i hi k u hu => ?_⟩
      · rw [Addr.add_lit] at h00
        exact block_lt_of_cell (a := ⟨b, off + (0 * 32 + 0), none⟩) h00
      · have hi2 : i < len0 := by simpa using hi
        have e : ((List.range len0).map f).getD i [] = f i := by simp [List.getD_eq_getElem?_getD, hi2]
        rw [e] at hu
        have := (hfb i hi2).2 k u hu
        rw [Addr.add_lit, ← Nat.add_assoc] at this
        exact this
end Go.Proofs.YtllcnppcncegpaaDoor
namespace Go.Proofs.YtllcnppcncegpaaDoor
open Go.RowKit

theorem flat_zeros (N : Nat) : (List.replicate N (S.zeros 32)).flatMap S.v8l = List.replicate (N * 32) (.int .u8 0) := by
  induction N with
  | zero => rfl
  | succ n ih =>
    rw [List.replicate_succ, List.flatMap_cons, ih, show S.v8l (S.zeros 32) = List.replicate 32 (.int .u8 0) from rfl, List.replicate_append_replicate]
    congr 1
    omega
theorem made_zeros (N : Nat) : (madeCells (S.v8 (S.zeros 32)) (N * 32)).toList = List.replicate (N * 32) (.int .u8 0) := by
  apply List.ext_getElem?
  intro j
  by_cases hj : j < N * 32
  · have h32 : j % 32 < 32 := Nat.mod_lt _ (by omega)
    have hs : (S.v8 (S.zeros 32)).size = 32 := by rw [S.v8_size, S.zeros_length]
    have hz : ∀ k, k < 32 → (S.v8 (S.zeros 32))[k]! = .int .u8 0 := fun k hk => by
      rw [S.v8_eq, show S.v8l (S.zeros 32) = List.replicate 32 (.int .u8 0) from rfl]
      rw [getElem!_pos _ _ (by rw [List.size_toArray, List.length_replicate]; exact hk)]
      rw [List.getElem_toArray, List.getElem_replicate]
    have e1 : (madeCells (S.v8 (S.zeros 32)) (N * 32)).toList[j]? = some (.int .u8 0) := by
      simp only [madeCells, Array.toList_map, Array.toList_range, List.getElem?_map, List.getElem?_range hj, Option.map_some, hs, hz _ h32]
    rw [e1, List.getElem?_replicate, if_pos hj]
  · rw [List.getElem?_eq_none (by simp [madeCells]; omega), List.getElem?_eq_none (by rw [List.length_replicate]; omega)]
theorem make_digs (N : Nat) (hN : N ≤ 100000) (w : World) : (Instr.makeSlice 69 (.int .i64 (N : Int)) (.int .i64 (N : Int))).run Tryd.prog w = .ok (.slice (some ⟨w.heap.size, 0, none⟩) N N) (w.alloc (.cells (madeCells (S.v8 (S.zeros 32)) (N * 32)) 30)) := by
  obtain ⟨i, hi, hz0, hz1, hz2⟩ := info_parts info31
  have h := run_makeSlice (P := Tryd.prog) w 69 30 i (.agg (S.v8 (S.zeros 32))) Tryd.underlying69 hi hz0 .i64 .i64 (N : Int) (N : Int) (by omega) (Int.le_refl _) (by rw [hz1]; simp; omega) (by rw [hz2]; omega) (by omega)
  rw [hz1] at h
  simpa [Value.cells] using h
theorem DgRow.made (w : World) (N : Nat) (hN : N ≤ 100000) : DgRow w.heap.size (w.alloc (.cells (madeCells (S.v8 (S.zeros 32)) (N * 32)) 30)) (.slice (some ⟨w.heap.size, 0, none⟩) N N) (List.replicate N (S.zeros 32)) := by
  unfold DgRow
  rw [List.length_replicate, flat_zeros]
  refine ⟨by rw [List.length_replicate], Or.inr ⟨w.heap.size, N, _, rfl, Nat.le_refl _, heap_alloc_new _ _, Nat.le_refl _, by simp [maxLen]; omega, size_madeCells _ _, ?_⟩⟩
  rw [made_zeros, List.take_of_length_le (by rw [List.length_replicate]; exact Nat.le_refl _)]
theorem flat_take (ds : List (List UInt8)) (h : ∀ d ∈ ds, d.length = 32) (k : Nat) (hk : k ≤ ds.length) : (ds.flatMap S.v8l).take (k * 32) = (ds.take k).flatMap S.v8l := by
  have e : ds.flatMap S.v8l = (ds.take k).flatMap S.v8l ++ (ds.drop k).flatMap S.v8l := by rw [← List.flatMap_append, List.take_append_drop]
  have hl : ((ds.take k).flatMap S.v8l).length = k * 32 := by rw [flat_len _ (fun d hd => h d (List.mem_of_mem_take hd)), List.length_take]; congr 1; omega
  rw [e, List.take_append_of_le_length (by omega), List.take_of_length_le (by omega)]
theorem flat_drop (ds : List (List UInt8)) (h : ∀ d ∈ ds, d.length = 32) (k : Nat) (hk : k ≤ ds.length) : (ds.flatMap S.v8l).drop (k * 32) = (ds.drop k).flatMap S.v8l := by
  have e : ds.flatMap S.v8l = (ds.take k).flatMap S.v8l ++ (ds.drop k).flatMap S.v8l := by rw [← List.flatMap_append, List.take_append_drop]
  have hl : ((ds.take k).flatMap S.v8l).length = k * 32 := by rw [flat_len _ (fun d hd => h d (List.mem_of_mem_take hd)), List.length_take]; congr 1; omega
  rw [e, ← hl, List.drop_left]
/-- New digests es are laid over those from the place k on. -/
theorem flat_lay (xs : List Value) (ds es : List (List UInt8)) (hd : ∀ d ∈ ds, d.length = 32) (he : ∀ d ∈ es, d.length = 32) (k N : Nat) (hN : N = ds.length) (hk : k + es.length ≤ N) (hx : xs.take (N * 32) = ds.flatMap S.v8l) :
    (xs.take (k * 32) ++ es.flatMap S.v8l ++ xs.drop (k * 32 + es.length * 32)).take (N * 32) = (ds.take k ++ es ++ ds.drop (k + es.length)).flatMap S.v8l := by
  have e1 : xs.take (k * 32) = (ds.take k).flatMap S.v8l := by
    rw [← flat_take ds hd k (by omega), ← hx, List.take_take]; congr 1; omega
  have hl1 : ((ds.take k).flatMap S.v8l).length = k * 32 := by rw [flat_len _ (fun d hd' => hd d (List.mem_of_mem_take hd')), List.length_take]; congr 1; omega
  have hl2 : (es.flatMap S.v8l).length = es.length * 32 := flat_len es he
  have e3 : (xs.drop (k * 32 + es.length * 32)).take (N * 32 - (k * 32 + es.length * 32)) = (ds.drop (k + es.length)).flatMap S.v8l := by
    rw [← flat_drop ds hd (k + es.length) (by omega), ← hx, List.drop_take]
    congr 1
    · omega
    · congr 1; omega
  rw [e1, List.take_append, List.take_of_length_le (by rw [List.length_append]; omega), List.length_append, hl1, hl2, e3, List.flatMap_append, List.flatMap_append]
/-- A row of digests over which others are laid. -/
theorem DgRow.laid {B : Nat} {w : World} {g N cap : Nat} {ds es : List (List UInt8)} (h : DgRow B w (.slice (some ⟨g, 0, none⟩) N cap) ds) (hd : ∀ d ∈ ds, d.length = 32) (he : ∀ d ∈ es, d.length = 32) (k : Nat) (hk : k + es.length ≤ ds.length) :
    ∃ cur : Array Value, w.heap[g]? = some (.cells cur 30 (0, 0)) ∧ k * 32 + es.length * 32 ≤ cur.size ∧ DgRow B (w.setRow g (cur.toList.take (k * 32) ++ es.flatMap S.v8l ++ cur.toList.drop (k * 32 + es.length * 32)).toArray) (.slice (some ⟨g, 0, none⟩) N cap) (ds.take k ++ es ++ ds.drop (k + es.length)) ∧ Chg (fun j => j = g) w (w.setRow g (cur.toList.take (k * 32) ++ es.flatMap S.v8l ++ cur.toList.drop (k * 32 + es.length * 32)).toArray) := by
  rcases h.2 with ⟨e, _⟩ | ⟨g', cap', cur, e, hB, hr, h1, h2, h3, h4⟩
  · simp at e
  simp only [Value.slice.injEq, Option.some.injEq, Addr.mk.injEq, and_true] at e
  obtain ⟨⟨rfl, _⟩, rfl, rfl⟩ := e
  have hNN : (ds.take k ++ es ++ ds.drop (k + es.length)).length = ds.length := by simp only [List.length_append, List.length_take, List.length_drop]; omega
  have hall : ∀ d ∈ ds.take k ++ es ++ ds.drop (k + es.length), d.length = 32 := fun d hd' => by
    rw [List.mem_append, List.mem_append] at hd'
    rcases hd' with (h | h) | h
    · exact hd d (List.mem_of_mem_take h)
    · exact he d h
    · exact hd d (List.mem_of_mem_drop h)
  refine ⟨cur, hr, by omega, ⟨by rw [flat_len _ hall], Or.inr ⟨g, cap, _, by rw [hNN], hB, setRow_heap _ _ _ _ _ _ hr, by rw [hNN]; exact h1, h2, ?_, ?_⟩⟩, ⟨rfl, rfl, rfl, by simp, fun j _ hj => setRow_other _ _ _ _ hj⟩⟩
  · have hl2 : (es.flatMap S.v8l).length = es.length * 32 := flat_len es he
    simp only [List.size_toArray, List.length_append, List.length_take, List.length_drop, hl2, Array.length_toList]
    omega
  · rw [hNN, List.toList_toArray]
    exact flat_lay cur.toList ds es hd he k ds.length rfl hk h4
/-- One digest of a row is stored. -/
theorem DgRow.set {B : Nat} {w : World} {g N cap : Nat} {ds : List (List UInt8)} (h : DgRow B w (.slice (some ⟨g, 0, none⟩) N cap) ds) (hd : ∀ d ∈ ds, d.length = 32) (k : Nat) (hk : k < ds.length) (m : List UInt8) (hm : m.length = 32) :
    ∃ w', (Instr.storeAt 30 (.pointer (some ⟨g, k * 32, none⟩)) (.agg (S.v8 m))).run Tryd.prog w = .ok () w' ∧ DgRow B w' (.slice (some ⟨g, 0, none⟩) N cap) (ds.set k m) ∧ Chg (fun j => j = g) w w' := by
  obtain ⟨cur, hr, hsz, hrow, hch⟩ := DgRow.laid h hd (es := [m]) (fun d hd' => by simp only [List.mem_singleton] at hd'; rw [hd']; exact hm) k (by show k + 1 ≤ ds.length; omega)
  have e1 : ds.take k ++ [m] ++ ds.drop (k + 1) = ds.set k m := by rw [List.set_eq_take_append_cons_drop, if_pos hk]; simp
  have hml : (S.v8l m).length = 32 := by rw [S.v8l_length, hm]
  rw [show [m].length = 1 from rfl, e1] at hrow
  refine ⟨_, ?_, hrow, hch⟩
  have hst := run_storeCells_at Tryd.prog g (k * 32) 30 (S.v8l m) 0 cur w hr (by rw [hml]; simpa using hsz) (S.v8l_one m)
  have hi := size_dig m hm
  cases hq : Tryd.prog.info? 30 with
  | none => simp [hq] at hi
  | some i =>
    have hs : (S.v8 m).size = i.size := by simp [hq] at hi; omega
    have hl : (S.v8 m).toList = S.v8l m := by rw [S.v8_eq]
    simp only [Nat.add_zero] at hst
    simp [Instr.storeAt, Instr.sureAddr, storeVar, sizeOf, typeInfo, hq, Value.cells, hs, hl, hst, hml]
/-- Digests that lie somewhere are copied over the first ones of a row. -/
theorem run_copy_digs {B : Nat} {w : World} {g N cap : Nat} {ds ps : List (List UInt8)} {u : Value} (ty : TypeId) (h : DgRow B w (.slice (some ⟨g, 0, none⟩) N cap) ds) (hd : ∀ d ∈ ds, d.length = 32) (hN : N = ds.length) (hu : DgAt w u ps) (hl : ps.length ≤ ds.length) :
    ∃ v' w', (Builtin.copy_ #[69, 69] ty #[.slice (some ⟨g, 0, none⟩) N cap, u]).run Tryd.prog w = .ok v' w' ∧ DgRow B w' (.slice (some ⟨g, 0, none⟩) N cap) (ps ++ ds.drop ps.length) ∧ Chg (fun j => j = g) w w' := by
  obtain ⟨ao, cp, rfl, _, hp, hs⟩ := hu
  obtain ⟨cur, hr, hsz, hrow, hch⟩ := DgRow.laid h hd hp 0 (by omega)
  rw [show ds.take 0 ++ ps ++ ds.drop (0 + ps.length) = ps ++ ds.drop ps.length by simp] at hrow
  have hfl : (ps.flatMap S.v8l).length = ps.length * 32 := flat_len ps hp
  have hst := run_storeCells_at Tryd.prog g 0 30 (ps.flatMap S.v8l) 0 cur w hr (by rw [hfl]; omega) (flat_one ps)
  obtain ⟨i, hi, hz0, hz1, hz2⟩ := info_parts info31
  have hmin : Nat.min ps.length N = ps.length := Nat.min_eq_left (by omega)
  refine ⟨goInt ps.length, _, ?_, hrow, hch⟩
  by_cases hp0 : ps.length = 0
  · have hpe : ps = [] := List.eq_nil_of_length_eq_zero hp0
    subst hpe
    have hl0 : ∀ (x : Addr), (loadCells x 0).run Tryd.prog w = .ok #[] w := fun x => by simpa using run_loadCells_list (P := Tryd.prog) w x [] (by simp)
    simp only [List.flatMap_nil] at hst
    cases ao with
    | none => simpa [Builtin.copy_, run_underlying Tryd.underlying69, Builtin.lenOf, Builtin.firstCells, sizeOf, typeInfo, hi, hz1, storeCells] using hst
    | some x => simpa [Builtin.copy_, run_underlying Tryd.underlying69, Builtin.lenOf, Builtin.firstCells, sizeOf, typeInfo, hi, hz1, hl0, storeCells] using hst
  · obtain ⟨gs, off, rfl, _, hc⟩ := hs (by omega)
    have hsrc : ∀ j v, (ps.flatMap S.v8l)[j]? = some v → w.cell? ((⟨gs, off, none⟩ : Addr).add j) = some v := fun j v hv => by
      have hjl : j < ps.length * 32 := by rw [← hfl]; exact (List.getElem?_eq_some_iff.1 hv).1
      have hj : j = j / 32 * 32 + j % 32 := by omega
      rw [hj, flat_at ps hp (j / 32) (j % 32) (by omega) (by omega)] at hv
      rw [Addr.add_lit]
      have := hc (j / 32) (by omega) (j % 32) v hv
      rw [Nat.add_assoc, ← hj] at this
      exact this
    have hld := run_loadCells_list (P := Tryd.prog) w ⟨gs, off, none⟩ (ps.flatMap S.v8l) hsrc
    rw [hfl] at hld
    simp only [Nat.add_zero, Nat.zero_add, hfl] at hst
    simp only [List.take_zero, List.nil_append] at hst
    simp [Builtin.copy_, run_underlying Tryd.underlying69, Builtin.lenOf, Builtin.firstCells, sizeOf, typeInfo, hi, hz1]
    rw [hmin, hld]
    simp only [Result.andThen_ok, hst]
theorem DgAt.take {w : World} {ao : Option Addr} {n cap : Nat} {ds : List (List UInt8)} (h : DgAt w (.slice ao n cap) ds) (k : Nat) (hk : k ≤ n) : DgAt w (.slice ao k cap) (ds.take k) := by
  obtain ⟨ao', cap', e, h1, h2, h3⟩ := h
  simp only [Value.slice.injEq] at e
  obtain ⟨rfl, rfl, rfl⟩ := e
  have hl : (ds.take k).length = k := by rw [List.length_take]; omega
  refine ⟨ao, cap, by rw [hl], by omega, fun d hd => h2 d (List.mem_of_mem_take hd), fun hp => ?_⟩
  rw [hl] at hp
  obtain ⟨g, off, e2, h4, h5⟩ := h3 (by omega)
  refine ⟨g, off, e2, h4, fun j hj => ?_⟩
  rw [hl] at hj
  rw [List.getD_eq_getElem?_getD, List.getElem?_take, if_pos hj, ← List.getD_eq_getElem?_getD]
  exact h5 j (by omega)
end Go.Proofs.YtllcnppcncegpaaDoor
namespace Go.Proofs.YtllcnppcncegpaaDoor
open Go.RowKit

theorem zeroCells_dig (m : Nat) : Builtin.zeroCells (Value.agg (S.v8 (S.zeros 32))).cells m = (List.replicate (m * 32) (Value.int .u8 0)).toArray := by
  have hs : (Value.agg (S.v8 (S.zeros 32))).cells.size = 32 := by rw [Value.cells, S.v8_size, S.zeros_length]
  have h := made_zeros m
  apply Array.ext'
  rw [List.toList_toArray, ← h]
  unfold Builtin.zeroCells madeCells
  rw [hs]
  rfl
theorem dzeros_room (w : World) (g n cap m : Nat) (cur : Array Value) (hg : w.heap[g]? = some (.cells cur 30 (0, 0))) (ty : TypeId) (hm : m ≤ 65) (hm0 : ¬ m = 0) (hroom : n + m ≤ cap) (hfit : n * 32 + m * 32 ≤ cur.size) :
    (Builtin.append_ #[69, 3] ty #[.slice (some ⟨g, 0, none⟩) n cap, .int .i64 (m : Int)]).run Tryd.prog w =
      .ok (.slice (some ⟨g, 0, none⟩) (n + m) cap) (w.setRow g (cur.toList.take (n * 32) ++ List.replicate (m * 32) (Value.int .u8 0) ++ cur.toList.drop (n * 32 + m * 32)).toArray) := by
  have hw : IntKind.i64.wrap (m : Int) = (m : Int) := by rw [IntKind.wrap_i64]; omega
  have h1 : ¬ (m : Int) < 0 := by omega
  have h2 : ¬ 281474976710656 < (m : Int) * 32 := by omega
  obtain ⟨i, hi, hz0, hz1, hz2⟩ := info_parts info31
  have hst := run_storeCells_at Tryd.prog g (n * 32) 30 (List.replicate (m * 32) (Value.int .u8 0)) 0 cur w hg (by simpa using hfit) (by intro v hv; rw [List.eq_of_mem_replicate hv]; rfl)
  simp only [Nat.add_zero, List.length_replicate] at hst
  have ha := asInt_i64 w m
  simp [Builtin.append_, run_underlying Tryd.underlying69, run_underlying Tryd.underlying3, sizeOf, typeInfo, zeroValue, hi, hz0, hz1, hz2, ha, hw, h1, h2, hroom, zeroCells_dig, Addr.add_lit, hst]
  intro h
  omega
theorem run_append_dzeros {B : Nat} {w : World} {g cap : Nat} {ds : List (List UInt8)} (m : Nat) (ty : TypeId) (h : DgRow B w (.slice (some ⟨g, 0, none⟩) ds.length cap) ds) (hd : ∀ d ∈ ds, d.length = 32) (hm : m ≤ 65) (hm0 : ¬ m = 0) (hl : ds.length ≤ 1000) (hB : B ≤ w.heap.size) :
    ∃ v' w', (Builtin.append_ #[69, 3] ty #[.slice (some ⟨g, 0, none⟩) ds.length cap, .int .i64 (m : Int)]).run Tryd.prog w = .ok v' w' ∧ DgRow B w' v' (ds ++ List.replicate m (S.zeros 32)) ∧ Below B w w' := by
  have hlen : (ds ++ List.replicate m (S.zeros 32)).length = ds.length + m := by rw [List.length_append, List.length_replicate]
  have hfl : (ds.flatMap S.v8l).length = ds.length * 32 := flat_len ds hd
  have hF : (ds ++ List.replicate m (S.zeros 32)).flatMap S.v8l = ds.flatMap S.v8l ++ List.replicate (m * 32) (Value.int .u8 0) := by rw [List.flatMap_append, flat_zeros]
  have hFl : (ds.flatMap S.v8l ++ List.replicate (m * 32) (Value.int .u8 0)).length = (ds.length + m) * 32 := by rw [List.length_append, hfl, List.length_replicate]; omega
  rcases h.2 with ⟨e, _⟩ | ⟨g', cap', cur, e, hb, hr, h1, h2, h3, h4⟩
  · simp at e
  simp only [Value.slice.injEq, Option.some.injEq, Addr.mk.injEq, and_true] at e
  obtain ⟨⟨rfl, _⟩, _, rfl⟩ := e
  by_cases hroom : ds.length + m ≤ cap
  · refine ⟨_, _, dzeros_room w g ds.length cap m cur hr ty hm hm0 hroom (by omega), ?_, below_setRow (Below.refl _ _) hb _⟩
    unfold DgRow
    rw [hlen, hF]
    refine ⟨hFl, Or.inr ⟨g, cap, _, rfl, hb, setRow_heap _ _ _ _ _ _ hr, hroom, h2, ?_, ?_⟩⟩
    · simp only [List.size_toArray, List.length_append, List.length_take, List.length_drop, Array.length_toList, List.length_replicate]
      omega
    · rw [h4, List.toList_toArray, ← hFl]
      exact List.take_left
  · obtain ⟨i, hi, hz0, hz1, hz2⟩ := info_parts info31
    have hge := grownCap_ge w (ds.length + m) cap 30
    have hcm' : grownCap w (ds.length + m) cap 30 ≤ maxLen := grownCap_le_maxLen w (ds.length + m) cap 30 (by simp only [maxLen]; omega)
    have h48 := growslice_fits (need := ds.length + m) (old := cap) (bytes := 32) (by omega) (by omega)
    have holds : ∀ j v, (ds.flatMap S.v8l)[j]? = some v → w.cell? ((⟨g, 0, none⟩ : Addr).add j) = some v := fun j v hv => by
      rw [Addr.add_lit, Nat.zero_add, cell_of_row w g j _ _ _ hr]
      have hjl : j < ds.length * 32 := by rw [← hfl]; exact (List.getElem?_eq_some_iff.1 hv).1
      rw [← h4, List.getElem?_take, if_pos hjl] at hv
      simpa using hv
    have hfo := run_firstCells_some (P := Tryd.prog) w.drew 32 ds.length ⟨g, 0, none⟩ ds.length cap (ds.flatMap S.v8l) (by omega) (by simpa using holds)
    have hrun := Lib.run_append_grow_zeros (P := Tryd.prog) w 69 3 ty 30 i (.agg (S.v8 (S.zeros 32))) .i64 .i64 Tryd.underlying69 Tryd.underlying3 hi hz0 (some ⟨g, 0, none⟩) ds.length cap (ds.flatMap S.v8l) (by rw [hz1]; exact hfo) m (by omega) (by omega) (by omega) (by omega) (by rw [hz2]; omega) (by rw [hz2]; exact h48)
    refine ⟨_, _, hrun, ?_, ((Below.refl _ _).drew).alloc hB _⟩
    unfold DgRow
    rw [hlen, hF]
    refine ⟨hFl, Or.inr ⟨w.heap.size, _, _, rfl, hB, heap_alloc_new w.drew _, hge, hcm', ?_, ?_⟩⟩
    · simp only [Array.size_append, List.size_toArray, zeroCells_dig, hfl, List.length_replicate]
      omega
    · simp only [zeroCells_dig, Array.toList_append]
      rw [← hFl]
      exact List.take_left
/-- Digests that lie somewhere are put behind a row. -/
theorem run_append_digs {B : Nat} {w : World} {v u : Value} {ds ps : List (List UInt8)} (ty : TypeId) (h : DgRow B w v ds) (hu : DgAt w u ps) (hp0 : 0 < ps.length) (hl : ds.length ≤ 1000) (hl2 : ps.length ≤ 1000) (hB : B ≤ w.heap.size) :
    ∃ v' w', (Builtin.append_ #[69, 69] ty #[v, u]).run Tryd.prog w = .ok v' w' ∧ DgRow B w' v' (ds ++ ps) ∧ Below B w w' := by
  obtain ⟨ao, cp, rfl, _, hp, hs⟩ := hu
  obtain ⟨gs, off, rfl, _, hc⟩ := hs hp0
  obtain ⟨i, hi, hz0, hz1, hz2⟩ := info_parts info31
  have hfl : (ps.flatMap S.v8l).length = ps.length * 32 := flat_len ps hp
  have hsrc : ∀ j v, (ps.flatMap S.v8l)[j]? = some v → w.cell? ((⟨gs, off, none⟩ : Addr).add j) = some v := fun j v hv => by
    have hjl : j < ps.length * 32 := by rw [← hfl]; exact (List.getElem?_eq_some_iff.1 hv).1
    have hj : j = j / 32 * 32 + j % 32 := by omega
    rw [hj, flat_at ps hp (j / 32) (j % 32) (by omega) (by omega)] at hv
    rw [Addr.add_lit]
    have := hc (j / 32) (by omega) (j % 32) v hv
    rw [Nat.add_assoc, ← hj] at this
    exact this
  obtain ⟨v', w', h1, h2, h3, h4⟩ := run_append_own (P := Tryd.prog) w B 69 ty 30 i (.agg (S.v8 (S.zeros 32))) 32 32 Tryd.underlying69 hi hz0 hz1 hz2 (by rw [Value.cells, S.v8_size]; rfl) (by omega) v ds.length (ds.flatMap S.v8l) h ⟨gs, off, none⟩ ps.length cp (ps.flatMap S.v8l) hfl hsrc (flat_one ps) (by simp [maxLen]; omega) (by omega) hB
  have h2b : DgRow B w' v' (ds ++ ps) := by unfold DgRow; rw [List.length_append, List.flatMap_append]; exact h2
  exact ⟨v', w', h1, h2b, (Below.refl _ _).grown h3 hB (fun k hk => (DgRow.blk h hk).1)⟩
/-- No digest is put behind an empty row: it stays. -/
theorem run_append_nodigs {w : World} {g : Nat} {u : Value} (ty : TypeId) (hu : DgAt w u []) : (Builtin.append_ #[69, 69] ty #[.slice (some ⟨g, 0, none⟩) 0 0, u]).run Tryd.prog w = .ok (.slice (some ⟨g, 0, none⟩) 0 0) w := by
  obtain ⟨ao, cp, rfl, _, hp, hs⟩ := hu
  obtain ⟨i, hi, hz0, hz1, hz2⟩ := info_parts info31
  have hl0 : ∀ (x : Addr), (loadCells x 0).run Tryd.prog w = .ok #[] w := fun x => by simpa using run_loadCells_list (P := Tryd.prog) w x [] (by simp)
  cases ao with
  | none => simp [Builtin.append_, run_underlying Tryd.underlying69, Builtin.lenOf, Builtin.firstCells, sizeOf, typeInfo, hi, storeCells]
  | some x => simp [Builtin.append_, run_underlying Tryd.underlying69, Builtin.lenOf, Builtin.firstCells, sizeOf, typeInfo, hi, hl0, storeCells]
theorem DgRow.empty {w : World} {g : Nat} (h0 : w.heap[g]? = some (.cells #[] 30 (0, 0))) (B : Nat) (hB : B ≤ g) : DgRow B w (.slice (some ⟨g, 0, none⟩) 0 0) [] := ⟨rfl, Or.inr ⟨g, 0, #[], rfl, hB, h0, Nat.le_refl _, by simp [maxLen], rfl, rfl⟩⟩
/-- A copy of digests, behind an empty row. -/
theorem run_copied_digs {w : World} {g : Nat} {u : Value} {ps : List (List UInt8)} (ty : TypeId) (h0 : w.heap[g]? = some (.cells #[] 30 (0, 0))) (hu : DgAt w u ps) (hl : ps.length ≤ 1000) :
    ∃ v' w', (Builtin.append_ #[69, 69] ty #[.slice (some ⟨g, 0, none⟩) 0 0, u]).run Tryd.prog w = .ok v' w' ∧ (DgRow g w' v' ps ∧ (∃ g' c', v' = .slice (some ⟨g', 0, none⟩) ps.length c') ∧ Below g w w') := by
  have hrow := DgRow.empty h0 g (Nat.le_refl _)
  by_cases hp : ps.length = 0
  · have e : ps = [] := List.eq_nil_of_length_eq_zero hp
    subst e
    exact ⟨_, w, run_append_nodigs ty hu, hrow, ⟨g, 0, rfl⟩, Below.refl _ _⟩
  · obtain ⟨v', w', h1, h2, h3⟩ := run_append_digs ty hrow hu (by omega) (by simp) hl (Nat.le_of_lt (block_lt_of_row h0))
    rw [List.nil_append] at h2
    refine ⟨v', w', h1, h2, ?_, h3⟩
    rcases h2.2 with ⟨e, e2⟩ | ⟨g', c', _, e, _⟩
    · omega
    · exact ⟨g', c', e⟩
end Go.Proofs.YtllcnppcncegpaaDoor
