/- Steps of a way up, in memory: one step, rows of steps, a way that reads as its texts. -/
import Derived.Test.YtlbggkmblkhjoaaDoorVd
import Derived.Deep.LoopGhost
import Derived.Deep.DeepAppendRoom
namespace Go.Proofs.YtlbggkmblkhjoaaDoor
open Go.RowKit

/-- The cells of a step: its parts, its hash. -/
def S.stc (x : Value × List UInt8) : List Value := x.1 :: S.v8l x.2
theorem S.stc_length (x : Value × List UInt8) (h : x.2.length = 32) : (S.stc x).length = 33 := by simp [S.stc, S.v8l_length, h]
theorem S.stc_one (x : Value × List UInt8) (h : x.1.oneCell' = true) : ∀ v ∈ S.stc x, v.oneCell' = true := fun v hv => by
  rcases List.mem_cons.1 hv with rfl | hv
  · exact h
  · exact S.v8l_one _ v hv
theorem info91 : (Tryd.prog.info? 91).map (fun i => (i.zero, i.size, i.bytes)) = some (some (.agg (S.stc (.slice none 0 0, S.zeros 32)).toArray), 33, 56) := by kernel_rfl
theorem lay_at (off : Nat) (v cs : Array Value) (k : Nat) : (v.zipIdx.foldl (fun cs (x : Value × Nat) => cs.setIfInBounds (off + x.2) x.1) cs)[k]? = if off ≤ k ∧ k < off + v.size ∧ k < cs.size then v[k - off]? else cs[k]? := by
  obtain ⟨_, h⟩ := Great.foldl_set off v.toList 0 cs
  have e : v.zipIdx.foldl (fun cs (x : Value × Nat) => cs.setIfInBounds (off + x.2) x.1) cs = (v.toList.zipIdx 0).foldl (fun cs (x : Value × Nat) => cs.setIfInBounds (off + x.2) x.1) cs := by
    rw [← Array.foldl_toList, Array.toList_zipIdx]
  rw [e, h k]
  simp
set_option maxRecDepth 100000 in
theorem built91 (ao : Option Addr) (n c : Nat) (t : List UInt8) (ht : t.length = 32) : Tryd.prog.built 91 [(0, .slice ao n c), (1, .agg (S.v8 t))] = some (S.stc (.slice ao n c, t)).toArray := by
  have h : ∀ parts, Tryd.prog.built 91 parts = Instr.fill ((#[(0, 1), (1, 32)] : Array (Nat × Nat))[·]?) (S.stc (.slice none 0 0, S.zeros 32)).toArray parts := fun parts => by
    obtain ⟨i, hi, hz, _, _⟩ := info_parts info91
    unfold Program.built
    rw [hi, Tryd.underlying91]
    simp only [hz]
    rfl
  rw [h]
  have hl : (S.v8l t).length = 32 := by rw [S.v8l_length, ht]
  have hz : (S.stc (.slice none 0 0, S.zeros 32)).toArray.size = 33 := by rw [List.size_toArray, S.stc_length _ (S.zeros_length 32)]
  unfold Instr.fill
  simp only [show (#[(0, 1), (1, 32)] : Array (Nat × Nat))[0]? = some (0, 1) from rfl]
  rw [if_neg (by rw [hz]; simp [Value.cells])]
  unfold Instr.fill
  simp only [show (#[(0, 1), (1, 32)] : Array (Nat × Nat))[1]? = some (1, 32) from rfl]
  have c0 : (Value.slice ao n c).cells = #[.slice ao n c] := rfl
  have c1 : (Value.agg (S.v8 t)).cells = (S.v8l t).toArray := by rw [S.v8_eq]; rfl
  rw [c0, c1]
  have hs : (#[Value.slice ao n c].zipIdx.foldl (fun cs (x : Value × Nat) => cs.setIfInBounds (0 + x.2) x.1) (S.stc (.slice none 0 0, S.zeros 32)).toArray).size = 33 := by
    rw [← hz]; simp
  rw [if_neg (by rw [hs]; simp [hl])]
  unfold Instr.fill
  congr 1
  apply Array.ext_getElem?
  intro k
  have l1 := lay_at 1 (S.v8l t).toArray ((#[Value.slice ao n c].zipIdx.foldl (fun cs (x : Value × Nat) => cs.setIfInBounds (0 + x.2) x.1) (S.stc (.slice none 0 0, S.zeros 32)).toArray)) k
  have l0 := lay_at 0 #[Value.slice ao n c] (S.stc (.slice none 0 0, S.zeros 32)).toArray k
  refine l1.trans ?_
  rw [hs, l0, hz]
  simp only [S.stc, List.size_toArray, hl, List.getElem?_toArray]
  cases k with
  | zero => rw [if_neg (by omega), if_pos ⟨Nat.le_refl _, by simp, by omega⟩]; rfl
  | succ k =>
    rw [List.getElem?_cons_succ]
    by_cases hk : k < 32
    · rw [if_pos ⟨by omega, by omega, by omega⟩]; rfl
    · rw [if_neg (by omega), if_neg (by simp), List.getElem?_cons_succ, List.getElem?_eq_none (by rw [S.v8l_length, S.zeros_length]; omega), List.getElem?_eq_none (by omega)]
theorem build91 (ao : Option Addr) (n c : Nat) (t : List UInt8) (ht : t.length = 32) (w : World) : (Instr.build 91 #[(0, .slice ao n c), (1, .agg (S.v8 t))]).run Tryd.prog w = .ok (.agg (S.stc (.slice ao n c, t)).toArray) w :=
  run_build w 91 _ _ (built91 ao n c t ht)
theorem bs62one (x : Value × List UInt8) (hx : x.2.length = 32) (W : World) : (Instr.buildSlice 62 1 #[(0, .agg (S.stc x).toArray)]).run Tryd.prog W = .ok (.slice (some ⟨W.heap.size, 0, none⟩) 1 1) (W.alloc (.cells (S.stc x).toArray 91)) := by
  obtain ⟨i, hi, hz, hs, _⟩ := info_parts info91
  refine run_buildSlice W 62 91 1 _ _ i _ Tryd.underlying62 hi hz (by rw [hs]; omega) (by rw [hs]; omega) ?_
  have h := Great.fill_whole (s := 33) (by omega) [.agg (S.stc x).toArray] ((Array.range (1 * i.size)).map ((Value.agg (S.stc (.slice none 0 0, S.zeros 32)).toArray).cells[· % (Value.agg (S.stc (.slice none 0 0, S.zeros 32)).toArray).cells.size]!)) (fun v hv => by
    simp only [List.mem_singleton] at hv
    subst hv
    show (S.stc x).toArray.size = 33
    rw [List.size_toArray, S.stc_length x hx]) (by simp [hs])
  rw [hs] at h ⊢
  refine h.trans ?_
  simp [Value.cells]
theorem alloc91 (w : World) : (Instr.alloc 91 true (.tuple #[])).run Tryd.prog w = .ok (.pointer (some ⟨w.heap.size, 0, none⟩)) (w.alloc (.cells (S.stc (.slice none 0 0, S.zeros 32)).toArray 91)) := by
  obtain ⟨i, hi, hz, _, _⟩ := info_parts info91
  simp [Instr.alloc, zeroValue, typeInfo, hi, hz, newVar, newRow, Value.cells]
theorem size91 (x : Value × List UInt8) (hx : x.2.length = 32) : (Tryd.prog.info? 91).map (·.size) = some (S.stc x).toArray.size := by
  obtain ⟨i, hi, _, hs, _⟩ := info_parts info91
  rw [hi, List.size_toArray, S.stc_length x hx]
  simp [hs]
/-- A step is stored where noughts (or another step) lay. -/
theorem store_st {w : World} {g : Nat} {c : Array Value} {x : Value × List UInt8} (h : w.heap[g]? = some (.cells c 91 (0, 0))) (hc : c.size = 33) (hx : x.2.length = 32) (h1 : x.1.oneCell' = true) :
    ∃ w', (Instr.storeAt 91 (.pointer (some ⟨g, 0, none⟩)) (.agg (S.stc x).toArray)).run Tryd.prog w = .ok () w' ∧ w'.heap[g]? = some (.cells (S.stc x).toArray 91 (0, 0)) ∧ Chg (fun k => k = g) w w' ∧ w'.heap.size = w.heap.size := by
  have hr := run_storeVar_row (P := Tryd.prog) w g 91 91 c (S.stc x).toArray h (size91 x hx) (by rw [hc, List.size_toArray, S.stc_length x hx]) (all_oneCell_toArray (S.stc_one x h1))
  refine ⟨w.setRow g (S.stc x).toArray, ?_, setRow_heap _ _ _ _ _ _ h, ?_, ?_⟩
  · simp only [Instr.storeAt, Instr.sureAddr, Sem.run_bind, Sem.run_pure, Result.andThen_ok, hr]
  · exact ⟨rfl, rfl, rfl, by simp, fun k _ hk => setRow_other _ _ _ _ hk⟩
  · simp
/-- A step is laid into a new variable. -/
theorem lay_st (w : World) (x : Value × List UInt8) (hx : x.2.length = 32) (h1 : x.1.oneCell' = true) : ∃ A Y, (Instr.alloc 91 true (.tuple #[])).run Tryd.prog w = .ok (.pointer (some ⟨w.heap.size, 0, none⟩)) A ∧ (Instr.storeAt 91 (.pointer (some ⟨w.heap.size, 0, none⟩)) (.agg (S.stc x).toArray)).run Tryd.prog A = .ok () Y ∧ Y.heap[w.heap.size]? = some (.cells (S.stc x).toArray 91 (0, 0)) ∧ Below w.heap.size w Y ∧ Y.heap.size = w.heap.size + 1 := by
  obtain ⟨Y, q1, q2, q3, q4⟩ := store_st (w := w.alloc (.cells (S.stc (.slice none 0 0, S.zeros 32)).toArray 91)) (g := w.heap.size) (x := x) (heap_alloc_new _ _) (by rw [List.size_toArray, S.stc_length _ (S.zeros_length 32)]) hx h1
  exact ⟨_, Y, alloc91 w, q1, q2, ((Below.refl _ _).alloc (Nat.le_refl _) _).trans (q3.below _ (by simp) (fun k hk e => by omega)), by rw [q4]; simp⟩
/-- The parts of a step that reads as the text t. -/
def PartsAt (w : World) (v : Value) (t : List UInt8) : Prop := ∃ g n bss, v = .slice (some ⟨g, 0, none⟩) n n ∧ n = bss.length ∧ n ≤ 3 ∧ ListAt w g bss ∧ bss.flatten = t
theorem PartsAt.below {w w' : World} {v : Value} {t : List UInt8} (h : PartsAt w v t) (hb : Below w.heap.size w w') : PartsAt w' v t := by
  obtain ⟨g, n, bss, h1, h2, h3, h4, h5⟩ := h
  exact ⟨g, n, bss, h1, h2, h3, h4.below hb (Nat.le_refl _), h5⟩
theorem PartsAt.one {w : World} {v : Value} {t : List UInt8} (h : PartsAt w v t) : v.oneCell' = true := by
  obtain ⟨g, n, bss, rfl, _⟩ := h
  rfl
theorem sflat_len (xs : List (Value × List UInt8)) (h : ∀ x ∈ xs, x.2.length = 32) : (xs.flatMap S.stc).length = xs.length * 33 := by
  induction xs with
  | nil => rfl
  | cons x xs ih =>
    rw [List.flatMap_cons, List.length_append, S.stc_length x (h x (by simp)), ih (fun y hy => h y (by simp [hy])), List.length_cons]
    omega
theorem sflat_at (xs : List (Value × List UInt8)) (h : ∀ x ∈ xs, x.2.length = 32) (j k : Nat) (hj : j < xs.length) (hk : k < 33) : (xs.flatMap S.stc)[j * 33 + k]? = (S.stc (xs[j]'hj))[k]? := by
  induction xs generalizing j with
  | nil => simp at hj
  | cons x xs ih =>
    have hd : (S.stc x).length = 33 := S.stc_length x (h x (by simp))
    rw [List.flatMap_cons]
    cases j with
    | zero => rw [List.getElem?_append_left (by omega)]; simp
    | succ j =>
      rw [List.getElem?_append_right (by omega), hd, show (j + 1) * 33 + k - 33 = j * 33 + k by omega, ih (fun y hy => h y (by simp [hy])) j (by simpa using hj)]
      simp
/-- A way up, in memory: a row of steps of one's own that read as the texts ts. -/
structure WyIs (a : Int) (B : Nat) (w : World) (v : Value) (ts : List (List UInt8)) : Prop where
  ex : ∃ xs : List (Value × List UInt8), w.ownsRow B 91 33 v xs.length (xs.flatMap S.stc) ∧ xs.length = ts.length ∧ ∀ (j : Nat) x, xs[j]? = some x → x.2 = S.hsh a (ts.getD j []) ∧ ∀ W, Chg (fun k => v.ownBlock = some k) w W → PartsAt W x.1 (ts.getD j [])
theorem WyIs.form {a : Int} {B : Nat} {w : World} {v : Value} {ts : List (List UInt8)} (h : WyIs a B w v ts) : ∃ ao cap, v = .slice ao ts.length cap := by
  obtain ⟨xs, h1, h2, _⟩ := h.ex
  rcases h1.2 with ⟨rfl, h0⟩ | ⟨g, cap, cur, rfl, _⟩
  · exact ⟨none, 0, by rw [← h2, h0]⟩
  · exact ⟨_, _, by rw [← h2]⟩
theorem WyIs.blk {a : Int} {B : Nat} {w : World} {v : Value} {ts : List (List UInt8)} (h : WyIs a B w v ts) {k : Nat} (hk : v.ownBlock = some k) : B ≤ k ∧ k < w.heap.size := by
  obtain ⟨xs, h1, h2, _⟩ := h.ex
  rcases h1.2 with ⟨rfl, h0⟩ | ⟨g, cap, cur, rfl, hB, hr, _⟩
  · simp [Value.ownBlock] at hk
  · simp only [Value.ownBlock, Option.some.injEq] at hk
    subst hk
    exact ⟨hB, block_lt_of_row hr⟩
theorem WyIs.mono {a : Int} {B B' : Nat} {w : World} {v : Value} {ts : List (List UInt8)} (h : WyIs a B w v ts) (hB : B' ≤ B) : WyIs a B' w v ts := by
  obtain ⟨xs, h1, h2, h3⟩ := h.ex
  refine ⟨xs, ⟨h1.1, ?_⟩, h2, h3⟩
  rcases h1.2 with h0 | ⟨g, cap, cur, q1, q2, q3⟩
  · exact Or.inl h0
  · exact Or.inr ⟨g, cap, cur, q1, Nat.le_trans hB q2, q3⟩
theorem WyIs.below {a : Int} {B : Nat} {w W : World} {v : Value} {ts : List (List UInt8)} (h : WyIs a B w v ts) (hb : Below w.heap.size w W) : WyIs a B W v ts := by
  obtain ⟨xs, h1, h2, h3⟩ := h.ex
  refine ⟨xs, ⟨h1.1, ?_⟩, h2, fun j x hj => ⟨(h3 j x hj).1, fun W' hW' => (h3 j x hj).2 W' ?_⟩⟩
  · rcases h1.2 with h0 | ⟨g, cap, cur, q1, q2, q3, q4⟩
    · exact Or.inl h0
    · exact Or.inr ⟨g, cap, cur, q1, q2, (hb.block _ (block_lt_of_row q3)).trans q3, q4⟩
  · exact ((Chg.ofBelow' hb).mono (q := fun k => v.ownBlock = some k) (fun _ _ e => False.elim e)).trans hW' (fun _ _ e => e)
theorem WyIs.len32 {a : Int} {ts : List (List UInt8)} {xs : List (Value × List UInt8)} (h : ∀ (j : Nat) x, xs[j]? = some x → x.2 = S.hsh a (ts.getD j [])) : ∀ x ∈ xs, x.2.length = 32 := fun x hx => by
  obtain ⟨j, hj⟩ := List.getElem?_of_mem hx
  rw [h j x hj, S.hsh_length]
/-- What lies at a place of a way. -/
theorem WyIs.at {a : Int} {B : Nat} {w : World} {v : Value} {ts : List (List UInt8)} (h : WyIs a B w v ts) (j : Nat) (hj : j < ts.length) :
    ∃ g cap pv, v = .slice (some ⟨g, 0, none⟩) ts.length cap ∧ g < w.heap.size ∧ w.rangeAt g (j * 33) (S.stc (pv, S.hsh a (ts.getD j []))) ∧ w.rangeAt g (j * 33 + 1) (S.v8l (S.hsh a (ts.getD j []))) ∧ PartsAt w pv (ts.getD j []) := by
  obtain ⟨xs, h1, h2, h3⟩ := h.ex
  have hx : xs[j]? = some (xs[j]'(by omega)) := List.getElem?_eq_getElem _
  obtain ⟨e1, e2⟩ := h3 j _ hx
  have hl := WyIs.len32 (fun j x hj => (h3 j x hj).1)
  rcases h1.2 with ⟨rfl, h0⟩ | ⟨g, cap, cur, rfl, hB, hr, q1, q2, q3, q4⟩
  · omega
  · have hall : ∀ k u, (S.stc (xs[j]'(by omega)))[k]? = some u → w.cell? ⟨g, j * 33 + k, none⟩ = some u := fun k u hu => by
      have hk : k < 33 := by
        have := (List.getElem?_eq_some_iff.1 hu).1
        rwa [S.stc_length _ (hl _ (List.getElem_mem _))] at this
      rw [← sflat_at xs hl j k (by omega) hk, ← q4, List.getElem?_take, if_pos (by omega)] at hu
      rw [cell_of_row w g (j * 33 + k) _ _ _ hr]
      simpa using hu
    refine ⟨g, cap, (xs[j]'(by omega)).1, by rw [← h2], block_lt_of_row hr, fun k u hu => hall k u ?_, fun k u hu => ?_, e2 w (Chg.refl _ _)⟩
    · rw [← e1] at hu; exact hu
    · rw [Nat.add_assoc, Nat.add_comm 1 k]
      refine hall (k + 1) u ?_
      rw [← e1] at hu
      exact hu
/-- The first step of a way is laid. -/
theorem wy_one {a : Int} {W : World} {g B : Nat} {x : Value × List UInt8} {t : List UInt8} (h : W.heap[g]? = some (.cells (S.stc x).toArray 91 (0, 0))) (hx : x.2 = S.hsh a t) (hB : B ≤ g) (hp : ∀ W', Chg (fun k => k = g) W W' → PartsAt W' x.1 t) : WyIs a B W (.slice (some ⟨g, 0, none⟩) 1 1) [t] := by
  have hl : x.2.length = 32 := by rw [hx, S.hsh_length]
  refine ⟨[x], ⟨by simp [S.stc_length x hl], Or.inr ⟨g, 1, (S.stc x).toArray, rfl, hB, h, by simp, by simp [maxLen], by simp [S.stc_length x hl], ?_⟩⟩, rfl, fun j y hj => ?_⟩
  · simp [List.take_of_length_le, S.stc_length x hl]
  · have hj0 : j = 0 := by
      have := (List.getElem?_eq_some_iff.1 hj).1
      simpa using this
    subst hj0
    simp only [List.getElem?_cons_zero, Option.some.injEq] at hj
    subst hj
    refine ⟨hx, fun W' hW' => hp W' (hW'.mono (fun k _ e => ?_))⟩
    simp only [Value.ownBlock, Option.some.injEq] at e
    exact e.symm
/-- A step is put behind a way. -/
theorem run_append_st (a : Int) (w : World) (B g : Nat) (v : Value) (ts : List (List UInt8)) (x : Value × List UInt8) (t : List UInt8) (ty : TypeId) (h : WyIs a B w v ts) (hx : x.2 = S.hsh a t) (h1 : x.1.oneCell' = true) (hu : w.heap[g]? = some (.cells (S.stc x).toArray 91 (0, 0))) (hp : ∀ W, Chg (fun k => v.ownBlock = some k) w W → PartsAt W x.1 t) (hl : ts.length ≤ 100000) (hB : B ≤ w.heap.size) :
    ∃ v' w', (Builtin.append_ #[62, 62] ty #[v, .slice (some ⟨g, 0, none⟩) 1 1]).run Tryd.prog w = .ok v' w' ∧ (WyIs a B w' v' (ts ++ [t]) ∧ Chg (fun k => v.ownBlock = some k) w w') := by
  obtain ⟨xs, p1, p2, p3⟩ := h.ex
  have hxl : x.2.length = 32 := by rw [hx, S.hsh_length]
  obtain ⟨i, hi, hz0, hz1, hz2⟩ := info_parts info91
  have hc : ∀ j y, (S.stc x)[j]? = some y → w.cell? ((⟨g, 0, none⟩ : Addr).add j) = some y := fun j y hy => by
    rw [Addr.add_lit, Nat.zero_add, cell_of_row w g j _ _ _ hu]
    simpa using hy
  obtain ⟨v', w', r1, r2, r3, r4⟩ := run_append_own (P := Tryd.prog) w B 62 ty 91 i (.agg (S.stc (.slice none 0 0, S.zeros 32)).toArray) 33 56 Tryd.underlying62 hi hz0 hz1 hz2 (by rw [Value.cells, List.size_toArray, S.stc_length _ (S.zeros_length 32)]) (by omega) v xs.length (xs.flatMap S.stc) p1 ⟨g, 0, none⟩ 1 1 (S.stc x) (by rw [S.stc_length x hxl]) hc (S.stc_one x h1) (by simp [maxLen]; omega) (by omega) hB
  have hown : v'.ownBlock = v.ownBlock ∨ v'.ownBlock = some w.heap.size := by
    rcases p1.2 with ⟨rfl, h0⟩ | ⟨g', cap, cur, rfl, q1, q2, q3, q4, q5, q6⟩
    · have hr := run_append_nil (P := Tryd.prog) w 62 ty 91 i (.agg (S.stc (.slice none 0 0, S.zeros 32)).toArray) Tryd.underlying62 hi hz0 ⟨g, 0, none⟩ 1 1 (S.stc x) (by rw [S.stc_length x hxl, hz1]) hc (by omega) (by omega) (by rw [hz2]; omega)
      rw [hr] at r1
      simp only [Result.ok.injEq] at r1
      rw [← r1.1]
      exact Or.inr rfl
    · by_cases hroom : xs.length + 1 ≤ cap
      · obtain ⟨w2, hr, _⟩ := run_append_own_spare (P := Tryd.prog) w B 62 ty 91 i 33 Tryd.underlying62 hi hz1 g' xs.length cap (xs.flatMap S.stc) p1 ⟨g, 0, none⟩ 1 1 (S.stc x) (by rw [S.stc_length x hxl]) hc (S.stc_one x h1) hroom
        rw [hr] at r1
        simp only [Result.ok.injEq] at r1
        rw [← r1.1]
        exact Or.inl rfl
      · have holds : ∀ j u, (xs.flatMap S.stc)[j]? = some u → w.cell? ((⟨g', 0, none⟩ : Addr).add j) = some u := p1.cells (g := g') rfl
        have hr := run_append_grow (P := Tryd.prog) w 62 ty 91 i (.agg (S.stc (.slice none 0 0, S.zeros 32)).toArray) Tryd.underlying62 hi hz0 ⟨g', 0, none⟩ xs.length cap (xs.flatMap S.stc) (by rw [hz1]; exact p1.1) holds ⟨g, 0, none⟩ 1 1 (S.stc x) (by rw [S.stc_length x hxl, hz1]) hc (by omega) (by omega) (growslice_fits (by omega) (by rw [hz2]; omega))
        rw [hr] at r1
        simp only [Result.ok.injEq] at r1
        rw [← r1.1]
        exact Or.inr rfl
  have hch : Chg (fun k => v.ownBlock = some k) w w' := (Chg.refl _ w).grown r3 (fun k _ e => e)
  have hall : ∀ W, Chg (fun k => v'.ownBlock = some k) w' W → Chg (fun k => v.ownBlock = some k) w W := fun W hW => hch.trans hW (fun j hj e => by
    rcases hown with a3 | a3
    · rw [← a3]; exact e
    · rw [a3] at e; simp only [Option.some.injEq] at e; omega)
  refine ⟨v', w', r1, ⟨xs ++ [x], ?_, by simp [p2], fun j y hj => ?_⟩, hch⟩
  · rw [List.length_append, List.flatMap_append]; simpa using r2
  · by_cases hjl : j < xs.length
    · rw [List.getElem?_append_left hjl] at hj
      obtain ⟨f, q⟩ := p3 j y hj
      rw [List.getD_eq_getElem?_getD, List.getElem?_append_left (by omega), ← List.getD_eq_getElem?_getD]
      exact ⟨f, fun W hW => q W (hall W hW)⟩
    · have hlt := (List.getElem?_eq_some_iff.1 hj).1
      rw [List.length_append] at hlt
      simp only [List.length_cons, List.length_nil] at hlt
      obtain rfl : j = xs.length := by omega
      rw [List.getElem?_append_right (Nat.le_refl _), Nat.sub_self] at hj
      simp only [List.getElem?_cons_zero, Option.some.injEq] at hj
      subst hj
      rw [List.getD_eq_getElem?_getD, p2, List.getElem?_append_right (Nat.le_refl _), Nat.sub_self]
      exact ⟨hx, fun W hW => hp W (hall W hW)⟩
end Go.Proofs.YtlbggkmblkhjoaaDoor
