/- Caveats and tokens, in memory. -/
import Derived.Test.YtlcilclhaahopaaDoorFa
import Derived.Test.YtlcilclhaahopaaDoorWrb
import Derived.Test.YtlcilclhaahopaaDoorMac
import Derived.Deep.MidRow
namespace Go.Proofs.YtlcilclhaahopaaDoor
open Go.RowKit

namespace S
/-- A number as a word of 64 bits. -/
def u64 (x : Int) : Nat := (x % 18446744073709551616).toNat
theorem u64_wrap (x : Int) : IntKind.u64.wrap x = (u64 x : Int) := by rw [IntKind.wrap_u64, u64]; omega
theorem u64_lt (x : Int) : u64 x < 18446744073709551616 := by rw [u64]; omega
/-- A caveat. -/
structure Cv where
  k : Int
  n : Nat
deriving DecidableEq
/-- A token. -/
structure Tk where
  id : Nat
  cs : List Cv
  tag : List UInt8
def c0 : Cv := ⟨0, 0⟩
def t0 : Tk := ⟨0, [], zeros 32⟩
structure Cv.Ok (c : Cv) : Prop where
  k1 : -9223372036854775808 ≤ c.k
  k2 : c.k ≤ 9223372036854775807
  n2 : c.n < 4294967296
structure Tk.Ok (t : Tk) : Prop where
  id2 : t.id < 4294967296
  tl : t.tag.length = 32
  cs : ∀ c ∈ t.cs, c.Ok
  len : t.cs.length ≤ 140737488355328
/-- Is its kind none of those that there are? -/
def odd (c : Cv) : Bool := !(decide (c.k = 1) || decide (c.k = 2) || decide (c.k = 3))
def mintText (id : Nat) : List UInt8 := [116, 111, 107, 101, 110] ++ num id 4
def mint (r : List UInt8) (id : Nat) : Tk := ⟨id, [], mac r (mintText id)⟩
/-- What is tagged of a caveat. -/
def cb (c : Cv) : List UInt8 := num (u64 c.k) 1 ++ num c.n 4
theorem cb_length (c : Cv) : (cb c).length = 5 := by simp [cb, num_length]
theorem mintText_length (id : Nat) : (mintText id).length = 9 := by simp [mintText, num_length]
theorem mint_tag (r : List UInt8) (id : Nat) : (mint r id).tag.length = 32 := by simp only [mint, mac_length]
def narrow (t : Tk) (c : Cv) : Tk × Int := if odd c then (t0, 1) else if 4 ≤ t.cs.length then (t0, 4) else (⟨t.id, t.cs ++ [c], mac t.tag (cb c)⟩, 0)
def makes (t : Tk) : List Cv → Option Tk
  | [] => some t
  | c :: cs => if (narrow t c).2 = 0 then makes (narrow t c).1 cs else none
def genuine (r : List UInt8) (t : Tk) : Bool := match makes (mint r t.id) t.cs with
  | some m => decide (m.tag = t.tag)
  | none => false
def permits (c : Cv) (op tree : Int) (clock : Nat) : Bool := if c.k = 1 then decide (tree = (c.n : Int)) else if c.k = 2 then decide (op < (c.n : Int)) else if c.k = 3 then decide (clock < c.n) else false
def holds (cs : List Cv) (op tree : Int) (clock : Nat) : Bool := cs.all (fun c => permits c op tree clock)
theorem t0_ok : t0.Ok := ⟨by simp [t0], zeros_length 32, by simp [t0], by simp [t0]⟩
theorem mint_ok (r : List UInt8) (id : Nat) (h : id < 4294967296) : (mint r id).Ok := ⟨h, mint_tag r id, by simp [mint], by simp [mint]⟩
theorem narrow_ok (t : Tk) (c : Cv) (h : t.Ok) (hc : c.Ok) : (narrow t c).1.Ok := by
  unfold narrow
  split
  · exact t0_ok
  · split
    · exact t0_ok
    · refine ⟨h.id2, by simp only [mac_length], fun d hd => ?_, ?_⟩
      · rcases List.mem_append.1 hd with hd | hd
        · exact h.cs d hd
        · rw [List.mem_singleton.1 hd]; exact hc
      · show (t.cs ++ [c]).length ≤ _
        simp; omega
theorem narrow_le (t : Tk) (c : Cv) (h : t.cs.length ≤ 4) : (narrow t c).1.cs.length ≤ 4 := by
  unfold narrow
  split
  · simp [t0]
  · split
    · simp [t0]
    · simp; omega
end S
def encC (c : S.Cv) : List Value := [.int .i64 c.k, .int .u32 (c.n : Int)]
theorem encC_length (c : S.Cv) : (encC c).length = 2 := rfl
theorem encC_one (c : S.Cv) : ∀ u ∈ encC c, u.oneCell' = true := fun u hu => by
  simp only [encC, List.mem_cons, List.not_mem_nil, or_false] at hu
  rcases hu with rfl | rfl <;> rfl
/-- A token as cells: its number, its caveats (a slice), its tag. -/
def encT (id : Nat) (cv : Value) (tag : List UInt8) : List Value := .int .u32 (id : Int) :: cv :: S.v8l tag
theorem encT_length (id : Nat) (cv : Value) (tag : List UInt8) (h : tag.length = 32) : (encT id cv tag).length = 34 := by simp [encT, S.v8l_length, h]
theorem encT_one (id : Nat) (ao : Option Addr) (n c : Nat) (tag : List UInt8) : ∀ u ∈ encT id (.slice ao n c) tag, u.oneCell' = true := fun u hu => by
  rcases List.mem_cons.1 hu with rfl | hu
  · rfl
  rcases List.mem_cons.1 hu with rfl | hu
  · rfl
  · exact S.v8l_one _ u hu
/-- A slice of caveats that reads so. -/
def CvAt (w : World) (v : Value) (l : List S.Cv) : Prop :=
  ∃ ao cap, v = .slice ao l.length cap ∧ l.length ≤ cap ∧ (ao = none → cap = 0) ∧ (0 < l.length → ∃ g off, ao = some ⟨g, off, none⟩ ∧ g < w.heap.size ∧ ∀ j x, l[j]? = some x → w.rangeAt g (off + j * 2) (encC x))
theorem CvAt.nil (w : World) : CvAt w (.slice none 0 0) [] := ⟨none, 0, rfl, by simp, fun _ => rfl, fun h => by simp at h⟩
theorem CvAt.chg {p : Nat → Prop} {w W : World} {v : Value} {l : List S.Cv} (h : CvAt w v l) (hb : Chg p w W) (hp : ∀ g off n c, v = .slice (some ⟨g, off, none⟩) n c → ¬ p g) : CvAt W v l := by
  obtain ⟨ao, cap, h1, h2, h3, h4⟩ := h
  refine ⟨ao, cap, h1, h2, h3, fun hp0 => ?_⟩
  obtain ⟨g, off, e, hg, hc⟩ := h4 hp0
  subst e
  exact ⟨g, off, rfl, Nat.lt_of_lt_of_le hg hb.size, fun j x hx i u hu => (World.cell?_of_block (a := ⟨g, off + j * 2 + i, none⟩) (hb.block g hg (hp _ _ _ _ h1))).trans (hc j x hx i u hu)⟩
theorem CvAt.below {w W : World} {v : Value} {l : List S.Cv} (h : CvAt w v l) (hb : Below w.heap.size w W) : CvAt W v l := h.chg (p := fun _ => False) (Chg.ofBelow' hb) (fun _ _ _ _ _ e => e)
theorem CvAt.form {w : World} {v : Value} {l : List S.Cv} (h : CvAt w v l) : ∃ ao n cap, v = .slice ao n cap ∧ n = l.length ∧ n ≤ cap := by
  obtain ⟨ao, cap, h1, h2, _⟩ := h
  exact ⟨ao, _, cap, h1, rfl, h2⟩
theorem CvAt.src {w : World} {v : Value} {l : List S.Cv} (h : CvAt w v l) : Sce encC w v l := by
  obtain ⟨ao, cap, rfl, h2, h3, h4⟩ := h
  cases ao with
  | none =>
    have e := h3 rfl
    subst e
    have : l = [] := List.length_eq_zero_iff.1 (by omega)
    subst this
    exact Or.inl ⟨rfl, rfl⟩
  | some a =>
    refine Or.inr ⟨a, cap, rfl, fun j y hy => ?_⟩
    have hj := (List.getElem?_eq_some_iff.1 hy).1
    rw [flat_gen (k := 2) l (fun x _ => encC_length x)] at hj
    obtain ⟨g, off, e, hg, hc⟩ := h4 (by omega)
    injection e with e
    subst e
    have hl : j / 2 < l.length := by omega
    have hf := flat_get (k := 2) l (fun x _ => encC_length x) (j / 2) (j % 2) hl (by omega)
    have e2 : j / 2 * 2 + j % 2 = j := by omega
    rw [e2, hy] at hf
    have := hc (j / 2) _ (List.getElem?_eq_getElem hl) (j % 2) y hf.symm
    rw [show off + j / 2 * 2 + j % 2 = off + j by omega] at this
    rw [Addr.add_lit]
    exact this
/-- A row of caveats of one's own. -/
abbrev CRow := Rw 42 2 encC
theorem CRow.at {B : Nat} {w : World} {v : Value} {l : List S.Cv} (h : CRow B w v l) : CvAt w v l := by
  rcases h.2 with ⟨rfl, h0⟩ | ⟨g, cap, cur, rfl, hB, hr, q1, q2, q3, q4⟩
  · rw [List.length_eq_zero_iff.1 h0]; exact CvAt.nil w
  · refine ⟨_, cap, rfl, q1, fun e => by simp at e, fun _ => ⟨g, 0, rfl, block_lt_of_row hr, fun j x hx => ?_⟩⟩
    obtain ⟨g', cap', e, _, _, hr'⟩ := Rw.at_ h (fun y _ => encC_length y) j x hx
    simp only [Value.slice.injEq, Option.some.injEq, Addr.mk.injEq] at e
    obtain ⟨⟨rfl, _, _⟩, _, rfl⟩ := e
    rw [Nat.zero_add]
    exact hr'
/-- The cells of a caveat in a row. -/
theorem CvAt.cells {w : World} {v : Value} {l : List S.Cv} (h : CvAt w v l) (j : Nat) (x : S.Cv) (hx : l[j]? = some x) : ∃ g off cap, v = .slice (some ⟨g, off, none⟩) l.length cap ∧ l.length ≤ cap ∧ g < w.heap.size ∧ w.rangeAt g (off + j * 2) (encC x) := by
  obtain ⟨ao, cap, rfl, h2, h3, h4⟩ := h
  obtain ⟨g, off, rfl, hg, hc⟩ := h4 (by have := (List.getElem?_eq_some_iff.1 hx).1; omega)
  exact ⟨g, off, cap, rfl, h2, hg, hc j x hx⟩
theorem info42 : (Tryd.prog.info? 42).map (fun i => (i.zero, i.size, i.bytes)) = some (some (.agg (encC S.c0).toArray), 2, 16) := by kernel_rfl
theorem info27t : (Tryd.prog.info? 27).map (fun i => (i.zero, i.size, i.bytes)) = some (some (.agg (encT 0 (.slice none 0 0) (S.zeros 32)).toArray), 34, 64) := by kernel_rfl
theorem kdC : Kd Tryd.prog 23 42 2 16 encC := by
  obtain ⟨i, hi, h1, h2, h3⟩ := info_parts info42
  exact ⟨Tryd.underlying23, ⟨i, _, hi, h1, h2, h3, rfl⟩, by omega, by omega, encC_one⟩
theorem size_c (c : S.Cv) : (Tryd.prog.info? 42).map (·.size) = some (encC c).toArray.size := by
  obtain ⟨i, hi, _, hs, _⟩ := info_parts info42
  rw [hi, List.size_toArray, encC_length c]
  simp [hs]
theorem size_t (id : Nat) (cv : Value) (tag : List UInt8) (h : tag.length = 32) : (Tryd.prog.info? 27).map (·.size) = some (encT id cv tag).toArray.size := by
  obtain ⟨i, hi, _, hs, _⟩ := info_parts info27t
  rw [hi, List.size_toArray, encT_length id cv tag h]
  simp [hs]
abbrev tk0 : Array Value := (encT 0 (.slice none 0 0) (S.zeros 32)).toArray
theorem tk0_size : tk0.size = 34 := by rw [List.size_toArray, encT_length _ _ _ (S.zeros_length 32)]
theorem alloc27 (w : World) : (Instr.alloc 27 true (.tuple #[])).run Tryd.prog w = .ok (.pointer (some ⟨w.heap.size, 0, none⟩)) (w.alloc (.cells tk0 27)) := by
  obtain ⟨i, hi, hz, _, _⟩ := info_parts info27t
  simp [Instr.alloc, zeroValue, typeInfo, hi, hz, newVar, newRow, Value.cells]
theorem alloc42 (w : World) : (Instr.alloc 42 true (.tuple #[])).run Tryd.prog w = .ok (.pointer (some ⟨w.heap.size, 0, none⟩)) (w.alloc (.cells (encC S.c0).toArray 42)) := by
  obtain ⟨i, hi, hz, _, _⟩ := info_parts info42
  simp [Instr.alloc, zeroValue, typeInfo, hi, hz, newVar, newRow, Value.cells]
/-- A token is stored where another one lay. -/
theorem store_t {w : World} {g : Nat} {c : Array Value} {id : Nat} {ao : Option Addr} {n m : Nat} {tag : List UInt8} (h : w.heap[g]? = some (.cells c 27 (0, 0))) (hc : c.size = 34) (ht : tag.length = 32) :
    ∃ w', (Instr.storeAt 27 (.pointer (some ⟨g, 0, none⟩)) (.agg (encT id (.slice ao n m) tag).toArray)).run Tryd.prog w = .ok () w' ∧ w'.heap[g]? = some (.cells (encT id (.slice ao n m) tag).toArray 27 (0, 0)) ∧ Chg (fun k => k = g) w w' ∧ w'.heap.size = w.heap.size := by
  have hr := run_storeVar_row (P := Tryd.prog) w g 27 27 c (encT id (.slice ao n m) tag).toArray h (size_t _ _ _ ht) (by rw [hc, List.size_toArray, encT_length _ _ _ ht]) (all_oneCell_toArray (encT_one _ _ _ _ _))
  refine ⟨w.setRow g (encT id (.slice ao n m) tag).toArray, ?_, setRow_heap _ _ _ _ _ _ h, ?_, ?_⟩
  · simp only [Instr.storeAt, Instr.sureAddr, Sem.run_bind, Sem.run_pure, Result.andThen_ok, hr]
  · exact ⟨rfl, rfl, rfl, by simp, fun k _ hk => setRow_other _ _ _ _ hk⟩
  · simp
/-- A token is laid into a new variable. -/
theorem lay_t (w : World) (id : Nat) (ao : Option Addr) (n m : Nat) (tag : List UInt8) (ht : tag.length = 32) : ∃ A Y, (Instr.alloc 27 true (.tuple #[])).run Tryd.prog w = .ok (.pointer (some ⟨w.heap.size, 0, none⟩)) A ∧ (Instr.storeAt 27 (.pointer (some ⟨w.heap.size, 0, none⟩)) (.agg (encT id (.slice ao n m) tag).toArray)).run Tryd.prog A = .ok () Y ∧ Y.heap[w.heap.size]? = some (.cells (encT id (.slice ao n m) tag).toArray 27 (0, 0)) ∧ Below w.heap.size w Y ∧ Y.heap.size = w.heap.size + 1 := by
  obtain ⟨Y, q1, q2, q3, q4⟩ := store_t (w := w.alloc (.cells tk0 27)) (g := w.heap.size) (id := id) (ao := ao) (n := n) (m := m) (tag := tag) (heap_alloc_new _ _) tk0_size ht
  exact ⟨_, Y, alloc27 w, q1, q2, ((Below.refl _ _).alloc (Nat.le_refl _) _).trans (q3.below _ (by simp) (fun k hk e => by omega)), by rw [q4]; simp⟩
theorem load_t {w : World} {g id : Nat} {cv : Value} {tag : List UInt8} (h : w.heap[g]? = some (.cells (encT id cv tag).toArray 27 (0, 0))) (ht : tag.length = 32) : (Instr.loadAt 27 (.pointer (some ⟨g, 0, none⟩))).run Tryd.prog w = .ok (.agg (encT id cv tag).toArray) w := by
  have := run_loadVar_row (P := Tryd.prog) w g 27 27 (encT id cv tag).toArray (0, 0) _ h Tryd.underlying27 rfl (size_t _ _ _ ht)
  simp only [Instr.loadAt, Instr.sureAddr, Sem.run_bind, Sem.run_pure, Result.andThen_ok, this]
theorem load_digv {w : World} {g : Nat} {d : List UInt8} (h : w.heap[g]? = some (.cells (S.v8 d) 25 (0, 0))) (hd : d.length = 32) : (Instr.loadAt 25 (.pointer (some ⟨g, 0, none⟩))).run Tryd.prog w = .ok (.agg (S.v8 d)) w := by
  have := run_loadVar_row (P := Tryd.prog) w g 25 25 (S.v8 d) (0, 0) _ h Tryd.underlying25 rfl (size_dig d hd)
  simp only [Instr.loadAt, Instr.sureAddr, Sem.run_bind, Sem.run_pure, Result.andThen_ok, this]
/-- The cells of a token. -/
theorem t_cells {w : World} {g id : Nat} {cv : Value} {tag : List UInt8} {ty : TypeId} (h : w.heap[g]? = some (.cells (encT id cv tag).toArray ty (0, 0))) :
    w.cell? ⟨g, 0, none⟩ = some (.int .u32 (id : Int)) ∧ w.cell? ⟨g, 1, none⟩ = some cv := by
  refine ⟨?_, ?_⟩ <;> (rw [cell_of_row w g _ _ _ _ h]; simp [encT])
theorem c_cells {w : World} {g : Nat} {c : S.Cv} {ty : TypeId} (h : w.heap[g]? = some (.cells (encC c).toArray ty (0, 0))) :
    w.cell? ⟨g, 0, none⟩ = some (.int .i64 c.k) ∧ w.cell? ⟨g, 1, none⟩ = some (.int .u32 (c.n : Int)) := by
  refine ⟨?_, ?_⟩ <;> (rw [cell_of_row w g _ _ _ _ h]; simp [encC])
theorem t_tag {w : World} {g id : Nat} {cv : Value} {tag : List UInt8} {ty : TypeId} (h : w.heap[g]? = some (.cells (encT id cv tag).toArray ty (0, 0))) : w.rangeAt g 2 (S.v8l tag) := fun j v hv => by
  rw [cell_of_row w g _ _ _ _ h, show 2 + j = j + 2 by omega]
  simpa [encT] using hv
theorem load_tt {w : World} {g id : Nat} {cv : Value} {tag : List UInt8} {ty : TypeId} (h : w.heap[g]? = some (.cells (encT id cv tag).toArray ty (0, 0))) (ht : tag.length = 32) : (Instr.loadAt 25 (.pointer (some ⟨g, 2, none⟩))).run Tryd.prog w = .ok (.agg (S.v8 tag)) w :=
  run_loadAt_mid w g 2 25 (S.v8l tag) _ (t_tag h) Tryd.underlying25 rfl (by rw [size_dig _ ht, S.v8_size, S.v8l_length])
/-- A digest in the middle of a block, sliced whole. -/
theorem mid_part {w : World} {g o c : Nat} {d : List UInt8} (h : w.rangeAt g o (S.v8l d)) (hd : d.length = 32) (hg : g < w.heap.size) (hc : 32 ≤ c) : SliceAt w (.slice (some ⟨g, o, none⟩) 32 c) d := by
  refine Or.inr (Or.inr ⟨g, o, c, by rw [hd], by omega, by omega, hg, fun j hj => h j _ ?_⟩)
  simp [S.v8l, List.getElem?_map, List.getElem?_eq_getElem hj, List.getD_eq_getElem?_getD]
theorem lay_size (off : Nat) (v cs : Array Value) : (v.zipIdx.foldl (fun cs (x : Value × Nat) => cs.setIfInBounds (off + x.2) x.1) cs).size = cs.size := by
  have e : v.zipIdx.foldl (fun cs (x : Value × Nat) => cs.setIfInBounds (off + x.2) x.1) cs = (v.toList.zipIdx 0).foldl (fun cs (x : Value × Nat) => cs.setIfInBounds (off + x.2) x.1) cs := by
    rw [← Array.foldl_toList, Array.toList_zipIdx]
  rw [e]
  exact (Great.foldl_set off v.toList 0 cs).1
set_option maxRecDepth 100000 in
theorem fill27 (parts : List (Nat × Value)) : Tryd.prog.built 27 parts = Instr.fill ((#[(0, 1), (1, 1), (2, 32)] : Array (Nat × Nat))[·]?) tk0 parts := by
  obtain ⟨i, hi, hz, _, _⟩ := info_parts info27t
  unfold Program.built
  rw [hi, Tryd.underlying27]
  simp only [hz]
  rfl
set_option maxRecDepth 100000 in
/-- {id, caveats, tag}. -/
theorem built27 (id : Nat) (ao : Option Addr) (n m : Nat) (t : List UInt8) (ht : t.length = 32) : Tryd.prog.built 27 [(0, .int .u32 (id : Int)), (1, .slice ao n m), (2, .agg (S.v8 t))] = some (encT id (.slice ao n m) t).toArray := by
  rw [fill27]
  have hl : (S.v8l t).length = 32 := by rw [S.v8l_length, ht]
  have c2 : (Value.agg (S.v8 t)).cells = (S.v8l t).toArray := by rw [S.v8_eq]; rfl
  have c1 : (Value.slice ao n m).cells = #[.slice ao n m] := rfl
  have c0 : (Value.int .u32 (id : Int)).cells = #[.int .u32 (id : Int)] := rfl
  have hz := tk0_size
  unfold Instr.fill
  simp only [show (#[(0, 1), (1, 1), (2, 32)] : Array (Nat × Nat))[0]? = some (0, 1) from rfl]
  rw [if_neg (by rw [hz, c0]; simp)]
  unfold Instr.fill
  simp only [show (#[(0, 1), (1, 1), (2, 32)] : Array (Nat × Nat))[1]? = some (1, 1) from rfl]
  rw [if_neg (by rw [lay_size, hz, c1]; simp)]
  unfold Instr.fill
  simp only [show (#[(0, 1), (1, 1), (2, 32)] : Array (Nat × Nat))[2]? = some (2, 32) from rfl]
  rw [if_neg (by rw [lay_size, lay_size, hz, c2]; simp [hl])]
  unfold Instr.fill
  congr 1
  apply Array.ext_getElem?
  intro k
  rw [c0, c1, c2]
  refine (lay_at 2 (S.v8l t).toArray _ k).trans ?_
  rw [lay_size, lay_size, hz, lay_at 1, lay_size, hz, lay_at 0, hz]
  simp only [List.size_toArray, hl, List.getElem?_toArray, encT]
  by_cases h0 : k = 0
  · subst h0; simp
  by_cases h1 : k = 1
  · subst h1; simp
  by_cases h2 : k < 34
  · rw [if_pos ⟨by omega, by omega, by omega⟩]
    obtain ⟨j, rfl⟩ : ∃ j, k = j + 2 := ⟨k - 2, by omega⟩
    simp
  · rw [if_neg (by omega), if_neg (by simp; omega), if_neg (by simp; omega), List.getElem?_eq_none (by simp [S.v8l_length, S.zeros_length]; omega), List.getElem?_eq_none (by simp [hl]; omega)]
theorem build27 (id : Nat) (ao : Option Addr) (n m : Nat) (t : List UInt8) (ht : t.length = 32) (w : World) : (Instr.build 27 #[(0, .int .u32 (id : Int)), (1, .slice ao n m), (2, .agg (S.v8 t))]).run Tryd.prog w = .ok (.agg (encT id (.slice ao n m) t).toArray) w :=
  run_build w 27 _ _ (built27 id ao n m t ht)
set_option maxRecDepth 100000 in
/-- {id, nil, tag}. -/
theorem built27n (id : Nat) (t : List UInt8) (ht : t.length = 32) : Tryd.prog.built 27 [(0, .int .u32 (id : Int)), (2, .agg (S.v8 t))] = some (encT id (.slice none 0 0) t).toArray := by
  have h := built27 id none 0 0 t ht
  rw [fill27] at h ⊢
  rw [← h]
  unfold Instr.fill
  simp only [show (#[(0, 1), (1, 1), (2, 32)] : Array (Nat × Nat))[0]? = some (0, 1) from rfl]
  conv => rhs; unfold Instr.fill
  simp only [show (#[(0, 1), (1, 1), (2, 32)] : Array (Nat × Nat))[1]? = some (1, 1) from rfl]
  congr 1
theorem build27n (id : Nat) (t : List UInt8) (ht : t.length = 32) (w : World) : (Instr.build 27 #[(0, .int .u32 (id : Int)), (2, .agg (S.v8 t))]).run Tryd.prog w = .ok (.agg (encT id (.slice none 0 0) t).toArray) w :=
  run_build w 27 _ _ (built27n id t ht)
theorem build27z (w : World) : (Instr.build 27 #[]).run Tryd.prog w = .ok (.agg tk0) w :=
  run_build w 27 _ _ (by rw [fill27]; rfl)
end Go.Proofs.YtlcilclhaahopaaDoor
namespace Go.Proofs.YtlcilclhaahopaaDoor
open Go.RowKit

set_option maxHeartbeats 2000000 in
theorem strange_any (c : S.Cv) (w : World) : Calls Tryd.prog 40 #[.agg (encC c).toArray] w fun e w' => e = .returned (.bool (S.odd c)) ∧ Below w.heap.size w w' := by
  obtain ⟨k, n⟩ := c
  rw [show (encC ⟨k, n⟩).toArray = #[.int .i64 k, .int .u32 (n : Int)] from rfl]
  by_cases h1 : k = 1
  · have HE : Hid (S.odd ⟨k, n⟩ = false) := by show S.odd ⟨k, n⟩ = false; simp [S.odd, h1]
    subst h1
    go_enter Tryd.func40, Tryd.ntmps40
    go_wp2
    go_ret
    exact ⟨by rw [HE.out]; rfl, (Below.refl _ _).alloc (Nat.le_refl _) _⟩
  by_cases h2 : k = 2
  · have HE : Hid (S.odd ⟨k, n⟩ = false) := by show S.odd ⟨k, n⟩ = false; simp [S.odd, h2]
    subst h2
    go_enter Tryd.func40, Tryd.ntmps40
    go_wp2
    go_ret
    exact ⟨by rw [HE.out]; rfl, (Below.refl _ _).alloc (Nat.le_refl _) _⟩
  by_cases h3 : k = 3
  · have HE : Hid (S.odd ⟨k, n⟩ = false) := by show S.odd ⟨k, n⟩ = false; simp [S.odd, h3]
    subst h3
    go_enter Tryd.func40, Tryd.ntmps40
    go_wp2
    go_ret
    exact ⟨by rw [HE.out]; rfl, (Below.refl _ _).alloc (Nat.le_refl _) _⟩
  · have HE : Hid (S.odd ⟨k, n⟩ = true) := by show S.odd ⟨k, n⟩ = true; simp [S.odd, h1, h2, h3]
    have q1 : (k == 1) = false := by simp [h1]
    have q2 : (k == 2) = false := by simp [h2]
    have q3 : (k == 3) = false := by simp [h3]
    go_enter Tryd.func40, Tryd.ntmps40
    go_wp2
    go_ret
    exact ⟨by rw [HE.out]; rfl, (Below.refl _ _).alloc (Nat.le_refl _) _⟩
set_option maxHeartbeats 4000000 in
theorem permits_any (c : S.Cv) (op tree : Int) (clock : Nat) (w : World) (hc : c.Ok) : Calls Tryd.prog 51 #[.agg (encC c).toArray, .int .i64 op, .int .i64 tree, .int .u64 (clock : Int)] w fun e w' => e = .returned (.bool (S.permits c op tree clock)) ∧ Below w.heap.size w w' := by
  obtain ⟨k, n⟩ := c
  rw [show (encC ⟨k, n⟩).toArray = #[.int .i64 k, .int .u32 (n : Int)] from rfl]
  have hn : n < 4294967296 := hc.n2
  clear hc
  have q0 : IntKind.i64.wrap (n : Int) = (n : Int) := by rw [IntKind.wrap_i64]; omega
  have q4 : IntKind.u64.wrap (n : Int) = (n : Int) := wrap_u64_lt n (by omega)
  by_cases h1 : k = 1
  · have HE : Hid (S.permits ⟨k, n⟩ op tree clock = (tree == (n : Int))) := by show S.permits ⟨k, n⟩ op tree clock = (tree == (n : Int)); simp only [S.permits, h1, if_true]; rfl
    subst h1
    go_enter Tryd.func51, Tryd.ntmps51
    go_wp2
    go_ret
    exact ⟨by rw [HE.out]; rfl, (Below.refl _ _).alloc (Nat.le_refl _) _⟩
  by_cases h2 : k = 2
  · have HE : Hid (S.permits ⟨k, n⟩ op tree clock = decide (op < (n : Int))) := by show S.permits ⟨k, n⟩ op tree clock = decide (op < (n : Int)); simp [S.permits, h2]
    subst h2
    go_enter Tryd.func51, Tryd.ntmps51
    go_wp2
    go_ret
    exact ⟨by rw [HE.out]; rfl, (Below.refl _ _).alloc (Nat.le_refl _) _⟩
  by_cases h3 : k = 3
  · have HE : Hid (S.permits ⟨k, n⟩ op tree clock = decide (clock < n)) := by show S.permits ⟨k, n⟩ op tree clock = decide (clock < n); simp [S.permits, h3]
    subst h3
    go_enter Tryd.func51, Tryd.ntmps51
    go_wp2
    go_ret
    exact ⟨by rw [HE.out]; rfl, (Below.refl _ _).alloc (Nat.le_refl _) _⟩
  · have HE : Hid (S.permits ⟨k, n⟩ op tree clock = false) := by show S.permits ⟨k, n⟩ op tree clock = false; simp [S.permits, h1, h2, h3]
    have q1 : (k == 1) = false := by simp [h1]
    have q2 : (k == 2) = false := by simp [h2]
    have q3 : (k == 3) = false := by simp [h3]
    go_enter Tryd.func51, Tryd.ntmps51
    go_wp2
    go_ret
    exact ⟨by rw [HE.out]; rfl, (Below.refl _ _).alloc (Nat.le_refl _) _⟩
theorem wnumber_is {bs bs' : List UInt8} {n k : Int} (m g : Nat) (v : Value) (w : World) (hn : n = (m : Int)) (h : bs ++ S.num m (S.size k) = bs') (hw : WrIs w g v bs) (hb : bs.length + 8 ≤ 140737488355328) :
   Calls Tryd.prog 35 #[.pointer (some ⟨g, 0, none⟩), .int .u64 n, .int .i64 k] w fun e w' => e = .returned (.tuple #[]) ∧ ∃ v', WrIs w' g v' bs' ∧ WrTo g v w v' w' := by
  rw [← h, hn]
  exact wnumber_any g v bs m k w hw hb
theorem WrTo.base {g B : Nat} {v v' : Value} {w w' : World} (h : WrTo g v w v' w') (hB : B ≤ w.heap.size) (hg : B ≤ g) (hv : ∀ k, v.ownBlock = some k → B ≤ k) : Below B w w' ∧ ∀ k, v'.ownBlock = some k → B ≤ k :=
  ⟨h.chg.below B hB (fun k hk e => by rcases e with e | e; omega; have := hv k e; omega), fun k hk => by rcases h.own k hk with e | e; exact hv k e; omega⟩
theorem nil_base (B : Nat) : ∀ k, (Value.slice none 0 0).ownBlock = some k → B ≤ k := fun k h => by cases h
theorem size_1 : S.size 1 = 1 := by decide
theorem size_4 : S.size 4 = 4 := by decide
set_option maxHeartbeats 4000000 in
/-- A caveat is written behind what is there. -/
theorem wcaveat_any (c : S.Cv) (g : Nat) (v : Value) (bs : List UInt8) (w : World) (B : Nat) (hc : c.n < 4294967296) (hw : WrIs w g v bs) (hb : bs.length + 16 ≤ 140737488355328) (hB : B ≤ w.heap.size) (hg : B ≤ g) (hv : ∀ k, v.ownBlock = some k → B ≤ k) :
   Calls Tryd.prog 41 #[.pointer (some ⟨g, 0, none⟩), .agg (encC c).toArray] w fun e w' => e = .returned (.tuple #[]) ∧ ∃ v', WrIs w' g v' (bs ++ S.cb c) ∧ Below B w w' ∧ ∀ k, v'.ownBlock = some k → B ≤ k := by
  have q1 := S.u64_wrap c.k
  have q2 : IntKind.u64.wrap (c.n : Int) = (c.n : Int) := wrap_u64_lt c.n (by omega)
  have HW := hide hw
  have HV := hide hv
  clear hw hv hc
  go_enter Tryd.func41, Tryd.ntmps41
  go_upto_region 1 with fail
  generalize hW0 : w.alloc _ = w0
  have B0 : Below w.heap.size w w0 := by rw [← hW0]; exact (Below.refl _ _).alloc (Nat.le_refl _) _
  have R0 : w0.heap[w.heap.size]? = some (.cells (encC c).toArray 42 (0, 0)) := by rw [← hW0]; exact heap_alloc_new _ _
  obtain ⟨c0, c1⟩ := c_cells R0
  have L0 := hide (block_lt_of_row R0)
  have W0 := hide (HW.out.chg (p := fun _ => False) (Chg.ofBelow' B0) (fun e => e) (fun _ _ e => e))
  have HR0 := hide R0
  have H0 := hide B0
  have hw0 := HW.out
  have hgs := hide hw0.lt
  have hvs := hide hw0
  clear hW0 B0 R0 hw0
  go_wp2_with fail
  refine (wnumber_is (S.u64 c.k) g v w0 rfl rfl W0.out (by omega)).mono ?_
  rintro e w1 ⟨rfl, v1, h3, h4⟩
  have W1 := hide h3
  have E1 := hide (h4.base (Nat.le_trans hB H0.out.size) hg HV.out)
  have X1 := hide (h4.chg.row HR0.out (fun e => by
    rcases e with e | e
    · have := hgs.out; omega
    · have := hvs.out.text.lt e; omega))
  clear h3 h4 c0 c1
  obtain ⟨c0, c1⟩ := c_cells X1.out
  go_wp2_with fail
  refine (wnumber_is c.n g v1 w1 rfl rfl W1.out (by rw [List.length_append, S.num_length, size_1]; omega)).mono ?_
  rintro e w2 ⟨rfl, v2, h3, h4⟩
  have W2 := hide h3
  have E2 := hide (h4.base (Nat.le_trans (Nat.le_trans hB H0.out.size) E1.out.1.size) hg E1.out.2)
  clear h3 h4 c0 c1
  go_wp2_with fail
  go_end0
  refine ⟨rfl, v2, ?_, ((H0.out.mono hB).trans E1.out.1).trans E2.out.1, E2.out.2⟩
  have := W2.out
  rw [size_1, size_4, List.append_assoc] at this
  exact this
end Go.Proofs.YtlcilclhaahopaaDoor
namespace Go.Proofs.YtlcilclhaahopaaDoor
open Go.RowKit
theorem cells2v {w : World} {g : Nat} {a b : Value} {t : TypeId} (h : w.heap[g]? = some (.cells #[a, b] t (0, 0))) : w.cell? ⟨g, 0, none⟩ = some a ∧ w.cell? ⟨g, 1, none⟩ = some b :=
  ⟨by rw [cell_of_row w g 0 _ _ _ h]; rfl, by rw [cell_of_row w g 1 _ _ _ h]; rfl⟩

theorem grow_run (w : World) (n : Nat) (h0 : 0 < n) (hn : n ≤ 1000) (ty : TypeId) : ∃ v' Y, (Builtin.append_ #[23, 3] ty #[.slice none 0 0, .int .i64 (n : Int)]).run Tryd.prog w = .ok v' Y ∧ ((∃ cap, v' = .slice (some ⟨w.heap.size, 0, none⟩) n cap ∧ n ≤ cap ∧ CRow w.heap.size Y (.slice (some ⟨w.heap.size, 0, none⟩) 0 cap) []) ∧ Below w.heap.size w Y) := by
  obtain ⟨i, hi, hz, hs, hby⟩ := info_parts info42
  have hr := Lib.run_append_nil_zeros (P := Tryd.prog) w 23 3 ty 42 i _ .i64 .i64 Tryd.underlying23 Tryd.underlying3 hi hz n h0 (by omega) (by omega) (by rw [hby]; omega)
  have hge := grownCap_ge w n 0 42
  have hcm := grownCap_le_maxLen w n 0 42 (by simp only [maxLen]; omega)
  have hzs : (Value.agg (encC S.c0).toArray).cells.size = 2 := rfl
  refine ⟨_, _, hr, ⟨_, rfl, hge, by simp, Or.inr ⟨w.heap.size, _, _, rfl, Nat.le_refl _, heap_alloc_new w.drew _, by simp, hcm, ?_, by simp⟩⟩, ((Below.refl _ _).drew).alloc (Nat.le_refl _) _⟩
  simp only [Array.size_append, Builtin.zeroCells, Array.size_map, Array.size_range, hzs]
  omega
set_option maxHeartbeats 4000000 in
set_option maxRecDepth 10000 in
theorem grow_nil (n : Nat) (hn : n ≤ 1000) (w : World) :
   Calls Tryd.prog 73 #[.slice none 0 0, .int .i64 (n : Int)] w fun r w' => (∃ v, r = .returned v ∧ CRow w.heap.size w' v []) ∧ Below w.heap.size w w' := by
  have q1 : ¬ (n : Int) < 0 := by omega
  go_enter Tryd.func73, Tryd.ntmps73
  by_cases h0 : n = 0
  · subst h0
    go_wp2_with fail
    go_ret
    exact ⟨⟨_, rfl, Rw.nil _ _ _ _ _⟩, Below.refl _ _⟩
  · have q2 : (n : Int) > 0 := by omega
    have q2' : (0 : Int) < (n : Int) := by omega
    have KEY := hide (grow_run w n (by omega) hn 23)
    go_wp2_with (at_builtin; (refine wpList_append_known rfl (.tmp 20) (.tmp 21) 23 3 rfl _ _ rfl rfl KEY.out ?_; rintro v' Y ⟨⟨cap, rfl, hcap, hR'⟩, hB'⟩; have RN := hide hR'; have BN := hide hB'; clear hR' hB'; have q5 : (0 : Int) ≤ (cap : Int) := by omega))
    go_ret
    exact ⟨⟨_, rfl, RN.out⟩, BN.out⟩
set_option maxHeartbeats 8000000 in
set_option maxRecDepth 10000 in
theorem concat_two (g : Nat) (ao bo : Option Addr) (ca cb : Nat) (xs ys : List S.Cv) (w : World) (hg : w.heap[g]? = some (.cells #[.slice ao xs.length ca, .slice bo ys.length cb] 23 (0, 0)))
   (hx : CvAt w (.slice ao xs.length ca) xs) (hy : CvAt w (.slice bo ys.length cb) ys) (h1 : xs.length ≤ 64) (h2 : ys.length ≤ 64) :
   Calls Tryd.prog 49 #[.slice (some ⟨g, 0, none⟩) 2 2] w fun r w' => (∃ v, r = .returned v ∧ CRow w.heap.size w' v (xs ++ ys)) ∧ Below w.heap.size w w' := by
  have HX := hide hx
  have HY := hide hy
  have HG := hide hg
  obtain ⟨c0, c1⟩ := cells2v hg
  have hgl := block_lt_of_row hg
  obtain ⟨na, hna⟩ : ∃ n, n = xs.length := ⟨_, rfl⟩
  obtain ⟨nb, hnb⟩ : ∃ n, n = ys.length := ⟨_, rfl⟩
  rw [← hna] at h1 c0 HX
  rw [← hnb] at h2 c1 HY
  have HNA := hide hna
  have HNB := hide hnb
  clear hx hy hg hna hnb HG
  have q1 : ¬ (na : Int) < 0 := by omega
  have q2 : ¬ ((na : Int) + (nb : Int)) < 0 := by omega
  have q3 : IntKind.i64.wrap ((na : Int) + (nb : Int)) = (na : Int) + (nb : Int) := by rw [IntKind.wrap_i64]; omega
  go_enter Tryd.func49, Tryd.ntmps49
  go_wp2_with fail
  go_loopg [3, 11] 2 (fun gk s3 s11 wr => ((gk = 2 ∧ s11 = .int .i64 0 ∧ s3 = .int .i64 0) ∨ (gk = 1 ∧ s11 = .int .i64 1 ∧ s3 = .int .i64 (na : Int)) ∨ (gk = 0 ∧ s11 = .int .i64 2 ∧ s3 = .int .i64 ((na : Int) + (nb : Int)))) ∧ w = wr)
  case atStart => exact ⟨Or.inl ⟨rfl, rfl, rfl⟩, rfl⟩
  case round =>
    obtain ⟨hrel, rfl⟩ := hrel
    rcases hrel with ⟨rfl, rfl, rfl⟩ | ⟨rfl, rfl, rfl⟩ | ⟨rfl, rfl, rfl⟩
    · go_wp2_with fail
      go_roundg 1
      case measure => omega
      case rel => exact ⟨Or.inr (Or.inl ⟨rfl, rfl, rfl⟩), rfl⟩
    · go_wp2_with fail
      go_roundg 0
      case measure => omega
      case rel => exact ⟨Or.inr (Or.inr ⟨rfl, rfl, rfl⟩), rfl⟩
    · clear q1 q2 q3
      obtain ⟨M, hM⟩ : ∃ M, M = na + nb := ⟨_, rfl⟩
      have hM2 : (na : Int) + (nb : Int) = (M : Int) := by omega
      have hMl : M ≤ 1000 := by omega
      rw [hM2]
      clear hM hM2
      go_wp2_with fail
      refine (grow_nil M hMl w).mono ?_
      rintro r W ⟨⟨vg, rfl, hvg⟩, hbw⟩
      obtain ⟨go, gc, rfl⟩ := hvg.form
      have HVG := hide hvg
      have BW := hide hbw
      have c0' := (hbw.cell (p := ⟨g, 0, none⟩) hgl).trans c0
      have c1' := (hbw.cell (p := ⟨g, 1, none⟩) hgl).trans c1
      clear hvg hbw
      go_wp2_with fail
      go_loopg [6, 27] 2 (fun gk s6 s27 wr => ((gk = 2 ∧ s27 = .int .i64 0 ∧ Hid (CRow w.heap.size wr s6 [])) ∨ (gk = 1 ∧ s27 = .int .i64 1 ∧ Hid (CRow w.heap.size wr s6 xs)) ∨ (gk = 0 ∧ s27 = .int .i64 2 ∧ Hid (CRow w.heap.size wr s6 (xs ++ ys)))) ∧ Hid (Below w.heap.size w wr))
      case atStart => exact ⟨Or.inl ⟨rfl, rfl, HVG⟩, BW⟩
      case round =>
        clear c0' c1' HVG BW
        obtain ⟨hrel, BR⟩ := hrel
        have c0' := (BR.out.cell (p := ⟨g, 0, none⟩) hgl).trans c0
        have c1' := (BR.out.cell (p := ⟨g, 1, none⟩) hgl).trans c1
        rcases hrel with ⟨rfl, rfl, HR⟩ | ⟨rfl, rfl, HR⟩ | ⟨rfl, rfl, HR⟩
        · obtain ⟨so, sc, rfl⟩ := HR.out.form
          have KEY := hide (Rw.append kdC 23 HR.out (HX.out.below BR.out).src (fun y _ => encC_length y) (by rw [← HNA.out]; simp; omega) BR.out.size)
          have HW := hide (fun j (e : (Value.slice so ([] : List S.Cv).length sc).ownBlock = some j) => (HR.out.blk e).1)
          rw [List.nil_append] at KEY
          clear HR
          go_wp2_with (at_builtin; (refine wpList_append_known rfl (.tmp 31) (.tmp 32) 23 23 rfl _ _ rfl rfl KEY.out ?_; rintro v' Y ⟨hR', hC'⟩; have RN := hide hR'; have BN := hide (BR.out.trans (hC'.below _ BR.out.size (fun k hk e => by have := HW.out _ e; omega))); clear hR' hC'))
          go_roundg 1
          case measure => omega
          case rel => exact ⟨Or.inr (Or.inl ⟨rfl, rfl, RN⟩), BN⟩
        · obtain ⟨so, sc, rfl⟩ := HR.out.form
          rw [← HNA.out] at HR ⊢
          have KEY := hide (Rw.append kdC 23 HR.out (HY.out.below BR.out).src (fun y _ => encC_length y) (by rw [← HNA.out, ← HNB.out]; omega) BR.out.size)
          have HW := hide (fun j (e : (Value.slice so na sc).ownBlock = some j) => (HR.out.blk e).1)
          clear HR
          go_wp2_with (at_builtin; (refine wpList_append_known rfl (.tmp 31) (.tmp 32) 23 23 rfl _ _ rfl rfl KEY.out ?_; rintro v' Y ⟨hR', hC'⟩; have RN := hide hR'; have BN := hide (BR.out.trans (hC'.below _ BR.out.size (fun k hk e => by have := HW.out _ e; omega))); clear hR' hC'))
          go_roundg 0
          case measure => omega
          case rel => exact ⟨Or.inr (Or.inr ⟨rfl, rfl, RN⟩), BN⟩
        · go_wp2_with fail
          go_ret
          exact ⟨⟨_, rfl, HR.out⟩, BR.out⟩
end Go.Proofs.YtlcilclhaahopaaDoor
