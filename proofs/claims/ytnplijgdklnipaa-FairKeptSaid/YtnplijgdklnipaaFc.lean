/- Lanes: the plain words of chapter 16, and how lanes lie in memory. -/
import Derived.Test.YtnplijgdklnipaaFa
namespace Go.Proofs.Ytnplijgdklnipaa
open Go.RowKit
namespace S
/-- A lane: its weight, its backlog, its deficit. -/
structure Ln where
  w : Int
  b : Int
  d : Int
  deriving DecidableEq
def l0 : Ln := ⟨0, 0, 0⟩
def cl (n lo hi : Int) : Int := min (max n lo) hi
/-- What one turn's share is. -/
def sh (w q : Int) : Int := cl w 1 4 * cl q 1 2
theorem sh_bounds (w q : Int) : 1 ≤ sh w q ∧ sh w q ≤ 8 := by
  unfold sh
  have h : cl q 1 2 = 1 ∨ cl q 1 2 = 2 := by unfold cl; omega
  have h2 : 1 ≤ cl w 1 4 ∧ cl w 1 4 ≤ 4 := by unfold cl; omega
  rcases h with h | h <;> rw [h] <;> omega
def wait (ahead weight q lanes : Int) : Int := ((cl ahead 0 1048576 + sh weight q).tdiv (sh weight q)) * cl lanes 1 1048576
/-- How much is taken. -/
def tk (x : Ln) (q : Int) : Int := max (min (x.d + sh x.w q) x.b) 0
/-- The lane behind its turn. -/
def one (x : Ln) (q : Int) : Ln := ⟨x.w, x.b - tk x q, if x.b - tk x q = 0 then 0 else x.d + sh x.w q - tk x q⟩
/-- Numbers that are not too great. -/
def Mild (x : Ln) : Prop := (-100000000 ≤ x.w ∧ x.w ≤ 100000000) ∧ (-100000000 ≤ x.b ∧ x.b ≤ 100000000) ∧ (-100000000 ≤ x.d ∧ x.d ≤ 100000000)
end S
def encL (x : S.Ln) : List Value := [.int .i64 x.w, .int .i64 x.b, .int .i64 x.d]
theorem encL_length (x : S.Ln) : (encL x).length = 3 := rfl
theorem encL_one (x : S.Ln) : ∀ u ∈ encL x, u.oneCell' = true := by
  intro u hu
  simp [encL] at hu
  rcases hu with rfl | rfl | rfl <;> rfl
theorem lenL (xs : List S.Ln) : ∀ x ∈ xs, (encL x).length = 3 := fun _ _ => rfl
/-- The value v is a slice that reads as these lanes. -/
def LnAt (w : World) (v : Value) (l : List S.Ln) : Prop :=
  ∃ ao cap, v = .slice ao l.length cap ∧ l.length ≤ cap ∧ (ao = none → cap = 0) ∧ (0 < l.length → ∃ g off, ao = some ⟨g, off, none⟩ ∧ g < w.heap.size ∧ ∀ j x, l[j]? = some x → w.rangeAt g (off + j * 3) (encL x))
theorem LnAt.nil (w : World) : LnAt w (.slice none 0 0) [] := ⟨none, 0, rfl, by simp, fun _ => rfl, fun h => by simp at h⟩
theorem LnAt.chg {p : Nat → Prop} {w W : World} {v : Value} {l : List S.Ln} (h : LnAt w v l) (hb : Chg p w W) (hp : ∀ g off n c, v = .slice (some ⟨g, off, none⟩) n c → ¬ p g) : LnAt W v l := by
  obtain ⟨ao, cap, h1, h2, h3, h4⟩ := h
  refine ⟨ao, cap, h1, h2, h3, fun hp0 => ?_⟩
  obtain ⟨g, off, e, hg, hc⟩ := h4 hp0
  subst e
  exact ⟨g, off, rfl, Nat.lt_of_lt_of_le hg hb.size, fun j x hx i u hu => (World.cell?_of_block (a := ⟨g, off + j * 3 + i, none⟩) (hb.block g hg (hp _ _ _ _ h1))).trans (hc j x hx i u hu)⟩
theorem LnAt.below {w W : World} {v : Value} {l : List S.Ln} (h : LnAt w v l) (hb : Below w.heap.size w W) : LnAt W v l := h.chg (p := fun _ => False) (Chg.ofBelow' hb) (fun _ _ _ _ _ e => e)
theorem LnAt.of_heap {w W : World} {v : Value} {l : List S.Ln} (h : LnAt w v l) (e : W.heap = w.heap) : LnAt W v l := by
  obtain ⟨ao, cap, h1, h2, h3, h4⟩ := h
  refine ⟨ao, cap, h1, h2, h3, fun hp0 => ?_⟩
  obtain ⟨g, off, e1, hg, hc⟩ := h4 hp0
  exact ⟨g, off, e1, by rw [e]; exact hg, fun j x hx i u hu => (World.cell?_of_block (a := ⟨g, off + j * 3 + i, none⟩) (by rw [e])).trans (hc j x hx i u hu)⟩
theorem LnAt.form {w : World} {v : Value} {l : List S.Ln} (h : LnAt w v l) : ∃ ao n cap, v = .slice ao n cap ∧ n = l.length ∧ n ≤ cap := by
  obtain ⟨ao, cap, h1, h2, _⟩ := h
  exact ⟨ao, _, cap, h1, rfl, h2⟩
theorem LnAt.src {w : World} {v : Value} {l : List S.Ln} (h : LnAt w v l) : Sce encL w v l := by
  obtain ⟨ao, cap, rfl, h2, h3, h4⟩ := h
  cases ao with
  | none =>
    have e := h3 rfl
    subst e
    have : l = [] := List.length_eq_zero_iff.1 (by omega)
    subst this
    exact Or.inl ⟨rfl, rfl⟩
  | some a =>
    refine Or.inr ⟨a, cap, rfl, fun j y hy => ?_⟩
    have hj := (List.getElem?_eq_some_iff.1 hy).1
    rw [flat_gen (k := 3) l (lenL l)] at hj
    obtain ⟨g, off, e, hg, hc⟩ := h4 (by omega)
    injection e with e
    subst e
    have hl : j / 3 < l.length := by omega
    have hf := flat_get (k := 3) l (lenL l) (j / 3) (j % 3) hl (by omega)
    have e2 : j / 3 * 3 + j % 3 = j := by omega
    rw [e2, hy] at hf
    have := hc (j / 3) _ (List.getElem?_eq_getElem hl) (j % 3) y hf.symm
    rw [show off + j / 3 * 3 + j % 3 = off + j by omega] at this
    rw [Addr.add_lit]
    exact this
/-- The cells of a lane in a row. -/
theorem LnAt.cells {w : World} {v : Value} {l : List S.Ln} (h : LnAt w v l) (j : Nat) (x : S.Ln) (hx : l[j]? = some x) : ∃ g off cap, v = .slice (some ⟨g, off, none⟩) l.length cap ∧ l.length ≤ cap ∧ g < w.heap.size ∧ w.rangeAt g (off + j * 3) (encL x) := by
  obtain ⟨ao, cap, rfl, h2, h3, h4⟩ := h
  obtain ⟨g, off, rfl, hg, hc⟩ := h4 (by have := (List.getElem?_eq_some_iff.1 hx).1; omega)
  exact ⟨g, off, cap, rfl, h2, hg, hc j x hx⟩
theorem lane_cells {w : World} {g o : Nat} {x : S.Ln} (h : w.rangeAt g o (encL x)) : w.cell? ⟨g, o, none⟩ = some (.int .i64 x.w) ∧ w.cell? ⟨g, o + 1, none⟩ = some (.int .i64 x.b) ∧ w.cell? ⟨g, o + 2, none⟩ = some (.int .i64 x.d) :=
  ⟨h 0 _ rfl, h 1 _ rfl, h 2 _ rfl⟩
section
variable {el : TypeId}
theorem Rw.lnAt {B : Nat} {w : World} {v : Value} {l : List S.Ln} (h : Rw el 3 encL B w v l) : LnAt w v l := by
  rcases h.2 with ⟨rfl, h0⟩ | ⟨g, cap, cur, rfl, hB, hr, q1, q2, q3, q4⟩
  · rw [List.length_eq_zero_iff.1 h0]; exact LnAt.nil w
  · refine ⟨_, cap, rfl, q1, fun e => by simp at e, fun _ => ⟨g, 0, rfl, block_lt_of_row hr, fun j x hx => ?_⟩⟩
    obtain ⟨g', cap', e, _, _, hr'⟩ := Rw.at_ h (lenL l) j x hx
    simp only [Value.slice.injEq, Option.some.injEq, Addr.mk.injEq] at e
    obtain ⟨⟨rfl, _, _⟩, _, rfl⟩ := e
    rw [Nat.zero_add]
    exact hr'
end
theorem info28 : (Try.prog.info? 28).map (fun i => (i.zero, i.size, i.bytes)) = some (some (.agg (encL S.l0).toArray), 3, 24) := by kernel_rfl
theorem info39 : (Try.prog.info? 39).map (fun i => (i.zero, i.size, i.bytes)) = some (some (.agg (encL S.l0).toArray), 3, 24) := by kernel_rfl
theorem kdL : Kd Try.prog 24 28 3 24 encL := by
  obtain ⟨i, hi, h1, h2, h3⟩ := info_parts info28
  exact ⟨Try.underlying24, ⟨i, _, hi, h1, h2, h3, rfl⟩, by omega, by omega, encL_one⟩
theorem kdR : Kd Try.prog 34 39 3 24 encL := by
  obtain ⟨i, hi, h1, h2, h3⟩ := info_parts info39
  exact ⟨Try.underlying34, ⟨i, _, hi, h1, h2, h3, rfl⟩, by omega, by omega, encL_one⟩
theorem size28 : (Try.prog.info? 28).map (·.size) = some 3 := by kernel_rfl
theorem size39 : (Try.prog.info? 39).map (·.size) = some 3 := by kernel_rfl
theorem size23 : (Try.prog.info? 23).map (·.size) = some 3 := by kernel_rfl
theorem size33 : (Try.prog.info? 33).map (·.size) = some 3 := by kernel_rfl
theorem var28 {w : World} {g : Nat} {x y z : Value} (h : w.heap[g]? = some (.cells #[x, y, z] 28 (0, 0))) : (loadVar 28 ⟨g, 0, none⟩).run Try.prog w = .ok (.agg #[x, y, z]) w := run_loadVar_row w g 28 28 _ (0, 0) _ h Try.underlying28 rfl size28
theorem var39 {w : World} {g : Nat} {x y z : Value} (h : w.heap[g]? = some (.cells #[x, y, z] 39 (0, 0))) : (loadVar 39 ⟨g, 0, none⟩).run Try.prog w = .ok (.agg #[x, y, z]) w := run_loadVar_row w g 39 39 _ (0, 0) _ h Try.underlying39 rfl size39
theorem var23 {w : World} {g : Nat} {x y z : Value} (h : w.heap[g]? = some (.cells #[x, y, z] 23 (0, 0))) : (loadVar 23 ⟨g, 0, none⟩).run Try.prog w = .ok (.agg #[x, y, z]) w := run_loadVar_row w g 23 23 _ (0, 0) _ h Try.underlying23 rfl size23
theorem var33 {w : World} {g : Nat} {x y z : Value} (h : w.heap[g]? = some (.cells #[x, y, z] 33 (0, 0))) : (loadVar 33 ⟨g, 0, none⟩).run Try.prog w = .ok (.agg #[x, y, z]) w := run_loadVar_row w g 33 33 _ (0, 0) _ h Try.underlying33 rfl size33
theorem results_rt {fn : Func} {p q : Tmp} {ty : TypeId} (h : fn.results = #[.cell p ty, .tmp q]) (tmps : Array Value) (w : World) (g : Nat) (cs : Array Value)
    (hp : tmps.getD p undef = .pointer (some ⟨g, 0, none⟩)) (hl : (loadVar ty ⟨g, 0, none⟩).run Try.prog w = .ok (.agg cs) w) :
    (results fn tmps).run Try.prog w = .ok (.tuple #[.agg cs, tmps.getD q undef]) w := by
  have hp' : tmps[p]?.getD undef = .pointer (some ⟨g, 0, none⟩) := by simpa using hp
  simp [results, h, hp', asAddr, hl]
theorem results_c {fn : Func} {p : Tmp} {ty : TypeId} (h : fn.results = #[.cell p ty]) (tmps : Array Value) (w : World) (g : Nat) (cs : Array Value)
    (hp : tmps.getD p undef = .pointer (some ⟨g, 0, none⟩)) (hl : (loadVar ty ⟨g, 0, none⟩).run Try.prog w = .ok (.agg cs) w) :
    (results fn tmps).run Try.prog w = .ok (.agg cs) w := by
  have hp' : tmps[p]?.getD undef = .pointer (some ⟨g, 0, none⟩) := by simpa using hp
  simp [results, h, hp', asAddr, hl]
theorem two_below (w : World) (x y : Obj) : Below w.heap.size w ((w.alloc x).alloc y) := ((Below.refl _ _).alloc (Nat.le_refl _) _).alloc (by simp) _
theorem one_below (w : World) (x : Obj) : Below w.heap.size w (w.alloc x) := (Below.refl _ _).alloc (Nat.le_refl _) _
theorem two_top (w : World) (x y : Obj) : ((w.alloc x).alloc y).heap[w.heap.size + 1]? = some y := by
  have := heap_alloc_new (w.alloc x) y
  simpa using this
theorem one_top (w : World) (x : Obj) : (w.alloc x).heap[w.heap.size]? = some x := heap_alloc_new w x
end Go.Proofs.Ytnplijgdklnipaa
