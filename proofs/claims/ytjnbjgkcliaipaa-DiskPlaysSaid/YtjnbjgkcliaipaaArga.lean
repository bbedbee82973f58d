/- Arguments that came in: a list of calls. -/
import Derived.Test.YtjnbjgkcliaipaaArgc
import Derived.Test.YtjnbjgkcliaipaaPlays
namespace Go.Proofs.Ytjnbjgkcliaipaa
open Go.ChangeShapes Go.WideShapes Go.ChangeAt Go.RowKit
theorem cellsOf48 : Try.prog.cellsOf 48 = 7 := by kernel_rfl
theorem trod_struct5 {H : Type} {enc : TypeId × Value → H} {P : Program} {w : World} {base : Nat} {spare : Nat → Bool} {held : Bool} {t : TypeId} {f0 f1 f2 f3 f4 : Field} {fuel : Nat} {cs : List Value} {x : DataW H × List MemPlace} (ht : P.underlying t = some (.struct #[f0, f1, f2, f3, f4])) (h : DataW.trod enc P w base spare held fuel t cs = some x) :
    ∃ y0 y1 y2 y3 y4 n, DataW.trod enc P w base spare held n f0.type ((cs.drop f0.offset).take (P.cellsOf f0.type)) = some y0 ∧ DataW.trod enc P w base spare held n f1.type ((cs.drop f1.offset).take (P.cellsOf f1.type)) = some y1 ∧ DataW.trod enc P w base spare held n f2.type ((cs.drop f2.offset).take (P.cellsOf f2.type)) = some y2 ∧ DataW.trod enc P w base spare held n f3.type ((cs.drop f3.offset).take (P.cellsOf f3.type)) = some y3 ∧ DataW.trod enc P w base spare held n f4.type ((cs.drop f4.offset).take (P.cellsOf f4.type)) = some y4 := by
  obtain ⟨xs, n, _, rfl, hl, hlen, hf⟩ := DataW.trod_struct ht h
  match xs, hlen with
  | [y0, y1, y2, y3, y4], _ => exact ⟨y0, y1, y2, y3, y4, n, by simpa using hf 0 f0 rfl, by simpa using hf 1 f1 rfl, by simpa using hf 2 f2 rfl, by simpa using hf 3 f3 rfl, by simpa using hf 4 f4 rfl⟩
set_option maxHeartbeats 800000 in
set_option maxRecDepth 100000 in
theorem open_asks {H : Type} {enc : TypeId × Value → H} {W : World} {a0 : Option Addr} {len0 cap0 : Nat} {d0 : DataW H} {p0 : List MemPlace} {held : Bool} {base : Nat}
    (h0 : DataW.Trod enc Try.prog W base (fun _ => true) held 43 (.slice a0 len0 cap0) d0 p0) : ∃ qs, AsksAt W a0 len0 qs := by
  obtain ⟨fuel, hf⟩ := h0
  rcases Go.Deep.open_slice Try.underlying43 hf with ⟨hcs, _⟩ | ⟨a, len, cap, m, n, D, Pl, hcs, _, hl, hm, hmm, hx, hel⟩
  · simp [Value.cells] at hcs
    obtain ⟨rfl, rfl, rfl⟩ := hcs
    exact ⟨[], rfl, fun h => by omega⟩
  · simp [Value.cells] at hcs
    obtain ⟨rfl, rfl, rfl⟩ := hcs
    simp only [if_true] at hmm
    by_cases hp : 0 < len0
    · obtain ⟨b, off, spot⟩ := a
      have hspot : spot = none := by
        obtain ⟨cs', h1, _⟩ := hel 0 (by omega)
        rw [cellsOf48] at h1
        obtain ⟨_, hlen, hc⟩ := World.cells?_some h1
        have h2 := hc 0 (by omega)
        have h3 : cs'[0]? = some (cs'[0]'(by omega)) := List.getElem?_eq_getElem (by omega)
        rw [h3] at h2
        simpa [Addr.add] using World.cell?_spot h2
      subst hspot
      have hat : ∀ i, i < len0 → ∃ q : S.Ask, W.rangeAt b (off + i * 7) q.cells ∧ BoolsAt W q.kv q.cut.keep ∧ q.size ≤ 9223372036854775807 := fun i hi => by
        obtain ⟨cs', h1, h2⟩ := hel i (by omega)
        rw [cellsOf48] at h1
        obtain ⟨_, hlen, hc⟩ := World.cells?_some h1
        match cs', hlen with
        | [c0, c1, c2, c3, c4, c5, c6], _ =>
          obtain ⟨y0, y1, y2, y3, y4, k, t0, t1, t2, t3, t4⟩ := trod_struct5 Try.underlying48 h2
          simp [cellsOf3, cellsOf5, cellsOf38] at t0 t1 t2 t3 t4
          obtain ⟨z0, e0, _, _⟩ := DataW.trod_int Try.underlying3 t0
          obtain ⟨z1, e1, _, _⟩ := DataW.trod_int Try.underlying3 t1
          obtain ⟨z2, e2, _, w2⟩ := DataW.trod_int Try.underlying3 t2
          obtain ⟨z3, e3, _, w3⟩ := DataW.trod_int Try.underlying5 t3
          obtain ⟨u0, u1, u2, k2, _, _, s0, s1, s2⟩ := Go.Deep.trod_struct3 Try.underlying38 t4
          simp [cellsOf36, cellsOf3] at s0 s1 s2
          obtain ⟨ks, hks⟩ := bools_cell s0
          obtain ⟨z5, e5, _, _⟩ := DataW.trod_int Try.underlying3 s1
          obtain ⟨z6, e6, _, _⟩ := DataW.trod_int Try.underlying3 s2
          obtain ⟨f, hf⟩ := byte_of w3
          simp at e0 e1 e2 e3 e5 e6
          subst e0 e1 e2 e3 e5 e6
          refine ⟨⟨z0, z1, z2, f, c4, ⟨ks, z5, z6⟩⟩, fun j v hv => ?_, hks, (wf_i64_ends w2).2⟩
          have hj : j < 7 := by have := (List.getElem?_eq_some_iff.1 hv).1; simpa [S.Ask.cells] using this
          have := hc j hj
          rw [Addr.add_lit, Addr.add_lit] at this
          rw [this, ← hv, S.Ask.cells, ← hf]
      obtain ⟨qs, hq, hqp⟩ := list_of S.ask0 len0 hat
      refine ⟨qs, hq.symm, fun _ => ⟨b, off, rfl, ?_, hqp⟩⟩
      have h1 := (hqp 0 hp).1 0 _ rfl
      exact World.block_lt_of_cell? W _ h1
    · exact ⟨List.replicate len0 S.ask0, by simp, fun h => absurd h hp⟩
end Go.Proofs.Ytjnbjgkcliaipaa
