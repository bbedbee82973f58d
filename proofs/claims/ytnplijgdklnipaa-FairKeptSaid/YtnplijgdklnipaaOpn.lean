/- From a row's own conditions to the walks': what came in. -/
import Derived.Test.YtnplijgdklnipaaRows
import Derived.Test.YtnplijgdklnipaaFi
import Derived.ProofKit
import Derived.OpenShut
import Derived.ShutString
import Derived.ChangeOld
import Derived.SizedLaws
import Derived.Deep.Strs
namespace Go.Proofs.Ytnplijgdklnipaa
open Go.ChangeShapes Go.WideShapes Go.ChangeAt Go.RowKit
theorem own : ownKnob Try.prog.godebug = none := by kernel_rfl
theorem laidOut : laidOutB Try.prog = true := by kernel_rfl
theorem cellsOf3 : Try.prog.cellsOf 3 = 1 := by kernel_rfl
theorem cellsOf28 : Try.prog.cellsOf 28 = 3 := by kernel_rfl
def IntsAt (kd : IntKind) (w : World) (ao : Option Addr) (len : Nat) (zs : List Int) : Prop :=
  len = zs.length ∧ (0 < len → ∃ b off, ao = some ⟨b, off, none⟩ ∧ b < w.heap.size ∧ ∀ j, j < len → w.cell? ⟨b, off + j, none⟩ = some (.int kd (zs.getD j 0)))
/-- A slice of numbers that came in is just that. -/
theorem open_nums {H : Type} {enc : TypeId × Value → H} {W : World} {a0 : Option Addr} {len0 cap0 : Nat} {d0 : DataW H} {p0 : List MemPlace} {base : Nat} {held : Bool} {t e : TypeId} {kd : IntKind}
    (ht : Try.prog.underlying t = some (.slice e)) (he : Try.prog.underlying e = some (.int kd)) (hc : Try.prog.cellsOf e = 1)
    (h0 : DataW.Trod enc Try.prog W base (fun _ => true) held t (.slice a0 len0 cap0) d0 p0) : ∃ zs, IntsAt kd W a0 len0 zs ∧ ∀ n ∈ zs, (Lit.int kd n).wf = true := by
  obtain ⟨fuel, hf⟩ := h0
  rcases open_ints ht he hc hf with ⟨hcs, _⟩ | ⟨x, l, c, zs, hcs, _, hl, hm, hz, hx, hcell, hwz⟩
  · simp [Value.cells] at hcs
    obtain ⟨rfl, rfl, rfl⟩ := hcs
    exact ⟨[], ⟨rfl, fun h => by omega⟩, fun n h => by cases h⟩
  · simp [Value.cells] at hcs
    obtain ⟨rfl, rfl, rfl⟩ := hcs
    have hzc : zs.length = cap0 := by simpa using hz
    refine ⟨zs.take len0, ⟨by rw [List.length_take]; omega, fun hp => ?_⟩, fun n hn => hwz n (List.mem_of_mem_take hn)⟩
    obtain ⟨b, off, rfl, hc'⟩ := ints_at hcell (by omega)
    refine ⟨b, off, rfl, block_lt_of_cell (hc' 0 (by omega)), fun j hj => ?_⟩
    rw [hc' j (by omega)]
    simp only [List.getD_eq_getElem?_getD, List.getElem?_take, hj, if_true]

/-- A list of numbers that came in, as the walk reads it. -/
theorem open_list {H : Type} {enc : TypeId × Value → H} {W : World} {a0 : Option Addr} {len0 cap0 : Nat} {d0 : DataW H} {p0 : List MemPlace} {held : Bool}
    (h0 : DataW.Trod enc Try.prog W 0 (fun _ => true) held 41 (.slice a0 len0 cap0) d0 p0) : ∃ zs : List Int, 0 < len0 → ∃ b off, a0 = some ⟨b, off, none⟩ ∧ b < W.heap.size ∧ ∀ j, j < len0 → W.cell? ⟨b, off + j, none⟩ = some (.int .i64 (zs.getD j 0)) := by
  obtain ⟨zs, ⟨_, hz⟩, _⟩ := open_nums Try.underlying41 Try.underlying3 (by kernel_rfl) h0
  exact ⟨zs, hz⟩
theorem fun_of {p : Nat → S.Ln → Prop} {n : Nat} (h : ∀ i, i < n → ∃ x, p i x) : ∃ f : Nat → S.Ln, ∀ i, i < n → p i (f i) := by
  have h2 : ∀ i, ∃ x : S.Ln, i < n → p i x := fun i => by
    by_cases hi : i < n
    · obtain ⟨x, h⟩ := h i hi
      exact ⟨x, fun _ => h⟩
    · exact ⟨S.l0, fun h => absurd h hi⟩
  exact ⟨fun i => Classical.choose (h2 i), fun i hi => Classical.choose_spec (h2 i) hi⟩
theorem trod_struct3 {H : Type} {enc : TypeId × Value → H} {P : Program} {w : World} {base : Nat} {spare : Nat → Bool} {held : Bool} {t : TypeId} {f0 f1 f2 : Field} {fuel : Nat} {cs : List Value} {x : DataW H × List MemPlace} (ht : P.underlying t = some (.struct #[f0, f1, f2])) (h : DataW.trod enc P w base spare held fuel t cs = some x) :
    ∃ y0 y1 y2 n, DataW.trod enc P w base spare held n f0.type ((cs.drop f0.offset).take (P.cellsOf f0.type)) = some y0 ∧ DataW.trod enc P w base spare held n f1.type ((cs.drop f1.offset).take (P.cellsOf f1.type)) = some y1 ∧ DataW.trod enc P w base spare held n f2.type ((cs.drop f2.offset).take (P.cellsOf f2.type)) = some y2 := by
  obtain ⟨xs, n, _, rfl, hl, hlen, hf⟩ := DataW.trod_struct ht h
  match xs, hlen with
  | [y0, y1, y2], _ => exact ⟨y0, y1, y2, n, by simpa using hf 0 f0 rfl, by simpa using hf 1 f1 rfl, by simpa using hf 2 f2 rfl⟩
set_option maxHeartbeats 800000 in
set_option maxRecDepth 100000 in
/-- Lanes that came in. -/
theorem open_lanes {H : Type} {enc : TypeId × Value → H} {W : World} {a0 : Option Addr} {len0 cap0 : Nat} {d0 : DataW H} {p0 : List MemPlace} {held : Bool}
    (h0 : DataW.Trod enc Try.prog W 0 (fun _ => true) held 24 (.slice a0 len0 cap0) d0 p0) : ∃ l : List S.Ln, LnAt W (.slice a0 len0 cap0) l := by
  obtain ⟨fuel, hf⟩ := h0
  rcases Go.Deep.open_slice Try.underlying24 hf with ⟨hcs, _⟩ | ⟨a, len, cap, m, n, D, Pl, hcs, _, hl, hm, hmm, hx, hel⟩
  · simp [Value.cells] at hcs
    obtain ⟨rfl, rfl, rfl⟩ := hcs
    exact ⟨[], LnAt.nil _⟩
  · simp [Value.cells] at hcs
    obtain ⟨rfl, rfl, rfl⟩ := hcs
    simp only [if_true] at hmm
    by_cases hp : 0 < len0
    · obtain ⟨b, off, spot⟩ := a
      have hspot : spot = none := by
        obtain ⟨cs', h1, _⟩ := hel 0 (by omega)
        rw [cellsOf28] at h1
        obtain ⟨_, hlen, hc⟩ := World.cells?_some h1
        have h2 := hc 0 (by omega)
        have h3 : cs'[0]? = some (cs'[0]'(by omega)) := List.getElem?_eq_getElem (by omega)
        rw [h3] at h2
        simpa [Addr.add] using World.cell?_spot h2
      subst hspot
      have hat : ∀ i, i < len0 → ∃ x : S.Ln, W.rangeAt b (off + i * 3) (encL x) := fun i hi => by
        obtain ⟨cs', h1, h2⟩ := hel i (by omega)
        rw [cellsOf28] at h1
        obtain ⟨_, hlen, hc⟩ := World.cells?_some h1
        match cs', hlen with
        | [c0, c1, c2], _ =>
          obtain ⟨y0, y1, y2, k, t0, t1, t2⟩ := trod_struct3 Try.underlying28 h2
          simp [cellsOf3] at t0 t1 t2
          obtain ⟨z0, e0, _, _⟩ := DataW.trod_int Try.underlying3 t0
          obtain ⟨z1, e1, _, _⟩ := DataW.trod_int Try.underlying3 t1
          obtain ⟨z2, e2, _, _⟩ := DataW.trod_int Try.underlying3 t2
          simp at e0 e1 e2
          subst e0 e1 e2
          have g0 := hc 0 (by omega)
          have g1 := hc 1 (by omega)
          have g2 := hc 2 (by omega)
          rw [Addr.add_lit, Addr.add_lit] at g0 g1 g2
          refine ⟨⟨z0, z1, z2⟩, fun j u hu => ?_⟩
          have hj : j < 3 := (List.getElem?_eq_some_iff.1 hu).1
          rcases (show j = 0 ∨ j = 1 ∨ j = 2 by omega) with rfl | rfl | rfl
          · simp [encL] at hu; subst hu; exact g0
          · simp [encL] at hu; subst hu; exact g1
          · simp [encL] at hu; subst hu; exact g2
      obtain ⟨f, hf2⟩ := fun_of hat
      refine ⟨(List.range len0).map f, some ⟨b, off, none⟩, cap0, by simp, by simp; omega, fun e => by simp at e, fun _ => ⟨b, off, rfl, World.block_lt_of_cell? W _ (hf2 0 hp 0 _ rfl), fun j x hx => ?_⟩⟩
      rw [List.getElem?_map] at hx
      obtain ⟨hj, rfl⟩ : j < len0 ∧ f j = x := by
        by_cases hj : j < len0
        · rw [List.getElem?_range hj] at hx; exact ⟨hj, by simpa using hx⟩
        · rw [List.getElem?_eq_none (by simpa using hj)] at hx; simp at hx
      exact hf2 j hj
    · obtain rfl : len0 = 0 := by omega
      exact ⟨[], some a, cap0, rfl, by simp, fun e => by simp at e, fun h => by simp at h⟩
theorem open_in {H : Type} {enc : TypeId × Value → H} {W : World} {a0 : Option Addr} {len0 cap0 : Nat} {d0 : DataW H} {p0 : List MemPlace} {held : Bool}
    (h0 : DataW.Trod enc Try.prog W 0 (fun _ => true) held 41 (.slice a0 len0 cap0) d0 p0) : ∃ f : Nat → Int, InI W a0 len0 f := by
  obtain ⟨zs, hz⟩ := open_list h0
  exact ⟨fun i => zs.getD i 0, hz⟩
end Go.Proofs.Ytnplijgdklnipaa
