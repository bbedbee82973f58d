/- Arguments that came in: rows of numbers, rows of calls. -/
import Derived.Test.YtllcnppcncegpaaDoorArgh
import Derived.Test.YtllcnppcncegpaaDoorFa
namespace Go.Proofs.YtllcnppcncegpaaDoor
open Go.RowKit

open Go.ChangeShapes Go.WideShapes Go.ChangeAt
/-- A row of elements that reads so. -/
def RowAt {α : Type} (k : Nat) (enc : α → List Value) (w : World) (v : Value) (l : List α) : Prop :=
  ∃ ao cap, v = .slice ao l.length cap ∧ l.length ≤ cap ∧ (0 < l.length → ∃ g off, ao = some ⟨g, off, none⟩ ∧ g < w.heap.size ∧ ∀ j x, l[j]? = some x → w.rangeAt g (off + j * k) (enc x))
theorem RowAt.below {α : Type} {k : Nat} {enc : α → List Value} {w W : World} {v : Value} {l : List α} (h : RowAt k enc w v l) (hb : Below w.heap.size w W) : RowAt k enc W v l := by
  obtain ⟨ao, cap, h1, h2, h3⟩ := h
  refine ⟨ao, cap, h1, h2, fun hp => ?_⟩
  obtain ⟨g, off, e, hg, hc⟩ := h3 hp
  exact ⟨g, off, e, Nat.lt_of_lt_of_le hg hb.size, fun j x hx i u hu => (hb.cell (p := ⟨g, off + j * k + i, none⟩) hg).trans (hc j x hx i u hu)⟩
theorem rows_of {α : Type} {H : Type} {enc : TypeId × Value → H} {W : World} {t el : TypeId} {k : Nat} {ec : α → List Value} {P : α → Prop} {a0 : Option Addr} {len0 cap0 : Nat} {d0 : DataW H} {p0 : List MemPlace} {held : Bool}
    (hu : Tryd.prog.underlying t = some (.slice el)) (hk : Tryd.prog.cellsOf el = k) (hk0 : 0 < k) (hdec : ∀ (cs : List Value) (n : Nat) (y : DataW H × List MemPlace), cs.length = k → DataW.trod enc Tryd.prog W 0 (fun _ => true) held n el cs = some y → ∃ x, P x ∧ cs = ec x) (hec : ∀ x, P x → (ec x).length = k)
    (h0 : DataW.Trod enc Tryd.prog W 0 (fun _ => true) held t (.slice a0 len0 cap0) d0 p0) : ∃ l : List α, RowAt k ec W (.slice a0 len0 cap0) l ∧ l.length = len0 ∧ ∀ x ∈ l, P x := by
  obtain ⟨fuel, hf⟩ := h0
  rcases Go.Deep.open_slice hu hf with ⟨hcs, _⟩ | ⟨a, len, cap, m, n, D, Pl, hcs, _, hl, hm, hmm, hx, hel⟩
  · simp [Value.cells] at hcs
    obtain ⟨rfl, rfl, rfl⟩ := hcs
    exact ⟨[], ⟨none, 0, rfl, by simp, fun h => by simp at h⟩, rfl, by simp⟩
  · simp [Value.cells] at hcs
    obtain ⟨rfl, rfl, rfl⟩ := hcs
    simp only [if_true] at hmm
    rw [hk] at hel
    have hb : ∀ i : Fin len0, ∃ x : α, P x ∧ ∀ j u, (ec x)[j]? = some u → W.cell? (a.add (i.val * k + j)) = some u := fun i => by
      obtain ⟨cs', h1, h2⟩ := hel i.val (by have := i.isLt; omega)
      obtain ⟨_, hcl, hce⟩ := World.cells?_some h1
      obtain ⟨x, hx1, rfl⟩ := hdec _ _ _ hcl h2
      refine ⟨x, hx1, fun j u hu => ?_⟩
      have hj : j < k := by
        have := (List.getElem?_eq_some_iff.1 hu).1
        omega
      have := hce j hj
      rw [hu] at this
      rw [← add_add']
      exact this
    obtain ⟨f, hfb⟩ := Classical.axiomOfChoice hb
    refine ⟨List.ofFn f, ⟨some a, cap0, by simp, by simpa using hl, fun hp => ?_⟩, by simp, fun x hx => ?_⟩
    · have hp0 : 0 < len0 := by simpa using hp
      obtain ⟨b, off, spot⟩ := a
      have l0 := hec _ (hfb ⟨0, hp0⟩).1
      obtain ⟨u0, hu0⟩ : ∃ u, (ec (f ⟨0, hp0⟩))[0]? = some u := ⟨_, List.getElem?_eq_getElem (by omega)⟩
      have h00 := (hfb ⟨0, hp0⟩).2 0 u0 hu0
      have hspot : spot = none := by simpa [Addr.add] using World.cell?_spot h00
      subst hspot
      refine ⟨b, off, rfl, ?_, fun i x hix j u hu => ?_⟩
      · rw [Addr.add_lit] at h00
        exact block_lt_of_cell (a := ⟨b, off + (0 * k + 0), none⟩) h00
      · rw [List.getElem?_ofFn] at hix
        split at hix
        · simp only [Option.some.injEq] at hix
          subst hix
          have := (hfb ⟨i, by assumption⟩).2 j u hu
          rw [Addr.add_lit, ← Nat.add_assoc] at this
          exact this
        · cases hix
    · obtain ⟨i, rfl⟩ := List.mem_ofFn.1 hx
      exact (hfb i).1
def encN (n : Nat) : List Value := [.int .u32 (n : Int)]
theorem cellsV : Tryd.prog.cellsOf 27 = 1 := by kernel_rfl
/-- A list of numbers of 32 bits that came in. -/
theorem open_u32s {H : Type} {enc : TypeId × Value → H} {W : World} {a0 : Option Addr} {len0 cap0 : Nat} {d0 : DataW H} {p0 : List MemPlace} {held : Bool}
    (h0 : DataW.Trod enc Tryd.prog W 0 (fun _ => true) held 56 (.slice a0 len0 cap0) d0 p0) : ∃ l : List Nat, RowAt 1 encN W (.slice a0 len0 cap0) l ∧ l.length = len0 ∧ ∀ x ∈ l, x < 4294967296 :=
  rows_of (P := fun n => n < 4294967296) Tryd.underlying56 cellsV (by omega) (fun cs n y hcl h => by
    obtain ⟨v, hv, _, hw⟩ := DataW.trod_int Tryd.underlying27 h
    have b := wf_u32_ends hw
    obtain ⟨m, rfl⟩ := Int.eq_ofNat_of_zero_le b.1
    exact ⟨m, by omega, hv⟩) (fun _ _ => rfl) h0
/-- One call of a ring, as the statement has it. -/
structure S.Ak where
  kind : Int
  tree : Int
  turn : Int
  draw : Nat
  h : S.Hd
def encA (x : S.Ak) : List Value := .int .i64 x.kind :: .int .i64 x.tree :: .int .i64 x.turn :: .int .u32 (x.draw : Int) :: encH x.h
structure S.Ak.Ok (x : S.Ak) : Prop where
  k1 : -9223372036854775808 ≤ x.kind
  k2 : x.kind ≤ 9223372036854775807
  t1 : -9223372036854775808 ≤ x.tree
  t2 : x.tree ≤ 9223372036854775807
  u1 : -9223372036854775808 ≤ x.turn
  u2 : x.turn ≤ 9223372036854775807
  d2 : x.draw < 4294967296
  h : x.h.Ok
theorem encA_length (x : S.Ak) (hx : x.h.root.length = 32) : (encA x).length = 40 := by rw [encA]; simp only [List.length_cons, encH_length _ hx]
theorem cellsA : Tryd.prog.cellsOf 60 = 40 := by kernel_rfl
theorem ask_cells {H : Type} {enc : TypeId × Value → H} {W : World} {base fuel : Nat} {spare : Nat → Bool} {held : Bool} {cs : List Value} {y : DataW H × List MemPlace} (hl : cs.length = 40)
    (h : DataW.trod enc Tryd.prog W base spare held fuel 60 cs = some y) : ∃ x : S.Ak, x.Ok ∧ cs = encA x := by
  obtain ⟨xs, n, _, _, _, hlen, hf⟩ := DataW.trod_struct Tryd.underlying60 h
  match xs, hlen with
  | [y0, y1, y2, y3, y4], _ =>
    have h0 : DataW.trod enc Tryd.prog W base spare held n 3 ((cs.drop 0).take (Tryd.prog.cellsOf 3)) = some y0 := hf 0 _ rfl
    have h1 : DataW.trod enc Tryd.prog W base spare held n 3 ((cs.drop 1).take (Tryd.prog.cellsOf 3)) = some y1 := hf 1 _ rfl
    have h2 : DataW.trod enc Tryd.prog W base spare held n 3 ((cs.drop 2).take (Tryd.prog.cellsOf 3)) = some y2 := hf 2 _ rfl
    have h3 : DataW.trod enc Tryd.prog W base spare held n 27 ((cs.drop 3).take (Tryd.prog.cellsOf 27)) = some y3 := hf 3 _ rfl
    have h4 : DataW.trod enc Tryd.prog W base spare held n 32 ((cs.drop 4).take (Tryd.prog.cellsOf 32)) = some y4 := hf 4 _ rfl
    rw [cellsI] at h0 h1 h2
    rw [cellsV] at h3
    rw [cellsH] at h4
    obtain ⟨n0, e0, _, w0⟩ := DataW.trod_int Tryd.underlying3 h0
    obtain ⟨n1, e1, _, w1⟩ := DataW.trod_int Tryd.underlying3 h1
    obtain ⟨n2, e2, _, w2⟩ := DataW.trod_int Tryd.underlying3 h2
    obtain ⟨n3, e3, _, w3⟩ := DataW.trod_int Tryd.underlying27 h3
    obtain ⟨r, r1, r2⟩ := head_cells (cs := (cs.drop 4).take 36) (by rw [List.length_take, List.length_drop]; omega) h4
    have b0 := wf_i64_ends w0
    have b1 := wf_i64_ends w1
    have b2 := wf_i64_ends w2
    have b3 := wf_u32_ends w3
    obtain ⟨m3, rfl⟩ := Int.eq_ofNat_of_zero_le b3.1
    refine ⟨⟨n0, n1, n2, m3, r⟩, ⟨b0.1, b0.2, b1.1, b1.2, b2.1, b2.2, by show m3 < _; omega, r1⟩, ?_⟩
    rw [List.take_of_length_le (by rw [List.length_drop]; omega)] at r2
    obtain ⟨c0, c1, c2, c3, rest, rfl⟩ := four (cs := cs) (by omega)
    simp at e0 e1 e2 e3 r2
    rw [encA, e0, e1, e2, e3, r2]
/-- A list of calls that came in. -/
theorem open_asks {H : Type} {enc : TypeId × Value → H} {W : World} {a0 : Option Addr} {len0 cap0 : Nat} {d0 : DataW H} {p0 : List MemPlace} {held : Bool}
    (h0 : DataW.Trod enc Tryd.prog W 0 (fun _ => true) held 54 (.slice a0 len0 cap0) d0 p0) : ∃ l : List S.Ak, RowAt 40 encA W (.slice a0 len0 cap0) l ∧ l.length = len0 ∧ ∀ x ∈ l, x.Ok :=
  rows_of (P := S.Ak.Ok) Tryd.underlying54 cellsA (by omega) (fun cs n y hcl h => ask_cells hcl h) (fun x hx => encA_length x hx.h.r) h0
end Go.Proofs.YtllcnppcncegpaaDoor
