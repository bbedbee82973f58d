/- Arguments that came in: a caveat, a number. -/
import Derived.Test.YtlcilclhaahopaaDoorZe
import Derived.Test.YtlcilclhaahopaaDoorTc
import Derived.Deep.Strs
import Derived.Test.YtlcilclhaahopaaDoorFa
namespace Go.Proofs.YtlcilclhaahopaaDoor
open Go.RowKit

open Go.ChangeShapes Go.WideShapes Go.ChangeAt
theorem wf_u32_ends {n : Int} (h : (Lit.int .u32 n).wf = true) : 0 ≤ n ∧ n < 4294967296 := by
  simp [Lit.wf, IntKind.min, IntKind.max, IntKind.signed, IntKind.bits] at h
  omega
theorem cellsI : Tryd.prog.cellsOf 3 = 1 := by kernel_rfl
theorem cellsV : Tryd.prog.cellsOf 22 = 1 := by kernel_rfl
theorem cellsC : Tryd.prog.cellsOf 42 = 2 := by kernel_rfl
theorem two {cs : List Value} (h : cs.length = 2) : ∃ c0 c1, cs = [c0, c1] := by
  match cs, h with
  | [c0, c1], _ => exact ⟨c0, c1, rfl⟩
set_option maxRecDepth 100000 in
/-- The cells of a caveat that can be read. -/
theorem cav_cells {H : Type} {enc : TypeId × Value → H} {W : World} {base fuel : Nat} {spare : Nat → Bool} {held : Bool} {cs : List Value} {y : DataW H × List MemPlace} (hl : cs.length = 2)
    (h : DataW.trod enc Tryd.prog W base spare held fuel 42 cs = some y) : ∃ x : S.Cv, x.Ok ∧ cs = encC x := by
  obtain ⟨xs, n, _, _, _, hlen, hf⟩ := DataW.trod_struct Tryd.underlying42 h
  match xs, hlen with
  | [y0, y1], _ =>
    have h0 : DataW.trod enc Tryd.prog W base spare held n 3 ((cs.drop 0).take (Tryd.prog.cellsOf 3)) = some y0 := hf 0 _ rfl
    have h1 : DataW.trod enc Tryd.prog W base spare held n 22 ((cs.drop 1).take (Tryd.prog.cellsOf 22)) = some y1 := hf 1 _ rfl
    rw [cellsI] at h0
    rw [cellsV] at h1
    obtain ⟨n0, e0, _, w0⟩ := DataW.trod_int Tryd.underlying3 h0
    obtain ⟨n1, e1, _, w1⟩ := DataW.trod_int Tryd.underlying22 h1
    have b0 := wf_i64_ends w0
    have b1 := wf_u32_ends w1
    obtain ⟨m1, rfl⟩ := Int.eq_ofNat_of_zero_le b1.1
    refine ⟨⟨n0, m1⟩, ⟨b0.1, b0.2, by show m1 < _; omega⟩, ?_⟩
    obtain ⟨c0, c1, rfl⟩ := two hl
    simp at e0 e1
    rw [encC, e0, e1]
    try rfl
set_option maxRecDepth 100000 in
theorem open_cav {H : Type} {enc : TypeId × Value → H} {W : World} {r : Reach} {b0 base : Nat} {spare : Nat → Bool} {held : Bool} {v : Value} {d : DataW H} {p : List MemPlace}
    (hv : Value.okWide Tryd.prog W r b0 42 v) (h : DataW.Trod enc Tryd.prog W base spare held 42 v d p) : ∃ x : S.Cv, x.Ok ∧ v = .agg (encC x).toArray := by
  have hs : ∃ cs, v = .agg cs ∧ cs.size = Tryd.prog.cellsOf 42 := by
    simp only [Value.okWide, Tryd.underlying42] at hv
    obtain ⟨cs, h1, h2, _⟩ := hv
    exact ⟨cs, h1, h2⟩
  obtain ⟨cs, rfl, hsz⟩ := hs
  rw [cellsC] at hsz
  obtain ⟨fuel, hf⟩ := h
  obtain ⟨x, h1, h2⟩ := cav_cells (cs := cs.toList) (by simpa using hsz) (by simpa [Value.cells] using hf)
  refine ⟨x, h1, congrArg Value.agg ?_⟩
  apply Array.ext'
  rw [h2]
end Go.Proofs.YtlcilclhaahopaaDoor
namespace Go.Proofs.YtlcilclhaahopaaDoor
open Go.RowKit
open Go.ChangeShapes Go.WideShapes Go.ChangeAt
/-- A row of elements that reads so. -/
def RowAt {α : Type} (k : Nat) (enc : α → List Value) (w : World) (v : Value) (l : List α) : Prop :=
  ∃ ao cap, v = .slice ao l.length cap ∧ l.length ≤ cap ∧ (0 < l.length → ∃ g off, ao = some ⟨g, off, none⟩ ∧ g < w.heap.size ∧ ∀ j x, l[j]? = some x → w.rangeAt g (off + j * k) (enc x))
theorem RowAt.below {α : Type} {k : Nat} {enc : α → List Value} {w W : World} {v : Value} {l : List α} (h : RowAt k enc w v l) (hb : Below w.heap.size w W) : RowAt k enc W v l := by
  obtain ⟨ao, cap, h1, h2, h3⟩ := h
  refine ⟨ao, cap, h1, h2, fun hp => ?_⟩
  obtain ⟨g, off, e, hg, hc⟩ := h3 hp
  exact ⟨g, off, e, Nat.lt_of_lt_of_le hg hb.size, fun j x hx i u hu => (hb.cell (p := ⟨g, off + j * k + i, none⟩) hg).trans (hc j x hx i u hu)⟩
theorem rows_of {α : Type} {H : Type} {enc : TypeId × Value → H} {W : World} {t el : TypeId} {k : Nat} {ec : α → List Value} {P : α → Prop} {a0 : Option Addr} {len0 cap0 : Nat} {d0 : DataW H} {p0 : List MemPlace} {held : Bool}
    (hu : Tryd.prog.underlying t = some (.slice el)) (hk : Tryd.prog.cellsOf el = k) (hk0 : 0 < k) (hdec : ∀ (cs : List Value) (n : Nat) (y : DataW H × List MemPlace), cs.length = k → DataW.trod enc Tryd.prog W 0 (fun _ => true) held n el cs = some y → ∃ x, P x ∧ cs = ec x) (hec : ∀ x, P x → (ec x).length = k)
    (h0 : DataW.Trod enc Tryd.prog W 0 (fun _ => true) held t (.slice a0 len0 cap0) d0 p0) : ∃ l : List α, RowAt k ec W (.slice a0 len0 cap0) l ∧ l.length = len0 ∧ ∀ x ∈ l, P x := by
  obtain ⟨fuel, hf⟩ := h0
  rcases Go.Deep.open_slice hu hf with ⟨hcs, _⟩ | ⟨a, len, cap, m, n, D, Pl, hcs, _, hl, hm, hmm, hx, hel⟩
  · simp [Value.cells] at hcs
    obtain ⟨rfl, rfl, rfl⟩ := hcs
    exact ⟨[], ⟨none, 0, rfl, by simp, fun h => by simp at h⟩, rfl, by simp⟩
  · simp [Value.cells] at hcs
    obtain ⟨rfl, rfl, rfl⟩ := hcs
    simp only [if_true] at hmm
    rw [hk] at hel
    have hb : ∀ i : Fin len0, ∃ x : α, P x ∧ ∀ j u, (ec x)[j]? = some u → W.cell? (a.add (i.val * k + j)) = some u := fun i => by
      obtain ⟨cs', h1, h2⟩ := hel i.val (by have := i.isLt; omega)
      obtain ⟨_, hcl, hce⟩ := World.cells?_some h1
      obtain ⟨x, hx1, rfl⟩ := hdec _ _ _ hcl h2
      refine ⟨x, hx1, fun j u hu => ?_⟩
      have hj : j < k := by
        have := (List.getElem?_eq_some_iff.1 hu).1
        omega
      have := hce j hj
      rw [hu] at this
      rw [← add_add']
      exact this
    obtain ⟨f, hfb⟩ := Classical.axiomOfChoice hb
    refine ⟨List.ofFn f, ⟨some a, cap0, by simp, by simpa using hl, fun hp => ?_⟩, by simp, fun x hx => ?_⟩
    · have hp0 : 0 < len0 := by simpa using hp
      obtain ⟨b, off, spot⟩ := a
      have l0 := hec _ (hfb ⟨0, hp0⟩).1
      obtain ⟨u0, hu0⟩ : ∃ u, (ec (f ⟨0, hp0⟩))[0]? = some u := ⟨_, List.getElem?_eq_getElem (by omega)⟩
      have h00 := (hfb ⟨0, hp0⟩).2 0 u0 hu0
      have hspot : spot = none := by simpa [Addr.add] using World.cell?_spot h00
      subst hspot
      refine ⟨b, off, rfl, ?_, fun i x hix j u hu => ?_⟩
      · rw [Addr.add_lit] at h00
        exact block_lt_of_cell (a := ⟨b, off + (0 * k + 0), none⟩) h00
      · rw [List.getElem?_ofFn] at hix
        split at hix
        · simp only [Option.some.injEq] at hix
          subst hix
          have := (hfb ⟨i, by assumption⟩).2 j u hu
          rw [Addr.add_lit, ← Nat.add_assoc] at this
          exact this
        · cases hix
    · obtain ⟨i, rfl⟩ := List.mem_ofFn.1 hx
      exact (hfb i).1

def encN (n : Nat) : List Value := [.int .u32 (n : Int)]
/-- A list of numbers of 32 bits that came in. -/
theorem open_u32s {H : Type} {enc : TypeId × Value → H} {W : World} {a0 : Option Addr} {len0 cap0 : Nat} {d0 : DataW H} {p0 : List MemPlace} {held : Bool}
    (h0 : DataW.Trod enc Tryd.prog W 0 (fun _ => true) held 48 (.slice a0 len0 cap0) d0 p0) : ∃ l : List Nat, RowAt 1 encN W (.slice a0 len0 cap0) l ∧ l.length = len0 ∧ ∀ x ∈ l, x < 4294967296 :=
  rows_of (P := fun n => n < 4294967296) Tryd.underlying48 cellsV (by omega) (fun cs n y hcl h => by
    obtain ⟨v, hv, _, hw⟩ := DataW.trod_int Tryd.underlying22 h
    have b := wf_u32_ends hw
    obtain ⟨m, rfl⟩ := Int.eq_ofNat_of_zero_le b.1
    exact ⟨m, by omega, hv⟩) (fun _ _ => rfl) h0
/-- A list of caveats that came in. -/
theorem open_cavs {H : Type} {enc : TypeId × Value → H} {W : World} {a0 : Option Addr} {len0 cap0 : Nat} {d0 : DataW H} {p0 : List MemPlace} {held : Bool}
    (h0 : DataW.Trod enc Tryd.prog W 0 (fun _ => true) held 23 (.slice a0 len0 cap0) d0 p0) : ∃ l : List S.Cv, RowAt 2 encC W (.slice a0 len0 cap0) l ∧ l.length = len0 ∧ ∀ x ∈ l, x.Ok :=
  rows_of (P := fun x : S.Cv => x.Ok) Tryd.underlying23 cellsC (by omega) (fun cs n y hcl h => by
    obtain ⟨x, h1, h2⟩ := cav_cells hcl h
    exact ⟨x, h1, h2⟩) (fun _ _ => rfl) h0
end Go.Proofs.YtlcilclhaahopaaDoor
namespace Go.Proofs.YtlcilclhaahopaaDoor
open Go.RowKit

open Go.ChangeShapes Go.WideShapes Go.ChangeAt
theorem cells27t : Tryd.prog.cellsOf 27 = 34 := by kernel_rfl
theorem cells23t : Tryd.prog.cellsOf 23 = 1 := by kernel_rfl
theorem cells25t : Tryd.prog.cellsOf 25 = 32 := by kernel_rfl
/-- A list of caveats that came in, with its room: what is nil has no room. -/
theorem open_cvs {H : Type} {enc : TypeId × Value → H} {W : World} {a0 : Option Addr} {len0 cap0 : Nat} {d0 : DataW H} {p0 : List MemPlace} {held : Bool}
    (h0 : DataW.Trod enc Tryd.prog W 0 (fun _ => true) held 23 (.slice a0 len0 cap0) d0 p0) : ∃ l : List S.Cv, CvAt W (.slice a0 len0 cap0) l ∧ l.length = len0 ∧ ∀ x ∈ l, x.Ok := by
  have hnone : a0 = none → cap0 = 0 := by
    obtain ⟨fuel, hf⟩ := h0
    rcases Go.Deep.open_slice Tryd.underlying23 hf with ⟨hcs, _⟩ | ⟨a, len, cap, m, n, D, Pl, hcs, _⟩
    · simp [Value.cells] at hcs
      obtain ⟨rfl, rfl, rfl⟩ := hcs
      exact fun _ => rfl
    · simp [Value.cells] at hcs
      obtain ⟨rfl, rfl, rfl⟩ := hcs
      exact fun e => by cases e
  obtain ⟨l, ⟨ao, cap, e, h2, h3⟩, hl, hx⟩ := open_cavs h0
  simp only [Value.slice.injEq] at e
  obtain ⟨rfl, e2, rfl⟩ := e
  exact ⟨l, ⟨a0, cap0, by rw [e2], h2, hnone, h3⟩, hl, hx⟩
theorem bytesCv : Tryd.prog.bytesOf 42 = 16 := by kernel_rfl
theorem bytesU32 : Tryd.prog.bytesOf 22 = 4 := by kernel_rfl
/-- How long a slice may be that came in. -/
theorem len_of_weights {H : Type} {enc : TypeId × Value → H} {W : World} {t el : TypeId} {a0 : Option Addr} {len0 cap0 : Nat} {d0 : DataW H} {p0 : List MemPlace} {held : Bool} (hu : Tryd.prog.underlying t = some (.slice el))
    (h0 : DataW.Trod enc Tryd.prog W 0 (fun _ => true) held t (.slice a0 len0 cap0) d0 p0) (hwt : ∀ k ∈ d0.weights Tryd.prog t, k ≤ reachBytes) : len0 * Tryd.prog.bytesOf el ≤ reachBytes := by
  obtain ⟨fuel, hf⟩ := h0
  rcases Go.Deep.open_slice hu hf with ⟨hcs, _⟩ | ⟨a, len, cap, m, n, D, Pl, hcs, _, hl, hm, hmm, hx, hel⟩
  · simp [Value.cells] at hcs
    obtain ⟨rfl, rfl, rfl⟩ := hcs
    simp
  · simp [Value.cells] at hcs
    obtain ⟨rfl, rfl, rfl⟩ := hcs
    have hd0 : d0 = .slice ((List.range len0).map D) ((List.range (m - len0)).map fun j => D (len0 + j)) := congrArg Prod.fst hx
    rw [hd0] at hwt
    have h2 := hwt ((_ + _) * Tryd.prog.bytesOf el) (by rw [DataW.weights, hu]; exact List.mem_cons_self)
    simp only [List.length_map, List.length_range] at h2
    exact Nat.le_trans (Nat.mul_le_mul_right _ (Nat.le_add_right _ _)) h2
theorem weights_in {H : Type} {ts : List TypeId} {ds : List (DataW H)} {j : Nat} {t : TypeId} {d0 : DataW H} (hj : ts[j]? = some t) (hd : ds[j]? = some d0) (hsz : (DataW.weightsEach Tryd.prog ts ds).all (· ≤ reachBytes) = true) : ∀ k ∈ d0.weights Tryd.prog t, k ≤ reachBytes := fun k hk => by
  have := List.all_eq_true.1 hsz k (DataW.weights_mem_each hj hd k hk)
  simpa using this
theorem slice_of_trod {H : Type} {enc : TypeId × Value → H} {W : World} {fuel : Nat} {held : Bool} {u : Value} {y : DataW H × List MemPlace}
    (h : DataW.trod enc Tryd.prog W 0 (fun _ => true) held fuel 23 [u] = some y) : ∃ a0 len0 cap0, u = .slice a0 len0 cap0 := by
  rcases Go.Deep.open_slice Tryd.underlying23 h with ⟨hcs, _⟩ | ⟨a, len, cap, m, n, D, Pl, hcs, _⟩
  · simp at hcs; exact ⟨_, _, _, hcs⟩
  · simp at hcs; exact ⟨_, _, _, hcs⟩
set_option maxRecDepth 100000 in
/-- A token that came in. -/
theorem open_token {H : Type} {enc : TypeId × Value → H} {W : World} {r : Reach} {b0 : Nat} {ts : List TypeId} {ds : List (DataW H)} {j : Nat} {v : Value} {d0 : DataW H} {p0 : List MemPlace} {held : Bool}
    (hv : Value.okWide Tryd.prog W r b0 27 v) (hj : ts[j]? = some 27) (hd : ds[j]? = some d0) (h0 : DataW.Trod enc Tryd.prog W 0 (fun _ => true) held 27 v d0 p0)
    (hsz : (DataW.weightsEach Tryd.prog ts ds).all (· ≤ reachBytes) = true) : ∃ (x : S.Tk) (cv : Value), v = .agg (encT x.id cv x.tag).toArray ∧ x.Ok ∧ CvAt W cv x.cs := by
  have hs : ∃ cs, v = .agg cs ∧ cs.size = Tryd.prog.cellsOf 27 := by
    simp only [Value.okWide, Tryd.underlying27] at hv
    obtain ⟨cs, h1, h2, _⟩ := hv
    exact ⟨cs, h1, h2⟩
  obtain ⟨cs, rfl, hcs⟩ := hs
  rw [cells27t] at hcs
  obtain ⟨cl⟩ := cs
  obtain ⟨a, u, rest, rfl⟩ : ∃ a u rest, cl = a :: u :: rest := by
    rcases cl with _ | ⟨a, _ | ⟨u, rest⟩⟩
    · simp at hcs
    · simp at hcs
    · exact ⟨a, u, rest, rfl⟩
  have hrl : rest.length = 32 := by simpa using hcs
  obtain ⟨fuel, hf⟩ := h0
  obtain ⟨y0, y1, y2, n, hx, _, h1, h2, h3⟩ := Go.Deep.trod_struct3 Tryd.underlying27 (by simpa [Value.cells] using hf)
  have hw := weights_in hj hd hsz
  have hd0 : d0 = .agg [y0.1, y1.1, y2.1] := congrArg Prod.fst hx
  simp only [cellsV, cells23t, cells25t, List.drop_zero, List.take_succ_cons, List.take_zero, List.drop_succ_cons] at h1 h2 h3
  obtain ⟨n1, hn1, _, w1⟩ := DataW.trod_int Tryd.underlying22 h1
  simp only [List.cons.injEq, and_true] at hn1
  subst hn1
  have b1 := wf_u32_ends w1
  obtain ⟨m1, rfl⟩ := Int.eq_ofNat_of_zero_le b1.1
  obtain ⟨a0, len0, cap0, rfl⟩ := slice_of_trod h2
  have htr : DataW.Trod enc Tryd.prog W 0 (fun _ => true) held 23 (.slice a0 len0 cap0) y1.1 y1.2 := ⟨n, by simpa [Value.cells] using h2⟩
  obtain ⟨l, hl1, hl2, hl3⟩ := open_cvs htr
  have hb := len_of_weights Tryd.underlying23 htr (fun k hk => hw k (by
    rw [hd0, DataW.weights, Tryd.underlying27]
    simp [DataW.weightsEach]
    exact Or.inr (Or.inl hk)))
  rw [bytesCv] at hb
  obtain ⟨tag, ht1, ht2⟩ := digest_cells (cs := rest) hrl (by
    have e : rest.take 32 = rest := List.take_of_length_le (by omega)
    simpa [e] using h3)
  exact ⟨⟨m1, l, tag⟩, .slice a0 len0 cap0, by rw [encT, ht2], ⟨by show m1 < _; omega, ht1, hl3, by show l.length ≤ _; simp only [reachBytes] at hb; omega⟩, hl1⟩
end Go.Proofs.YtlcilclhaahopaaDoor
