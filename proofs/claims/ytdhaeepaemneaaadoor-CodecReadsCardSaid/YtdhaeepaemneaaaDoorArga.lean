/- Arguments that came in: a list of calls. -/
import Derived.Test.YtdhaeepaemneaaaDoorArgd
import Derived.Test.YtdhaeepaemneaaaDoorAsks
import Derived.Deep.Slices
import Derived.Lib.SmallJoins
namespace Go.Proofs.YtdhaeepaemneaaaDoor
open Go.ChangeShapes Go.WideShapes Go.ChangeAt Go.RowKit
theorem mem_weightsAll {H : Type} {P : Program} {e : TypeId} {l : List (DataW H)} {d : DataW H} (hd : d ∈ l) : ∀ n ∈ d.weights P e, n ∈ DataW.weightsAll P e l := by
  intro n hn
  induction l with
  | nil => cases hd
  | cons x t ih =>
    rw [DataW.weightsAll]
    rcases List.mem_cons.1 hd with rfl | h
    · exact List.mem_append.2 (Or.inl hn)
    · exact List.mem_append.2 (Or.inr (ih h))
theorem cells42 : Tryd.prog.cellsOf 42 = 4 := by kernel_rfl
theorem cells3 : Tryd.prog.cellsOf 3 = 1 := by kernel_rfl
theorem cells24 : Tryd.prog.cellsOf 24 = 1 := by kernel_rfl
theorem cells27' : Tryd.prog.cellsOf 27 = 1 := by kernel_rfl
/-- A []byte in a cell, within reach. -/
theorem bytes_cell {H : Type} {enc : TypeId × Value → H} {W : World} {fuel : Nat} {c : Value} {y : DataW H × List MemPlace} {held : Bool}
    (h : DataW.trod enc Tryd.prog W 0 (fun _ => true) held fuel 24 [c] = some y) (hw : ∀ n ∈ y.1.weights Tryd.prog 24, n ≤ reachBytes) : ∃ bs : List UInt8, SliceAt W c bs ∧ bs.length + 80 ≤ 140737488355328 := by
  rcases open_ints Tryd.underlying24 Tryd.underlying5 (by kernel_rfl) h with ⟨hcs, _⟩ | ⟨x, l, cp, zs, hcs, _, hl, hm, hz, hx, hcell, hwz⟩
  · obtain rfl : c = .slice none 0 0 := by simpa using hcs
    exact ⟨[], Or.inl ⟨rfl, rfl⟩, by decide⟩
  · obtain rfl : c = .slice (some x) l cp := by simpa using hcs
    have hzc : zs.length = cp := by simpa using hz
    have hcap : cp ≤ 140737488351232 := by
      have h1 : y.1 = .slice _ _ := congrArg Prod.fst hx
      rw [h1] at hw
      have h2 := hw ((_ + _) * Tryd.prog.bytesOf 5) (by rw [DataW.weights, Tryd.underlying24]; exact List.mem_cons_self)
      rw [bytes5] at h2
      simp only [lits, List.length_map, List.length_take, List.length_drop, reachBytes] at h2
      omega
    obtain ⟨bs, hbs, hs⟩ := sliceAt_of (zs := zs) (.inr ⟨_, rfl, hl, hzc, hcell, hwz⟩) (by omega)
    exact ⟨bs, hs, by omega⟩
set_option maxHeartbeats 800000 in
set_option maxRecDepth 100000 in
/-- A list of calls that came in. -/
theorem open_asks {H : Type} {enc : TypeId × Value → H} {W : World} {ts : List TypeId} {ds : List (DataW H)} {j : Nat} {a0 : Option Addr} {len0 cap0 : Nat} {d0 : DataW H} {p0 : List MemPlace} {held : Bool}
    (hj : ts[j]? = some 38) (hd : ds[j]? = some d0) (h0 : DataW.Trod enc Tryd.prog W 0 (fun _ => true) held 38 (.slice a0 len0 cap0) d0 p0)
    (hsz : (DataW.weightsEach Tryd.prog ts ds).all (· ≤ reachBytes) = true) : ∃ qs, AsksAt W a0 len0 qs := by
  obtain ⟨fuel, hf⟩ := h0
  rcases Go.Deep.open_slice Tryd.underlying38 hf with ⟨hcs, _⟩ | ⟨a, len, cap, m, n, D, Pl, hcs, _, hl, hm, hmm, hx, hel⟩
  · simp [Value.cells] at hcs
    obtain ⟨rfl, rfl, rfl⟩ := hcs
    exact ⟨[], rfl, fun h => by omega⟩
  · simp [Value.cells] at hcs
    obtain ⟨rfl, rfl, rfl⟩ := hcs
    simp only [if_true] at hmm
    refine ⟨List.replicate len0 ⟨0, 0, 0, [], .slice none 0 0⟩, by simp, fun hp => ?_⟩
    have hwt : ∀ k ∈ d0.weights Tryd.prog 38, k ≤ reachBytes := fun k hk => by
      have := List.all_eq_true.1 hsz k (DataW.weights_mem_each hj hd k hk)
      simpa using this
    have hd0 : d0 = .slice ((List.range len0).map D) ((List.range (m - len0)).map fun j => D (len0 + j)) := congrArg Prod.fst hx
    obtain ⟨b, off, spot⟩ := a
    have hspot : spot = none := by
      obtain ⟨cs', h1, _⟩ := hel 0 (by omega)
      rw [cells42] at h1
      obtain ⟨_, hlen, hc⟩ := World.cells?_some h1
      have h2 := hc 0 (by omega)
      have h3 : cs'[0]? = some (cs'[0]'(by omega)) := List.getElem?_eq_getElem (by omega)
      rw [h3] at h2
      simpa [Addr.add] using World.cell?_spot h2
    subst hspot
    have hat : ∀ i, i < len0 → ∃ c0 c1 c2 c3, (∀ o, o < 4 → W.cell? ⟨b, off + i * 4 + o, none⟩ = [c0, c1, c2, c3][o]?) ∧ DataW.trod enc Tryd.prog W 0 (fun _ => true) held n 42 [c0, c1, c2, c3] = some (D i, Pl i) := fun i hi => by
      obtain ⟨cs', h1, h2⟩ := hel i (by omega)
      rw [cells42] at h1
      obtain ⟨_, hlen, hc⟩ := World.cells?_some h1
      match cs', hlen with
      | [c0, c1, c2, c3], _ =>
        refine ⟨c0, c1, c2, c3, fun o ho => ?_, h2⟩
        rw [← hc o ho, Addr.add_lit, Addr.add_lit]
    refine ⟨b, off, rfl, ?_, fun i hi => ?_⟩
    · obtain ⟨c0, c1, c2, c3, h1, _⟩ := hat 0 hp
      have h2 := h1 0 (by omega)
      exact block_lt_of_cell (a := ⟨b, off + 0 * 4 + 0, none⟩) h2
    · obtain ⟨c0, c1, c2, c3, h1, h2⟩ := hat i hi
      obtain ⟨y0, y1, y2, y3, k, hy, _, t0, t1, t2, t3⟩ := Go.Joins.trod_struct4 Tryd.underlying42 h2
      have hDi : D i = .agg [y0.1, y1.1, y2.1, y3.1] := congrArg Prod.fst hy
      simp [cells3, cells24, cells27'] at t0 t1 t2 t3
      obtain ⟨z0, e0, _, w0⟩ := DataW.trod_int Tryd.underlying3 t0
      obtain ⟨z1, e1, _, w1⟩ := DataW.trod_int Tryd.underlying27 t1
      obtain ⟨z2, e2, _, w2⟩ := DataW.trod_int Tryd.underlying3 t2
      have b1 := wf_u64_ends w1
      obtain ⟨n1, rfl⟩ := Int.eq_ofNat_of_zero_le b1.1
      have hw3 : ∀ k ∈ y3.1.weights Tryd.prog 24, k ≤ reachBytes := fun k hk => by
        refine hwt k ?_
        rw [hd0, DataW.weights, Tryd.underlying38]
        refine List.mem_cons_of_mem _ (List.mem_append.2 (Or.inl (mem_weightsAll (d := D i) (List.mem_map.2 ⟨i, List.mem_range.2 hi, rfl⟩) k ?_)))
        rw [hDi, DataW.weights, Tryd.underlying42]
        exact DataW.weights_mem_each (j := 3) (t := 24) rfl rfl k hk
      obtain ⟨bs, hs, hbl⟩ := bytes_cell t3 hw3
      have i0 := h1 0 (by omega)
      have i1 := h1 1 (by omega)
      have i2 := h1 2 (by omega)
      have i3 := h1 3 (by omega)
      simp at e0 e1 e2
      subst e0 e1 e2
      exact ⟨⟨z0, n1, z2, bs, c3⟩, i0, i1, i2, i3, hs, hbl⟩
end Go.Proofs.YtdhaeepaemneaaaDoor
