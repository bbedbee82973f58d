/- Arguments that came in: a list of bools, a cut. -/
import Derived.Test.YthjlhngjpbmieaaGreatDoorOpn
import Derived.Test.YthjlhngjpbmieaaGreatDoorGj
import Derived.Deep.Slices
import Derived.Deep.Strs
import Derived.Test.YthjlhngjpbmieaaGreatDoorYe
namespace Go.Proofs.YthjlhngjpbmieaaGreatDoor
open Go.ChangeShapes Go.WideShapes Go.ChangeAt Go.RowKit
theorem cellsOf4 : Tryz.prog.cellsOf 4 = 1 := by kernel_rfl
theorem cellsOf3 : Tryz.prog.cellsOf 3 = 1 := by kernel_rfl
theorem cellsOf5 : Tryz.prog.cellsOf 5 = 1 := by kernel_rfl
theorem cellsOf43 : Tryz.prog.cellsOf 43 = 1 := by kernel_rfl
theorem cellsOf45 : Tryz.prog.cellsOf 45 = 3 := by kernel_rfl
theorem list_of {α : Type} (d : α) {P : Nat → α → Prop} (n : Nat) (h : ∀ i, i < n → ∃ x, P i x) : ∃ l : List α, l.length = n ∧ ∀ i, i < n → P i (l.getD i d) := by
  induction n with
  | zero => exact ⟨[], rfl, fun i hi => absurd hi (Nat.not_lt_zero _)⟩
  | succ n ih =>
    obtain ⟨l, hl, hp⟩ := ih (fun i hi => h i (by omega))
    obtain ⟨x, hx⟩ := h n (by omega)
    refine ⟨l ++ [x], by simp [hl], fun i hi => ?_⟩
    rcases Nat.lt_succ_iff_lt_or_eq.1 hi with hi' | rfl
    · have := hp i hi'
      simp only [List.getD_eq_getElem?_getD] at this ⊢
      rw [List.getElem?_append_left (by omega)]
      exact this
    · simpa [List.getD_eq_getElem?_getD, hl] using hx
/-- A list of bools in a cell. -/
theorem bools_cell {H : Type} {enc : TypeId × Value → H} {W : World} {base fuel : Nat} {c : Value} {y : DataW H × List MemPlace} {held : Bool}
    (h : DataW.trod enc Tryz.prog W base (fun _ => true) held fuel 43 [c] = some y) : ∃ ks : List Bool, BoolsAt W c ks := by
  rcases Go.Deep.open_slice1 Tryz.underlying43 cellsOf4 h with ⟨hcs, _⟩ | ⟨a, len, cap, m, n, V, D, Pl, hcs, _, hl, hm, hmm, _, hel⟩
  · obtain rfl : c = .slice none 0 0 := by simpa using hcs
    exact ⟨[], bools_nil W⟩
  · obtain rfl : c = .slice (some a) len cap := by simpa using hcs
    simp only [if_true] at hmm
    have hb : ∀ i, i < len → ∃ b : Bool, W.cell? (a.add i) = some (.bool b) := fun i hi => by
      obtain ⟨h1, h2⟩ := hel i (by omega)
      obtain ⟨b, hb, _⟩ := DataW.trod_bool Tryz.underlying4 h2
      simp only [List.cons.injEq, and_true] at hb
      exact ⟨b, by rw [h1, hb]⟩
    obtain ⟨ks, hk, hp⟩ := list_of false len hb
    refine ⟨ks, some a, cap, by rw [hk], by simp only [maxLen] at hm; omega, fun hp0 => ?_⟩
    obtain ⟨b, off, spot⟩ := a
    have hspot : spot = none := by
      have := hp 0 (by omega)
      simpa [Addr.add] using World.cell?_spot this
    subst hspot
    refine ⟨b, off, rfl, ?_, fun j hj => ?_⟩
    · have := hp 0 (by omega)
      rw [Addr.add_lit] at this
      exact World.block_lt_of_cell? W _ this
    · have := hp j (by omega)
      rw [Addr.add_lit] at this
      exact this

end Go.Proofs.YthjlhngjpbmieaaGreatDoor
namespace Go.Proofs.YthjlhngjpbmieaaGreatDoor
open Go.ChangeShapes Go.WideShapes Go.ChangeAt Go.RowKit
theorem cellsOf46 : Tryz.prog.cellsOf 46 = 1 := by kernel_rfl
theorem byte_in {n : Int} (h : (Lit.int .u8 n).wf = true) : ∃ x : UInt8, n = (x.toNat : Int) := by
  simp [Lit.wf, IntKind.min, IntKind.max, IntKind.signed, IntKind.bits] at h
  refine ⟨UInt8.ofNat n.toNat, ?_⟩
  rw [UInt8.toNat_ofNat']
  omega
/-- A list of ints in a cell. -/
theorem ints_cell {H : Type} {enc : TypeId × Value → H} {W : World} {base fuel : Nat} {c : Value} {y : DataW H × List MemPlace} {held : Bool}
    (h : DataW.trod enc Tryz.prog W base (fun _ => true) held fuel 46 [c] = some y) : ∃ xs : List Int, IntsAt W c xs := by
  rcases Go.Deep.open_slice1 Tryz.underlying46 cellsOf3 h with ⟨hcs, _⟩ | ⟨a, len, cap, m, n, V, D, Pl, hcs, _, hl, hm, hmm, _, hel⟩
  · obtain rfl : c = .slice none 0 0 := by simpa using hcs
    exact ⟨[], none, 0, rfl, by simp, fun h => by simp at h⟩
  · obtain rfl : c = .slice (some a) len cap := by simpa using hcs
    simp only [if_true] at hmm
    have hb : ∀ i, i < len → ∃ x : Int, W.cell? (a.add i) = some (.int .i64 x) ∧ -9223372036854775808 ≤ x ∧ x ≤ 9223372036854775807 := fun i hi => by
      obtain ⟨h1, h2⟩ := hel i (by omega)
      obtain ⟨x, hx, _, hw⟩ := DataW.trod_int Tryz.underlying3 h2
      simp only [List.cons.injEq, and_true] at hx
      exact ⟨x, by rw [h1, hx], wf_i64_ends hw⟩
    obtain ⟨xs, hk, hp⟩ := list_of 0 len hb
    refine ⟨xs, some a, cap, by rw [hk], by simp only [maxLen] at hm; omega, fun hp0 => ?_⟩
    obtain ⟨b, off, spot⟩ := a
    have hspot : spot = none := by
      have := (hp 0 (by omega)).1
      simpa [Addr.add] using World.cell?_spot this
    subst hspot
    refine ⟨b, off, rfl, ?_, fun j hj => ?_⟩
    · have := (hp 0 (by omega)).1
      rw [Addr.add_lit] at this
      exact World.block_lt_of_cell? W _ this
    · have := hp j (by omega)
      rw [Addr.add_lit] at this
      exact this
theorem cellsOf48 : Tryz.prog.cellsOf 48 = 8 := by kernel_rfl
theorem trod_struct6 {H : Type} {enc : TypeId × Value → H} {P : Program} {w : World} {base : Nat} {spare : Nat → Bool} {held : Bool} {t : TypeId} {f0 f1 f2 f3 f4 f5 : Field} {fuel : Nat} {cs : List Value} {x : DataW H × List MemPlace} (ht : P.underlying t = some (.struct #[f0, f1, f2, f3, f4, f5])) (h : DataW.trod enc P w base spare held fuel t cs = some x) :
    ∃ y0 y1 y2 y3 y4 y5 n, DataW.trod enc P w base spare held n f0.type ((cs.drop f0.offset).take (P.cellsOf f0.type)) = some y0 ∧ DataW.trod enc P w base spare held n f1.type ((cs.drop f1.offset).take (P.cellsOf f1.type)) = some y1 ∧ DataW.trod enc P w base spare held n f2.type ((cs.drop f2.offset).take (P.cellsOf f2.type)) = some y2 ∧ DataW.trod enc P w base spare held n f3.type ((cs.drop f3.offset).take (P.cellsOf f3.type)) = some y3 ∧ DataW.trod enc P w base spare held n f4.type ((cs.drop f4.offset).take (P.cellsOf f4.type)) = some y4 ∧ DataW.trod enc P w base spare held n f5.type ((cs.drop f5.offset).take (P.cellsOf f5.type)) = some y5 := by
  obtain ⟨xs, n, _, rfl, hl, hlen, hf⟩ := DataW.trod_struct ht h
  match xs, hlen with
  | [y0, y1, y2, y3, y4, y5], _ => exact ⟨y0, y1, y2, y3, y4, y5, n, by simpa using hf 0 f0 rfl, by simpa using hf 1 f1 rfl, by simpa using hf 2 f2 rfl, by simpa using hf 3 f3 rfl, by simpa using hf 4 f4 rfl, by simpa using hf 5 f5 rfl⟩
set_option maxHeartbeats 800000 in
set_option maxRecDepth 100000 in
theorem open_asks {H : Type} {enc : TypeId × Value → H} {W : World} {a0 : Option Addr} {len0 cap0 : Nat} {d0 : DataW H} {p0 : List MemPlace} {held : Bool} {base : Nat}
    (h0 : DataW.Trod enc Tryz.prog W base (fun _ => true) held 41 (.slice a0 len0 cap0) d0 p0) : ∃ qs, AsksAt W a0 len0 qs := by
  obtain ⟨fuel, hf⟩ := h0
  rcases Go.Deep.open_slice Tryz.underlying41 hf with ⟨hcs, _⟩ | ⟨a, len, cap, m, n, D, Pl, hcs, _, hl, hm, hmm, hx, hel⟩
  · simp [Value.cells] at hcs
    obtain ⟨rfl, rfl, rfl⟩ := hcs
    exact ⟨[], rfl, fun h => by omega⟩
  · simp [Value.cells] at hcs
    obtain ⟨rfl, rfl, rfl⟩ := hcs
    simp only [if_true] at hmm
    by_cases hp : 0 < len0
    · obtain ⟨b, off, spot⟩ := a
      have hspot : spot = none := by
        obtain ⟨cs', h1, _⟩ := hel 0 (by omega)
        rw [cellsOf48] at h1
        obtain ⟨_, hlen, hc⟩ := World.cells?_some h1
        have h2 := hc 0 (by omega)
        have h3 : cs'[0]? = some (cs'[0]'(by omega)) := List.getElem?_eq_getElem (by omega)
        rw [h3] at h2
        simpa [Addr.add] using World.cell?_spot h2
      subst hspot
      have hat : ∀ i, i < len0 → ∃ q : S.Ask, AskAt W b (off + i * 8) q := fun i hi => by
        obtain ⟨cs', h1, h2⟩ := hel i (by omega)
        rw [cellsOf48] at h1
        obtain ⟨_, hlen, hc⟩ := World.cells?_some h1
        match cs', hlen with
        | [c0, c1, c2, c3, c4, c5, c6, c7], _ =>
          obtain ⟨y0, y1, y2, y3, y4, y5, k, t0, t1, t2, t3, t4, t5⟩ := trod_struct6 Tryz.underlying48 h2
          simp [cellsOf3, cellsOf5, cellsOf45, cellsOf46] at t0 t1 t2 t3 t4 t5
          obtain ⟨z0, e0, _, _⟩ := DataW.trod_int Tryz.underlying3 t0
          obtain ⟨z1, e1, _, w1⟩ := DataW.trod_int Tryz.underlying3 t1
          obtain ⟨z2, e2, _, w2⟩ := DataW.trod_int Tryz.underlying3 t2
          obtain ⟨xs, hxs⟩ := ints_cell t3
          obtain ⟨z4, e4, _, w4⟩ := DataW.trod_int Tryz.underlying5 t4
          obtain ⟨u0, u1, u2, k2, _, _, s0, s1, s2⟩ := Go.Deep.trod_struct3 Tryz.underlying45 t5
          simp [cellsOf43, cellsOf3] at s0 s1 s2
          obtain ⟨ks, hks⟩ := bools_cell s0
          obtain ⟨z6, e6, _, _⟩ := DataW.trod_int Tryz.underlying3 s1
          obtain ⟨z7, e7, _, _⟩ := DataW.trod_int Tryz.underlying3 s2
          obtain ⟨f, hf⟩ := byte_in w4
          simp at e0 e1 e2 e4 e6 e7
          subst e0 e1 e2 e4 e6 e7
          obtain ⟨an, cn, hn3, _⟩ := hxs
          have hxs' : IntsAt W c3 xs := ⟨an, cn, hn3, by assumption⟩
          obtain ⟨ak, ck, hk5, _⟩ := hks
          have hks' : BoolsAt W c5 ks := ⟨ak, ck, hk5, by assumption⟩
          subst hn3 hk5
          refine ⟨⟨z0, z1, z2, xs, f, ks, z6, z7⟩, ⟨⟨an, cn, ak, ck, fun j v hv => ?_, hxs', hks'⟩, wf_i64_ends w1, (wf_i64_ends w2).2⟩⟩
          have hj : j < 8 := by have := (List.getElem?_eq_some_iff.1 hv).1; simpa using this
          have := hc j hj
          rw [Addr.add_lit, Addr.add_lit] at this
          rw [this, ← hv, ← hf]
      obtain ⟨qs, hq, hqp⟩ := list_of S.ask0 len0 hat
      refine ⟨qs, hq.symm, fun _ => ⟨b, off, rfl, ?_, hqp⟩⟩
      obtain ⟨_, _, _, _, h1, _⟩ := (hqp 0 hp).ex
      exact World.block_lt_of_cell? W _ (h1 0 _ rfl)
    · exact ⟨List.replicate len0 S.ask0, by simp, fun h => absurd h hp⟩
end Go.Proofs.YthjlhngjpbmieaaGreatDoor
