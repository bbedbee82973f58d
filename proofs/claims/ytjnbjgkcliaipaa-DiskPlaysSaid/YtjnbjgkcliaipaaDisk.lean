/- A Disk in memory; New, Sectors, Pending, has, works, Stop: what they answer, and that only the disk's own memory changes. -/
import Derived.Test.YtjnbjgkcliaipaaSec
namespace Go.Proofs.Ytjnbjgkcliaipaa
open Go.RowKit
/-- Where a disk lies: its block, the blocks of its sectors with their room, the list of its writes, its counter. -/
structure Ow where
  g : Nat
  gs : Nat
  ge : Nat
  cs : Nat
  ce : Nat
  pv : Value
  lf : Int
/-- The blocks that are a disk's. -/
def Ow.has (o : Ow) (k : Nat) : Prop := k = o.g ∨ k = o.gs ∨ k = o.ge ∨ o.pv.ownBlock = some k
def Ow.ptr (o : Ow) : Value := .pointer (some ⟨o.g, 0, none⟩)
def Ow.cellsOf (o : Ow) (n : Nat) (st : Bool) : Array Value := #[.slice (some ⟨o.gs, 0, none⟩) n o.cs, .slice (some ⟨o.ge, 0, none⟩) n o.ce, o.pv, .bool st, .int .i64 o.lf]
structure DkIs (w : World) (o : Ow) (d : S.Dk) : Prop where
  row : w.heap[o.g]? = some (.cells #[.slice (some ⟨o.gs, 0, none⟩) d.safe.length o.cs, .slice (some ⟨o.ge, 0, none⟩) d.safe.length o.ce, o.pv, .bool d.left.isSome, .int .i64 o.lf] 70 (0, 0))
  safe : SecAt w o.gs d.safe
  seen : SecAt w o.ge d.seen
  pend : PRow w o.pv d.pend
  ok : d.Ok
  left : ∀ k, d.left = some k → o.lf = (k : Int) ∧ k ≤ 9223372036854775807
  sep : o.g ≠ o.gs ∧ o.g ≠ o.ge ∧ o.gs ≠ o.ge
  psep : ∀ k, o.pv.ownBlock = some k → k ≠ o.g ∧ k ≠ o.gs ∧ k ≠ o.ge
  caps : d.safe.length ≤ o.cs ∧ d.safe.length ≤ o.ce
/-- What a disk's call changes. -/
structure DkTo (o : Ow) (w : World) (o' : Ow) (w' : World) : Prop where
  g : o'.g = o.g
  chg : Chg o.has w w'
  own : ∀ k, o'.has k → o.has k ∨ w.heap.size ≤ k
theorem DkTo.refl (o : Ow) (w : World) : DkTo o w o w := ⟨rfl, Chg.refl _ _, fun _ h => Or.inl h⟩
theorem DkTo.trans {o o1 o2 : Ow} {w w1 w2 : World} (h : DkTo o w o1 w1) (k : DkTo o1 w1 o2 w2) : DkTo o w o2 w2 :=
  ⟨k.g.trans h.g, h.chg.trans k.chg (fun j hj e => by rcases h.own j e with h' | h'; exact h'; omega), fun j e => by
    rcases k.own j e with e | e
    · exact h.own j e
    · exact Or.inr (Nat.le_trans h.chg.size e)⟩
theorem DkIs.lt {w : World} {o : Ow} {d : S.Dk} (h : DkIs w o d) : ∀ k, o.has k → k < w.heap.size := by
  rintro k (rfl | rfl | rfl | hk)
  · exact block_lt_of_row h.row
  · exact h.safe.lt
  · exact h.seen.lt
  · exact h.pend.lt hk
theorem DkIs.chg {p : Nat → Prop} {w W : World} {o : Ow} {d : S.Dk} (h : DkIs w o d) (hc : Chg p w W) (hp : ∀ k, o.has k → ¬ p k) : DkIs W o d :=
  ⟨hc.row h.row (hp _ (Or.inl rfl)), h.safe.chg hc (hp _ (Or.inr (Or.inl rfl))), h.seen.chg hc (hp _ (Or.inr (Or.inr (Or.inl rfl)))), h.pend.chg hc (fun k hk => hp k (Or.inr (Or.inr (Or.inr hk)))), h.ok, h.left, h.sep, h.psep, h.caps⟩
theorem DkIs.below {w W : World} {o : Ow} {d : S.Dk} (h : DkIs w o d) (hb : Below w.heap.size w W) : DkIs W o d := h.chg (p := fun _ => False) (Chg.ofBelow' hb) (fun _ _ e => e)
theorem DkIs.still {w W : World} {o : Ow} {d : S.Dk} (h : DkIs w o d) (hs : Still w W) : DkIs W o d := h.below (hs.below _)
/-- A disk that lies above a block: what it changes is above it. -/
theorem DkTo.below {o o' : Ow} {w w' : World} {B : Nat} (h : DkTo o w o' w') (hB : B ≤ w.heap.size) (ho : ∀ k, o.has k → B ≤ k) : Below B w w' ∧ ∀ k, o'.has k → B ≤ k :=
  ⟨h.chg.below B hB (fun k hk e => by have := ho k e; omega), fun k e => by rcases h.own k e with e | e; exact ho k e; omega⟩
theorem DkIs.n {w : World} {o : Ow} {d : S.Dk} (h : DkIs w o d) : d.safe.length ≤ 8192 := h.ok.few
theorem sectors_any (o : Ow) (d : S.Dk) (w : World) (hd : DkIs w o d) :
   Calls Try.prog 11 #[o.ptr] w fun e w' => e = .returned (.int .i64 (d.safe.length : Int)) ∧ w = w' := by
  obtain ⟨c0, c1, c2, c3, c4⟩ := cells5 hd.row
  clear hd
  unfold Ow.ptr
  go_enter Try.func11, Try.ntmps11
  go_wp2
  go_ret
  exact ⟨rfl, rfl⟩
theorem pending_any (o : Ow) (d : S.Dk) (w : World) (hd : DkIs w o d) :
   Calls Try.prog 30 #[o.ptr] w fun e w' => e = .returned (.int .i64 (d.pend.length : Int)) ∧ w = w' := by
  obtain ⟨c0, c1, c2, c3, c4⟩ := cells5 hd.row
  obtain ⟨ao, c, e⟩ := hd.pend.form
  rw [e] at c2
  clear hd e
  unfold Ow.ptr
  go_enter Try.func30, Try.ntmps30
  go_wp2
  go_ret
  exact ⟨rfl, rfl⟩
theorem has_any (o : Ow) (d : S.Dk) (n : Int) (w : World) (hd : DkIs w o d) :
   Calls Try.prog 34 #[o.ptr, .int .i64 n] w fun e w' => e = .returned (.bool (d.inside n)) ∧ w = w' := by
  obtain ⟨c0, c1, c2, c3, c4⟩ := cells5 hd.row
  clear hd
  unfold Ow.ptr
  by_cases h0 : 0 ≤ n
  · have e : Hid (d.inside n = decide (n < d.safe.length)) := by show _ = _; simp [S.Dk.inside, h0]
    go_enter Try.func34, Try.ntmps34
    go_wp2
    go_ret
    exact ⟨by rw [e.out]; rfl, rfl⟩
  · have e : Hid (d.inside n = false) := S.Dk.inside_no (fun h => h0 h.1)
    go_enter Try.func34, Try.ntmps34
    go_wp2
    go_ret
    exact ⟨by rw [e.out]; rfl, rfl⟩
/-- The object's own row behind some stores. -/
theorem DkIs.put {w : World} {o o' : Ow} {d d' : S.Dk} (h : DkIs w o d) {W : World} (hr : W.heap[o.g]? = some (.cells #[.slice (some ⟨o.gs, 0, none⟩) d'.safe.length o.cs, .slice (some ⟨o.ge, 0, none⟩) d'.safe.length o.ce, o'.pv, .bool d'.left.isSome, .int .i64 o'.lf] 70 (0, 0))) (h1 : o'.g = o.g) (h2 : o'.gs = o.gs) (h3 : o'.ge = o.ge) (h4 : o'.cs = o.cs) (h5 : o'.ce = o.ce)
    (hs : SecAt W o.gs d'.safe) (he : SecAt W o.ge d'.seen) (hp : PRow W o'.pv d'.pend) (hok : d'.Ok) (hl : ∀ k, d'.left = some k → o'.lf = (k : Int) ∧ k ≤ 9223372036854775807) (hps : ∀ k, o'.pv.ownBlock = some k → k ≠ o.g ∧ k ≠ o.gs ∧ k ≠ o.ge) (hn : d'.safe.length = d.safe.length) : DkIs W o' d' := by
  obtain ⟨g, gs, ge, cs, ce, pv, lf⟩ := o'
  simp only at h1 h2 h3 h4 h5
  subst h1 h2 h3 h4 h5
  exact ⟨hr, hs, he, hp, hok, hl, h.sep, hps, by rw [hn]; exact h.caps⟩
theorem Chg.one {w : World} (g i : Nat) (v : Value) {p : Nat → Prop} (hp : p g) : Chg p w (w.setCell ⟨g, i, none⟩ v) := (Chg.refl _ _).setCell g i v (fun _ => hp)
theorem stop_any (o : Ow) (d : S.Dk) (a : Int) (w : World) (hd : DkIs w o d) (ha : a ≤ 9223372036854775807) :
   Calls Try.prog 18 #[o.ptr, .int .i64 a] w fun e w' => e = .returned (.tuple #[]) ∧ ∃ o', DkIs w' o' (d.stop a) ∧ DkTo o w o' w' := by
  obtain ⟨c0, c1, c2, c3, c4⟩ := cells5 hd.row
  have f3 := frozen_of_row _ _ 3 _ _ hd.row
  have f4 := frozen_of_row _ _ 4 _ _ hd.row
  have HD := hide hd
  clear hd
  have key : Hid (∀ m : Int, m = (a.toNat : Int) → ∃ o', DkIs ((w.setCell ⟨o.g, 3, none⟩ (.bool true)).setCell ⟨o.g, 4, none⟩ (.int .i64 m)) o' (d.stop a) ∧ DkTo o w o' ((w.setCell ⟨o.g, 3, none⟩ (.bool true)).setCell ⟨o.g, 4, none⟩ (.int .i64 m))) := by
    show ∀ m : Int, _
    intro m hm
    have h := HD.out
    have R3 := heap_setCell_same _ _ 3 _ _ (.bool true) h.row
    have R4 := heap_setCell_same _ _ 4 _ _ (.int .i64 m) R3
    have hc : Chg (fun k => k = o.g) w ((w.setCell ⟨o.g, 3, none⟩ (.bool true)).setCell ⟨o.g, 4, none⟩ (.int .i64 m)) := ((Chg.refl (fun k => k = o.g) w).setCell o.g 3 _ (fun _ => rfl)).setCell o.g 4 _ (fun _ => rfl)
    refine ⟨{ o with lf := m }, h.put R4 rfl rfl rfl rfl rfl (h.safe.chg hc (fun e => h.sep.1 e.symm)) (h.seen.chg hc (fun e => h.sep.2.1 e.symm)) (h.pend.chg hc (fun k hk => (h.psep k hk).1)) (h.ok.of rfl rfl) (fun k hk => ?_) h.psep rfl, ⟨rfl, hc.mono (fun k _ e => Or.inl e), fun k e => Or.inl e⟩⟩
    simp only [S.Dk.stop, Option.some.injEq] at hk
    subst hk
    exact ⟨hm, by omega⟩
  unfold Ow.ptr
  by_cases h0 : a < 0
  · have km := hide (key.out 0 (by omega))
    clear key
    go_enter Try.func18, Try.ntmps18
    go_wp2
    go_end0
    exact ⟨rfl, km.out⟩
  · have km := hide (key.out a (by omega))
    clear key
    go_enter Try.func18, Try.ntmps18
    go_wp2
    go_end0
    exact ⟨rfl, km.out⟩
theorem works_any (o : Ow) (d : S.Dk) (w : World) (hd : DkIs w o d) :
   Calls Try.prog 35 #[o.ptr] w fun e w' => e = .returned (.bool d.goes) ∧ ∃ o', DkIs w' o' d.tried ∧ DkTo o w o' w' ∧ Chg (fun k => k = o.g) w w' := by
  obtain ⟨c0, c1, c2, c3, c4⟩ := cells5 hd.row
  have f4 := frozen_of_row _ _ 4 _ _ hd.row
  have HD := hide hd
  unfold Ow.ptr
  rcases hl : d.left with _ | k
  · have G : d.goes = true := by simp [S.Dk.goes, hl]
    have E : Hid (d.goes = true ∧ d.tried = d) := ⟨G, by rw [S.Dk.tried_yes G]; cases d; simp_all [S.Dk.went]⟩
    clear G
    rw [hl, show (none : Option Nat).isSome = false from rfl] at c3
    clear hd hl
    go_enter Try.func35, Try.ntmps35
    go_wp2
    go_ret
    rw [E.out.1, E.out.2]
    exact ⟨rfl, o, HD.out, DkTo.refl _ _, Chg.refl _ _⟩
  · obtain ⟨h1, h2⟩ := hd.left k hl
    rw [hl, show (some k : Option Nat).isSome = true from rfl] at c3
    rw [h1] at c4
    rcases k with _ | k
    · have G : d.goes = false := by simp [S.Dk.goes, hl]
      have E : Hid (d.goes = false ∧ d.tried = d) := ⟨G, S.Dk.tried_no G⟩
      clear G
      clear hd hl h1 h2
      rw [show ((0 : Nat) : Int) = 0 from rfl] at c4
      go_enter Try.func35, Try.ntmps35
      go_wp2
      go_ret
      rw [E.out.1, E.out.2]
      exact ⟨rfl, o, HD.out, DkTo.refl _ _, Chg.refl _ _⟩
    · have G : d.goes = true := by simp [S.Dk.goes, hl]
      have E : Hid (d.goes = true ∧ d.tried = { d with left := some k }) := ⟨G, by rw [S.Dk.tried_yes G]; simp [S.Dk.went, hl]⟩
      clear G
      have key : Hid (∃ o', DkIs (w.setCell ⟨o.g, 4, none⟩ (.int .i64 (k : Int))) o' { d with left := some k } ∧ DkTo o w o' (w.setCell ⟨o.g, 4, none⟩ (.int .i64 (k : Int))) ∧ Chg (fun k => k = o.g) w (w.setCell ⟨o.g, 4, none⟩ (.int .i64 (k : Int)))) := by
        show ∃ o', _
        have h := HD.out
        have R4 := heap_setCell_same _ _ 4 _ _ (.int .i64 (k : Int)) h.row
        rw [hl] at R4
        have hc : Chg (fun j => j = o.g) w (w.setCell ⟨o.g, 4, none⟩ (.int .i64 (k : Int))) := (Chg.refl (fun j => j = o.g) w).setCell o.g 4 _ (fun _ => rfl)
        refine ⟨{ o with lf := k }, h.put R4 rfl rfl rfl rfl rfl (h.safe.chg hc (fun e => h.sep.1 e.symm)) (h.seen.chg hc (fun e => h.sep.2.1 e.symm)) (h.pend.chg hc (fun k hk => (h.psep k hk).1)) (h.ok.of rfl rfl) (fun j hj => ?_) h.psep rfl, ⟨rfl, hc.mono (fun k _ e => Or.inl e), fun k e => Or.inl e⟩, hc⟩
        simp only [Option.some.injEq] at hj
        subst hj
        exact ⟨rfl, by omega⟩
      have q1 : ¬ (((k + 1 : Nat) : Int) = 0) := by omega
      have q2 : IntKind.i64.wrap (((k + 1 : Nat) : Int) - 1) = (k : Int) := by rw [IntKind.wrap_i64]; omega
      clear hd hl h1
      go_enter Try.func35, Try.ntmps35
      go_wp2
      go_ret
      rw [E.out.1, E.out.2]
      exact ⟨rfl, key.out⟩
end Go.Proofs.Ytjnbjgkcliaipaa
