/- A Commit on a disk that has stopped; Stop and Crash of a log's disk; records over a change elsewhere. -/
import Derived.Test.YtfjkddjdmlnbnaaDoorGw
namespace Go.Proofs.YtfjkddjdmlnbnaaDoor
open Go.RowKit

theorem Lo.besides {w0 w w2 : World} {o o2 : Ow} {d d2 : S.Dk} {g f c p t : Nat} {rs : List (List UInt8)} {tv : Value} (h : Lo w0 w o d g f c p t rs tv) (hd : DkIs w2 o2 d2) (hm : DkTo o w o2 w2) (hp : d2.pend = []) (hs : d2.safe = d.safe) : Lo w0 w2 o2 d2 g f c p t rs tv := by
  have hg : g < w.heap.size := block_lt_of_row h.log.lg.row
  have ht : ∀ k, tv.ownBlock = some k → k < w.heap.size := fun k hk => h.log.lg.text.lt hk
  have hpt : o2.ptr = o.ptr := by unfold Ow.ptr; rw [hm.g]
  refine ⟨⟨h.log.dk.to hd hm, hp, by rw [hs]; exact h.log.good, by rw [hpt]; exact h.log.lg.chg hm.chg h.log.no h.log.far, fun e => ?_, h.log.pos, fun k hk e => ?_, h.log.tpos⟩, fun k e => ?_, h.gb, h.tb, h.below.trans (hm.chg.below _ h.below.size (fun k hk e => by have := h.ob k e; omega)), h.pos⟩
  · rcases hm.own g e with e | e
    · exact h.log.no e
    · omega
  · rcases hm.own k e with e | e
    · exact h.log.far k hk e
    · have := ht k hk; omega
  · rcases hm.own k e with e | e
    · exact h.ob k e
    · exact Nat.le_trans h.below.size e
namespace S
theorem plan_stopped (d : Dk) (l : List Act) (h : d.left = some 0) (hl : l ≠ []) : d.plan l = (d, false) := by
  cases l with
  | nil => exact absurd rfl hl
  | cons a l =>
    unfold Dk.plan
    rw [if_neg]
    simp [Dk.goes, h]
theorem commitActs_ne (d : Dk) (f c p t : Nat) (rs rs' : List (List UInt8)) : commitActs d f c p t rs rs' ≠ [] := by
  unfold commitActs changeActs turnActs
  intro e
  simp at e
theorem cur_zero (f c : Nat) : cur f c (zeros 128) (zeros 128) = none := by
  unfold cur holds
  rw [sight_zero, sight_zero]
  simp
theorem new_at (n k : Nat) (h : k < n) : (Dk.new n).seen.getD k [] = zeros 128 := by
  show (List.replicate n (zeros 128)).getD k [] = _
  rw [List.getD_eq_getElem?_getD, List.getElem?_replicate, if_pos h]
  rfl
/-- Behind a crash, wherever a call was stopped. -/
theorem Calm.crash {d d' : Dk} {b : Bool} {f c p t : Nat} {rs rs' : List (List UInt8)} (h : Calm d f c p t rs rs') (hp : d.plan (commitActs d f c p t rs rs') = (d', b)) (cut : Cut) : May d.safe f c p t rs rs' (d'.crash cut).safe ∧ (b = true → (d'.crash cut).safe = after d.safe f c p t rs rs') := by
  obtain ⟨n, hn, ha, ht, _⟩ := Dk.plan_first (commitActs d f c p t rs rs') d
  rw [hp] at ha ht
  refine ⟨?_, fun hb => ?_⟩
  · rw [ha.crash]
    exact h.fated n hn cut
  · have e := ht hb
    rw [ha.crash, e, List.take_length, h.acts, Dk.crash_flushed _ rfl]
end S
/-- A log whose disk has stopped. -/
structure Shut (w0 w' : World) (o o' : Ow) (d : S.Dk) (g f c t : Nat) (rs : List (List UInt8)) (tv' : Value) : Prop where
  dk : Dsk w' o' d
  has : LgHas w' g o.ptr f c t rs tv' false
  ptr : o'.g = o.g
  ob : ∀ k, o'.has k → w0.heap.size ≤ k
  below : Below w0.heap.size w0 w'
theorem commit_stopped (w0 w : World) (o : Ow) (d : S.Dk) (g f c p t : Nat) (rs : List (List UInt8)) (tv : Value) (bo : Option Addr) (n bc : Nat) (b : List UInt8) (hL : Lo w0 w o d g f c p t rs tv) (hl : d.left = some 0) (ht : t + 1 < 18446744073709551616)
    (hv : ∀ W, Chg (fun k => k = g ∨ tv.ownBlock = some k) w W → SliceAt W (.slice bo n bc) b) (hb : b ≠ []) (hfit : b.length ≤ S.room c - (S.enc rs).length - 3) :
   Calls Tryd.prog 11 #[.pointer (some ⟨g, 0, none⟩), .slice bo n bc] w fun e w' => e = .returned (.int .i64 13) ∧ ∃ o' tv', Shut w0 w' o o' d g f c t rs tv' := by
  refine (commit_any o d g f c p t rs tv bo n bc b w hL.log ht hv hb hfit).mono ?_
  rintro e w' ⟨bb, d', o', tv', x⟩
  have hp := x.plan
  rw [S.plan_stopped d _ hl (S.commitActs_ne _ _ _ _ _ _ _), Prod.mk.injEq] at hp
  obtain ⟨rfl, rfl⟩ := hp
  refine ⟨x.ret, o', tv', x.dk, x.no rfl, x.moved.ptr, fun k hk => ?_, hL.below.trans (x.moved.chg.below _ hL.below.size (fun k hk e => ?_))⟩
  · rcases x.moved.own k hk with e | e
    · exact hL.ob k e
    · exact Nat.le_trans hL.below.size e
  · rcases e with e | e | e
    · have := hL.ob k e; omega
    · have := hL.gb; omega
    · have := hL.tb k e; omega
theorem stop_lo (w0 w : World) (o : Ow) (d : S.Dk) (g f c p t : Nat) (rs : List (List UInt8)) (tv : Value) (a : Int) (ha : a ≤ 9223372036854775807) (h : Lo w0 w o d g f c p t rs tv) :
   Calls Tryd.prog 12 #[o.ptr, .int .i64 a] w fun e w' => e = .returned (.tuple #[]) ∧ ∃ o', o'.g = o.g ∧ Lo w0 w' o' (d.stop a) g f c p t rs tv := by
  refine (stop_any o d a w h.log.dk.dk ha).mono ?_
  rintro e w' ⟨rfl, o', h2, h3⟩
  exact ⟨rfl, o', h3.g, h.besides h2 h3 h.log.pend rfl⟩
theorem crash_none (o : Ow) (d : S.Dk) (w : World) (hd : Dsk w o d) (hp : d.pend = []) :
   Calls Tryd.prog 14 #[o.ptr, .agg #[.slice none 0 0, .int .i64 (-1), .int .i64 0]] w fun e w' => e = .returned (.tuple #[]) ∧ ∃ o', Dsk w' o' (d.crash ⟨[], -1, 0⟩) ∧ DkTo o w o' w' := by
  refine (crash_any o d (.slice none 0 0) ⟨[], -1, 0⟩ w hd.dk (by rw [hp]; simp) (fun W _ => bools_nil W)).mono ?_
  rintro e w' ⟨rfl, o', h2, h3⟩
  exact ⟨rfl, o', hd.to h2 h3, h3⟩
theorem Recs.far {p : Nat → Prop} {w0 w W : World} {lv : Value} {us : List Value} {rs : List (List UInt8)} (h : Recs w0 w lv us rs) (hm : (S.enc rs).length ≤ 10000000) (hc : Chg p w W) (hp : ∀ k, w0.heap.size ≤ k → ¬ p k) : LsAt W lv rs :=
  ⟨us, h.lists.kept (fun k hk => hc.block k (h.lists.lt hk) (hp k (h.own k hk))), h.copies.len, fun j hj => by
    obtain ⟨gj, cj, e, ⟨cur, h1, h2, h3, h4⟩, hge⟩ := h.copies.new j hj
    rw [e]
    have hr : Room W gj cj (rs.getD j []) := ⟨cur, hc.row h1 (hp gj hge), h2, h3, h4⟩
    exact hr.sliceAt (by have := mem_enc (rs := rs) (r := rs.getD j []) (by rw [List.getD_eq_getElem?_getD, List.getElem?_eq_getElem hj]; exact List.getElem_mem _); omega)⟩
end Go.Proofs.YtfjkddjdmlnbnaaDoor
