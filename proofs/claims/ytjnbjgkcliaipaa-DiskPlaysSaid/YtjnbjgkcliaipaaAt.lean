/- A disk of the call's own, by its block alone: what each call makes of it. -/
import Derived.Test.YtjnbjgkcliaipaaFirst
namespace Go.Proofs.Ytjnbjgkcliaipaa
open Go.RowKit
/-- In block g lies a disk that the call has made; what was there ahead of the call is as it was, and so are the blocks that X tells. -/
def Has (X : Nat → Option Obj) (w0 w : World) (g : Nat) (d : S.Dk) : Prop := ∃ o : Ow, o.g = g ∧ DkIs w o d ∧ (∀ k, o.has k → w0.heap.size ≤ k ∧ X k = none) ∧ Below w0.heap.size w0 w ∧ ∀ k ob, X k = some ob → w.heap[k]? = some ob
/-- Nothing else. -/
def X0 : Nat → Option Obj := fun _ => none
/-- The slice v reads as t, whatever becomes of block g. -/
def Txt (w : World) (g : Nat) (v : Value) (t : List UInt8) : Prop := ∀ W, Chg (fun k => k = g) w W → SliceAt W v t
theorem txt_row {w : World} {g gs n : Nat} {t : List UInt8} (h : w.heap[gs]? = some (.cells (S.v8 t) 5 (0, 0))) (hne : gs ≠ g) (hl : t.length = n) (hn : n ≤ 140737488355328) : Txt w g (.slice (some ⟨gs, 0, none⟩) n n) t := fun W hc => by
  subst hl
  exact Or.inr (Or.inr ⟨gs, 0, t.length, rfl, Nat.le_refl _, hn, Nat.lt_of_lt_of_le (block_lt_of_row h) hc.size, fun j hj => by rw [Nat.zero_add]; exact v8_cell (hc.row h hne) j hj⟩)
theorem Has.lt {X : Nat → Option Obj} {w0 w : World} {g : Nat} {d : S.Dk} (h : Has X w0 w g d) : g < w.heap.size := by
  obtain ⟨o, rfl, h1, _⟩ := h
  exact h1.lt _ (Or.inl rfl)
theorem Has.ge {X : Nat → Option Obj} {w0 w : World} {g : Nat} {d : S.Dk} (h : Has X w0 w g d) : w0.heap.size ≤ g := by
  obtain ⟨o, rfl, _, h2, _⟩ := h
  exact (h2 _ (Or.inl rfl)).1
theorem Has.base {X : Nat → Option Obj} {w0 w : World} {g : Nat} {d : S.Dk} (h : Has X w0 w g d) : Below w0.heap.size w0 w := by obtain ⟨_, _, _, _, h, _⟩ := h; exact h
theorem Has.ok {X : Nat → Option Obj} {w0 w : World} {g : Nat} {d : S.Dk} (h : Has X w0 w g d) : d.Ok := by obtain ⟨_, _, h, _, _⟩ := h; exact h.ok
theorem Has.below {X : Nat → Option Obj} {w0 w W : World} {g : Nat} {d : S.Dk} (h : Has X w0 w g d) (hb : Below w.heap.size w W) : Has X w0 W g d := by
  obtain ⟨o, rfl, h1, h2, h3, h4⟩ := h
  exact ⟨o, rfl, h1.below hb, h2, h3.trans (hb.mono h3.size), fun k ob hk => (hb.block k (block_lt_of_row (h4 k ob hk))).trans (h4 k ob hk)⟩
/-- A block that was made since is told, too. -/
theorem Has.also {X : Nat → Option Obj} {w0 w W : World} {g : Nat} {d : S.Dk} (h : Has X w0 w g d) (hb : Below w.heap.size w W) (k : Nat) (ob : Obj) (hk : w.heap.size ≤ k) (hr : W.heap[k]? = some ob) : Has (fun j => if j = k then some ob else X j) w0 W g d := by
  have h' := h.below hb
  obtain ⟨o, rfl, h1, h2, h3, h4⟩ := h
  refine ⟨o, rfl, h1.below hb, fun j hj => ⟨(h2 j hj).1, ?_⟩, h3.trans (hb.mono h3.size), fun j ob' hj => ?_⟩
  · have hlt := h1.lt j hj
    show (if j = k then some ob else X j) = none
    rw [if_neg (by omega)]
    exact (h2 j hj).2
  · have hj' : (if j = k then some ob else X j) = some ob' := hj
    split at hj'
    · next e => subst e; rw [hr]; exact hj'
    · exact (hb.block j (block_lt_of_row (h4 j ob' hj'))).trans (h4 j ob' hj')
theorem Has.told {X : Nat → Option Obj} {w0 w : World} {g : Nat} {d : S.Dk} (h : Has X w0 w g d) {k : Nat} {ob : Obj} (hk : X k = some ob) : w.heap[k]? = some ob := by
  obtain ⟨_, _, _, _, _, h⟩ := h
  exact h k ob hk
theorem Has.step {X : Nat → Option Obj} {w0 w W : World} {o o' : Ow} {d' : S.Dk} (h2 : ∀ k, o.has k → w0.heap.size ≤ k ∧ X k = none) (h3 : Below w0.heap.size w0 w) (hX : ∀ k ob, X k = some ob → w.heap[k]? = some ob) (h4 : DkIs W o' d') (h5 : DkTo o w o' W) : Has X w0 W o.g d' := by
  obtain ⟨h6, h7⟩ := h5.below h3.size (fun k hk => (h2 k hk).1)
  refine ⟨o', h5.g, h4, fun k hk => ⟨h7 k hk, ?_⟩, h3.trans h6, fun k ob hk => h5.chg.row (hX k ob hk) (fun e => by rw [(h2 k e).2] at hk; cases hk)⟩
  rcases h5.own k hk with e | e
  · exact (h2 k e).2
  · cases hx : X k with
    | none => rfl
    | some ob => have := block_lt_of_row (hX k ob hx); omega
theorem at_begun (n : Nat) (w0 w : World) (h1 : 1 ≤ n) (h2 : n ≤ 8192) (hb : Below w0.heap.size w0 w) :
   Calls Try.prog 10 #[.int .i64 (n : Int)] w fun e w' => ∃ g, e = .returned (.tuple #[.pointer (some ⟨g, 0, none⟩), .bool true]) ∧ Has X0 w0 w' g (S.Dk.new n) ∧ w.heap.size ≤ g :=
  (begun_any n w h1 h2).mono fun _ _ ⟨o, h3, h4, h5, h6⟩ => ⟨o.g, h3, ⟨o, rfl, h4, fun k hk => ⟨Nat.le_trans hb.size (h5 k hk), rfl⟩, hb.trans (h6.mono hb.size), fun _ _ e => (by cases e)⟩, h5 _ (Or.inl rfl)⟩
theorem at_sector {X : Nat → Option Obj} (c : UInt8) (n : Nat) (w0 w : World) (g : Nat) (d : S.Dk) (h : Has X w0 w g d) (hn : n ≤ 1000) :
   Calls Try.prog 14 #[.int .u8 (c.toNat : Int), .int .i64 (n : Int)] w fun e w' => ∃ gs, e = .returned (.slice (some ⟨gs, 0, none⟩) n n) ∧ Has X w0 w' g d ∧ Txt w' g (.slice (some ⟨gs, 0, none⟩) n n) (S.sec c n) :=
  (sector_any c n w hn).mono fun _ _ ⟨h1, h2, h3⟩ => ⟨w.heap.size, h1, h.below h3, txt_row h2 (by have := h.lt; omega) (S.sec_length c n) (by omega)⟩
theorem at_write {X : Nat → Option Obj} (n : Nat) (v : Value) (t : List UInt8) (w0 w : World) (g : Nat) (d : S.Dk) (h : Has X w0 w g d) (hn : n < d.safe.length) (hg : d.goes = true) (ht : t.length = 128) (hb : d.pend.length ≤ 1000000) (hv : Txt w g v t) :
   Calls Try.prog 13 #[.pointer (some ⟨g, 0, none⟩), .int .i64 (n : Int), v] w fun e w' => e = .returned (.int .i64 0) ∧ Has X w0 w' g (d.went.write n t) := by
  obtain ⟨o, rfl, h1, h2, h3, hX⟩ := h
  exact (write_yes o d n v t w h1 hn hg ht hb hv).mono fun _ _ ⟨h4, o', h5, h6⟩ => ⟨h4, Has.step h2 h3 hX h5 h6⟩
theorem at_write_stop {X : Nat → Option Obj} (n : Nat) (ao : Option Addr) (cap : Nat) (w0 w : World) (g : Nat) (d : S.Dk) (h : Has X w0 w g d) (hn : n < d.safe.length) (hg : d.goes = false) :
   Calls Try.prog 13 #[.pointer (some ⟨g, 0, none⟩), .int .i64 (n : Int), .slice ao 128 cap] w fun e w' => e = .returned (.int .i64 13) ∧ Has X w0 w' g d := by
  obtain ⟨o, rfl, h1, h2, h3, hX⟩ := h
  exact (write_stop o d n ao cap w h1 hn hg).mono fun _ _ ⟨h4, o', h5, h6⟩ => ⟨h4, Has.step h2 h3 hX h5 h6⟩
theorem at_write_arg {X : Nat → Option Obj} (n : Int) (ao : Option Addr) (len cap : Nat) (w0 w : World) (g : Nat) (d : S.Dk) (h : Has X w0 w g d) (hn : ¬ (0 ≤ n ∧ n < d.safe.length) ∨ len ≠ 128) :
   Calls Try.prog 13 #[.pointer (some ⟨g, 0, none⟩), .int .i64 n, .slice ao len cap] w fun e w' => e = .returned (.int .i64 1) ∧ w = w' := by
  obtain ⟨o, rfl, h1, h2, h3, hX⟩ := h
  exact write_arg o d n ao len cap w h1 hn
theorem at_flush {X : Nat → Option Obj} (w0 w : World) (g : Nat) (d : S.Dk) (h : Has X w0 w g d) (hg : d.goes = true) (hb : d.pend.length ≤ 1000000) :
   Calls Try.prog 15 #[.pointer (some ⟨g, 0, none⟩)] w fun e w' => e = .returned (.int .i64 0) ∧ Has X w0 w' g d.went.flush := by
  obtain ⟨o, rfl, h1, h2, h3, hX⟩ := h
  exact (flush_yes o d w h1 hg hb).mono fun _ _ ⟨h4, o', h5, h6⟩ => ⟨h4, Has.step h2 h3 hX h5 h6⟩
theorem at_flush_stop {X : Nat → Option Obj} (w0 w : World) (g : Nat) (d : S.Dk) (h : Has X w0 w g d) (hg : d.goes = false) :
   Calls Try.prog 15 #[.pointer (some ⟨g, 0, none⟩)] w fun e w' => e = .returned (.int .i64 13) ∧ Has X w0 w' g d := by
  obtain ⟨o, rfl, h1, h2, h3, hX⟩ := h
  exact (flush_stop o d w h1 hg).mono fun _ _ ⟨h4, o', h5, h6⟩ => ⟨h4, Has.step h2 h3 hX h5 h6⟩
/-- A []bool that was there ahead of the call, or is nil, or is new. -/
theorem bools_old {w0 w W : World} {o : Ow} {v : Value} {ks : List Bool} (hv : BoolsAt w0 v ks) (h2 : ∀ k, o.has k → w0.heap.size ≤ k) (h3 : Below w0.heap.size w0 w) (hc : Chg o.has w W) : BoolsAt W v ks :=
  hv.below (h3.trans (hc.below w0.heap.size h3.size (fun k hk e => by have := h2 k e; omega))) (Nat.le_refl _)
theorem at_crash {X : Nat → Option Obj} (v : Value) (c : S.Cut) (w0 w : World) (g : Nat) (d : S.Dk) (h : Has X w0 w g d) (hb : d.pend.length ≤ 1000000) (hv : BoolsAt w0 v c.keep) :
   Calls Try.prog 16 #[.pointer (some ⟨g, 0, none⟩), .agg #[v, .int .i64 c.torn, .int .i64 c.bytes]] w fun e w' => e = .returned (.tuple #[]) ∧ Has X w0 w' g (d.crash c) := by
  obtain ⟨o, rfl, h1, h2, h3, hX⟩ := h
  exact (crash_any o d v c w h1 hb (fun W hc => bools_old hv (fun k hk => (h2 k hk).1) h3 hc)).mono fun _ _ ⟨h4, o', h5, h6⟩ => ⟨h4, Has.step h2 h3 hX h5 h6⟩
/-- A crash whose list of bools is new. -/
theorem at_crash_new {X : Nat → Option Obj} (gk : Nat) (ks : List Bool) (tt bb : Int) (tb : TypeId) (w0 w1 w : World) (g : Nat) (d : S.Dk) (h : Has X w0 w1 g d) (hw : Below w1.heap.size w1 w) (hgk : w1.heap.size ≤ gk) (hr : w.heap[gk]? = some (.cells (ks.map Value.bool).toArray tb (0, 0))) (hb : d.pend.length ≤ 1000000) (hl : ks.length ≤ 1000000) :
   Calls Try.prog 16 #[.pointer (some ⟨g, 0, none⟩), .agg #[.slice (some ⟨gk, 0, none⟩) ks.length ks.length, .int .i64 tt, .int .i64 bb]] w fun e w' => e = .returned (.tuple #[]) ∧ Has X w0 w' g (d.crash ⟨ks, tt, bb⟩) := by
  have h' := h.below hw
  obtain ⟨o, rfl, h1, h2, h3, hX⟩ := h
  have hlt := h1.lt
  refine (crash_any o d _ ⟨ks, tt, bb⟩ w (h1.below hw) hb (fun W hc => ?_)).mono fun _ _ ⟨h4, o', h5, h6⟩ => ⟨h4, Has.step h2 (h3.trans (hw.mono h3.size)) (fun k ob hk => (hw.block k (block_lt_of_row (hX k ob hk))).trans (hX k ob hk)) h5 h6⟩
  have hr' := hc.row hr (fun e => by have := hlt gk e; omega)
  refine ⟨_, _, rfl, by show ks.length ≤ _; omega, fun _ => ⟨gk, 0, rfl, block_lt_of_row hr', fun j hj => ?_⟩⟩
  rw [Nat.zero_add, cell_of_row W gk j _ tb (0, 0) hr']
  have hj' : j < ks.length := hj
  simp [List.getElem?_map, List.getElem?_eq_getElem hj', List.getD_eq_getElem?_getD]
theorem at_stop {X : Nat → Option Obj} (a : Int) (w0 w : World) (g : Nat) (d : S.Dk) (h : Has X w0 w g d) (ha : a ≤ 9223372036854775807) :
   Calls Try.prog 18 #[.pointer (some ⟨g, 0, none⟩), .int .i64 a] w fun e w' => e = .returned (.tuple #[]) ∧ Has X w0 w' g (d.stop a) := by
  obtain ⟨o, rfl, h1, h2, h3, hX⟩ := h
  exact (stop_any o d a w h1 ha).mono fun _ _ ⟨h4, o', h5, h6⟩ => ⟨h4, Has.step h2 h3 hX h5 h6⟩
theorem at_read {X : Nat → Option Obj} (n : Nat) (w0 w : World) (g : Nat) (d : S.Dk) (h : Has X w0 w g d) (hn : n < d.safe.length) :
   Calls Try.prog 12 #[.pointer (some ⟨g, 0, none⟩), .int .i64 (n : Int)] w fun e w' => ∃ gs, e = .returned (.tuple #[.slice (some ⟨gs, 0, none⟩) 128 128, .int .i64 0]) ∧ w.heap.size ≤ gs ∧ w'.heap[gs]? = some (.cells (S.v8 (d.seen.getD n [])) 5 (0, 0)) ∧ Has X w0 w' g d ∧ Below w.heap.size w w' := by
  have h' := h
  obtain ⟨o, rfl, h1, h2, h3, hX⟩ := h
  exact (read_yes o d n w h1 hn).mono fun _ _ ⟨h4, h5, h6⟩ => ⟨w.heap.size, h4, Nat.le_refl _, h5, h'.below h6, h6⟩
theorem at_read_no {X : Nat → Option Obj} (n : Int) (w0 w : World) (g : Nat) (d : S.Dk) (h : Has X w0 w g d) (hn : ¬ (0 ≤ n ∧ n < d.safe.length)) :
   Calls Try.prog 12 #[.pointer (some ⟨g, 0, none⟩), .int .i64 n] w fun e w' => e = .returned (.tuple #[.slice none 0 0, .int .i64 1]) ∧ w = w' := by
  obtain ⟨o, rfl, h1, h2, h3, hX⟩ := h
  exact read_no o d n w h1 hn
theorem at_first {X : Nat → Option Obj} (n : Nat) (w0 w : World) (g : Nat) (d : S.Dk) (h : Has X w0 w g d) (hn : n < d.safe.length) :
   Calls Try.prog 17 #[.pointer (some ⟨g, 0, none⟩), .int .i64 (n : Int)] w fun e w' => e = .returned (.agg #[S.byteOf (d.seen.getD n []) 0, S.byteOf (d.seen.getD n []) 1, S.byteOf (d.seen.getD n []) 2]) ∧ Has X w0 w' g d := by
  have h' := h
  obtain ⟨o, rfl, h1, h2, h3, hX⟩ := h
  exact (first_any o d n w h1 hn).mono fun _ _ ⟨h4, h5⟩ => ⟨h4, h'.below h5⟩
theorem at_pending {X : Nat → Option Obj} (w0 w : World) (g : Nat) (d : S.Dk) (h : Has X w0 w g d) :
   Calls Try.prog 30 #[.pointer (some ⟨g, 0, none⟩)] w fun e w' => e = .returned (.int .i64 (d.pend.length : Int)) ∧ w = w' := by
  obtain ⟨o, rfl, h1, h2, h3, hX⟩ := h
  exact pending_any o d w h1
theorem at_sectors {X : Nat → Option Obj} (w0 w : World) (g : Nat) (d : S.Dk) (h : Has X w0 w g d) :
   Calls Try.prog 11 #[.pointer (some ⟨g, 0, none⟩)] w fun e w' => e = .returned (.int .i64 (d.safe.length : Int)) ∧ w = w' := by
  obtain ⟨o, rfl, h1, h2, h3, hX⟩ := h
  exact sectors_any o d w h1
end Go.Proofs.Ytjnbjgkcliaipaa
