/- The program's disk and the document's, side by side, and a third one that is to be spoilt. -/
import Derived.Test.YtjnbjgkcliaipaaRwrite
import Derived.Test.YtjnbjgkcliaipaaRnew
import Derived.Test.YtjnbjgkcliaipaaAlike
import Derived.Test.YtjnbjgkcliaipaaCopy
namespace Go.Proofs.Ytjnbjgkcliaipaa
open Go.RowKit
namespace S
/-- What a Write answers, and the disk behind it. -/
def Dk.wrt (d : Dk) (n : Int) (t : List UInt8) : Int × Dk := if (0 ≤ n ∧ n < d.safe.length) ∧ t.length = 128 then (if d.goes = true then (0, d.went.write n.toNat t) else (13, d)) else (1, d)
def Dk.fls (d : Dk) : Int × Dk := if d.goes = true then (0, d.went.flush) else (13, d)
theorem Dk.wrt_safe (d : Dk) (n : Int) (t : List UInt8) : (d.wrt n t).2.safe.length = d.safe.length := by unfold Dk.wrt; split; (split <;> rfl); rfl
theorem Dk.wrt_pend (d : Dk) (n : Int) (t : List UInt8) : (d.wrt n t).2.pend.length ≤ d.pend.length + 1 := by
  unfold Dk.wrt
  split
  · split
    · simp [Dk.write, Dk.went]
    · simp
  · simp
theorem Dk.fls_safe (d : Dk) : d.fls.2.safe.length = d.safe.length := by
  unfold Dk.fls
  split
  · exact Dk.seen_length _
  · rfl
theorem Dk.fls_pend (d : Dk) : d.fls.2.pend.length ≤ d.pend.length := by
  unfold Dk.fls
  split
  · simp [Dk.flush]
  · simp
end S
theorem write_all (o : Ow) (d : S.Dk) (n : Int) (v : Value) (t : List UInt8) (w : World) (hd : DkIs w o d) (hb : d.pend.length ≤ 1000000) (hv : ∀ W, Chg (fun k => k = o.g) w W → SliceAt W v t) :
   Calls Try.prog 13 #[o.ptr, .int .i64 n, v] w fun e w' => e = .returned (.int .i64 (d.wrt n t).1) ∧ ∃ o', DkIs w' o' (d.wrt n t).2 ∧ DkTo o w o' w' := by
  obtain ⟨ao, len, cap, rfl, hlen, -⟩ := (hv w (Chg.refl _ _)).form
  unfold S.Dk.wrt
  by_cases h : (0 ≤ n ∧ n < d.safe.length) ∧ t.length = 128
  · rw [if_pos h]
    obtain ⟨m, rfl⟩ := Int.eq_ofNat_of_zero_le h.1.1
    have hm : m < d.safe.length := by have := h.1.2; omega
    by_cases hg : d.goes = true
    · rw [if_pos hg]
      exact write_yes o d m _ t w hd hm hg h.2 hb hv
    · rw [if_neg hg]
      rw [h.2] at hlen
      subst hlen
      exact write_stop o d m ao cap w hd hm (by simpa using hg)
  · rw [if_neg h]
    refine (write_arg o d n ao len cap w hd ?_).mono fun _ _ ⟨h1, h2⟩ => ⟨h1, o, h2 ▸ hd, h2 ▸ DkTo.refl _ _⟩
    by_cases h1 : 0 ≤ n ∧ n < d.safe.length
    · exact Or.inr (fun e => h ⟨h1, by omega⟩)
    · exact Or.inl h1
theorem rwrite_all (r : Ro) (d : S.Dk) (n : Int) (v : Value) (t : List UInt8) (w : World) (hd : RkIs w r d) (hb : d.pend.length ≤ 1000000) (hv : ∀ W, Chg r.has w W → SliceAt W v t) :
   Calls Try.prog 23 #[.pointer (some ⟨r.g, 0, none⟩), .int .i64 n, v] w fun e w' => e = .returned (.int .i64 (d.wrt n t).1) ∧ ∃ r', RkIs w' r' (d.wrt n t).2 ∧ RkTo r w r' w' := by
  obtain ⟨ao, len, cap, rfl, hlen, -⟩ := (hv w (Chg.refl _ _)).form
  unfold S.Dk.wrt
  by_cases h : (0 ≤ n ∧ n < d.safe.length) ∧ t.length = 128
  · rw [if_pos h]
    obtain ⟨m, rfl⟩ := Int.eq_ofNat_of_zero_le h.1.1
    have hm : m < d.safe.length := by have := h.1.2; omega
    by_cases hg : d.goes = true
    · rw [if_pos hg]
      exact rwrite_yes r d m _ t w hd hm hg h.2 hb hv
    · rw [if_neg hg]
      rw [h.2] at hlen
      subst hlen
      exact (rwrite_stop r d m ao cap w hd hm (by simpa using hg)).mono fun _ _ ⟨h1, h2, h3⟩ => ⟨h1, r, h2, h3⟩
  · rw [if_neg h]
    refine (rwrite_arg r d n ao len cap w hd ?_).mono fun _ _ ⟨h1, h2⟩ => ⟨h1, r, h2 ▸ hd, h2 ▸ RkTo.refl _ _⟩
    by_cases h1 : 0 ≤ n ∧ n < d.safe.length
    · exact Or.inr (fun e => h ⟨h1, by omega⟩)
    · exact Or.inl h1
theorem flush_all (o : Ow) (d : S.Dk) (w : World) (hd : DkIs w o d) (hb : d.pend.length ≤ 1000000) :
   Calls Try.prog 15 #[o.ptr] w fun e w' => e = .returned (.int .i64 d.fls.1) ∧ ∃ o', DkIs w' o' d.fls.2 ∧ DkTo o w o' w' := by
  unfold S.Dk.fls
  by_cases hg : d.goes = true
  · rw [if_pos hg]
    exact flush_yes o d w hd hg hb
  · rw [if_neg hg]
    exact flush_stop o d w hd (by simpa using hg)
theorem rflush_all (r : Ro) (d : S.Dk) (w : World) (hd : RkIs w r d) (hb : d.pend.length ≤ 1000000) :
   Calls Try.prog 25 #[.pointer (some ⟨r.g, 0, none⟩)] w fun e w' => e = .returned (.int .i64 d.fls.1) ∧ ∃ r', RkIs w' r' d.fls.2 ∧ RkTo r w r' w' := by
  unfold S.Dk.fls
  by_cases hg : d.goes = true
  · rw [if_pos hg]
    exact rflush_yes r d w hd hg hb
  · rw [if_neg hg]
    exact (rflush_stop r d w hd (by simpa using hg)).mono fun _ _ ⟨h1, h2, h3⟩ => ⟨h1, r, h2, h3⟩
/-- The program's disk in block g, the document's in block gr; what was there ahead of the call is as it was, and so are the blocks that X tells. -/
structure PlAt (X : Nat → Option Obj) (w0 w : World) (o : Ow) (d1 : S.Dk) (r : Ro) (d2 : S.Dk) : Prop where
  dk : DkIs w o d1
  rk : RkIs w r d2
  o0 : ∀ k, o.has k → w0.heap.size ≤ k ∧ ¬ r.has k ∧ ¬ r.txt k ∧ X k = none
  r0 : ∀ k, r.has k → w0.heap.size ≤ k ∧ X k = none
  t0 : ∀ k, r.txt k → w0.heap.size ≤ k ∧ X k = none
  base : Below w0.heap.size w0 w
  told : ∀ k ob, X k = some ob → w.heap[k]? = some ob
def Pl (X : Nat → Option Obj) (w0 w : World) (g : Nat) (d1 : S.Dk) (gr : Nat) (d2 : S.Dk) : Prop := ∃ o r, o.g = g ∧ r.g = gr ∧ PlAt X w0 w o d1 r d2
theorem PlAt.below {X : Nat → Option Obj} {w0 w W : World} {o : Ow} {r : Ro} {d1 d2 : S.Dk} (h : PlAt X w0 w o d1 r d2) (hb : Below w.heap.size w W) : PlAt X w0 W o d1 r d2 :=
  ⟨h.dk.below hb, h.rk.below hb, h.o0, h.r0, h.t0, h.base.trans (hb.mono h.base.size), fun k ob hk => (hb.block k (block_lt_of_row (h.told k ob hk))).trans (h.told k ob hk)⟩
theorem PlAt.left {X : Nat → Option Obj} {w0 w W : World} {o o' : Ow} {r : Ro} {d1 d2 d' : S.Dk} (h : PlAt X w0 w o d1 r d2) (h1 : DkIs W o' d') (h2 : DkTo o w o' W) : PlAt X w0 W o' d' r d2 := by
  obtain ⟨h3, h4⟩ := h2.below h.base.size (fun k hk => (h.o0 k hk).1)
  refine ⟨h1, h.rk.chg h2.chg (fun k hk e => ?_), fun k hk => ?_, h.r0, h.t0, h.base.trans h3, fun k ob hk => h2.chg.row (h.told k ob hk) (fun e => by rw [(h.o0 k e).2.2.2] at hk; cases hk)⟩
  · rcases hk with hk | hk
    · exact (h.o0 k e).2.1 hk
    · exact (h.o0 k e).2.2.1 hk
  · rcases h2.own k hk with e | e
    · exact h.o0 k e
    · refine ⟨h4 k hk, fun e' => ?_, fun e' => ?_, ?_⟩
      · have := h.rk.lt k (Or.inl e'); omega
      · have := h.rk.lt k (Or.inr e'); omega
      · cases hx : X k with
        | none => rfl
        | some ob => have := block_lt_of_row (h.told k ob hx); omega
theorem PlAt.right {X : Nat → Option Obj} {w0 w W : World} {o : Ow} {r r' : Ro} {d1 d2 d' : S.Dk} (h : PlAt X w0 w o d1 r d2) (h1 : RkIs W r' d') (h2 : RkTo r w r' W) : PlAt X w0 W o d1 r' d' := by
  have h3 : Below w0.heap.size w W := h2.chg.below w0.heap.size h.base.size (fun k hk e => by have := (h.r0 k e).1; omega)
  have hnew : ∀ k, w.heap.size ≤ k → X k = none := fun k hk => by
    cases hx : X k with
    | none => rfl
    | some ob => have := block_lt_of_row (h.told k ob hx); omega
  refine ⟨h.dk.chg h2.chg (fun k hk e => (h.o0 k hk).2.1 e), h1, fun k hk => ⟨(h.o0 k hk).1, fun e => ?_, fun e => ?_, (h.o0 k hk).2.2.2⟩, fun k hk => ?_, fun k hk => ?_, h.base.trans h3, fun k ob hk => h2.chg.row (h.told k ob hk) (fun e => by rw [(h.r0 k e).2] at hk; cases hk)⟩
  · rcases h2.own k e with e' | e'
    · exact (h.o0 k hk).2.1 e'
    · have := h.dk.lt k hk; omega
  · rcases h2.txt k e with e' | e'
    · exact (h.o0 k hk).2.2.1 e'
    · have := h.dk.lt k hk; omega
  · rcases h2.own k hk with e | e
    · exact h.r0 k e
    · exact ⟨by have := h.base.size; omega, hnew k e⟩
  · rcases h2.txt k hk with e | e
    · exact h.t0 k e
    · exact ⟨by have := h.base.size; omega, hnew k e⟩
theorem Pl.below {X : Nat → Option Obj} {w0 w W : World} {g gr : Nat} {d1 d2 : S.Dk} (h : Pl X w0 w g d1 gr d2) (hb : Below w.heap.size w W) : Pl X w0 W g d1 gr d2 := by
  obtain ⟨o, r, h1, h2, h3⟩ := h
  exact ⟨o, r, h1, h2, h3.below hb⟩
theorem Pl.base {X : Nat → Option Obj} {w0 w : World} {g gr : Nat} {d1 d2 : S.Dk} (h : Pl X w0 w g d1 gr d2) : Below w0.heap.size w0 w := by
  obtain ⟨o, r, h1, h2, h3⟩ := h
  exact h3.base
theorem Pl.told {X : Nat → Option Obj} {w0 w : World} {g gr : Nat} {d1 d2 : S.Dk} (h : Pl X w0 w g d1 gr d2) {k : Nat} {ob : Obj} (hk : X k = some ob) : w.heap[k]? = some ob := by
  obtain ⟨o, r, h1, h2, h3⟩ := h
  exact h3.told k ob hk
/-- A block that was made since is told, too. -/
theorem Pl.also {X : Nat → Option Obj} {w0 w W : World} {g gr : Nat} {d1 d2 : S.Dk} (h : Pl X w0 w g d1 gr d2) (hb : Below w.heap.size w W) (k : Nat) (ob : Obj) (hk : w.heap.size ≤ k) (hr : W.heap[k]? = some ob) : Pl (fun j => if j = k then some ob else X j) w0 W g d1 gr d2 := by
  obtain ⟨o, r, h1, h2, h3⟩ := h
  have h4 := h3.below hb
  have hX : ∀ j, j < w.heap.size → (if j = k then some ob else X j) = X j := fun j hj => if_neg (by omega)
  refine ⟨o, r, h1, h2, ⟨h4.dk, h4.rk, fun j hj => ?_, fun j hj => ?_, fun j hj => ?_, h4.base, fun j ob' hj => ?_⟩⟩
  · obtain ⟨a, b, c, e⟩ := h3.o0 j hj
    exact ⟨a, b, c, (hX j (h3.dk.lt j hj)).trans e⟩
  · obtain ⟨a, e⟩ := h3.r0 j hj
    exact ⟨a, (hX j (h3.rk.lt j (Or.inl hj))).trans e⟩
  · obtain ⟨a, e⟩ := h3.t0 j hj
    exact ⟨a, (hX j (h3.rk.lt j (Or.inr hj))).trans e⟩
  · have hj' : (if j = k then some ob else X j) = some ob' := hj
    split at hj'
    · next e => subst e; rw [hr]; exact hj'
    · exact h4.told j ob' hj'
/-- What X tells is let go. -/
theorem Pl.forget {X : Nat → Option Obj} {w0 w : World} {g gr : Nat} {d1 d2 : S.Dk} (h : Pl X w0 w g d1 gr d2) : Pl X0 w0 w g d1 gr d2 := by
  obtain ⟨o, r, h1, h2, h3⟩ := h
  exact ⟨o, r, h1, h2, ⟨h3.dk, h3.rk, fun k hk => ⟨(h3.o0 k hk).1, (h3.o0 k hk).2.1, (h3.o0 k hk).2.2.1, rfl⟩, fun k hk => ⟨(h3.r0 k hk).1, rfl⟩, fun k hk => ⟨(h3.t0 k hk).1, rfl⟩, h3.base, fun _ _ e => (by cases e)⟩⟩
/-- A told block is written anew. -/
theorem Pl.poke {X : Nat → Option Obj} {w0 w : World} {g gr : Nat} {d1 d2 : S.Dk} (h : Pl X w0 w g d1 gr d2) {gf : Nat} {ob ob' : Obj} (hX : X gf = some ob) (h0 : w0.heap.size ≤ gf) (i : Nat) (v : Value) (hr : (w.setCell ⟨gf, i, none⟩ v).heap[gf]? = some ob') : Pl (fun j => if j = gf then some ob' else X j) w0 (w.setCell ⟨gf, i, none⟩ v) g d1 gr d2 := by
  obtain ⟨o, r, h1, h2, h3⟩ := h
  have hc : Chg (fun k => k = gf) w (w.setCell ⟨gf, i, none⟩ v) := (Chg.refl (fun k => k = gf) w).setCell gf i v (fun _ => rfl)
  have hno : ¬ o.has gf := fun e => by rw [(h3.o0 gf e).2.2.2] at hX; cases hX
  have hnt : ¬ r.txt gf := fun e => by rw [(h3.t0 gf e).2] at hX; cases hX
  have hnr : ¬ r.has gf := fun e => by rw [(h3.r0 gf e).2] at hX; cases hX
  refine ⟨o, r, h1, h2, ⟨h3.dk.chg hc (fun k hk e => hno (by have e' : k = gf := e; rw [← e']; exact hk)), h3.rk.chg hc (fun k hk e => ?_), fun k hk => ?_, fun k hk => ?_, fun k hk => ?_, h3.base.trans (hc.below w0.heap.size h3.base.size (fun k hk e => by have e' : k = gf := e; omega)), fun k ob2 hk => ?_⟩⟩
  · have e' : k = gf := e
    subst e'
    rcases hk with hk | hk
    · exact hnr hk
    · exact hnt hk
  · obtain ⟨a, b, c, e⟩ := h3.o0 k hk
    refine ⟨a, b, c, ?_⟩
    show (if k = gf then some ob' else X k) = none
    rw [if_neg (fun e2 => hno (by rw [← e2]; exact hk))]
    exact e
  · obtain ⟨a, e⟩ := h3.r0 k hk
    refine ⟨a, ?_⟩
    show (if k = gf then some ob' else X k) = none
    rw [if_neg (fun e2 => hnr (by rw [← e2]; exact hk))]
    exact e
  · obtain ⟨a, e⟩ := h3.t0 k hk
    refine ⟨a, ?_⟩
    show (if k = gf then some ob' else X k) = none
    rw [if_neg (fun e2 => hnt (by rw [← e2]; exact hk))]
    exact e
  · have hk' : (if k = gf then some ob' else X k) = some ob2 := hk
    split at hk'
    · next e => subst e; rw [hr]; exact hk'
    · next e => exact hc.row (h3.told k ob2 hk') e
/-- Texts that stay: told by X, or new, or old. -/
theorem pl_write (n : Int) (gf m c : Nat) (t : List UInt8) (X : Nat → Option Obj) (ob : Obj) (w0 w : World) (g gr : Nat) (d1 d2 : S.Dk) (h : Pl X w0 w g d1 gr d2) (hb : d1.pend.length ≤ 1000000) (hX : X gf = some ob) (hs : ∀ W : World, W.heap[gf]? = some ob → SliceAt W (.slice (some ⟨gf, 0, none⟩) m c) t) :
   Calls Try.prog 13 #[.pointer (some ⟨g, 0, none⟩), .int .i64 n, .slice (some ⟨gf, 0, none⟩) m c] w fun e w' => e = .returned (.int .i64 (d1.wrt n t).1) ∧ Pl X w0 w' g (d1.wrt n t).2 gr d2 := by
  obtain ⟨o, r, rfl, rfl, h3⟩ := h
  refine (write_all o d1 n _ t w h3.dk hb (fun W hc => hs W (hc.row (h3.told gf ob hX) (fun e => by
    have e' : gf = o.g := e
    have := (h3.o0 gf (Or.inl e')).2.2.2
    rw [hX] at this
    cases this)))).mono fun _ _ ⟨h4, o', h5, h6⟩ => ⟨h4, o', r, h6.g, rfl, h3.left h5 h6⟩
theorem pl_rwrite (n : Int) (gf m c : Nat) (t : List UInt8) (X : Nat → Option Obj) (w0 w1 w : World) (g gr : Nat) (d1 d2 : S.Dk) (h : Pl X w0 w1 g d1 gr d2) (hw : Below w1.heap.size w1 w) (hb : d2.pend.length ≤ 1000000) (hgf : w1.heap.size ≤ gf) (hr : w.heap[gf]? = some (.cells (S.v8 t) 5 (0, 0))) (hm : t.length = m) (hmm : m ≤ 1000) (hc : c = m) :
   Calls Try.prog 23 #[.pointer (some ⟨gr, 0, none⟩), .int .i64 n, .slice (some ⟨gf, 0, none⟩) m c] w fun e w' => e = .returned (.int .i64 (d2.wrt n t).1) ∧ Pl X w0 w' g d1 gr (d2.wrt n t).2 := by
  obtain ⟨o, r, rfl, rfl, h3⟩ := h
  have h4 := h3.below hw
  subst hc
  refine (rwrite_all r d2 n _ t w h4.rk hb (fun W hch => slice_row (hch.row hr (fun e => by have := h3.rk.lt gf (Or.inl e); omega)) hm (by omega))).mono fun _ _ ⟨h5, r', h6, h7⟩ => ⟨h5, o, r', rfl, h7.g, h4.right h6 h7⟩
theorem pl_flush (X : Nat → Option Obj) (w0 w : World) (g gr : Nat) (d1 d2 : S.Dk) (h : Pl X w0 w g d1 gr d2) (hb : d1.pend.length ≤ 1000000) :
   Calls Try.prog 15 #[.pointer (some ⟨g, 0, none⟩)] w fun e w' => e = .returned (.int .i64 d1.fls.1) ∧ Pl X w0 w' g d1.fls.2 gr d2 := by
  obtain ⟨o, r, rfl, rfl, h3⟩ := h
  exact (flush_all o d1 w h3.dk hb).mono fun _ _ ⟨h4, o', h5, h6⟩ => ⟨h4, o', r, h6.g, rfl, h3.left h5 h6⟩
theorem pl_rflush (X : Nat → Option Obj) (w0 w : World) (g gr : Nat) (d1 d2 : S.Dk) (h : Pl X w0 w g d1 gr d2) (hb : d2.pend.length ≤ 1000000) :
   Calls Try.prog 25 #[.pointer (some ⟨gr, 0, none⟩)] w fun e w' => e = .returned (.int .i64 d2.fls.1) ∧ Pl X w0 w' g d1 gr d2.fls.2 := by
  obtain ⟨o, r, rfl, rfl, h3⟩ := h
  exact (rflush_all r d2 w h3.rk hb).mono fun _ _ ⟨h4, r', h5, h6⟩ => ⟨h4, o, r', rfl, h6.g, h3.right h5 h6⟩
theorem pl_stop (a : Int) (X : Nat → Option Obj) (w0 w : World) (g gr : Nat) (d1 d2 : S.Dk) (h : Pl X w0 w g d1 gr d2) (ha : a ≤ 9223372036854775807) :
   Calls Try.prog 18 #[.pointer (some ⟨g, 0, none⟩), .int .i64 a] w fun e w' => e = .returned (.tuple #[]) ∧ Pl X w0 w' g (d1.stop a) gr d2 := by
  obtain ⟨o, r, rfl, rfl, h3⟩ := h
  exact (stop_any o d1 a w h3.dk ha).mono fun _ _ ⟨h4, o', h5, h6⟩ => ⟨h4, o', r, h6.g, rfl, h3.left h5 h6⟩
theorem pl_rstop (a : Int) (X : Nat → Option Obj) (w0 w : World) (g gr : Nat) (d1 d2 : S.Dk) (h : Pl X w0 w g d1 gr d2) (ha : a ≤ 9223372036854775807) :
   Calls Try.prog 26 #[.pointer (some ⟨gr, 0, none⟩), .int .i64 a] w fun e w' => e = .returned (.tuple #[]) ∧ Pl X w0 w' g d1 gr (d2.stop a) := by
  obtain ⟨o, r, rfl, rfl, h3⟩ := h
  exact (rstop_any r d2 a w h3.rk ha).mono fun _ _ ⟨h4, h5, h6⟩ => ⟨h4, o, r, rfl, rfl, h3.right h5 h6⟩
theorem pl_crash (v : Value) (c : S.Cut) (X : Nat → Option Obj) (w0 w : World) (g gr : Nat) (d1 d2 : S.Dk) (h : Pl X w0 w g d1 gr d2) (hb : d1.pend.length ≤ 1000000) (hv : BoolsAt w0 v c.keep) :
   Calls Try.prog 16 #[.pointer (some ⟨g, 0, none⟩), .agg #[v, .int .i64 c.torn, .int .i64 c.bytes]] w fun e w' => e = .returned (.tuple #[]) ∧ Pl X w0 w' g (d1.crash c) gr d2 := by
  obtain ⟨o, r, rfl, rfl, h3⟩ := h
  exact (crash_any o d1 v c w h3.dk hb (fun W hc => bools_old hv (fun k hk => (h3.o0 k hk).1) h3.base hc)).mono fun _ _ ⟨h4, o', h5, h6⟩ => ⟨h4, o', r, h6.g, rfl, h3.left h5 h6⟩
theorem pl_rcrash (v : Value) (c : S.Cut) (X : Nat → Option Obj) (w0 w : World) (g gr : Nat) (d1 d2 : S.Dk) (h : Pl X w0 w g d1 gr d2) (hb : d2.pend.length ≤ 1000000) (hv : BoolsAt w0 v c.keep) :
   Calls Try.prog 27 #[.pointer (some ⟨gr, 0, none⟩), v, .int .i64 c.torn, .int .i64 c.bytes] w fun e w' => e = .returned (.tuple #[]) ∧ Pl X w0 w' g d1 gr (d2.crash c) := by
  obtain ⟨o, r, rfl, rfl, h3⟩ := h
  exact (rcrash_any r d2 v c w h3.rk hb (fun W hc => hv.below (h3.base.trans (hc.below w0.heap.size h3.base.size (fun k hk e => by have := (h3.r0 k e).1; omega))) (Nat.le_refl _))).mono fun _ _ ⟨h4, r', h5, h6⟩ => ⟨h4, o, r', rfl, h6.g, h3.right h5 h6⟩
theorem pl_alike (X : Nat → Option Obj) (w0 w : World) (g gr : Nat) (d : S.Dk) (h : Pl X w0 w g d gr d) (hb : d.pend.length ≤ 1000000) :
   Calls Try.prog 29 #[.pointer (some ⟨g, 0, none⟩), .pointer (some ⟨gr, 0, none⟩)] w fun e w' => e = .returned (.bool true) ∧ Pl X w0 w' g d gr d := by
  obtain ⟨o, r, rfl, rfl, h3⟩ := h
  exact (alike_any o r d w h3.dk h3.rk hb).mono fun _ _ ⟨h4, h5⟩ => ⟨h4, o, r, rfl, rfl, h3.below h5⟩
/-- The same, and beside it a disk that is to be spoilt. -/
def Pl3 (X : Nat → Option Obj) (w0 w : World) (gv : Nat) (dv : S.Dk) (g gr : Nat) (d : S.Dk) : Prop := ∃ ov o r, ov.g = gv ∧ o.g = g ∧ r.g = gr ∧ DkIs w ov dv ∧ (∀ k, ov.has k → w0.heap.size ≤ k ∧ ¬ o.has k ∧ ¬ r.has k ∧ ¬ r.txt k ∧ X k = none) ∧ PlAt X w0 w o d r d
theorem Pl3.pl {X : Nat → Option Obj} {w0 w : World} {gv g gr : Nat} {dv d : S.Dk} (h : Pl3 X w0 w gv dv g gr d) : Pl X w0 w g d gr d := by
  obtain ⟨ov, o, r, _, h2, h3, _, _, h6⟩ := h
  exact ⟨o, r, h2, h3, h6⟩
theorem Pl3.below {X : Nat → Option Obj} {w0 w W : World} {gv g gr : Nat} {dv d : S.Dk} (h : Pl3 X w0 w gv dv g gr d) (hb : Below w.heap.size w W) : Pl3 X w0 W gv dv g gr d := by
  obtain ⟨ov, o, r, h1, h2, h3, h4, h5, h6⟩ := h
  exact ⟨ov, o, r, h1, h2, h3, h4.below hb, h5, h6.below hb⟩
theorem Pl3.spoil {X : Nat → Option Obj} {w0 w W : World} {ov ov' o : Ow} {r : Ro} {dv' d : S.Dk} (h5 : ∀ k, ov.has k → w0.heap.size ≤ k ∧ ¬ o.has k ∧ ¬ r.has k ∧ ¬ r.txt k ∧ X k = none) (h6 : PlAt X w0 w o d r d) (h7 : DkIs W ov' dv') (h8 : DkTo ov w ov' W) : Pl3 X w0 W ov.g dv' o.g r.g d := by
  have h9 : Below w0.heap.size w W := h8.chg.below w0.heap.size h6.base.size (fun k hk e => by have := (h5 k e).1; omega)
  refine ⟨ov', o, r, h8.g, rfl, rfl, h7, fun k hk => ?_, ⟨h6.dk.chg h8.chg (fun k hk e => (h5 k e).2.1 hk), h6.rk.chg h8.chg (fun k hk e => ?_), h6.o0, h6.r0, h6.t0, h6.base.trans h9, fun k ob hk => h8.chg.row (h6.told k ob hk) (fun e => by rw [(h5 k e).2.2.2.2] at hk; cases hk)⟩⟩
  · rcases h8.own k hk with e | e
    · exact h5 k e
    · refine ⟨by have := h6.base.size; omega, fun e' => ?_, fun e' => ?_, fun e' => ?_, ?_⟩
      · have := h6.dk.lt k e'; omega
      · have := h6.rk.lt k (Or.inl e'); omega
      · have := h6.rk.lt k (Or.inr e'); omega
      · cases hx : X k with
        | none => rfl
        | some ob => have := block_lt_of_row (h6.told k ob hx); omega
  · rcases hk with hk | hk
    · exact (h5 k e).2.2.1 hk
    · exact (h5 k e).2.2.2.1 hk
theorem pl3_copy (X : Nat → Option Obj) (w0 w : World) (g gr : Nat) (d : S.Dk) (h : Pl X w0 w g d gr d) (h1 : 0 < d.safe.length) (hb : d.pend.length ≤ 1000000) :
   Calls Try.prog 28 #[.pointer (some ⟨g, 0, none⟩)] w fun e w' => ∃ gc, e = .returned (.pointer (some ⟨gc, 0, none⟩)) ∧ Pl3 X w0 w' g d gc gr d ∧ Pl3 X w0 w' gc d g gr d := by
  obtain ⟨o, r, rfl, rfl, h3⟩ := h
  refine (copy_any o d w h3.dk h1 hb).mono fun _ w' ⟨oc, h4, h5, h6, h7⟩ => ?_
  have h8 := h3.below h7
  have hn : ∀ k, oc.has k → w0.heap.size ≤ k ∧ ¬ o.has k ∧ ¬ r.has k ∧ ¬ r.txt k ∧ X k = none := fun k hk => by
    have h9 := h6 k hk
    refine ⟨by have := h3.base.size; omega, fun e => ?_, fun e => ?_, fun e => ?_, ?_⟩
    · have := h3.dk.lt k e; omega
    · have := h3.rk.lt k (Or.inl e); omega
    · have := h3.rk.lt k (Or.inr e); omega
    · cases hx : X k with
      | none => rfl
      | some ob => have := block_lt_of_row (h3.told k ob hx); omega
  refine ⟨oc.g, h4, ⟨o, oc, r, rfl, rfl, rfl, h8.dk, fun k hk => ⟨(h8.o0 k hk).1, fun e => (hn k e).2.1 hk, (h8.o0 k hk).2.1, (h8.o0 k hk).2.2.1, (h8.o0 k hk).2.2.2⟩, ⟨h5, h8.rk, fun k hk => ⟨(hn k hk).1, (hn k hk).2.2.1, (hn k hk).2.2.2.1, (hn k hk).2.2.2.2⟩, h8.r0, h8.t0, h8.base, h8.told⟩⟩, ⟨oc, o, r, rfl, rfl, rfl, h5, hn, h8⟩⟩
theorem pl3_crash (v : Value) (c : S.Cut) (X : Nat → Option Obj) (w0 w : World) (gv g gr : Nat) (dv d : S.Dk) (h : Pl3 X w0 w gv dv g gr d) (hb : dv.pend.length ≤ 1000000) (hv : BoolsAt w0 v c.keep) :
   Calls Try.prog 16 #[.pointer (some ⟨gv, 0, none⟩), .agg #[v, .int .i64 c.torn, .int .i64 c.bytes]] w fun e w' => e = .returned (.tuple #[]) ∧ Pl3 X w0 w' gv (dv.crash c) g gr d := by
  obtain ⟨ov, o, r, rfl, rfl, rfl, h4, h5, h6⟩ := h
  exact (crash_any ov dv v c w h4 hb (fun W hc => bools_old hv (fun k hk => (h5 k hk).1) h6.base hc)).mono fun _ _ ⟨h7, ov', h8, h9⟩ => ⟨h7, Pl3.spoil h5 h6 h8 h9⟩
theorem pl3_write (n : Int) (gf m : Nat) (t : List UInt8) (X : Nat → Option Obj) (w0 w1 w : World) (gv g gr : Nat) (dv d : S.Dk) (h : Pl3 X w0 w1 gv dv g gr d) (hw : Below w1.heap.size w1 w) (hb : dv.pend.length ≤ 1000000) (hgf : w1.heap.size ≤ gf) (hr : w.heap[gf]? = some (.cells (S.v8 t) 5 (0, 0))) (hm : t.length = m) (hmm : m ≤ 1000) :
   Calls Try.prog 13 #[.pointer (some ⟨gv, 0, none⟩), .int .i64 n, .slice (some ⟨gf, 0, none⟩) m m] w fun e w' => e = .returned (.int .i64 (dv.wrt n t).1) ∧ Pl3 X w0 w' gv (dv.wrt n t).2 g gr d := by
  have h' := h.below hw
  obtain ⟨ov0, _, _, hg0, _, _, h40, _, _⟩ := h
  have hgv : gv < w1.heap.size := by rw [← hg0]; exact h40.lt _ (Or.inl rfl)
  obtain ⟨ov, o, r, rfl, rfl, rfl, h4, h5, h6⟩ := h'
  exact (write_all ov dv n _ t w h4 hb (fun W hch => slice_row (hch.row hr (fun e => by have e' : gf = ov.g := e; omega)) hm (by omega))).mono fun _ _ ⟨h7, ov', h8, h9⟩ => ⟨h7, Pl3.spoil h5 h6 h8 h9⟩
theorem pl3_alike (X : Nat → Option Obj) (w0 w : World) (gv g gr : Nat) (dv d : S.Dk) (h : Pl3 X w0 w gv dv g gr d) (hb : d.pend.length ≤ 1000000) :
   Calls Try.prog 29 #[.pointer (some ⟨g, 0, none⟩), .pointer (some ⟨gr, 0, none⟩)] w fun e w' => e = .returned (.bool true) ∧ Pl3 X w0 w' gv dv g gr d := by
  have h' := h
  obtain ⟨ov, o, r, rfl, rfl, rfl, h4, h5, h6⟩ := h
  exact (alike_any o r d w h6.dk h6.rk hb).mono fun _ _ ⟨h7, h8⟩ => ⟨h7, h'.below h8⟩
theorem pl3_alike_v (X : Nat → Option Obj) (w0 w : World) (gv g gr : Nat) (d : S.Dk) (h : Pl3 X w0 w gv d g gr d) (hb : d.pend.length ≤ 1000000) :
   Calls Try.prog 29 #[.pointer (some ⟨gv, 0, none⟩), .pointer (some ⟨gr, 0, none⟩)] w fun e w' => e = .returned (.bool true) ∧ Pl3 X w0 w' gv d g gr d := by
  have h' := h
  obtain ⟨ov, o, r, rfl, rfl, rfl, h4, h5, h6⟩ := h
  exact (alike_any ov r d w h4 h6.rk hb).mono fun _ _ ⟨h7, h8⟩ => ⟨h7, h'.below h8⟩
end Go.Proofs.Ytjnbjgkcliaipaa
