/- What a call leaves alone: only some blocks change. A []byte of the call's own, and an append onto it. -/
import Derived.Test.YtldkkgdkjddohaaBase
namespace Go.Proofs.Ytldkkgdkjddohaa
open Go.RowKit
/-- Of the blocks that were there only those of p may have changed. -/
structure Chg (p : Nat → Prop) (w W : World) : Prop where
  os : W.os = w.os
  tape : W.tape = w.tape
  output : W.output = w.output
  size : w.heap.size ≤ W.heap.size
  block : ∀ k, k < w.heap.size → ¬ p k → W.heap[k]? = w.heap[k]?
theorem Chg.refl (p : Nat → Prop) (w : World) : Chg p w w := ⟨rfl, rfl, rfl, Nat.le_refl _, fun _ _ _ => rfl⟩
theorem Chg.trans {p q : Nat → Prop} {a b c : World} (h : Chg p a b) (k : Chg q b c) (hq : ∀ j, j < a.heap.size → q j → p j) : Chg p a c :=
  ⟨k.os.trans h.os, k.tape.trans h.tape, k.output.trans h.output, Nat.le_trans h.size k.size, fun j hj hp => (k.block j (Nat.lt_of_lt_of_le hj h.size) (fun e => hp (hq j hj e))).trans (h.block j hj hp)⟩
theorem Chg.drew {p : Nat → Prop} {w W : World} (h : Chg p w W) : Chg p w W.drew := ⟨h.os, h.tape, h.output, h.size, h.block⟩
theorem Chg.drewN {p : Nat → Prop} {w W : World} (n : Nat) (h : Chg p w W) : Chg p w (W.drewN n) := ⟨h.os, h.tape, h.output, h.size, h.block⟩
theorem Chg.alloc {p : Nat → Prop} {w W : World} (h : Chg p w W) (o : Obj) : Chg p w (W.alloc o) :=
  ⟨h.os, h.tape, h.output, Nat.le_trans h.size (by simp), fun k hk hp => (heap_alloc_old W o (Nat.lt_of_lt_of_le hk h.size)).trans (h.block k hk hp)⟩
theorem Chg.setCell {p : Nat → Prop} {w W : World} (h : Chg p w W) (g i : Nat) (v : Value) (hg : g < w.heap.size → p g) : Chg p w (W.setCell ⟨g, i, none⟩ v) :=
  have hb := (Below.refl 0 W).setCell (p := ⟨g, i, none⟩) (Nat.zero_le _) v
  ⟨hb.os.trans h.os, hb.tape.trans h.tape, hb.output.trans h.output, Nat.le_trans h.size hb.size, fun k hk hp => (heap_setCell_other W ⟨g, i, none⟩ k v (fun e => hp (by have e' : k = g := e; rw [e'] at hk ⊢; exact hg hk))).trans (h.block k hk hp)⟩
theorem Chg.grown {p : Nat → Prop} {w W W' : World} {row : Option Nat} (h : Chg p w W) (hg : W.grownBy W' row) (hrow : ∀ k, k < w.heap.size → row = some k → p k) : Chg p w W' :=
  ⟨hg.os.trans h.os, hg.tape.trans h.tape, hg.output.trans h.output, Nat.le_trans h.size hg.size, fun k hk hp => (hg.block k (Nat.lt_of_lt_of_le hk h.size) (fun e => hp (hrow k hk e.symm))).trans (h.block k hk hp)⟩
theorem Chg.mono {p q : Nat → Prop} {w W : World} (h : Chg p w W) (hq : ∀ k, k < w.heap.size → p k → q k) : Chg q w W := ⟨h.os, h.tape, h.output, h.size, fun k hk hp => h.block k hk (fun e => hp (hq k hk e))⟩
theorem Chg.below {p : Nat → Prop} {w W : World} (h : Chg p w W) (B : Nat) (hB : B ≤ w.heap.size) (hp : ∀ k, k < B → ¬ p k) : Below B w W := ⟨h.os, h.tape, h.output, h.size, fun k hk => h.block k (Nat.lt_of_lt_of_le hk hB) (hp k hk)⟩
theorem Chg.ofBelow {p : Nat → Prop} {w W : World} {B : Nat} (h : Below B w W) (hp : ∀ k, k < w.heap.size → B ≤ k → p k) : Chg p w W := ⟨h.os, h.tape, h.output, h.size, fun k hk hn => h.block k (by by_cases e : k < B; exact e; exact absurd (hp k hk (by omega)) hn)⟩
theorem Chg.ofBelow' {p : Nat → Prop} {w W : World} (h : Below w.heap.size w W) : Chg p w W := Chg.ofBelow h (fun k hk hn => by omega)
theorem Chg.ofStill {p : Nat → Prop} {w W : World} (h : Still w W) : Chg p w W := Chg.ofBelow' (h.below _)
theorem Chg.row {p : Nat → Prop} {w W : World} (h : Chg p w W) {g : Nat} {o : Obj} (hr : w.heap[g]? = some o) (hp : ¬ p g) : W.heap[g]? = some o := (h.block g (block_lt_of_row hr) hp).trans hr
/-- The value u is a copy of the call's own that reads as bs. -/
def URow (w : World) (u : Value) (bs : List Int) : Prop := w.ownsRow 0 3 1 u bs.length (S.v8l bs)
theorem URow.kept {w w' : World} {u : Value} {bs : List Int} (h : URow w u bs) (hb : ∀ k, u.ownBlock = some k → w'.heap[k]? = w.heap[k]?) : URow w' u bs := by
  refine ⟨h.1, ?_⟩
  rcases h.2 with h2 | ⟨g, cap, cur, rfl, h3, h4, h5⟩
  · exact Or.inl h2
  · exact Or.inr ⟨g, cap, cur, rfl, h3, (hb g rfl).trans h4, h5⟩
theorem URow.lt {w : World} {u : Value} {bs : List Int} (h : URow w u bs) {k : Nat} (hk : u.ownBlock = some k) : k < w.heap.size := (World.ownsRow.lt h k hk).2
theorem URow.chg {p : Nat → Prop} {w W : World} {u : Value} {bs : List Int} (h : URow w u bs) (hc : Chg p w W) (hp : ∀ k, u.ownBlock = some k → ¬ p k) : URow W u bs := h.kept fun k hk => hc.block k (h.lt hk) (hp k hk)
theorem URow.sliceAt {w : World} {u : Value} {bs : List Int} (h : URow w u bs) (hr : bs.length ≤ 100000) : SliceAt w u bs := by
  rcases h.2 with ⟨rfl, h3⟩ | ⟨g, cap, cur, rfl, _, h4, h5, _, h6, h7⟩
  · exact Or.inl ⟨rfl, List.eq_nil_of_length_eq_zero h3⟩
  · exact Room.sliceAt ⟨cur, h4, by omega, h5, by rw [← h7, Nat.mul_one]⟩ hr
theorem URow.one {w : World} {u : Value} {bs : List Int} (h : URow w u bs) : u.oneCell' = true := by
  rcases h.2 with ⟨rfl, _⟩ | ⟨g, cap, cur, rfl, _⟩
  · rfl
  · rfl
theorem URow.shape {w : World} {u : Value} {bs : List Int} (h : URow w u bs) : ∃ ao c, u = .slice ao bs.length c := by
  rcases h.2 with ⟨rfl, h3⟩ | ⟨g, cap, cur, rfl, _⟩
  · exact ⟨none, 0, by rw [h3]⟩
  · exact ⟨_, _, rfl⟩
theorem urow_nil (w : World) : URow w (.slice none 0 0) [] := World.ownsRow_nil w 0 3 1
/-- append onto a []byte of the call's own. -/
theorem run_append_row (w : World) (v u : Value) (bs xs : List Int) (ty : TypeId) (hv : URow w v bs) (hu : SliceAt w u xs) (hb : bs.length + xs.length ≤ 100000) :
    ∃ v' w', (Builtin.append_ #[22, 22] ty #[v, u]).run Try.prog w = .ok v' w' ∧ (URow w' v' (bs ++ xs) ∧ w.grownBy w' v.ownBlock ∧ ∀ k, v'.ownBlock = some k → v.ownBlock = some k ∨ w.heap.size ≤ k) := by
  obtain ⟨i, hi, hz0, hz1, hz2⟩ := info_parts infoB
  have key : ∀ (ad : Addr) (c : Nat), (∀ j x, (S.v8l xs)[j]? = some x → w.cell? (ad.add j) = some x) → u = .slice (some ad) xs.length c → ∃ v' w', (Builtin.append_ #[22, 22] ty #[v, u]).run Try.prog w = .ok v' w' ∧ (URow w' v' (bs ++ xs) ∧ w.grownBy w' v.ownBlock ∧ ∀ k, v'.ownBlock = some k → v.ownBlock = some k ∨ w.heap.size ≤ k) := by
    rintro ad c hc rfl
    obtain ⟨v', w', hr, ho, hg, _⟩ := run_append_own (P := Try.prog) w 0 22 ty 3 i (.int .i64 0) 1 8 Try.underlying22 hi hz0 hz1 hz2 rfl (by omega) v bs.length (S.v8l bs) hv ad xs.length c (S.v8l xs) (by rw [S.v8l_length]; omega) hc (S.v8l_one _) (by simp only [maxLen]; omega) (by omega) (Nat.zero_le _)
    refine ⟨v', w', hr, by unfold URow; rw [v8l_append, List.length_append]; exact ho, hg, fun k hk => ?_⟩
    rcases hv.2 with ⟨rfl, h3⟩ | ⟨g, cap, cur, rfl, _, h4, h5, _, h6, h7⟩
    · obtain ⟨v2, w2, hr2, ho2, _, _⟩ := run_append_own (P := Try.prog) w w.heap.size 22 ty 3 i (.int .i64 0) 1 8 Try.underlying22 hi hz0 hz1 hz2 rfl (by omega) (.slice none 0 0) 0 [] (World.ownsRow_nil w w.heap.size 3 1) ad xs.length c (S.v8l xs) (by rw [S.v8l_length]; omega) hc (S.v8l_one _) (by simp only [maxLen]; omega) (by omega) (Nat.le_refl _)
      rw [hr] at hr2
      simp only [Result.ok.injEq] at hr2
      obtain ⟨rfl, rfl⟩ := hr2
      exact Or.inr (ho2.lt k hk).1
    · by_cases hroom : bs.length + xs.length ≤ cap
      · have hr2 := run_append_room (P := Try.prog) w 22 ty 3 i Try.underlying22 hi g bs.length cap cur h4 ad xs.length c (S.v8l xs) (by rw [S.v8l_length, hz1]; omega) hc (S.v8l_one _) hroom (by rw [S.v8l_length, hz1]; omega)
        rw [hr] at hr2
        simp only [Result.ok.injEq] at hr2
        rw [hr2.1] at hk
        exact Or.inl hk
      · have holds := hv.cells (g := g) rfl
        have hr2 := run_append_grow (P := Try.prog) w 22 ty 3 i (.int .i64 0) Try.underlying22 hi hz0 ⟨g, 0, none⟩ bs.length cap (S.v8l bs) (by rw [S.v8l_length, hz1]; omega) holds ad xs.length c (S.v8l xs) (by rw [S.v8l_length, hz1]; omega) hc (by omega) (by omega) (growslice_fits (by omega) (by rw [hz2]; omega))
        rw [hr] at hr2
        simp only [Result.ok.injEq] at hr2
        rw [hr2.1] at hk
        simp only [Value.ownBlock, Option.some.injEq] at hk
        exact Or.inr (by omega)
  rcases hu with ⟨rfl, rfl⟩ | ⟨a, cap, rfl, _, rfl⟩ | ⟨b, off, cap, rfl, h1, h2, h3, h4⟩
  · exact ⟨v, w, run_append_owned_none (P := Try.prog) (w := w) 0 22 ty 3 i 1 Try.underlying22 hi v bs.length (S.v8l bs) hv, by rw [List.append_nil]; exact hv, ⟨rfl, rfl, rfl, Nat.le_refl _, fun _ _ _ => rfl⟩, fun k hk => Or.inl hk⟩
  · exact key a cap (fun j x h => by simp [S.v8l] at h) rfl
  · refine key ⟨b, off, none⟩ cap (fun j x h => ?_) rfl
    obtain ⟨rfl, hj⟩ := S.v8l_at xs j x h
    rw [Addr.add_lit]
    exact h4 j hj
/-- A step of a drawn region: an append whose run is known. -/
theorem step_append {md : Region.Mode} {ops : Array Oper} {Q : Exit → Act → World → Prop} {S : World → Prop} {fuel : Nat} {listed : Array Bool} {a : Act} {w : World} {i : Nat} {o : Oper} {rs : List Nat} (ho : ops[i]? = some o) (hgd : o.guard = none) (s x : Operand) (t tn : TypeId)
    (hop : o.op = .call { callee := .builtin .append, args := #[s, x], argTypes := #[t, tn] }) (vs vx : Value) (hs : a.eval s = vs) (hx : a.eval x = vx) {R : Value → World → Prop}
    (hr : ∃ v' w', (Builtin.append_ #[t, tn] o.type #[vs, vx]).run Try.prog w = .ok v' w' ∧ R v' w') (hrest : AllReadyH Try.prog md ops Q S fuel listed a w rs)
    (h : ∀ v' w', R v' w' → S w' ∧ (S w' → wpAnyH Try.prog md ops Q S fuel (listed.setIfInBounds i true) (a.put o.dst v') w')) : AllReadyH Try.prog md ops Q S fuel listed a w (i :: rs) := by
  obtain ⟨v', w', hr, hR⟩ := hr
  refine AllReadyH.cons ho (fun K hK => ?_) hrest
  rw [if_pos (by simp [Region.wanted, hgd])]
  exact Lib.wp_append_run w s x t tn hop vs vx hs hx v' w' hr (hK.out _ _ (h v' w' hR).1 (h v' w' hR).2)
end Go.Proofs.Ytldkkgdkjddohaa
