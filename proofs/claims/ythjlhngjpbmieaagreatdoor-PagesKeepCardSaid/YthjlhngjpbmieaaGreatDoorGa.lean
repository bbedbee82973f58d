/- What a call leaves alone: only some blocks change. A []byte of the call's own, and an append onto it. -/
/- The cells of a row of a few. -/
/- Within: a number is brought between 0 and a bound, always alike. -/
/- Same of two lists that read as the same bytes is true; the mark of a list's place is told; nothing changes. -/
/- A slice of slices of the call's own: what it holds, a slice behind it, its first slice let go. -/
import Derived.Test.YthjlhngjpbmieaaGreatDoorBase
namespace Go.Proofs.YthjlhngjpbmieaaGreatDoor
open Go.RowKit
/-- Of the blocks that were there only those of p may have changed. -/
structure Chg (p : Nat → Prop) (w W : World) : Prop where
  os : W.os = w.os
  tape : W.tape = w.tape
  output : W.output = w.output
  size : w.heap.size ≤ W.heap.size
  block : ∀ k, k < w.heap.size → ¬ p k → W.heap[k]? = w.heap[k]?
theorem Chg.refl (p : Nat → Prop) (w : World) : Chg p w w := ⟨rfl, rfl, rfl, Nat.le_refl _, fun _ _ _ => rfl⟩
theorem Chg.trans {p q : Nat → Prop} {a b c : World} (h : Chg p a b) (k : Chg q b c) (hq : ∀ j, j < a.heap.size → q j → p j) : Chg p a c :=
  ⟨k.os.trans h.os, k.tape.trans h.tape, k.output.trans h.output, Nat.le_trans h.size k.size, fun j hj hp => (k.block j (Nat.lt_of_lt_of_le hj h.size) (fun e => hp (hq j hj e))).trans (h.block j hj hp)⟩
theorem Chg.drew {p : Nat → Prop} {w W : World} (h : Chg p w W) : Chg p w W.drew := ⟨h.os, h.tape, h.output, h.size, h.block⟩
theorem Chg.drewN {p : Nat → Prop} {w W : World} (n : Nat) (h : Chg p w W) : Chg p w (W.drewN n) := ⟨h.os, h.tape, h.output, h.size, h.block⟩
theorem Chg.alloc {p : Nat → Prop} {w W : World} (h : Chg p w W) (o : Obj) : Chg p w (W.alloc o) :=
  ⟨h.os, h.tape, h.output, Nat.le_trans h.size (by simp), fun k hk hp => (heap_alloc_old W o (Nat.lt_of_lt_of_le hk h.size)).trans (h.block k hk hp)⟩
theorem Chg.setCell {p : Nat → Prop} {w W : World} (h : Chg p w W) (g i : Nat) (v : Value) (hg : g < w.heap.size → p g) : Chg p w (W.setCell ⟨g, i, none⟩ v) :=
  have hb := (Below.refl 0 W).setCell (p := ⟨g, i, none⟩) (Nat.zero_le _) v
  ⟨hb.os.trans h.os, hb.tape.trans h.tape, hb.output.trans h.output, Nat.le_trans h.size hb.size, fun k hk hp => (heap_setCell_other W ⟨g, i, none⟩ k v (fun e => hp (by have e' : k = g := e; rw [e'] at hk ⊢; exact hg hk))).trans (h.block k hk hp)⟩
theorem Chg.grown {p : Nat → Prop} {w W W' : World} {row : Option Nat} (h : Chg p w W) (hg : W.grownBy W' row) (hrow : ∀ k, k < w.heap.size → row = some k → p k) : Chg p w W' :=
  ⟨hg.os.trans h.os, hg.tape.trans h.tape, hg.output.trans h.output, Nat.le_trans h.size hg.size, fun k hk hp => (hg.block k (Nat.lt_of_lt_of_le hk h.size) (fun e => hp (hrow k hk e.symm))).trans (h.block k hk hp)⟩
theorem Chg.mono {p q : Nat → Prop} {w W : World} (h : Chg p w W) (hq : ∀ k, k < w.heap.size → p k → q k) : Chg q w W := ⟨h.os, h.tape, h.output, h.size, fun k hk hp => h.block k hk (fun e => hp (hq k hk e))⟩
theorem Chg.below {p : Nat → Prop} {w W : World} (h : Chg p w W) (B : Nat) (hB : B ≤ w.heap.size) (hp : ∀ k, k < B → ¬ p k) : Below B w W := ⟨h.os, h.tape, h.output, h.size, fun k hk => h.block k (Nat.lt_of_lt_of_le hk hB) (hp k hk)⟩
theorem Chg.ofBelow {p : Nat → Prop} {w W : World} {B : Nat} (h : Below B w W) (hp : ∀ k, k < w.heap.size → B ≤ k → p k) : Chg p w W := ⟨h.os, h.tape, h.output, h.size, fun k hk hn => h.block k (by by_cases e : k < B; exact e; exact absurd (hp k hk (by omega)) hn)⟩
theorem Chg.ofBelow' {p : Nat → Prop} {w W : World} (h : Below w.heap.size w W) : Chg p w W := Chg.ofBelow h (fun k hk hn => by omega)
theorem Chg.row {p : Nat → Prop} {w W : World} (h : Chg p w W) {g : Nat} {o : Obj} (hr : w.heap[g]? = some o) (hp : ¬ p g) : W.heap[g]? = some o := (h.block g (block_lt_of_row hr) hp).trans hr
/-- The value u is a copy of the call's own that reads as bs. -/
def URow (w : World) (u : Value) (bs : List UInt8) : Prop := w.ownsRow 0 5 1 u bs.length (S.v8l bs)
theorem URow.kept {w w' : World} {u : Value} {bs : List UInt8} (h : URow w u bs) (hb : ∀ k, u.ownBlock = some k → w'.heap[k]? = w.heap[k]?) : URow w' u bs := by
  refine ⟨h.1, ?_⟩
  rcases h.2 with h2 | ⟨g, cap, cur, rfl, h3, h4, h5⟩
  · exact Or.inl h2
  · exact Or.inr ⟨g, cap, cur, rfl, h3, (hb g rfl).trans h4, h5⟩
theorem URow.lt {w : World} {u : Value} {bs : List UInt8} (h : URow w u bs) {k : Nat} (hk : u.ownBlock = some k) : k < w.heap.size := (World.ownsRow.lt h k hk).2
theorem URow.chg {p : Nat → Prop} {w W : World} {u : Value} {bs : List UInt8} (h : URow w u bs) (hc : Chg p w W) (hp : ∀ k, u.ownBlock = some k → ¬ p k) : URow W u bs := h.kept fun k hk => hc.block k (h.lt hk) (hp k hk)
theorem URow.sliceAt {w : World} {u : Value} {bs : List UInt8} (h : URow w u bs) (hr : bs.length ≤ 140737488355328) : SliceAt w u bs := by
  rcases h.2 with ⟨rfl, h3⟩ | ⟨g, cap, cur, rfl, _, h4, h5, _, h6, h7⟩
  · exact Or.inl ⟨rfl, List.eq_nil_of_length_eq_zero h3⟩
  · exact Room.sliceAt ⟨cur, h4, by omega, h5, by rw [← h7, Nat.mul_one]⟩ hr
theorem URow.shape {w : World} {u : Value} {bs : List UInt8} (h : URow w u bs) : ∃ ao c, u = .slice ao bs.length c := by
  rcases h.2 with ⟨rfl, h3⟩ | ⟨g, cap, cur, rfl, _⟩
  · exact ⟨none, 0, by rw [h3]⟩
  · exact ⟨_, _, rfl⟩
theorem urow_nil (w : World) : URow w (.slice none 0 0) [] := World.ownsRow_nil w 0 5 1
/-- append onto a []byte of the call's own. -/
theorem run_append_row (w : World) (v u : Value) (bs xs : List UInt8) (ty : TypeId) (hv : URow w v bs) (hu : SliceAt w u xs) (hb : bs.length + xs.length ≤ 140737488355328) :
    ∃ v' w', (Builtin.append_ #[31, 31] ty #[v, u]).run Tryz.prog w = .ok v' w' ∧ (URow w' v' (bs ++ xs) ∧ w.grownBy w' v.ownBlock ∧ ∀ k, v'.ownBlock = some k → v.ownBlock = some k ∨ w.heap.size ≤ k) := by
  obtain ⟨i, hi, hz0, hz1, hz2⟩ := info_parts infoB
  have key : ∀ (ad : Addr) (c : Nat), (∀ j x, (S.v8l xs)[j]? = some x → w.cell? (ad.add j) = some x) → u = .slice (some ad) xs.length c → ∃ v' w', (Builtin.append_ #[31, 31] ty #[v, u]).run Tryz.prog w = .ok v' w' ∧ (URow w' v' (bs ++ xs) ∧ w.grownBy w' v.ownBlock ∧ ∀ k, v'.ownBlock = some k → v.ownBlock = some k ∨ w.heap.size ≤ k) := by
    rintro ad c hc rfl
    obtain ⟨v', w', hr, ho, hg, _⟩ := run_append_own (P := Tryz.prog) w 0 31 ty 5 i (.int .u8 0) 1 1 Tryz.underlying31 hi hz0 hz1 hz2 rfl (by omega) v bs.length (S.v8l bs) hv ad xs.length c (S.v8l xs) (by rw [S.v8l_length]; omega) hc (S.v8l_one _) (by simp only [maxLen]; omega) (by omega) (Nat.zero_le _)
    refine ⟨v', w', hr, by unfold URow; rw [v8l_append, List.length_append]; exact ho, hg, fun k hk => ?_⟩
    rcases hv.2 with ⟨rfl, h3⟩ | ⟨g, cap, cur, rfl, _, h4, h5, _, h6, h7⟩
    · obtain ⟨v2, w2, hr2, ho2, _, _⟩ := run_append_own (P := Tryz.prog) w w.heap.size 31 ty 5 i (.int .u8 0) 1 1 Tryz.underlying31 hi hz0 hz1 hz2 rfl (by omega) (.slice none 0 0) 0 [] (World.ownsRow_nil w w.heap.size 5 1) ad xs.length c (S.v8l xs) (by rw [S.v8l_length]; omega) hc (S.v8l_one _) (by simp only [maxLen]; omega) (by omega) (Nat.le_refl _)
      rw [hr] at hr2
      simp only [Result.ok.injEq] at hr2
      obtain ⟨rfl, rfl⟩ := hr2
      exact Or.inr (ho2.lt k hk).1
    · by_cases hroom : bs.length + xs.length ≤ cap
      · have hr2 := run_append_room (P := Tryz.prog) w 31 ty 5 i Tryz.underlying31 hi g bs.length cap cur h4 ad xs.length c (S.v8l xs) (by rw [S.v8l_length, hz1]; omega) hc (S.v8l_one _) hroom (by rw [S.v8l_length, hz1]; omega)
        rw [hr] at hr2
        simp only [Result.ok.injEq] at hr2
        rw [hr2.1] at hk
        exact Or.inl hk
      · have holds := hv.cells (g := g) rfl
        have hr2 := run_append_grow (P := Tryz.prog) w 31 ty 5 i (.int .u8 0) Tryz.underlying31 hi hz0 ⟨g, 0, none⟩ bs.length cap (S.v8l bs) (by rw [S.v8l_length, hz1]; omega) holds ad xs.length c (S.v8l xs) (by rw [S.v8l_length, hz1]; omega) hc (by omega) (by omega) (growslice_fits (by omega) (by rw [hz2]; omega))
        rw [hr] at hr2
        simp only [Result.ok.injEq] at hr2
        rw [hr2.1] at hk
        simp only [Value.ownBlock, Option.some.injEq] at hk
        exact Or.inr (by omega)
  rcases hu with ⟨rfl, rfl⟩ | ⟨a, cap, rfl, _, rfl⟩ | ⟨b, off, cap, rfl, h1, h2, h3, h4⟩
  · exact ⟨v, w, run_append_owned_none (P := Tryz.prog) (w := w) 0 31 ty 5 i 1 Tryz.underlying31 hi v bs.length (S.v8l bs) hv, by rw [List.append_nil]; exact hv, ⟨rfl, rfl, rfl, Nat.le_refl _, fun _ _ _ => rfl⟩, fun k hk => Or.inl hk⟩
  · exact key a cap (fun j x h => by simp [S.v8l] at h) rfl
  · refine key ⟨b, off, none⟩ cap (fun j x h => ?_) rfl
    obtain ⟨rfl, hj⟩ := S.v8l_at xs j x h
    rw [Addr.add_lit]
    exact h4 j hj
/-- A step of a drawn region: an append whose run is known. -/
theorem step_append {md : Region.Mode} {ops : Array Oper} {Q : Exit → Act → World → Prop} {S : World → Prop} {fuel : Nat} {listed : Array Bool} {a : Act} {w : World} {i : Nat} {o : Oper} {rs : List Nat} (ho : ops[i]? = some o) (hgd : o.guard = none) (s x : Operand) (t tn : TypeId)
    (hop : o.op = .call { callee := .builtin .append, args := #[s, x], argTypes := #[t, tn] }) (vs vx : Value) (hs : a.eval s = vs) (hx : a.eval x = vx) {R : Value → World → Prop}
    (hr : ∃ v' w', (Builtin.append_ #[t, tn] o.type #[vs, vx]).run Tryz.prog w = .ok v' w' ∧ R v' w') (hrest : AllReadyH Tryz.prog md ops Q S fuel listed a w rs)
    (h : ∀ v' w', R v' w' → S w' ∧ (S w' → wpAnyH Tryz.prog md ops Q S fuel (listed.setIfInBounds i true) (a.put o.dst v') w')) : AllReadyH Tryz.prog md ops Q S fuel listed a w (i :: rs) := by
  obtain ⟨v', w', hr, hR⟩ := hr
  refine AllReadyH.cons ho (fun K hK => ?_) hrest
  rw [if_pos (by simp [Region.wanted, hgd])]
  exact Lib.wp_append_run w s x t tn hop vs vx hs hx v' w' hr (hK.out _ _ (h v' w' hR).1 (h v' w' hR).2)
end Go.Proofs.YthjlhngjpbmieaaGreatDoor
namespace Go.Proofs.YthjlhngjpbmieaaGreatDoor
open Go.RowKit
theorem cells1 {w : World} {g : Nat} {a : Value} {t : TypeId} (h : w.heap[g]? = some (.cells #[a] t (0, 0))) : w.cell? ⟨g, 0, none⟩ = some a := by rw [cell_of_row w g 0 _ _ _ h]; rfl
theorem cells3 {w : World} {g : Nat} {a b c : Value} {t : TypeId} (h : w.heap[g]? = some (.cells #[a, b, c] t (0, 0))) :
    w.cell? ⟨g, 0, none⟩ = some a ∧ w.cell? ⟨g, 1, none⟩ = some b ∧ w.cell? ⟨g, 2, none⟩ = some c :=
  ⟨by rw [cell_of_row w g 0 _ _ _ h]; rfl, by rw [cell_of_row w g 1 _ _ _ h]; rfl, by rw [cell_of_row w g 2 _ _ _ h]; rfl⟩
theorem cells4 {w : World} {g : Nat} {a b c d : Value} {t : TypeId} (h : w.heap[g]? = some (.cells #[a, b, c, d] t (0, 0))) :
    w.cell? ⟨g, 0, none⟩ = some a ∧ w.cell? ⟨g, 1, none⟩ = some b ∧ w.cell? ⟨g, 2, none⟩ = some c ∧ w.cell? ⟨g, 3, none⟩ = some d :=
  ⟨by rw [cell_of_row w g 0 _ _ _ h]; rfl, by rw [cell_of_row w g 1 _ _ _ h]; rfl, by rw [cell_of_row w g 2 _ _ _ h]; rfl, by rw [cell_of_row w g 3 _ _ _ h]; rfl⟩
theorem cells5 {w : World} {g : Nat} {a b c d e : Value} {t : TypeId} (h : w.heap[g]? = some (.cells #[a, b, c, d, e] t (0, 0))) :
    w.cell? ⟨g, 0, none⟩ = some a ∧ w.cell? ⟨g, 1, none⟩ = some b ∧ w.cell? ⟨g, 2, none⟩ = some c ∧ w.cell? ⟨g, 3, none⟩ = some d ∧ w.cell? ⟨g, 4, none⟩ = some e :=
  ⟨by rw [cell_of_row w g 0 _ _ _ h]; rfl, by rw [cell_of_row w g 1 _ _ _ h]; rfl, by rw [cell_of_row w g 2 _ _ _ h]; rfl, by rw [cell_of_row w g 3 _ _ _ h]; rfl, by rw [cell_of_row w g 4 _ _ _ h]; rfl⟩
end Go.Proofs.YthjlhngjpbmieaaGreatDoor
namespace Go.Proofs.YthjlhngjpbmieaaGreatDoor
open Go.RowKit
namespace S
/-- A number brought between 0 and hi. -/
def within (n hi : Int) : Nat := (if n.tmod (hi + 1) < 0 then n.tmod (hi + 1) + (hi + 1) else n.tmod (hi + 1)).toNat
theorem within_le (n hi : Int) (h : 0 ≤ hi) : (within n hi : Int) ≤ hi := by
  have hb1 : n.tmod (hi + 1) < hi + 1 := Int.tmod_lt_of_pos _ (by omega)
  unfold within
  split <;> omega
end S
set_option maxHeartbeats 400000 in
theorem within_any (n hi : Int) (w : World) (_h1 : -9223372036854775808 ≤ n) (_h2 : n ≤ 9223372036854775807) (h3 : 0 ≤ hi) (h4 : hi ≤ 140737488355328) :
   Calls Tryz.prog 17 #[.int .i64 n, .int .i64 0, .int .i64 hi] w fun e w' => e = .returned (.int .i64 (S.within n hi : Int)) ∧ w = w' := by
  have hb1 : n.tmod (hi + 1) < hi + 1 := Int.tmod_lt_of_pos _ (by omega)
  have hb2 : -(hi + 1) < n.tmod (hi + 1) := Int.lt_tmod_of_pos n (show (0 : Int) < hi + 1 by omega)
  have hne : ¬ hi + 1 = 0 := by omega
  have key : ∀ r : Int, (n.tmod (hi + 1) < 0 → r = n.tmod (hi + 1) + (hi + 1)) → (¬ n.tmod (hi + 1) < 0 → r = n.tmod (hi + 1)) → r = (S.within n hi : Int) := fun r h5 h6 => by
    unfold S.within
    split
    · rename_i h; have := h5 h; omega
    · rename_i h; have := h6 h; omega
  have K := hide key
  clear key
  go_enter Tryz.func17, Tryz.ntmps17
  go_wp2
  · go_ret
    exact ⟨congrArg (fun r : Int => Ending.returned (.int .i64 r)) (K.out _ (fun _ => by omega) (fun _ => by omega)), rfl⟩
  · go_ret
    exact ⟨congrArg (fun r : Int => Ending.returned (.int .i64 r)) (K.out _ (fun _ => by omega) (fun _ => by omega)), rfl⟩
end Go.Proofs.YthjlhngjpbmieaaGreatDoor
namespace Go.Proofs.YthjlhngjpbmieaaGreatDoor
open Go.RowKit
end Go.Proofs.YthjlhngjpbmieaaGreatDoor
namespace Go.Proofs.YthjlhngjpbmieaaGreatDoor
open Go.RowKit
/-- The value v is a [][]byte of the call's own that holds the values vs. -/
def Lists (w : World) (v : Value) (vs : List Value) : Prop :=
  (v = .slice none 0 0 ∧ vs = []) ∨
  ∃ g off c cur, v = .slice (some ⟨g, off, none⟩) vs.length c ∧ w.heap[g]? = some (.cells cur 31 (0, 0)) ∧ off + c ≤ cur.size ∧ vs.length ≤ c ∧ ∀ j x, vs[j]? = some x → cur[off + j]? = some x
theorem Lists.shape {w : World} {v : Value} {vs : List Value} (h : Lists w v vs) : ∃ ao c, v = .slice ao vs.length c := by
  rcases h with ⟨rfl, rfl⟩ | ⟨g, off, c, cur, rfl, _⟩
  · exact ⟨_, _, rfl⟩
  · exact ⟨_, _, rfl⟩
theorem Lists.lt {w : World} {v : Value} {vs : List Value} (h : Lists w v vs) {k : Nat} (hk : v.ownBlock = some k) : k < w.heap.size := by
  rcases h with ⟨rfl, rfl⟩ | ⟨g, off, c, cur, rfl, h1, _⟩
  · simp [Value.ownBlock] at hk
  · simp [Value.ownBlock] at hk
    subst hk
    exact block_lt_of_row h1
theorem Lists.kept {w w' : World} {v : Value} {vs : List Value} (h : Lists w v vs) (hb : ∀ k, v.ownBlock = some k → w'.heap[k]? = w.heap[k]?) : Lists w' v vs := by
  rcases h with h | ⟨g, off, c, cur, rfl, h1, h2⟩
  · exact Or.inl h
  · exact Or.inr ⟨g, off, c, cur, rfl, (hb g rfl).trans h1, h2⟩
theorem Lists.at {w : World} {v : Value} {vs : List Value} (h : Lists w v vs) (k : Nat) (hk : k < vs.length) :
    ∃ g off c, v = .slice (some ⟨g, off, none⟩) vs.length c ∧ vs.length ≤ c ∧ w.cell? ⟨g, off + k, none⟩ = some (vs.getD k default) := by
  rcases h with ⟨_, rfl⟩ | ⟨g, off, c, cur, rfl, h1, h2, h3, h4⟩
  · simp at hk
  · refine ⟨g, off, c, rfl, h3, ?_⟩
    rw [cell_of_row w g (off + k) cur 31 (0, 0) h1]
    exact h4 k _ (by rw [List.getElem?_eq_getElem hk, List.getD_eq_getElem?_getD, List.getElem?_eq_getElem hk]; rfl)
theorem infoS : (Tryz.prog.info? 31).map (fun i => (i.zero, i.size, i.bytes)) = some (some (.slice none 0 0), 1, 24) := by kernel_rfl
/-- append of one slice: in its room, or in a new block. -/
theorem run_append_list (w : World) (v x : Value) (gx : Nat) (vs : List Value) (ty : TypeId) (h : Lists w v vs) (hx : w.heap[gx]? = some (.cells #[x] 31 (0, 0))) (hx1 : x.oneCell' = true) (hlen : vs.length ≤ 1000000) :
    ∃ v' w', (Builtin.append_ #[92, 92] ty #[v, .slice (some ⟨gx, 0, none⟩) 1 1]).run Tryz.prog w = .ok v' w' ∧ (Lists w' v' (vs ++ [x]) ∧ w.grownBy w' v.ownBlock ∧ (v'.ownBlock = v.ownBlock ∨ v'.ownBlock = some w.heap.size)) := by
  obtain ⟨i, hi, hz0, hz1, hz2⟩ := info_parts infoS
  have hnews : ∀ j u, [x][j]? = some u → w.cell? ((⟨gx, 0, none⟩ : Addr).add j) = some u := by
    intro j u hu
    rw [Addr.add_lit, Nat.zero_add, cell_of_row w gx j _ 31 (0, 0) hx]
    simpa using hu
  have hone : ∀ u ∈ [x], u.oneCell' = true := by intro u hu; rw [List.mem_singleton.1 hu]; exact hx1
  rcases h with ⟨rfl, rfl⟩ | ⟨g, off, c, cur, rfl, h1, h2, h3, h4⟩
  · have hr := run_append_nil (P := Tryz.prog) w 92 ty 31 i (.slice none 0 0) Tryz.underlying92 hi hz0 ⟨gx, 0, none⟩ 1 1 [x] (by rw [hz1]; rfl) hnews (by omega) (by omega) (by rw [hz2]; omega)
    refine ⟨_, _, hr, Or.inr ⟨w.heap.size, 0, _, _, rfl, heap_alloc_new w.drew _, ?_, ?_, ?_⟩, ⟨rfl, rfl, rfl, by simp, fun k hk _ => heap_alloc_old w.drew _ hk⟩, Or.inr rfl⟩
    · have hge := grownCap_ge w 1 0 31
      simp only [Array.size_append, List.size_toArray, size_zeroCells, List.length_singleton]
      have : (Value.slice none 0 0).cells.size = 1 := rfl
      rw [this]
      omega
    · exact grownCap_ge w 1 0 31
    · intro j y hy
      rw [Nat.zero_add, Array.getElem?_append_left (by have := (List.getElem?_eq_some_iff.1 hy).1; simpa using this)]
      simpa using hy
  · by_cases hroom : vs.length + 1 ≤ c
    · have hf := run_firstCells_some (P := Tryz.prog) w i.size 1 ⟨gx, 0, none⟩ 1 1 [x] (by rw [hz1]; rfl) hnews
      have hst := run_storeCells_at Tryz.prog g (off + vs.length) 31 [x] 0 cur w h1 (by simp; omega) hone
      simp only [Nat.add_zero] at hst
      rw [hz1] at hf
      have hr : (Builtin.append_ #[92, 92] ty #[.slice (some ⟨g, off, none⟩) vs.length c, .slice (some ⟨gx, 0, none⟩) 1 1]).run Tryz.prog w = .ok (.slice (some ⟨g, off, none⟩) (vs.length + 1) c) (w.setRow g (cur.toList.take (off + vs.length) ++ [x] ++ cur.toList.drop (off + vs.length + 1)).toArray) := by
        simp [Builtin.append_, run_underlying Tryz.underlying92, sizeOf, typeInfo, hi, hz1, Builtin.lenOf, hroom, hf, Addr.add_lit]
        have hst' := hst
        simp only [List.length_singleton, List.append_assoc, List.cons_append, List.nil_append] at hst'
        rw [hst']
        rfl
      refine ⟨_, _, hr, Or.inr ⟨g, off, c, _, by rw [List.length_append, List.length_singleton], setRow_heap w g cur _ 31 _ h1, ?_, by rw [List.length_append]; exact hroom, ?_⟩, ⟨rfl, rfl, rfl, by simp, fun k _ hk => setRow_other w g k _ (fun e => hk (by simp [Value.ownBlock, e]))⟩, Or.inl rfl⟩
      · simp only [List.size_toArray, List.length_append, List.length_take, List.length_drop, Array.length_toList, List.length_singleton]
        omega
      · intro j y hy
        have hlt : (cur.toList.take (off + vs.length)).length = off + vs.length := by rw [List.length_take]; have : cur.toList.length = cur.size := Array.length_toList; omega
        rw [List.getElem?_toArray, List.append_assoc]
        by_cases hj : j < vs.length
        · rw [List.getElem?_append_left (by rw [hlt]; omega), List.getElem?_take, if_pos (by omega)]
          rw [List.getElem?_append_left hj] at hy
          simpa using h4 j y hy
        · rw [List.getElem?_append_right (by omega)] at hy
          rw [List.getElem?_append_right (by rw [hlt]; omega), hlt]
          have hj0 : j - vs.length = 0 := by have := (List.getElem?_eq_some_iff.1 hy).1; simpa using this
          have hj1 : off + j - (off + vs.length) = 0 := by omega
          rw [hj0] at hy
          rw [hj1]
          simpa using hy
    · have holds : ∀ j u, vs[j]? = some u → w.cell? ((⟨g, off, none⟩ : Addr).add j) = some u := by
        intro j u hu
        rw [Addr.add_lit, cell_of_row w g (off + j) _ 31 (0, 0) h1]
        exact h4 j u hu
      have hr := run_append_grow (P := Tryz.prog) w 92 ty 31 i (.slice none 0 0) Tryz.underlying92 hi hz0 ⟨g, off, none⟩ vs.length c vs (by rw [hz1]; omega) holds ⟨gx, 0, none⟩ 1 1 [x] (by rw [hz1]; rfl) hnews (by omega) (by omega) (growslice_fits (by omega) (by rw [hz2]; omega))
      have hge := grownCap_ge w (vs.length + 1) c 31
      refine ⟨_, _, hr, Or.inr ⟨w.heap.size, 0, _, _, by rw [List.length_append, List.length_singleton], heap_alloc_new w.drew _, ?_, by rw [List.length_append]; exact hge, ?_⟩, ⟨rfl, rfl, rfl, by simp, fun k hk _ => heap_alloc_old w.drew _ hk⟩, Or.inr rfl⟩
      · simp only [Array.size_append, List.size_toArray, size_zeroCells, List.length_singleton]
        have : (Value.slice none 0 0).cells.size = 1 := rfl
        rw [this]
        omega
      · intro j y hy
        have hj := (List.getElem?_eq_some_iff.1 hy).1
        rw [Nat.zero_add, Array.getElem?_append_left (by simpa using hj)]
        simpa using hy
end Go.Proofs.YthjlhngjpbmieaaGreatDoor
