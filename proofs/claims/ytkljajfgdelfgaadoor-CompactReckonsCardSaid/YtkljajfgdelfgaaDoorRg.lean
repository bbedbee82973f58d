/- A range over a function that hands out memory: what a round may know of what it is handed, and what it may change. -/
import Derived.RangeFuncNested
import Derived.RangeFuncBound
import Derived.RangeFuncCalls
import Derived.RangeFuncLeaves
import Derived.Shelf.Abstract
import Derived.Shelf.RegionOpen
import Derived.OwnWalkIn
import Derived.TacticsInMore
import Derived.LoopNIn
import Derived.LoopIn
import Derived.Test.YtkljajfgdelfgaaDoorCells
namespace Go.Proofs.YtkljajfgdelfgaaDoor
open Go.RowKit Go.Shelf

/-- What only grows. -/
def Grows {α : Type} (J : α → World → Prop) : Prop := ∀ s A B, J s A → Below A.heap.size A B → J s B
/-- What does not hang on a block that is no cells and lies from B on. -/
def Bare {α : Type} (B : Nat) (J : α → World → Prop) : Prop := ∀ s A l o o', J s A → B ≤ l → A.heap[l]? = some o → o.isCells = false → J s (A.putObj l o')
/-- An iterator that hands out memory: x comes behind pre in a world of which R pre x tells; a round that goes on has changed no block but those of q. -/
def SeqMem {α : Type} (n : Nat) (P : Program) (g : Nat) (lb : Array Value) (encs : α → Array Value) (q : Nat → Prop) (R : List α → α → World → Prop) (S Sp : List α → Prop) (w : World) : Prop :=
  ∀ (l : Nat) (J Jx : List α → World → Prop) (W : World), Below w.heap.size w W → Grows J → Grows Jx →
    (∀ pre x V, J pre V → R pre x V → YieldAt Fence.wide (n - 1) P l (encs x) V fun e V' => (e = .returned (.bool true) ∧ J (pre ++ [x]) V' ∧ Chg q V V') ∨ (e = .returned (.bool false) ∧ Jx (pre ++ [x]) V')) →
    J [] W → CallsIn Fence.wide n P g (#[.func (.yield l) #[] #[]] ++ lb) W fun e W' => (∃ v, e = .returned v) ∧ ((∃ xs, S xs ∧ J xs W') ∨ (∃ pre, Sp pre ∧ Jx pre W'))
/-- How the body of a round may end. -/
def memPost {α : Type} (q : Nat → Prop) (I : List α → World → Prop) (Ix : Code → List α → World → Prop) (ys : List α) (W : World) : Exit → Act → World → Prop
  | .normal, _, W' => Chg q W W' ∧ I ys W'
  | .ret, _, W' => Chg q W W' ∧ Ix .ret ys W'
  | .exit id, _, W' => Chg q W W' ∧ Ix (.exit id) ys W'
  | .goto t, _, W' => Chg q W W' ∧ Ix (.goto t) ys W'
  | .panic _, _, _ => False
  | .outgrown, _, _ => False
theorem putObj_cases {W : World} {l k : Nat} {o : Obj} (hl : l < W.heap.size) : (W.putObj l o).heap[k]? = if k = l then some o else W.heap[k]? := by
  by_cases e : k = l
  · rw [if_pos e, e]; exact World.putObj_heap_same hl
  · rw [if_neg e]; exact World.putObj_heap_other e
/-- A round, from its begin to its end: the record is as it was, where it goes on. -/
theorem Chg.round {q : Nat → Prop} {W V : World} {l : Nat} {b f : Obj} (hl : l < W.heap.size) (hf : W.heap[l]? = some f) (h : Chg q (W.putObj l b) V) : Chg q W (V.putObj l f) := by
  have hs : (W.putObj l b).heap.size = W.heap.size := World.putObj_size
  have hV : l < V.heap.size := by have := h.size; omega
  refine ⟨h.os, h.tape, h.output, by have := h.size; rw [World.putObj_size]; omega, fun k hk hn => ?_⟩
  rw [putObj_cases hV]
  by_cases e : k = l
  · rw [if_pos e, e, hf]
  · rw [if_neg e, h.block k (by omega) hn, putObj_cases hl, if_neg e]
theorem wpIn_rangeMem {α : Type} {n : Nat} {P : Program} {g : Operand} {ps : Array Tmp} {assign body : Code} {Q : Exit → Act → World → Prop} {a : Act} {w w0 : World} {gf : Nat} {lb : Array Value} {encs : α → Array Value} {q : Nat → Prop} {R : List α → α → World → Prop} {S Sp : List α → Prop}
    (hg : a.eval g = .func (.func gf) #[] lb) (eg : ∀ args w, (callFunc gf args).run P w = .ok (.enter gf args) w) (hseq : SeqMem (n - 1) P gf lb encs q R S Sp w0) (hb0 : Below w0.heap.size w0 w) (hps : ∀ x, (encs x).size = ps.size) (hq : ∀ k, q k → k < w.heap.size)
    (I : List α → World → Prop) (Ix : Code → List α → World → Prop) (gI : Grows I) (gIx : ∀ c, Grows (Ix c)) (bI : Bare w.heap.size I) (bIx : ∀ c, Bare w.heap.size (Ix c)) (bR : ∀ pre, Bare w.heap.size (R pre)) (h0 : I [] w) (a₁ : α → Act)
    (hassign : ∀ (l : Nat) (x : α) (W : World) (K : Act → World → Prop), K (a₁ x) W → assign.wpIn (Fence.wide.inRound l) (n - 1 - 1) P (Exit.then K (fun _ _ _ => False)) { tmps := (ps.zip (encs x)).foldl (fun t (p, v) => t.setIfInBounds p v) a.tmps, defers := [] } W)
    (hbody : ∀ (l : Nat) (pre : List α) (x : α) (W : World), I pre W → R pre x W → body.wpIn (Fence.wide.inRound l) (n - 1 - 1) P (memPost q I Ix (pre ++ [x]) W) (a₁ x) W)
    (hdone : ∀ (D : Nat) (xs : List α) (W : World), w.heap.size ≤ D → S xs → I xs W → W.heap[D]? = some (.deferred (some [])) → Q .normal { a with defers := { target := .collected D, args := #[] } :: a.defers } W)
    (hstop : ∀ (D : Nat) (c : Code) (pre : List α) (W : World), w.heap.size ≤ D → Sp pre → Ix c pre W → W.heap[D]? = some (.deferred (some [])) → c.wpIn Fence.wide n P Q { a with defers := { target := .collected D, args := #[] } :: a.defers } W) :
    (Code.rangeFunc g ps assign body).wpIn Fence.wide n P Q a w := by
  refine wpIn_rangeFunc fun fn _ => ?_
  let rc : LoopState → Option Code → Obj := fun st pe => .loop { state := st, pending := pe, fn, tmps := a.tmps, params := ps, assign, body, defers := w.heap.size }
  obtain ⟨D, hD⟩ : ∃ D, D = w.heap.size := ⟨_, rfl⟩
  obtain ⟨l, hl⟩ : ∃ l, l = w.heap.size + 1 := ⟨_, rfl⟩
  obtain ⟨V, hV⟩ : ∃ V, V = (w.alloc (.deferred (some []))).alloc (rc .ready none) := ⟨_, rfl⟩
  have b1 : Below w.heap.size w (w.alloc (.deferred (some []))) := (Below.refl _ w).alloc (Nat.le_refl _) _
  have b2 : Below w.heap.size w V := by rw [hV]; exact b1.alloc b1.size _
  have rl : V.heap[l]? = some (rc .ready none) := by
    rw [hV, hl, ← World.size_alloc w (.deferred (some []))]
    exact World.alloc_heap_new _ _
  have rD : V.heap[D]? = some (.deferred (some [])) := by
    rw [hV, hD, Below.heap_alloc _ _ _ (by rw [World.size_alloc]; omega)]
    exact World.alloc_heap_new _ _
  have nq : ¬ q l := fun e => by have := hq l e; omega
  have nD : ¬ q D := fun e => by have := hq D e; omega
  have nlD : D ≠ l := by omega
  refine ⟨l, [{ target := .collected D, args := #[] }], V, { target := .fn (.func gf) lb, args := #[.func (.yield l) #[] #[]] }, V, gf, #[.func (.yield l) #[] #[]] ++ lb, V, ?_, ?_, fun _ _ => trivial, ?_, fun e => by simp [Fence.wide] at e, ?_⟩
  · rw [hV, hl, hD]
    exact run_enterLoop_outer _ _ _ _ _
  · simp only [resolve, hg]
    simp [go_sem]
  · simp [invoke, go_sem, eg]
  · let J : List α → World → Prop := fun pre W => I pre W ∧ W.heap[l]? = some (rc .ready none) ∧ W.heap[D]? = some (.deferred (some []))
    let Jx : List α → World → Prop := fun pre W => ∃ c, Ix c pre W ∧ W.heap[l]? = some (rc .done (some c)) ∧ W.heap[D]? = some (.deferred (some []))
    have kp : ∀ {A B : World} {k : Nat} {o : Obj}, A.heap[k]? = some o → Below A.heap.size A B → B.heap[k]? = some o := fun h b => (b.block _ (block_lt_of_row h)).trans h
    refine (hseq l J Jx V (hb0.trans (b2.mono hb0.size)) (fun s A B h b => ⟨gI s A B h.1 b, kp h.2.1 b, kp h.2.2 b⟩) (fun s A B h b => by obtain ⟨c, h1, h2, h3⟩ := h; exact ⟨c, gIx c s A B h1 b, kp h2 b, kp h3 b⟩) ?_ ⟨gI _ _ _ h0 b2, rl, rD⟩).mono ?_
    · rintro pre x W ⟨hi, hr, hd⟩ hR
      have lt := block_lt_of_row hr
      have hy := run_yield (P := P) (args := encs x) hr (hps x)
      refine ⟨fn, _, assign, body, hy, roundIn_of_wpIn trivial (hassign l x W _ ⟨_, run_beginRound hr rfl, ?_⟩)⟩
      refine wpIn_mono (hbody l pre x _ (bI _ _ _ _ _ hi (by omega) hr rfl) (bR pre _ _ _ _ _ hR (by omega) hr rfl)) ?_
      have rb : (W.putObj l (rc .busy none)).heap[l]? = some (rc .busy none) := World.putObj_heap_same lt
      have rd : (W.putObj l (rc .busy none)).heap[D]? = some (.deferred (some [])) := (World.putObj_heap_other nlD).trans hd
      intro e a3 X hp
      cases e with
      | normal =>
        obtain ⟨c3, i3⟩ := hp
        have r3 := c3.row rb nq
        have d3 := c3.row rd nD
        exact ⟨_, _, run_endRound none r3, Or.inl ⟨rfl, ⟨bI _ _ _ _ _ i3 (by omega) r3 rfl, World.putObj_heap_same (block_lt_of_row r3), (World.putObj_heap_other nlD).trans d3⟩, Chg.round lt hr c3⟩⟩
      | ret =>
        obtain ⟨c3, i3⟩ := hp
        have r3 := c3.row rb nq
        exact ⟨_, _, run_endRound (some .ret) r3, Or.inr ⟨rfl, .ret, bIx _ _ _ _ _ _ i3 (by omega) r3 rfl, World.putObj_heap_same (block_lt_of_row r3), (World.putObj_heap_other nlD).trans (c3.row rd nD)⟩⟩
      | exit id =>
        obtain ⟨c3, i3⟩ := hp
        have r3 := c3.row rb nq
        exact ⟨_, _, run_endRound (some (.exit id)) r3, Or.inr ⟨rfl, .exit id, bIx _ _ _ _ _ _ i3 (by omega) r3 rfl, World.putObj_heap_same (block_lt_of_row r3), (World.putObj_heap_other nlD).trans (c3.row rd nD)⟩⟩
      | goto t =>
        obtain ⟨c3, i3⟩ := hp
        have r3 := c3.row rb nq
        exact ⟨_, _, run_endRound (some (.goto t)) r3, Or.inr ⟨rfl, .goto t, bIx _ _ _ _ _ _ i3 (by omega) r3 rfl, World.putObj_heap_same (block_lt_of_row r3), (World.putObj_heap_other nlD).trans (c3.row rd nD)⟩⟩
      | panic ch => exact hp.elim
      | outgrown => exact hp.elim
    · rintro e X ⟨⟨v, rfl⟩, ⟨xs, hS, hi, hr, hd⟩ | ⟨pre, hSp, c, hi, hr, hd⟩⟩
      · exact ⟨none, _, run_endLoop hr (by intro h; cases h), hdone D xs _ (by omega) hS (bI _ _ _ _ _ hi (by omega) hr rfl) ((World.putObj_heap_other nlD).trans hd)⟩
      · exact ⟨some c, _, run_endLoop hr (by intro h; cases h), hstop D c pre _ (by omega) hSp (bIx _ _ _ _ _ _ hi (by omega) hr rfl) ((World.putObj_heap_other nlD).trans hd)⟩
end Go.Proofs.YtkljajfgdelfgaaDoor
namespace Go.Proofs.YtkljajfgdelfgaaDoor
open Go.RowKit Go.Shelf

theorem wpIn_rangeBox {α : Type} {n : Nat} {P : Program} {g : Operand} {ps : Array Tmp} {assign body : Code} {Q : Exit → Act → World → Prop} {a : Act} {w w0 : World} {gf : Nat} {lb : Array Value} {encs : α → Array Value} {q : Nat → Prop} {R : List α → α → World → Prop} {S Sp : List α → Prop}
    (hg : a.eval g = .func (.func gf) #[] lb) (eg : ∀ args w, (callFunc gf args).run P w = .ok (.enter gf args) w) (hseq : SeqMem (n - 1) P gf lb encs q R S Sp w0) (hb0 : Below w0.heap.size w0 w) (hps : ∀ x, (encs x).size = ps.size) (hq : ∀ k, q k → k < w.heap.size)
    (I : List α → World → Prop) (Ix : Code → List α → World → Prop) (gI : Grows I) (gIx : ∀ c, Grows (Ix c)) (bI : Bare w.heap.size I) (bIx : ∀ c, Bare w.heap.size (Ix c)) (bR : ∀ pre, Bare w.heap.size (R pre)) (gR : ∀ pre, Grows (R pre)) (h0 : I [] w) (Ax : α → Act → World → Prop) (bA : ∀ x, Bare w.heap.size (Ax x))
    (hassign : ∀ (l : Nat) (pre : List α) (x : α) (W : World) (K : Act → World → Prop), I pre W → R pre x W → (∀ a' W', Below W.heap.size W W' → Ax x a' W' → K a' W') → assign.wpIn (Fence.wide.inRound l) (n - 1 - 1) P (Exit.then K (fun _ _ _ => False)) { tmps := (ps.zip (encs x)).foldl (fun t (p, v) => t.setIfInBounds p v) a.tmps, defers := [] } W)
    (hbody : ∀ (l : Nat) (pre : List α) (x : α) (a' : Act) (W : World), I pre W → R pre x W → Ax x a' W → body.wpIn (Fence.wide.inRound l) (n - 1 - 1) P (memPost q I Ix (pre ++ [x]) W) a' W)
    (hdone : ∀ (D : Nat) (xs : List α) (W : World), w.heap.size ≤ D → S xs → I xs W → W.heap[D]? = some (.deferred (some [])) → Q .normal { a with defers := { target := .collected D, args := #[] } :: a.defers } W)
    (hstop : ∀ (D : Nat) (c : Code) (pre : List α) (W : World), w.heap.size ≤ D → Sp pre → Ix c pre W → W.heap[D]? = some (.deferred (some [])) → c.wpIn Fence.wide n P Q { a with defers := { target := .collected D, args := #[] } :: a.defers } W) :
    (Code.rangeFunc g ps assign body).wpIn Fence.wide n P Q a w := by
  refine wpIn_rangeFunc fun fn _ => ?_
  let rc : LoopState → Option Code → Obj := fun st pe => .loop { state := st, pending := pe, fn, tmps := a.tmps, params := ps, assign, body, defers := w.heap.size }
  obtain ⟨D, hD⟩ : ∃ D, D = w.heap.size := ⟨_, rfl⟩
  obtain ⟨l, hl⟩ : ∃ l, l = w.heap.size + 1 := ⟨_, rfl⟩
  obtain ⟨V, hV⟩ : ∃ V, V = (w.alloc (.deferred (some []))).alloc (rc .ready none) := ⟨_, rfl⟩
  have b1 : Below w.heap.size w (w.alloc (.deferred (some []))) := (Below.refl _ w).alloc (Nat.le_refl _) _
  have b2 : Below w.heap.size w V := by rw [hV]; exact b1.alloc b1.size _
  have rl : V.heap[l]? = some (rc .ready none) := by
    rw [hV, hl, ← World.size_alloc w (.deferred (some []))]
    exact World.alloc_heap_new _ _
  have rD : V.heap[D]? = some (.deferred (some [])) := by
    rw [hV, hD, Below.heap_alloc _ _ _ (by rw [World.size_alloc]; omega)]
    exact World.alloc_heap_new _ _
  have nq : ¬ q l := fun e => by have := hq l e; omega
  have nD : ¬ q D := fun e => by have := hq D e; omega
  have nlD : D ≠ l := by omega
  refine ⟨l, [{ target := .collected D, args := #[] }], V, { target := .fn (.func gf) lb, args := #[.func (.yield l) #[] #[]] }, V, gf, #[.func (.yield l) #[] #[]] ++ lb, V, ?_, ?_, fun _ _ => trivial, ?_, fun e => by simp [Fence.wide] at e, ?_⟩
  · rw [hV, hl, hD]
    exact run_enterLoop_outer _ _ _ _ _
  · simp only [resolve, hg]
    simp [go_sem]
  · simp [invoke, go_sem, eg]
  · let J : List α → World → Prop := fun pre W => I pre W ∧ W.heap[l]? = some (rc .ready none) ∧ W.heap[D]? = some (.deferred (some []))
    let Jx : List α → World → Prop := fun pre W => ∃ c, Ix c pre W ∧ W.heap[l]? = some (rc .done (some c)) ∧ W.heap[D]? = some (.deferred (some []))
    have kp : ∀ {A B : World} {k : Nat} {o : Obj}, A.heap[k]? = some o → Below A.heap.size A B → B.heap[k]? = some o := fun h b => (b.block _ (block_lt_of_row h)).trans h
    refine (hseq l J Jx V (hb0.trans (b2.mono hb0.size)) (fun s A B h b => ⟨gI s A B h.1 b, kp h.2.1 b, kp h.2.2 b⟩) (fun s A B h b => by obtain ⟨c, h1, h2, h3⟩ := h; exact ⟨c, gIx c s A B h1 b, kp h2 b, kp h3 b⟩) ?_ ⟨gI _ _ _ h0 b2, rl, rD⟩).mono ?_
    · rintro pre x W0 ⟨hi0, hr0, hd0⟩ hR0
      have hy := run_yield (P := P) (args := encs x) hr0 (hps x)
      refine ⟨fn, _, assign, body, hy, roundIn_of_wpIn trivial (hassign l pre x W0 _ hi0 hR0 (fun a' W hbW hAx => ⟨_, run_beginRound (kp hr0 hbW) rfl, ?_⟩))⟩
      have hi := gI _ _ _ hi0 hbW
      have hr := kp hr0 hbW
      have hd := kp hd0 hbW
      have hR := gR pre _ _ _ hR0 hbW
      have lt := block_lt_of_row hr
      have cW : Chg q W0 W := (Chg.ofBelow' (p := fun _ => False) hbW).mono (fun _ _ e => e.elim)
      refine wpIn_mono (hbody l pre x a' _ (bI _ _ _ _ _ hi (by omega) hr rfl) (bR pre _ _ _ _ _ hR (by omega) hr rfl) (bA x _ _ _ _ _ hAx (by omega) hr rfl)) ?_
      have rb : (W.putObj l (rc .busy none)).heap[l]? = some (rc .busy none) := World.putObj_heap_same lt
      have rd : (W.putObj l (rc .busy none)).heap[D]? = some (.deferred (some [])) := (World.putObj_heap_other nlD).trans hd
      intro e a3 X hp
      cases e with
      | normal =>
        obtain ⟨c3, i3⟩ := hp
        have r3 := c3.row rb nq
        have d3 := c3.row rd nD
        exact ⟨_, _, run_endRound none r3, Or.inl ⟨rfl, ⟨bI _ _ _ _ _ i3 (by omega) r3 rfl, World.putObj_heap_same (block_lt_of_row r3), (World.putObj_heap_other nlD).trans d3⟩, cW.trans (Chg.round lt hr c3) (fun _ _ e => e)⟩⟩
      | ret =>
        obtain ⟨c3, i3⟩ := hp
        have r3 := c3.row rb nq
        exact ⟨_, _, run_endRound (some .ret) r3, Or.inr ⟨rfl, .ret, bIx _ _ _ _ _ _ i3 (by omega) r3 rfl, World.putObj_heap_same (block_lt_of_row r3), (World.putObj_heap_other nlD).trans (c3.row rd nD)⟩⟩
      | exit id =>
        obtain ⟨c3, i3⟩ := hp
        have r3 := c3.row rb nq
        exact ⟨_, _, run_endRound (some (.exit id)) r3, Or.inr ⟨rfl, .exit id, bIx _ _ _ _ _ _ i3 (by omega) r3 rfl, World.putObj_heap_same (block_lt_of_row r3), (World.putObj_heap_other nlD).trans (c3.row rd nD)⟩⟩
      | goto t =>
        obtain ⟨c3, i3⟩ := hp
        have r3 := c3.row rb nq
        exact ⟨_, _, run_endRound (some (.goto t)) r3, Or.inr ⟨rfl, .goto t, bIx _ _ _ _ _ _ i3 (by omega) r3 rfl, World.putObj_heap_same (block_lt_of_row r3), (World.putObj_heap_other nlD).trans (c3.row rd nD)⟩⟩
      | panic ch => exact hp.elim
      | outgrown => exact hp.elim
    · rintro e X ⟨⟨v, rfl⟩, ⟨xs, hS, hi, hr, hd⟩ | ⟨pre, hSp, c, hi, hr, hd⟩⟩
      · exact ⟨none, _, run_endLoop hr (by intro h; cases h), hdone D xs _ (by omega) hS (bI _ _ _ _ _ hi (by omega) hr rfl) ((World.putObj_heap_other nlD).trans hd)⟩
      · exact ⟨some c, _, run_endLoop hr (by intro h; cases h), hstop D c pre _ (by omega) hSp (bIx _ _ _ _ _ _ hi (by omega) hr rfl) ((World.putObj_heap_other nlD).trans hd)⟩
end Go.Proofs.YtkljajfgdelfgaaDoor
