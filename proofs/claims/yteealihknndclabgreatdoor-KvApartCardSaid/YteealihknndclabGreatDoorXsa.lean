/- Package kv: a call with one change for which there is room, and what it leaves of one pair. -/
import Derived.Test.YteealihknndclabGreatDoorVaa
import Derived.Test.YteealihknndclabGreatDoorVaf
import Derived.Test.YteealihknndclabGreatDoorEd
namespace Go.Proofs.YteealihknndclabGreatDoor
open Go.RowKit
theorem zw (w0 w : World) (o : Ow) (gk gt gs n bd : Nat) (es : List S.Ent) (v : Value) (x : KcV) (c : UInt8 × S.Cg) (h : KvO w0 w o gk gt gs n bd es) (hd : Els dN w v [x]) (hx : qH w x c) (h1 : 1 <= x.kn) (h2 : x.kn <= 39) (h4 : x.vn <= 400) (hb : S.used es + (x.kn + 1 + x.vn) <= bd) (hfit : S.used es + (x.kn + 1 + x.vn) + 4 * (es.length + 1) <= 1019) (hn : n + 2 < 18446744073709551616) :
  Calls Tryz.prog 7 #[.pointer (some ⟨gk, 0, none⟩), v] w fun e w' => e = .returned (.int .i64 0) /\ ∃ o', KvO w0 w' o' gk gt gs (n + 2) bd (S.mrg es [S.tr c]) /\ Chg o.has w w' /\ ∀ k, o'.has k -> o.has k \/ w.heap.size <= k := by
 have ek : c.2.key.length = x.kn := hx.key.len_eq
 have ev : c.2.val.length = x.vn := hx.val.len_eq
 have hk : (S.tr c).key.length = x.kn + 1 := by show (c.1 :: c.2.key).length = _; rw [List.length_cons, ek]
 have hv : (S.tr c).val.length = x.vn := ev
 have hg : [x].all KcV.good = true := by simp [KcV.good]; omega
 have hsz := szOf_le es (S.tr c).key
 have hnow : S.now (S.tr c) <= x.kn + 1 + x.vn := by unfold S.now; split <;> omega
 have hgr := S.gr_one es (S.tr c) (by omega) (by omega)
 have hN := h.leaf
 have hus := S.DI hN.up (S.tr c)
 have hm : List.map S.tr [c] = [S.tr c] := rfl
 obtain ⟨m1, m2, m3⟩ := S.EO hN (S.tr c) (by simp [S.tr]) (by omega) (by omega) (by omega)
 by_cases q1 : (S.gr es [S.tr c]).2 <= 0
 ·refine (Cc w0 w o gk gt gs n bd es v [x] [c] h hd (by simp) (by simp) hg (Ar hx) (by rw [hm]; exact q1) (by omega) (by rw [hm, S.l6]; exact m1) hn).mono ?_
  rintro e w' ⟨rfl, o', _, hkv, hch, hown⟩
  rw [hm, S.l6] at hkv
  exact ⟨rfl, o', hkv, hch, hown⟩
 ·refine (uJ w0 w o gk gt gs n bd es v [x] [c] h hd (by simp) (by simp) hg (Ar hx) (by rw [hm]; exact ⟨by omega, by omega, by omega, by omega⟩) (by omega) (by rw [hm, S.l6]; exact m1) hn).mono ?_
  rintro e w' ⟨rfl, o', _, hkv, hch, hown⟩
  rw [hm, S.l6] at hkv
  exact ⟨rfl, o', hkv, hch, hown⟩
theorem KvO.lt {w0 w : World} {o : Ow} {gk gt gs n : Nat} {b : Int} {es : List S.Ent} (h : KvO w0 w o gk gt gs n b es) : gk < w.heap.size /\ gt < w.heap.size /\ gs < w.heap.size /\ ∀ k, o.has k -> k < w.heap.size := by
 obtain ⟨⟨d, p, t, pg, h1, h2, h3, _⟩, h4, _⟩ := h
 exact ⟨aa h4, aa h2, aa h3, fun k hk => h1.pgs.dk.dk.lt k hk⟩
theorem KvO.k {w0 w : World} {o : Ow} {gk gt gs n : Nat} {b : Int} {es : List S.Ent} (h : KvO w0 w o gk gt gs n b es) : KAt w := by
 obtain ⟨⟨d, p, t, pg, h1, _⟩, _⟩ := h
 exact h1.pgs.dk.k
theorem AC {B : Nat} {w : World} {a b : UInt8} {xs ys : List UInt8} {v : Value} {ok : Bool} (h : AY B w [⟨a :: xs, ys, 0⟩] (b :: xs) v ok) : (a = b -> ok = true /\ ((v = .slice none 0 0 /\ ys = []) \/ ∃ q, v = .slice (some ⟨q, 0, none⟩) ys.length ys.length /\ B <= q /\ w.heap[q]? = some (.cells (S.v8 ys) 5 (0, 0)))) /\ (a ≠ b -> ok = false /\ v = .slice none 0 0) :=
 ⟨fun e => h.yes ⟨a :: xs, ys, 0⟩ (by simp) (by rw [e]), fun e => h.no (by simpa using fun c => e c.symm)⟩
theorem FO {B : Nat} {w : World} {key : List UInt8} {v : Value} {ok : Bool} (h : AY B w [] key v ok) : ok = false /\ v = .slice none 0 0 := h.no (by simp)
theorem step36 {w1 w2 w3 : World} {v3 : Value} {xs : List UInt8} (b2 : Below w1.heap.size w1 w2) (g3 : w2.grownBy w3 (Value.slice (some ⟨w1.heap.size, 0, none⟩) 1 1).ownBlock) (o3 : ∀ k, v3.ownBlock = some k -> (Value.slice (some ⟨w1.heap.size, 0, none⟩) 1 1).ownBlock = some k \/ w2.heap.size <= k) (u3 : dz w3 v3 ([0] ++ xs)) (hl : xs.length <= 30) :
  Below w1.heap.size w1 w3 /\ ∃ g n c, v3 = .slice (some ⟨g, 0, none⟩) n c /\ n = xs.length + 1 /\ SliceAt w3 (.slice (some ⟨g, 0, none⟩) n c) (0 :: xs) /\ w1.heap.size <= g /\ g < w3.heap.size := by
 obtain ⟨g, c, cur, rfl, hr, hn, hc⟩ := u3.lies (by simp)
 have hs := b2.size
 have c3 : Chg (fun k => k = w1.heap.size) w2 w3 := (Chg.refl _ _).grown g3 (fun k _ e => by simp only [Value.ownBlock, Option.some.injEq] at e; exact e.symm)
 refine ⟨b2.trans (c3.below w1.heap.size hs (fun k hk e => by omega)), g, _, c, rfl, by simp, u3.sliceAt (by simp; omega), ?_, aa hr⟩
 rcases o3 g rfl with e | e
 ·simp only [Value.ownBlock, Option.some.injEq] at e; omega
 ·omega
theorem mrg_put (c : S.Cg) (h : c.dr = false) : S.mrg [] [c] = [⟨c.key, c.val, 0⟩] := by
 rw [S.qL, h]
 simp
theorem xM (e : S.Ent) (c : S.Cg) (h : c.dr = true) : S.mrg [e] [c] = if e.key = c.key then [] else [e] := by
 rw [S.qL, h, if_pos rfl, List.nil_append]
 by_cases he : e.key = c.key
 ·have r0 : S.rank ([e].map (·.key)) c.key = 0 := by
   unfold S.rank
   simp [he, S.bY]
  have hm : c.key ∈ [e].map (·.key) := by simp [he]
  rw [r0, if_pos he, if_pos hm]
  rfl
 ·have hm : ¬ c.key ∈ [e].map (·.key) := by
   rw [List.map_cons, List.map_nil, List.mem_singleton]
   exact fun x => he x.symm
  rw [if_neg he, if_neg hm]
  have h9 := S.vL ([e].map (·.key)) c.key
  rcases Nat.lt_or_ge (S.rank ([e].map (·.key)) c.key) 1 with h1 | h1
  ·rw [show S.rank ([e].map (·.key)) c.key = 0 by omega]; rfl
  ·rw [show S.rank ([e].map (·.key)) c.key = 1 by rw [List.length_map, List.length_singleton] at h9; omega]; rfl
end Go.Proofs.YteealihknndclabGreatDoor
namespace Go.Proofs.YteealihknndclabGreatDoor
open Go.RowKit Go.Shelf
theorem RoundIn.deep {m m' : Nat} {P : Program} {l : Nat} {f : FuncId} {tmps : Array Value} {assign body : Code} {w : World} {R : Ending -> World -> Prop} (h : RoundIn Fence.wide m P l f tmps assign body w R) : RoundIn Fence.wide m' P l f tmps assign body w R :=
 ⟨h.1, fun c cs _ => h.2 c cs (room_wide _)⟩
theorem Chg.roundAny {q : Nat -> Prop} {W V : World} {l : Nat} {b f : Obj} (hl : l < W.heap.size) (h : Chg q (W.putObj l b) V) : Chg (fun k => q k \/ k = l) W (V.putObj l f) := by
 have hs : (W.putObj l b).heap.size = W.heap.size := World.putObj_size
 have hV : l < V.heap.size := by have := h.size; omega
 refine ⟨h.os, h.tape, h.output, by have := h.size; rw [World.putObj_size]; omega, fun k hk hn => ?_⟩
 have n1 : k ≠ l := fun e => hn (Or.inr e)
 rw [iU hV, if_neg n1, h.block k (by omega) (fun e => hn (Or.inl e)), iU hl, if_neg n1]
def SeqB {α : Type} (n : Nat) (P : Program) (g : Nat) (lb : Array Value) (encs : α -> Array Value) (q : Nat -> Prop) (R : List α -> α -> World -> Prop) (S Sp : List α -> Prop) (w : World) : Prop :=
 ∀ (l : Nat) (J Jx : List α -> World -> Prop) (W : World), Below w.heap.size w W -> w.heap.size <= l -> l < W.heap.size -> oF J -> oF Jx -> uj W.heap.size J -> uj W.heap.size Jx ->
  (∀ pre x V, J pre V -> R pre x V -> YieldAt Fence.wide (n - 1) P l (encs x) V fun e V' => (e = .returned (.bool true) /\ J (pre ++ [x]) V' /\ Chg q V V') \/ (e = .returned (.bool false) /\ Jx (pre ++ [x]) V' /\ Chg (fun k => q k \/ k = l) V V')) ->
  J [] W -> CallsIn Fence.wide n P g (#[.func (.yield l) #[] #[]] ++ lb) W fun e W' => (∃ v, e = .returned v) /\ ((∃ xs, S xs /\ J xs W') \/ (∃ pre, Sp pre /\ Jx pre W'))
theorem noRound {l n : Nat} {P : Program} {o : Oper} {a : Act} {next next' : Act -> World -> Prop} {Q : Exit -> Act -> World -> Prop} {r : Result Next} (hn : ∀ a w, next a w -> next' a w) (h : o.uponIn Fence.wide n P a next Q r) : o.uponIn (Fence.wide.inRound l) n P a next' Q r := by
 cases r with
 | ok x w' =>
  cases x with
  | value v => exact hn _ _ h
  | skip => exact hn _ _ h
  | defer d => exact hn _ _ h
  | enter f args =>
   refine ⟨fun e => by simp [Fence.wide, Fence.inRound] at e, (CallsIn.inRound l h.2).mono ?_⟩
   intro e w'' he
   cases e with
   | returned v => exact hn _ _ he
   | panicked c => exact he
   | outgrown => exact he
  | row row args =>
   refine ⟨fun e => by simp [Fence.wide, Fence.inRound] at e, fun c cs _ => ?_⟩
   obtain ⟨v, w'', hr, hs⟩ := h.2 c cs (room_wide _)
   exact ⟨v, w'', hn _ _ hr, hs⟩
  | round l' f tmps assign body =>
   refine ⟨fun e => by simp [Fence.wide, Fence.inRound] at e, h.2.1, fun c cs _ => ?_⟩
   obtain ⟨e, w'', hr, hs⟩ := h.2.2 c cs (room_wide _)
   refine ⟨e, w'', ?_, hs⟩
   cases e with
   | returned v => exact hn _ _ hr
   | panicked c => exact hr
   | outgrown => exact hr
  | _ => exact h.elim
 | halt x w' =>
  cases x with
  | panic v => exact h
  | _ => exact h.elim
theorem ww {l n : Nat} {P : Program} {md : Region.Mode} {ops : Array Oper} {Q : Exit -> Act -> World -> Prop} (hd : ∀ (i : Nat) (o : Oper), ops[i]? = some o -> ∀ c, o.op ≠ .defer c) : ∀ (fuel : Nat) (listed : Array Bool) (a : Act) (w : World), wpAnyIn Fence.wide n P md ops Q fuel listed a w -> wpAnyIn (Fence.wide.inRound l) n P md ops Q fuel listed a w := by
 intro fuel
 induction fuel with
 | zero => intro listed a w h; exact h
 | succ fuel ih =>
  intro listed a w h
  refine ⟨h.1, fun i hi => ?_⟩
  have h2 := h.2 i hi
  unfold wpOpIn at h2 ⊢
  split
  ·rename_i ho
   rw [ho] at h2
   exact ih _ _ _ h2
  ·rename_i o ho
   rw [ho] at h2
   simp only at h2
   split
   ·rename_i hw
    rw [if_pos hw] at h2
    refine ⟨fun _ _ => trivial, ?_⟩
    have h3 := h2.2
    rw [show (Fence.wide.inRound l).round = some l from rfl, Oper.semAt_some l _ _ (hd i o ho)]
    exact noRound (fun a w h => ih _ a w h) h3
   ·rename_i hw
    rw [if_neg hw] at h2
    exact ⟨fun _ _ => trivial, ih _ _ _ h2.2⟩
theorem qV {α : Type} {n : Nat} {P : Program} {g : Operand} {ps : Array Tmp} {assign body : Code} {Q : Exit -> Act -> World -> Prop} {a : Act} {w w0 : World} {gf : Nat} {lb : Array Value} {encs : α -> Array Value} {q : Nat -> Prop} {R : List α -> α -> World -> Prop} {S Sp : List α -> Prop}
  (hg : a.eval g = .func (.func gf) #[] lb) (eg : ∀ args w, (callFunc gf args).run P w = .ok (.enter gf args) w) (hseq : SeqB (n - 1) P gf lb encs q R S Sp w0) (hb0 : Below w0.heap.size w0 w) (hps : ∀ x, (encs x).size = ps.size) (hq : ∀ k, q k -> k < w.heap.size)
  (I : List α -> World -> Prop) (Ix : Code -> List α -> World -> Prop) (gI : oF I) (gIx : ∀ c, oF (Ix c)) (bI : uj w.heap.size I) (bIx : ∀ c, uj w.heap.size (Ix c)) (bR : ∀ pre, uj w.heap.size (R pre)) (h0 : I [] w) (a₁ : α -> Act)
  (hassign : ∀ (l : Nat) (x : α) (W : World) (K : Act -> World -> Prop), K (a₁ x) W -> assign.wpIn (Fence.wide.inRound l) (n - 1 - 1) P (Exit.then K (fun _ _ _ => False)) { tmps := (ps.zip (encs x)).foldl (fun t (p, v) => t.setIfInBounds p v) a.tmps, defers := [] } W)
  (hbody : ∀ (l : Nat) (pre : List α) (x : α) (W : World), I pre W -> R pre x W -> body.wpIn (Fence.wide.inRound l) (n - 1 - 1) P (qM q I Ix (pre ++ [x]) W) (a₁ x) W)
  (hdone : ∀ (D : Nat) (xs : List α) (W : World), w.heap.size <= D -> S xs -> I xs W -> W.heap[D]? = some (.deferred (some [])) -> Q .normal { a with defers := { target := .collected D, args := #[] } :: a.defers } W)
  (hstop : ∀ (D : Nat) (c : Code) (pre : List α) (W : World), w.heap.size <= D -> Sp pre -> Ix c pre W -> W.heap[D]? = some (.deferred (some [])) -> c.wpIn Fence.wide n P Q { a with defers := { target := .collected D, args := #[] } :: a.defers } W) :
  (Code.rangeFunc g ps assign body).wpIn Fence.wide n P Q a w := by
 refine wpIn_rangeFunc fun fn _ => ?_
 let rc : LoopState -> Option Code -> Obj := fun st pe => .loop { state := st, pending := pe, fn, tmps := a.tmps, params := ps, assign, body, defers := w.heap.size }
 obtain ⟨D, hD⟩ : ∃ D, D = w.heap.size := ⟨_, rfl⟩
 obtain ⟨l, hl⟩ : ∃ l, l = w.heap.size + 1 := ⟨_, rfl⟩
 obtain ⟨V, hV⟩ : ∃ V, V = (w.alloc (.deferred (some []))).alloc (rc .ready none) := ⟨_, rfl⟩
 have b1 : Below w.heap.size w (w.alloc (.deferred (some []))) := (Below.refl _ w).alloc (lr _) _
 have b2 : Below w.heap.size w V := by rw [hV]; exact b1.alloc b1.size _
 have hVs : V.heap.size = w.heap.size + 2 := by rw [hV, World.size_alloc, World.size_alloc]
 have rl : V.heap[l]? = some (rc .ready none) := by
  rw [hV, hl, <- World.size_alloc w (.deferred (some []))]
  exact World.alloc_heap_new _ _
 have rD : V.heap[D]? = some (.deferred (some [])) := by
  rw [hV, hD, Below.heap_alloc _ _ _ (by rw [World.size_alloc]; omega)]
  exact World.alloc_heap_new _ _
 have nq : ¬ q l := fun e => by have := hq l e; omega
 have nD : ¬ q D := fun e => by have := hq D e; omega
 have nlD : D ≠ l := by omega
 refine ⟨l, [{ target := .collected D, args := #[] }], V, { target := .fn (.func gf) lb, args := #[.func (.yield l) #[] #[]] }, V, gf, #[.func (.yield l) #[] #[]] ++ lb, V, ?_, ?_, fun _ _ => trivial, ?_, fun e => by simp [Fence.wide] at e, ?_⟩
 ·rw [hV, hl, hD]
  exact run_enterLoop_outer _ _ _ _ _
 ·simp only [resolve, hg]
  simp [go_sem]
 ·simp [invoke, go_sem, eg]
 ·let J : List α -> World -> Prop := fun pre W => I pre W /\ W.heap[l]? = some (rc .ready none) /\ W.heap[D]? = some (.deferred (some []))
  let Jx : List α -> World -> Prop := fun pre W => ∃ c, Ix c pre W /\ W.heap[l]? = some (rc .done (some c)) /\ W.heap[D]? = some (.deferred (some []))
  have kp : ∀ {A B : World} {k : Nat} {o : Obj}, A.heap[k]? = some o -> Below A.heap.size A B -> B.heap[k]? = some o := fun h b => (b.block _ (aa h)).trans h
  refine (hseq l J Jx V (hb0.trans (b2.mono hb0.size)) (by have := hb0.size; omega) (aa rl) (fun s A B h b => ⟨gI s A B h.1 b, kp h.2.1 b, kp h.2.2 b⟩) (fun s A B h b => by obtain ⟨c, h1, h2, h3⟩ := h; exact ⟨c, gIx c s A B h1 b, kp h2 b, kp h3 b⟩) (fun s A k o o' h hk ho hc => ⟨bI s A k o o' h.1 (by omega) ho hc, (World.putObj_heap_other (by omega)).trans h.2.1, (World.putObj_heap_other (by omega)).trans h.2.2⟩) (fun s A k o o' h hk ho hc => by obtain ⟨c, h1, h2, h3⟩ := h; exact ⟨c, bIx c s A k o o' h1 (by omega) ho hc, (World.putObj_heap_other (by omega)).trans h2, (World.putObj_heap_other (by omega)).trans h3⟩) ?_ ⟨gI _ _ _ h0 b2, rl, rD⟩).mono ?_
  ·rintro pre x W ⟨hi, hr, hd⟩ hR
   have lt := aa hr
   have hy := run_yield (P := P) (args := encs x) hr (hps x)
   refine ⟨fn, _, assign, body, hy, roundIn_of_wpIn trivial (hassign l x W _ ⟨_, run_beginRound hr rfl, ?_⟩)⟩
   refine wpIn_mono (hbody l pre x _ (bI _ _ _ _ _ hi (by omega) hr rfl) (bR pre _ _ _ _ _ hR (by omega) hr rfl)) ?_
   have rb : (W.putObj l (rc .busy none)).heap[l]? = some (rc .busy none) := World.putObj_heap_same lt
   have rd : (W.putObj l (rc .busy none)).heap[D]? = some (.deferred (some [])) := (World.putObj_heap_other nlD).trans hd
   intro e a3 X hp
   cases e with
   | normal =>
    obtain ⟨c3, i3⟩ := hp
    have r3 := c3.row rb nq
    have d3 := c3.row rd nD
    exact ⟨_, _, run_endRound none r3, Or.inl ⟨rfl, ⟨bI _ _ _ _ _ i3 (by omega) r3 rfl, World.putObj_heap_same (aa r3), (World.putObj_heap_other nlD).trans d3⟩, Chg.round lt hr c3⟩⟩
   | ret =>
    obtain ⟨c3, i3⟩ := hp
    have r3 := c3.row rb nq
    exact ⟨_, _, run_endRound (some .ret) r3, Or.inr ⟨rfl, ⟨.ret, bIx _ _ _ _ _ _ i3 (by omega) r3 rfl, World.putObj_heap_same (aa r3), (World.putObj_heap_other nlD).trans (c3.row rd nD)⟩, Chg.roundAny lt c3⟩⟩
   | exit id =>
    obtain ⟨c3, i3⟩ := hp
    have r3 := c3.row rb nq
    exact ⟨_, _, run_endRound (some (.exit id)) r3, Or.inr ⟨rfl, ⟨.exit id, bIx _ _ _ _ _ _ i3 (by omega) r3 rfl, World.putObj_heap_same (aa r3), (World.putObj_heap_other nlD).trans (c3.row rd nD)⟩, Chg.roundAny lt c3⟩⟩
   | goto t =>
    obtain ⟨c3, i3⟩ := hp
    have r3 := c3.row rb nq
    exact ⟨_, _, run_endRound (some (.goto t)) r3, Or.inr ⟨rfl, ⟨.goto t, bIx _ _ _ _ _ _ i3 (by omega) r3 rfl, World.putObj_heap_same (aa r3), (World.putObj_heap_other nlD).trans (c3.row rd nD)⟩, Chg.roundAny lt c3⟩⟩
   | panic ch => exact hp.elim
   | outgrown => exact hp.elim
  ·rintro e X ⟨⟨v, rfl⟩, ⟨xs, hS, hi, hr, hd⟩ | ⟨pre, hSp, c, hi, hr, hd⟩⟩
   ·exact ⟨none, _, run_endLoop hr (by intro h; cases h), hdone D xs _ (by omega) hS (bI _ _ _ _ _ hi (by omega) hr rfl) ((World.putObj_heap_other nlD).trans hd)⟩
   ·exact ⟨some c, _, run_endLoop hr (by intro h; cases h), hstop D c pre _ (by omega) hSp (bIx _ _ _ _ _ _ hi (by omega) hr rfl) ((World.putObj_heap_other nlD).trans hd)⟩
end Go.Proofs.YteealihknndclabGreatDoor
namespace Go.Proofs.YteealihknndclabGreatDoor
open Go.RowKit Go.Shelf
attribute [local go_sem] Oper.semAt_some
set_option maxRecDepth 10000 in
theorem cut1 (b n : Nat) (h : 1 <= n) : ∃ (a : Option Addr) (m c : Nat), ∀ w, (Instr.slice 22 (.slice (some ⟨b, 0, none⟩) n n) (some (.int .i64 1)) none none).run Tryz.prog w = .ok (.slice a m c) w := by
 have q1 : (1 : Int) <= (n : Int) := by omega
 refine ⟨if n = 1 then some ⟨b, 0, none⟩ else some ((⟨b, 0, none⟩ : Addr).add 1), n - 1, n - 1, fun w => ?_⟩
 go_simp
theorem tkI {n : Nat} {P : Program} {md : Region.Mode} {ops : Array Oper} {Q : Exit -> Act -> World -> Prop} {i : Nat} {oi : Oper} {v : Value} {fuel : Nat} {listed : Array Bool} {a : Act} {w : World} (hi : ops[i]? = some oi) (hs : Region.noSelect ops = true) (hf : Region.free md ops listed i = true) (hr : (Region.ready md ops listed).contains i = true) (hQ : ∀ c a w, Q (.panic c) (a.put oi.dst v) w -> Q (.panic c) a w) (hw : Region.wanted oi (yielded ops a.tmps) = true) (ha : ∀ w, oi.about P w a.eval = none) (hv : ∀ w, (execOp a.eval oi).run P w = .ok (.value v) w) (h : wpAnyIn Fence.wide n P md ops Q fuel (listed.setIfInBounds i true) (a.put oi.dst v) w) : wpAnyIn Fence.wide n P md ops Q (fuel + 1) listed a w :=
 wpAnyIn_take rfl hi hs hf hr hQ ⟨Or.inl ⟨hw, hv⟩, ha⟩ h
set_option maxHeartbeats 16000000 in
set_option maxRecDepth 100000 in
theorem xS (n : Nat) (vf vt : Value) (fr ub : List UInt8) (B gs gt g4 g5 g3 gw : Nat) (pg : Nat -> List UInt8) (es : List S.Ent) (q : Nat -> Prop) (w : World) (hr : Rds B w gs pg) (hl : S.nE pg es) (ht : jr w gt gs) (h4 : w.heap[g4]? = some (.cells #[vf] 22 (0, 0))) (h5 : w.heap[g5]? = some (.cells #[vt] 22 (0, 0))) (h3 : w.heap[g3]? = some (.cells #[.pointer (some ⟨gt, 0, none⟩)] 60 (0, 0)))
  (hw : w.heap[gw]? = some (.cells #[.func (.func 38) #[] #[.pointer (some ⟨g4, 0, none⟩), .pointer (some ⟨g5, 0, none⟩), .pointer (some ⟨g3, 0, none⟩)]] 34 (0, 0)))
  (hq : ∀ k, q k -> k < w.heap.size) (hq5 : ¬ q g5) (hvf : SliceAt w vf fr) (hvt : SliceAt w vt ub) (hvb : ∀ b off n c, vt = .slice (some ⟨b, off, none⟩) n c -> b < w.heap.size /\ ¬ q b) (hky : ∀ e ∈ S.hand es fr ub, 1 <= e.key.length) :
  SeqB n Tryz.prog 26 #[.pointer (some ⟨gw, 0, none⟩)] (fun v : Value => #[v]) q (fun ys _ _ => ys.length < (S.hand es fr ub).length) (fun xs => xs.length = (S.hand es fr ub).length) (fun _ => True) w := by
 intro l J Jx W hW hl0 hl1 hJ hJx bJ bJx hY h0
 have HR := hide (hr.below hW)
 have HL := hide hl
 have HT := hide (show jr W gt gs from (hW.block _ (aa ht)).trans ht)
 have R4 := hide ((hW.block _ (aa h4)).trans h4)
 have R5 := hide ((hW.block _ (aa h5)).trans h5)
 have R3 := hide ((hW.block _ (aa h3)).trans h3)
 have RW := hide ((hW.block _ (aa hw)).trans hw)
 have HVF := hide (hvf.below hW (lr _))
 have HVT := hide (hvt.below hW (lr _))
 have HY := hide hY
 have HJ := hide hJ
 have HJx := hide hJx
 have BJ := hide bJ
 have BJx := hide bJx
 have HJ0 := hide h0
 have HKY := hide hky
 have L1 := hide hl1
 have N5 := hide (show ¬ (q g5 \/ g5 = l) from fun e => by
  rcases e with e | e
  ·exact hq5 e
  ·have := aa h5; omega)
 have NVT := hide (show ∀ b off n c, vt = .slice (some ⟨b, off, none⟩) n c -> ¬ (q b \/ b = l) from fun b off n c e h => by
  have h9 := hvb b off n c e
  rcases h with h | h
  ·exact h9.2 h
  ·omega)
 have HQ := hide (show ∀ k, (q k \/ k = l) -> k < W.heap.size from fun k hk => by
  rcases hk with hk | hk
  ·exact Nat.lt_of_lt_of_le (hq k hk) hW.size
  ·omega)
 clear hr hl ht h4 h5 h3 hw hq hq5 hvf hvt hvb hky hY hJ hJx bJ bJx h0 hl0 hl1 hW
 refine callsIn_wide.2 ((callsIn_wide (n := 3)).1 ?_)
 refine callsIn_of_wp_marks Tryz.func26 rfl trivial ?_ rfl
 refine wpIn_wide.2 ?_
 simp only [Tryz.ntmps26, List.size_toArray, List.length_cons, List.length_nil, Nat.reduceAdd, Nat.reduceSub, Array.replicate_succ, Array.replicate_zero, List.push_toArray, List.append_toArray, List.nil_append, List.cons_append]
 go_upto_region 1 with fail
 generalize hW1 : W.alloc _ = W1
 have b1 : Below W.heap.size W W1 := by rw [<- hW1]; exact ba ..
 have rb : W1.heap[W.heap.size]? = some (.cells #[.func (.yield l) #[] #[]] 68 (0, 0)) := by rw [<- hW1]; exact heap_alloc_new _ _
 obtain ⟨gb, hgb⟩ : ∃ g, g = W.heap.size := ⟨_, rfl⟩
 rw [<- hgb] at rb ⊢
 have RB := hide rb
 have B1 := hide b1
 have LW := hide ((b1.block _ (aa RW.out)).trans RW.out)
 have Dt := hide (rH 1 vf vt fr ub B gs gt g4 g5 g3 pg es (fun k => q k \/ k = l) W1 (HR.out.below b1) HL.out ((b1.block _ (aa HT.out)).trans HT.out) ((b1.block _ (aa R4.out)).trans R4.out) ((b1.block _ (aa R5.out)).trans R5.out) ((b1.block _ (aa R3.out)).trans R3.out) (fun k hk => Nat.lt_of_lt_of_le (HQ.out k hk) b1.size) N5.out (HVF.out.below b1 (lr _)) (HVT.out.below b1 (lr _)) NVT.out)
 have HJ1 := hide (HJ.out _ _ _ HJ0.out b1)
 have HQ1 := hide (show ∀ k, (q k \/ k = l) -> k < W1.heap.size from fun k hk => Nat.lt_of_lt_of_le (HQ.out k hk) b1.size)
 have NB : Hid (¬ (q gb \/ gb = l)) := fun hk => by have := HQ.out gb hk; omega
 have hlw := eU LW.out
 clear hgb hW1 b1 rb HR HL HT R4 R5 R3 RW HVF HVT HJ0 NVT N5 HQ
 go_wp2_with fail
 clear hlw
 refine pE (fun T hT => ?_)
 have HTT := hide hT
 clear hT
 refine (wpIn_wide (n := 2)).1 (mG (n := 2) (w0 := W1) (gf := 38) (lb := #[.pointer (some ⟨g4, 0, none⟩), .pointer (some ⟨g5, 0, none⟩), .pointer (some ⟨g3, 0, none⟩)]) (by rw [HTT.out]; rfl) (enters_of Tryz.func38 (by kernel_rfl) rfl) Dt.out (Below.refl _ _) (fun _ => rfl) HQ1.out
  (fun pre V => (∃ ys : List Value, ys.length = pre.length /\ J ys V) /\ V.heap[gb]? = some (.cells #[.func (.yield l) #[] #[]] 68 (0, 0))) (fun c _ V => c = .ret /\ ∃ ys : List Value, Jx ys V)
  (fun s A V h hb => ⟨⟨h.1.choose, h.1.choose_spec.1, HJ.out _ _ _ h.1.choose_spec.2 hb⟩, (hb.block _ (aa h.2)).trans h.2⟩) (fun c s A V h hb => ⟨h.1, h.2.choose, HJx.out _ _ _ h.2.choose_spec hb⟩)
  (fun s A k o o' h hk ho hc => ⟨⟨h.1.choose, h.1.choose_spec.1, BJ.out _ _ _ _ _ h.1.choose_spec.2 (ltr B1.out.size hk) ho hc⟩, gQ h.2 ho hc⟩) (fun c s A k o o' h hk ho hc => ⟨h.1, h.2.choose, BJx.out _ _ _ _ _ h.2.choose_spec (ltr B1.out.size hk) ho hc⟩) (fun pre => jJ.bare _ _ _ pre) (fun pre s A V h hb => jJ.grows _ _ pre s h hb) ⟨⟨[], rfl, HJ1.out⟩, RB.out⟩
  (fun x a' V => ∃ gx, V.heap[gx]? = some (.cells #[.slice x.ka x.kn x.kc, .slice x.va x.vn x.vc] 43 (0, 0)) /\ a' = { tmps := (T.setIfInBounds 5 (.agg #[.slice x.ka x.kn x.kc, .slice x.va x.vn x.vc])).setIfInBounds 3 (.pointer (some ⟨gx, 0, none⟩)), defers := [] })
  (fun x s A l o o' h hl ho hc => by obtain ⟨gx, h1, h2⟩ := h; exact ⟨gx, gQ h1 ho hc, h2⟩) ?assign ?body ?done ?stop)
 case assign =>
  rintro l' pre x V K _ _ hK
  obtain ⟨ka, kn, kc, va, vn, vc', px, nd⟩ := x
  have hT2 : ∀ (T : Array Value), ((#[5] : Array Tmp).zip (uP ⟨ka, kn, kc, va, vn, vc', px, nd⟩)).foldl (fun t (p, v) => t.setIfInBounds p v) T = T.setIfInBounds 5 (.agg #[.slice ka kn kc, .slice va vn vc']) := fun T => by simp [uP]
  rw [hT2]
  have hK2 := hK _ (V.alloc (.cells #[.slice ka kn kc, .slice va vn vc'] 43 (0, 0))) ((Below.refl _ V).alloc (lr _) _) ⟨V.heap.size, heap_alloc_new _ _, rfl⟩
  clear hK hT2
  have HK2 := hide hK2
  clear hK2
  have hT := HTT.out
  subst hT
  simp only [List.setIfInBounds_toArray, List.set_cons_zero, List.set_cons_succ] at HK2 ⊢
  gi_wp2
  exact HK2.out
 case body =>
  rintro il pre x a' V ⟨⟨ys, hys, hJs⟩, hgb2⟩ ⟨en, hen, hnew⟩ ⟨gx, hgx, rfl⟩
  obtain ⟨ka, kn, kc, va, vn, vc', px, nd⟩ := x
  have hk1 := HKY.out en (List.mem_of_getElem? hen)
  obtain ⟨qk, e1, e2, e3, _, _⟩ := hnew.key
  simp only at e1 e2 e3
  obtain ⟨N, hN⟩ : ∃ N, N = en.key.length := ⟨_, rfl⟩
  rw [<- hN] at e2 e3 hk1
  subst e1
  subst e2
  have e4 := e3.symm
  subst e4
  clear e3
  have bD : Below V.heap.size V V.drew := (Below.refl _ _).drew
  have CD := hide ((Chg.refl (fun k => q k \/ k = l) V).drew)
  have YS := hide hys
  have endT : ∀ (Z1 : World) (v : Value), J (ys ++ [v]) Z1 -> Chg q V.drew Z1 -> qM (fun k => q k \/ k = l) (fun pre V => (∃ ys : List Value, ys.length = pre.length /\ J ys V) /\ V.heap[gb]? = some (.cells #[.func (.yield l) #[] #[]] 68 (0, 0))) (fun c _ V => c = .ret /\ ∃ ys : List Value, Jx ys V) (pre ++ [(⟨some ⟨qk, 0, none⟩, kn, kn, va, vn, vc', px, nd⟩ : EnV)]) V .normal ⟨#[], []⟩ Z1 := fun Z1 v h1 h2 =>
   ⟨CD.out.trans h2 (fun _ _ e => Or.inl e), ⟨ys ++ [v], by simp [YS.out], h1⟩, h2.row hgb2 (fun e => NB.out (Or.inl e))⟩
  have endF : ∀ (Z1 : World) (v : Value), Jx (ys ++ [v]) Z1 -> Chg (fun k => q k \/ k = l) V.drew Z1 -> qM (fun k => q k \/ k = l) (fun pre V => (∃ ys : List Value, ys.length = pre.length /\ J ys V) /\ V.heap[gb]? = some (.cells #[.func (.yield l) #[] #[]] 68 (0, 0))) (fun c _ V => c = .ret /\ ∃ ys : List Value, Jx ys V) (pre ++ [(⟨some ⟨qk, 0, none⟩, kn, kn, va, vn, vc', px, nd⟩ : EnV)]) V .ret ⟨#[], []⟩ Z1 := fun Z1 v h1 h2 =>
   ⟨CD.out.trans h2 (fun _ _ e => e), rfl, ys ++ [v], h1⟩
  have ET := hide endT
  have EF := hide endF
  clear endT endF
  have hJd := HJ.out _ _ _ hJs bD
  obtain ⟨ax, mx, cx, hkx⟩ := cut1 qk kn hk1
  obtain ⟨fn, tm, asg, bd, hy, hR⟩ := HY.out ys (.agg #[.slice ax mx cx, .slice va vn vc']) V.drew hJd (by show ys.length < _; rw [YS.out]; exact (List.getElem?_eq_some_iff.1 hen).1)
  have LY := hide hgb2
  have HX := hide hgx
  have q1 : (1 : Int) <= (kn : Int) := by omega
  clear hJs hgb2 hgx hen hnew hJd hys bD hN
  have hT := HTT.out
  subst hT
  simp only [List.setIfInBounds_toArray, List.set_cons_zero, List.set_cons_succ]
  gi_wp2
  refine wpIn_region_any (by kernel_rfl) (ww (xK (by kernel_rfl)) _ _ _ _ ?_)
  obtain ⟨c0, c1⟩ := aK HX.out
  have ly := eU LY.out
  refine tkI (i := 1) (oi := ⟨_, _, _, _, _, _⟩) (v := ?_) rfl (by kernel_rfl) (by kernel_rfl) (by kernel_rfl) (fun _ _ _ h => h) (by rfl) (fun _ => rfl) ?_ ?_
  rotate_left
  ·intro w
   go_simp
   all_goals with_reducible rfl
  simp only [uA]
  refine tkI (i := 4) (oi := ⟨_, _, _, _, _, _⟩) (v := ?_) rfl (by kernel_rfl) (by kernel_rfl) (by kernel_rfl) (fun _ _ _ h => h) (by rfl) (fun _ => rfl) ?_ ?_
  rotate_left
  ·intro w
   go_simp
   all_goals with_reducible rfl
  simp only [uA]
  refine wpAnyIn_ready (rs := [0, 2, 5]) (by kernel_rfl) (by simp) (AllReadyIn.cons (o := ⟨_, _, _, _, _, _⟩) rfl (fun K hK => ?_) (AllReadyIn.cons (o := ⟨_, _, _, _, _, _⟩) rfl (fun K hK => ?_) (AllReadyIn.cons (o := ⟨_, _, _, _, _, _⟩) rfl (fun K hK => ?_) AllReadyIn.nil)))
  all_goals
   go_simp
   refine hK _ _ ?_
   clear hK K
   try simp only [uA]
  focus
   refine wpAnyIn_ready (rs := [2, 5]) (by kernel_rfl) (by simp) (AllReadyIn.cons (o := ⟨_, _, _, _, _, _⟩) rfl (fun K hK => ?_) (AllReadyIn.cons (o := ⟨_, _, _, _, _, _⟩) rfl (fun K hK => ?_) AllReadyIn.nil))
  rotate_left 2
  focus
   refine tkI (i := 3) (oi := ⟨_, _, _, _, _, _⟩) (v := ?_) rfl (by kernel_rfl) (by kernel_rfl) (by kernel_rfl) (fun _ _ _ h => h) (by rfl) (fun _ => rfl) ?_ ?_
   rotate_left
   ·intro w
    go_simp
    all_goals with_reducible rfl
   simp only [uA]
   refine wpAnyIn_ready (rs := [0, 5]) (by kernel_rfl) (by simp) (AllReadyIn.cons (o := ⟨_, _, _, _, _, _⟩) rfl (fun K hK => ?_) (AllReadyIn.cons (o := ⟨_, _, _, _, _, _⟩) rfl (fun K hK => ?_) AllReadyIn.nil))
  rotate_left 2
  focus
   refine wpAnyIn_ready (rs := [0, 2]) (by kernel_rfl) (by simp) (AllReadyIn.cons (o := ⟨_, _, _, _, _, _⟩) rfl (fun K hK => ?_) (AllReadyIn.cons (o := ⟨_, _, _, _, _, _⟩) rfl (fun K hK => ?_) AllReadyIn.nil))
  rotate_left 2
  all_goals
   go_simp
   refine hK _ _ ?_
   clear hK K
   try simp only [uA]
  focus
   refine tkI (i := 3) (oi := ⟨_, _, _, _, _, _⟩) (v := ?_) rfl (by kernel_rfl) (by kernel_rfl) (by kernel_rfl) (fun _ _ _ h => h) (by rfl) (fun _ => rfl) ?_ ?_
   rotate_left
   ·intro w
    go_simp
    all_goals with_reducible rfl
   simp only [uA]
   refine wpAnyIn_ready (rs := [5]) (by kernel_rfl) (by simp) (AllReadyIn.cons (o := ⟨_, _, _, _, _, _⟩) rfl (fun K hK => ?_) AllReadyIn.nil)
  rotate_left
  focus
   refine wpAnyIn_ready (rs := [2]) (by kernel_rfl) (by simp) (AllReadyIn.cons (o := ⟨_, _, _, _, _, _⟩) rfl (fun K hK => ?_) AllReadyIn.nil)
  rotate_left
  focus
   refine wpAnyIn_ready (rs := [5]) (by kernel_rfl) (by simp) (AllReadyIn.cons (o := ⟨_, _, _, _, _, _⟩) rfl (fun K hK => ?_) AllReadyIn.nil)
  rotate_left
  focus
   refine tkI (i := 6) (oi := ⟨_, _, _, _, _, _⟩) (v := ?_) rfl (by kernel_rfl) (by kernel_rfl) (by kernel_rfl) (fun _ _ _ h => h) (by rfl) (fun _ => rfl) ?_ ?_
   rotate_left
   ·intro w
    go_simp
    all_goals with_reducible rfl
   simp only [uA]
   refine wpAnyIn_ready (rs := [0]) (by kernel_rfl) (by simp) (AllReadyIn.cons (o := ⟨_, _, _, _, _, _⟩) rfl (fun K hK => ?_) AllReadyIn.nil)
  rotate_left
  focus
   refine wpAnyIn_ready (rs := [2]) (by kernel_rfl) (by simp) (AllReadyIn.cons (o := ⟨_, _, _, _, _, _⟩) rfl (fun K hK => ?_) AllReadyIn.nil)
  rotate_left
  focus
   refine tkI (i := 3) (oi := ⟨_, _, _, _, _, _⟩) (v := ?_) rfl (by kernel_rfl) (by kernel_rfl) (by kernel_rfl) (fun _ _ _ h => h) (by rfl) (fun _ => rfl) ?_ ?_
   rotate_left
   ·intro w
    go_simp
    all_goals with_reducible rfl
   simp only [uA]
   refine tkI (i := 6) (oi := ⟨_, _, _, _, _, _⟩) (v := ?_) rfl (by kernel_rfl) (by kernel_rfl) (by kernel_rfl) (fun _ _ _ h => h) (by rfl) (fun _ => rfl) ?_ ?_
   rotate_left
   ·intro w
    go_simp
    all_goals with_reducible rfl
   simp only [uA]
   refine wpAnyIn_ready (rs := [0]) (by kernel_rfl) (by simp) (AllReadyIn.cons (o := ⟨_, _, _, _, _, _⟩) rfl (fun K hK => ?_) AllReadyIn.nil)
  rotate_left
  all_goals
   go_simp
   refine hK _ _ ?_
   clear hK K
   try simp only [uA]
  focus
   refine tkI (i := 6) (oi := ⟨_, _, _, _, _, _⟩) (v := ?_) rfl (by kernel_rfl) (by kernel_rfl) (by kernel_rfl) (fun _ _ _ h => h) (by rfl) (fun _ => rfl) ?_ ?_
   rotate_left
   ·intro w
    go_simp
    all_goals with_reducible rfl
   simp only [uA]
  rotate_left
  focus
   refine tkI (i := 3) (oi := ⟨_, _, _, _, _, _⟩) (v := ?_) rfl (by kernel_rfl) (by kernel_rfl) (by kernel_rfl) (fun _ _ _ h => h) (by rfl) (fun _ => rfl) ?_ ?_
   rotate_left
   ·intro w
    go_simp
    all_goals with_reducible rfl
   simp only [uA]
   refine tkI (i := 6) (oi := ⟨_, _, _, _, _, _⟩) (v := ?_) rfl (by kernel_rfl) (by kernel_rfl) (by kernel_rfl) (fun _ _ _ h => h) (by rfl) (fun _ => rfl) ?_ ?_
   rotate_left
   ·intro w
    go_simp
    all_goals with_reducible rfl
   simp only [uA]
  rotate_left
  focus
   refine tkI (i := 6) (oi := ⟨_, _, _, _, _, _⟩) (v := ?_) rfl (by kernel_rfl) (by kernel_rfl) (by kernel_rfl) (fun _ _ _ h => h) (by rfl) (fun _ => rfl) ?_ ?_
   rotate_left
   ·intro w
    go_simp
    all_goals with_reducible rfl
   simp only [uA]
  rotate_left
  rotate_left
  focus
   refine tkI (i := 3) (oi := ⟨_, _, _, _, _, _⟩) (v := ?_) rfl (by kernel_rfl) (by kernel_rfl) (by kernel_rfl) (fun _ _ _ h => h) (by rfl) (fun _ => rfl) ?_ ?_
   rotate_left
   ·intro w
    go_simp
    all_goals with_reducible rfl
   simp only [uA]
   refine tkI (i := 6) (oi := ⟨_, _, _, _, _, _⟩) (v := ?_) rfl (by kernel_rfl) (by kernel_rfl) (by kernel_rfl) (fun _ _ _ h => h) (by rfl) (fun _ => rfl) ?_ ?_
   rotate_left
   ·intro w
    go_simp
    all_goals with_reducible rfl
   simp only [uA]
  rotate_left
  rotate_left
  all_goals
   refine wpAnyIn_ready (rs := [7]) (by kernel_rfl) (by simp) (AllReadyIn.cons (o := ⟨_, _, _, _, _, _⟩) rfl (fun K hK => ?_) AllReadyIn.nil)
   go_simp
   refine ⟨by simp [Fence.wide], (RoundIn.deep hR).mono ?_⟩
   rintro e Z1 (⟨rfl, hJ1, hk1⟩ | ⟨rfl, hJ1, hk1⟩)
   all_goals
    refine hK _ _ ?_
    clear hK K
    try simp only [uA]
    refine tkI (i := 8) (oi := ⟨_, _, _, _, _, _⟩) (v := ?_) rfl (by kernel_rfl) (by kernel_rfl) (by kernel_rfl) (fun _ _ _ h => h) (by rfl) (fun _ => rfl) ?_ ?_
    rotate_left
    ·intro w
     go_simp
     all_goals with_reducible rfl
    simp only [uA]
    refine wpAnyIn_done (by kernel_rfl) ?_ _
   ·have X := hide (ET.out Z1 _ hJ1 hk1)
    clear hk1 ET EF
    gi_wp2
    exact X.out
   ·have X := hide (EF.out Z1 _ hJ1 hk1)
    clear hk1 ET EF
    gi_wp2
    exact X.out
 case done =>
  rintro D xs V hD hxs ⟨⟨ys, hys, hJs⟩, _⟩ hKD
  have X := hide (BJ.out ys V D _ (.deferred none) hJs (ltr B1.out.size hD) hKD rfl)
  have KD := hide hKD
  have YL := hide (hys.trans hxs)
  clear hys hJs hKD hxs
  have hT := HTT.out
  subst hT
  go_wp2_with fail
  refine ⟨by simp, .inl ⟨_, _, rfl, run_takeDeferred KD.out, ?_⟩⟩
  exact ⟨_, results_none rfl _ _ _, ⟨_, rfl⟩, .inl ⟨ys, YL.out, X.out⟩⟩
 case stop =>
  rintro D c pre V hD _ ⟨rfl, ys, hJs⟩ hKD
  have X := hide (BJx.out ys V D _ (.deferred none) hJs (ltr B1.out.size hD) hKD rfl)
  have KD := hide hKD
  clear hJs hKD
  have hT := HTT.out
  subst hT
  gi_wp2
  refine ⟨by simp, .inl ⟨_, _, rfl, run_takeDeferred KD.out, ?_⟩⟩
  exact ⟨_, results_none rfl _ _ _, ⟨_, rfl⟩, .inr ⟨ys, X.out⟩⟩
end Go.Proofs.YteealihknndclabGreatDoor
namespace Go.Proofs.YteealihknndclabGreatDoor
open Go.RowKit
theorem uQ (s : UInt8) (a : Option Addr) (b c : Nat) (d : Option Addr) (e f : Nat) (g : Bool) : Value.agg (dN ⟨s, a, b, c, d, e, f, g⟩).toArray = .agg #[.int .u8 (s.toNat : Int), .slice a b c, .slice d e f, .bool g] := rfl
theorem FN : (S.gr [] [⟨[1, 97], [120], false⟩, ⟨[2, 97], [121], false⟩]).2 = 6 := by kernel_rfl
theorem Fu : S.mrg [] (S.lasts [⟨[1, 97], [120], false⟩, ⟨[2, 97], [121], false⟩]) = [⟨[1, 97], [120], 0⟩, ⟨[2, 97], [121], 0⟩] := by kernel_rfl
theorem kvk_ok : S.bC 0 (S.mrg [] (S.lasts [⟨[1, 97], [120], false⟩, ⟨[2, 97], [121], false⟩])) := by
 rw [Fu]
 refine ⟨fun x hx => ?_, ?_, by omega, by decide, fun _ x hx => ?_, fun h => absurd rfl h⟩
 ·simp only [List.mem_cons, List.not_mem_nil, or_false] at hx
  rcases hx with rfl | rfl <;> exact ⟨by decide, by decide, by decide, by decide⟩
 ·unfold S.up; decide
 ·simp only [List.mem_cons, List.not_mem_nil, or_false] at hx
  rcases hx with rfl | rfl <;> simp
theorem qP {w : World} {g : Nat} {d : List KcV} (h : w.heap[g]? = some (.cells (d.flatMap dN).toArray 30 (0, 0))) (hl : d.length <= 1000000) : Els dN w (.slice (some ⟨g, 0, none⟩) d.length d.length) d :=
 Or.inr (Or.inr ⟨g, 0, d.length, rfl, lr _, hl, aa h, fun j u hu => by rw [Nat.zero_add, cell_of_row w g j _ _ _ h]; simpa using hu⟩)
theorem qH.below {w W : World} {x : KcV} {c : UInt8 × S.Cg} (h : qH w x c) (hb : Below w.heap.size w W) : qH W x c := ⟨h.sp, h.key.below hb (lr _), h.val.below hb (lr _), h.dr⟩
set_option maxHeartbeats 16000000 in
set_option maxRecDepth 100000 in
theorem ql (w : World) (hK : KAt w) (h1 : 1 < w.heap.size) :
  Calls Tryz.prog 10 #[] w fun e w' => e = .returned (.bool true) /\ Below w.heap.size w w' := by
 have HK := hide hK
 have HP : Hid (1 < w.heap.size) := h1
 clear hK h1
 go_enter Tryz.func10, Tryz.ntmps10
 go_wp2_with fail
 refine (qo 100 (by omega) (by omega) w HK.out HP.out).mono ?_
 rintro e w1 ⟨o, gk, gt, gs, rfl, hkv⟩
 have K1 := hide hkv
 clear hkv
 go_wp2_with fail
 refine (nW [97] [120] (by decide) (by decide) 1 _ _ rfl rfl w1).mono ?_
 rintro e w2 ⟨⟨sp1, ka1, kn1, kc1, va1, vn1, vc1, dr1⟩, rfl, hx1, k1, v1, b1⟩
 obtain rfl : sp1 = 1 := hx1.sp
 obtain rfl : dr1 = false := hx1.dr
 rw [uQ]
 have HX1 := hide hx1
 have KV1 := hide (And.intro k1 v1)
 have BB1 := hide b1
 clear hx1 k1 v1 b1
 go_wp2_with fail
 refine (nW [97] [121] (by decide) (by decide) 2 _ _ rfl rfl w2).mono ?_
 rintro e w3 ⟨⟨sp2, ka2, kn2, kc2, va2, vn2, vc2, dr2⟩, rfl, hx2, k2, v2, b2⟩
 obtain rfl : sp2 = 2 := hx2.sp
 obtain rfl : dr2 = false := hx2.dr
 rw [uQ]
 have HX2 := hide hx2
 have KV2 := hide (And.intro k2 v2)
 have BB2 := hide b2
 clear hx2 k2 v2 b2
 go_wp2_with fail
 generalize hW4 : w3.alloc _ = W4
 have r4 : W4.heap[w3.heap.size]? = some (.cells (([⟨1, ka1, kn1, kc1, va1, vn1, vc1, false⟩, ⟨2, ka2, kn2, kc2, va2, vn2, vc2, false⟩] : List KcV).flatMap dN).toArray 30 (0, 0)) := by rw [<- hW4]; exact heap_alloc_new _ _
 have b4 : Below w3.heap.size w3 W4 := by rw [<- hW4]; exact ba ..
 have k1 := KV1.out
 have k2 := KV2.out
 have hd := uJ w W4 o gk gt gs 2 100 [] _ [⟨1, ka1, kn1, kc1, va1, vn1, vc1, false⟩, ⟨2, ka2, kn2, kc2, va2, vn2, vc2, false⟩] [(1, ⟨[97], [120], false⟩), (2, ⟨[97], [121], false⟩)]
  (((K1.out.then BB1.out).then BB2.out).then b4) (qP r4 (by simp)) (by simp) (by simp) (by simp [KcV.good, k1.1, k1.2, k2.1, k2.2]) ⟨rfl, fun i x c hx hc => by
   match i, hx, hc with
   | 0, hx, hc => cases hx; cases hc; exact (HX1.out.below BB2.out).below b4
   | 1, hx, hc => cases hx; cases hc; exact HX2.out.below b4⟩ (by rw [show (List.map S.tr [(1, ⟨[97], [120], false⟩), (2, ⟨[97], [121], false⟩)] : List S.Cg) = [⟨[1, 97], [120], false⟩, ⟨[2, 97], [121], false⟩] from rfl, FN]; simp [S.used]) (by simp) kvk_ok (by omega)
 rw [show (List.map S.tr [(1, ⟨[97], [120], false⟩), (2, ⟨[97], [121], false⟩)] : List S.Cg) = [⟨[1, 97], [120], false⟩, ⟨[2, 97], [121], false⟩] from rfl, Fu] at hd
 refine hd.mono ?_
 clear hd r4 b4 hW4 k1 k2
 rintro e w5 ⟨rfl, o', ho', hkv, hch, hown⟩
 have K5 := hide hkv
 clear ho' hkv hch hown K1 HX1 HX2 KV1 KV2 BB1 BB2
 have cK : ∀ (W : World) (C : Array Value) (n c g : Nat), g = W.heap.size -> (convert 22 22 (.slice (some ⟨g, 0, none⟩) n c)).run Tryz.prog (W.alloc (.cells C 5)) = .ok (.slice (some ⟨g, 0, none⟩) n c) (W.alloc (.cells C 5 (C.size, C.size + 1))) := fun W C n c g hg => by rw [hg]; exact convK32 W C n c
 go_wp2_with fail
 obtain ⟨b6, s6⟩ := lit_new w5 [97] #[.int .u8 97] 1 rfl rfl (by simp) (1, 2)
 generalize hW6 : w5.alloc _ = W6 at b6 s6 ⊢
 have K6 := hide (K5.out.then b6)
 obtain ⟨pg, hr, ht, hlf⟩ := K6.out.1.rds
 refine (ma _ gk gt gs 100 pg _ 1 _ [97] W6 hr ht hlf K6.out.2.1 s6 (by simp)).mono ?_
 clear hr ht hlf hW6 b6 s6 cK
 rintro e w7 ⟨v, ok, rfl, kG, b7⟩
 obtain ⟨rfl, hv⟩ := kG.yes ⟨[1, 97], [120], 0⟩ (by simp) rfl
 have hG : Got w7 W6.heap.size v [120] := hv
 obtain ⟨av, cv, hf⟩ := hG.form
 subst hf
 have k1 : (convert 22 9 (.slice av 1 cv)).run Tryz.prog w7 = .ok (.string ⟨#[120]⟩) w7 := dx (hG.sliceAt (by simp))
 have K7 := hide (K6.out.then b7)
 clear kG hv hG b7 K6 K5
 simp only [List.length_cons, List.length_nil, Nat.zero_add]
 go_wp2_with fail
 obtain ⟨pg2, hr, ht, hlf⟩ := K7.out.1.rds
 refine (mZ _ gk gs gt 100 pg2 _ w7 hr hlf ht K7.out.2.1).mono ?_
 clear hr ht hlf k1
 rintro e w8 ⟨rfl, b8⟩
 rw [show S.used [⟨[1, 97], [120], 0⟩, ⟨[2, 97], [121], 0⟩] = 6 from rfl]
 have B8 := hide (K7.out.then b8).1.below
 clear b8 K7
 go_wp2_with fail
 go_ret
 exact ⟨rfl, B8.out⟩
end Go.Proofs.YteealihknndclabGreatDoor
namespace Go.Proofs.YteealihknndclabGreatDoor
open Go.RowKit Go.Shelf
attribute [local go_sem] Oper.semAt_some
set_option maxHeartbeats 16000000 in
set_option maxRecDepth 100000 in
theorem wh (a b : UInt8) (v0 v1 : Value) (bs0 bs1 : List UInt8) (w : World) (hv0 : SliceAt w v0 bs0) (hv1 : SliceAt w v1 bs1) (hK : KAt w) (h1 : 1 < w.heap.size) :
  Calls Tryz.prog 3 #[.int .u8 (a.toNat : Int), .int .u8 (b.toNat : Int), v0, v1] w fun e w' => e = .returned (.bool true) /\ Below w.heap.size w w' := by
 obtain ⟨a0, l0, c0, rfl, hl0, hm0⟩ := hv0.form
 have p0 := hv0.le_cap
 obtain ⟨a1, l1, c1, rfl, hl1, hm1⟩ := hv1.form
 have p1 := hide hv1.le_cap
 have HM1 := hide hm1
 have HV0 := hide hv0
 have HL0 := hide hl0
 have HV1 := hide hv1
 have HL1 := hide hl1
 have HK := hide hK
 have HP : Hid (1 < w.heap.size) := h1
 clear hv0 hl0 hv1 hl1 hm1 hK h1
 refine (callsIn_wide (n := 3)).1 ?_
 refine callsIn_of_wp_marks Tryz.func3 rfl trivial ?_ rfl
 refine wpIn_wide.2 ?_
 simp only [Tryz.ntmps3, List.size_toArray, List.length_cons, List.length_nil, Nat.reduceAdd, Nat.reduceSub, Array.replicate_succ, Array.replicate_zero, List.push_toArray, List.append_toArray, List.nil_append, List.cons_append]
 go_upto_if 20 with fail
 go_cut [2] from 18 to 22 (fun x wc => w = wc /\ ∃ (a : Option Addr) (l c : Nat) (bs : List UInt8), x = .slice a l c /\ l = bs.length /\ l <= 30 /\ SliceAt w (.slice a l c) bs)
 case first =>
  by_cases h : 30 < l0
  ·have q1 : (30 : Int) < (l0 : Int) := by omega
   have q2 : (30 : Int) <= (c0 : Int) := by omega
   have Z := hide (j5 HV0.out 30 (by omega))
   have ZL : Hid (30 = (bs0.take 30).length) := by show 30 = (bs0.take 30).length; rw [List.length_take, <- HL0.out]; omega
   go_wp2_with fail
   go_meet
   exact ⟨rfl, a0, 30, c0, bs0.take 30, rfl, ZL.out, lr _, Z.out⟩
  ·have q1 : ¬ ((30 : Int) < (l0 : Int)) := by omega
   go_wp2_with fail
   go_meet
   exact ⟨rfl, a0, l0, c0, bs0, rfl, HL0.out, by omega, HV0.out⟩
 case rest =>
 obtain ⟨rfl, a2, l2, c2, xs, rfl, hxl, hx30, hvx⟩ := hcut
 have SV := hide hvx
 have LX := hide (And.intro hxl hx30)
 clear hvx hxl hx30 HV0 HL0 hm0 p0
 clear a0 l0 c0 bs0
 have hm1 := HM1.out
 have p1' := p1.out
 go_upto_if 25 with fail
 go_cut [3] from 23 to 27 (fun x wc => w = wc /\ ∃ (a : Option Addr) (l c : Nat) (bs : List UInt8), x = .slice a l c /\ l = bs.length /\ l <= 100 /\ SliceAt w (.slice a l c) bs)
 case first =>
  by_cases h : 100 < l1
  ·have q1 : (100 : Int) < (l1 : Int) := by omega
   have q2 : (100 : Int) <= (c1 : Int) := by omega
   have Z := hide (j5 HV1.out 100 (by omega))
   have ZL : Hid (100 = (bs1.take 100).length) := by show 100 = (bs1.take 100).length; rw [List.length_take, <- HL1.out]; omega
   go_wp2_with fail
   go_meet
   exact ⟨rfl, a1, 100, c1, bs1.take 100, rfl, ZL.out, lr _, Z.out⟩
  ·have q1 : ¬ ((100 : Int) < (l1 : Int)) := by omega
   go_wp2_with fail
   go_meet
   exact ⟨rfl, a1, l1, c1, bs1, rfl, HL1.out, by omega, HV1.out⟩
 case rest =>
 obtain ⟨rfl, a3, l3, c3, ys, rfl, hyl, hy100, hvy⟩ := hcut
 have SW := hide hvy
 have LY := hide (And.intro hyl hy100)
 clear hvy hyl hy100 HV1 HL1 hm1 p1 p1' HM1
 clear a1 l1 c1 bs1
 go_wp2_with fail
 refine (qo 5000 (by omega) (by omega) w HK.out HP.out).mono ?_
 rintro e w1 ⟨o, gk, gt, gs, rfl, hkv⟩
 have KV1 : Hid (KvO w w1 o gk gt gs 2 ((5000 : Nat) : Int) []) := hkv
 clear hkv
 obtain ⟨w2, hw2⟩ : ∃ w2, w2 = w1.alloc (.cells #[.int .u8 0] 5) := ⟨_, rfl⟩
 have b2 : Below w1.heap.size w1 w2 := by rw [hw2]; exact ba ..
 have r2 : w2.heap[w1.heap.size]? = some (.cells #[.int .u8 0] 5 (0, 0)) := by rw [hw2]; exact heap_alloc_new _ _
 have U2 : Hid (dz w2 (.slice (some ⟨w1.heap.size, 0, none⟩) 1 1) [0]) := ⟨rfl, Or.inr ⟨w1.heap.size, 1, _, rfl, Nat.zero_le _, r2, lr _, by simp [maxLen], rfl, rfl⟩⟩
 have APP := hide (bf w2 (.slice (some ⟨w1.heap.size, 0, none⟩) 1 1) (.slice a2 l2 c2) [0] xs 22 U2.out (SV.out.below (KV1.out.below.trans (b2.mono KV1.out.below.size)) (lr _)) (by have := LX.out; simp; omega))
 have HW2 := hide hw2
 have B2 := hide b2
 clear b2 r2 hw2 U2
 go_wp2_with (at_builtin; (rw [<- HW2.out]; refine aA rfl (.tmp 35) (.tmp 36) 22 22 rfl _ _ rfl rfl APP.out ?_; rintro v3 w3 ⟨hu3, hg3, ho3⟩; obtain ⟨hb3, gi, n3, ci, hv3, hn3, hs3, hgl, hgh⟩ := step36 B2.out hg3 ho3 hu3 (by have := LX.out; omega); subst hv3; have B3 := hide hb3; have S3 := hide hs3; have GI := hide (And.intro hgl hgh); have N3 := hide hn3; clear hu3 hg3 ho3 hb3 hs3 hgl hgh hn3 APP B2))
 clear HW2
 generalize hC : w3.alloc _ = C
 have ra : C.heap[w3.heap.size]? = some (.cells (([⟨a, some ⟨gi, 0, none⟩, n3, ci, a3, l3, c3, false⟩] : List KcV).flatMap dN).toArray 30 (0, 0)) := by rw [<- hC]; exact heap_alloc_new _ _
 have ba : Below w3.heap.size w3 C := by rw [<- hC]; exact ba ..
 have EL := hide (qP ra (by simp))
 have KVC := hide (KV1.out.then (B3.out.trans (ba.mono B3.out.size)))
 have SC := hide (S3.out.below ba (lr _))
 have ZC : Hid (w3.heap.size <= C.heap.size) := ba.size
 have hx : qH C ⟨a, some ⟨gi, 0, none⟩, n3, ci, a3, l3, c3, false⟩ (a, ⟨0 :: xs, ys, false⟩) := ⟨rfl, SC.out, SW.out.below KVC.out.below (lr _), rfl⟩
 have NO : Hid (¬ o.has gi) := fun e => by have := KV1.out.lt.2.2.2 gi e; have := GI.out.1; omega
 clear ra ba hC S3 B3
 have u0 : S.used ([] : List S.Ent) = 0 := rfl
 refine (zw w C o gk gt gs 2 5000 [] _ ⟨a, some ⟨gi, 0, none⟩, n3, ci, a3, l3, c3, false⟩ (a, ⟨0 :: xs, ys, false⟩) KVC.out EL.out hx (by show 1 <= n3; have := N3.out; omega) (by show n3 <= 39; have := N3.out; have := LX.out; omega) (by show l3 <= 400; have := LY.out; omega) (by show S.used [] + (n3 + 1 + l3) <= 5000; have := N3.out; have := LX.out; have := LY.out; omega) (by show S.used [] + (n3 + 1 + l3) + 4 * (([] : List S.Ent).length + 1) <= 1019; have := N3.out; have := LX.out; have := LY.out; rw [List.length_nil]; omega) (by omega)).mono ?_
 clear hx u0 EL
 rintro e w4 ⟨rfl, o', hkv, hch, hown⟩
 rw [mrg_put _ rfl] at hkv
 have KV4 : Hid (KvO w w4 o' gk gt gs 4 ((5000 : Nat) : Int) [⟨a :: 0 :: xs, ys, 0⟩]) := hkv
 have KEY4 := hide (SC.out.past hch (fun b off n c e => by simp only [Value.slice.injEq, Option.some.injEq, Addr.mk.injEq] at e; rw [<- e.1.1]; exact NO.out))
 have NO' : Hid (¬ o'.has gi) := fun e => by
  rcases hown gi e with e | e
  ·exact NO.out e
  ·have := GI.out.2; have := ZC.out; omega
 clear hkv hch hown KVC SC ZC NO GI KV1
 go_wp2_with fail
 obtain ⟨pg, hr, ht, hlf⟩ := KV4.out.1.rds
 refine (ma _ gk gt gs _ pg _ b _ (0 :: xs) w4 hr ht hlf KV4.out.2.1 KEY4.out (by have := LX.out; rw [List.length_cons]; omega)).mono ?_
 clear hr ht hlf
 rintro e w5 ⟨v5, ok, rfl, kG, hb5⟩
 have GOT := hide (AC kG)
 have KV5 := hide (KV4.out.then hb5)
 have KEY5 := hide (KEY4.out.below hb5 (lr _))
 clear kG hb5 KV4 KEY4
 go_wp2_with fail
 refine (xU gk gt _ b (.slice none 0 0) [] w5 KV5.out.2.1 (Or.inl ⟨rfl, rfl⟩) (by simp)).mono ?_
 rintro e w6 ⟨gw, g3, g4, g5, v4, v6, rfl, hgw, hrg, G3, G4, G5, GW, hc4, hc5⟩
 have KV6 := hide (KV5.out.then hrg.1)
 have KEY6 := hide (KEY5.out.below hrg.1 (lr _))
 have HGW := hide hgw
 have HRG := hide hrg
 have HC4 := hide hc4
 have HC5 := hide hc5
 clear hgw hrg hc4 hc5 G3 G4 G5 GW KV5 KEY5
 have hnf := FW (.func 26) #[] #[.pointer (some ⟨gw, 0, none⟩)]
 go_upto_region 16 with fail
 clear hnf
 generalize hW7 : w6.alloc _ = w7
 have b7 : Below w6.heap.size w6 w7 := by rw [<- hW7]; exact ba ..
 have r7 : w7.heap[w6.heap.size]? = some (.cells #[.int .i64 0] 3 (0, 0)) := by rw [<- hW7]; exact heap_alloc_new _ _
 obtain ⟨gn, hgn⟩ : ∃ g, g = w6.heap.size := ⟨_, rfl⟩
 rw [<- hgn] at r7 ⊢
 have HG : Hid (gn = w6.heap.size) := hgn
 have B7 := hide b7
 have NN := hide r7
 obtain ⟨es, hes⟩ : ∃ es, es = [(⟨a :: 0 :: xs, ys, 0⟩ : S.Ent)] := ⟨_, rfl⟩
 rw [<- hes] at KV6
 have HES := hide hes
 have HAND : Hid (S.hand es [b] (S.bhd b) = if a = b then es else []) := by show S.hand es [b] (S.bhd b) = _; rw [hes]; exact FJ a b (0 :: xs) ys (by simp)
 have HAL : Hid ((S.hand es [b] (S.bhd b)).length <= 1) := by show _ <= 1; rw [HAND.out]; split <;> simp [hes]
 obtain ⟨pg, hr, ht, hlf⟩ := KV6.out.1.rds
 have Dt := hide (xS 1 v4 v6 [b] (S.bhd b) _ gs gt g4 g5 g3 gw pg es (fun k => k = gn) w7 (hr.below b7) hlf ((b7.block _ (aa ht)).trans ht) ((b7.block _ (aa HRG.out.2.2.1)).trans HRG.out.2.2.1) ((b7.block _ (aa HRG.out.2.2.2)).trans HRG.out.2.2.2) ((b7.block _ (aa HRG.out.2.1)).trans HRG.out.2.1) ((b7.block _ (aa HGW.out)).trans HGW.out)
  (fun k hk => by rw [hk]; exact aa r7) (fun e => by have := aa HRG.out.2.2.2; omega) (HC4.out.1.below b7 (lr _)) (HC5.out.1.below b7 (lr _)) (fun b off n c e => ⟨Nat.lt_of_lt_of_le (HC5.out.2.1 b off n c e).2 b7.size, fun e2 => by have := (HC5.out.2.1 b off n c e).2; omega⟩)
  (fun e he => by
   rw [HAND.out] at he
   split at he
   ·rw [hes] at he; simp at he; subst he; simp
   ·simp at he))
 clear hr ht hlf hgn hes b7 r7 hW7 HGW HRG HC4 HC5
 go_wp2_with fail
 refine pE (fun T hT => ?_)
 have HTT := hide hT
 clear hT
 refine (wpIn_wide (n := 2)).1 (qV (n := 2) (w0 := w7) (gf := 26) (lb := #[.pointer (some ⟨gw, 0, none⟩)]) (by rw [HTT.out]; rfl) (enters_of Tryz.func26 (by kernel_rfl) rfl) Dt.out (Below.refl _ _) (fun _ => rfl) (fun k hk => by rw [hk]; exact aa NN.out)
  (fun pre V => V.heap[gn]? = some (.cells #[.int .i64 (pre.length : Int)] 3 (0, 0)) /\ Chg (fun k => k = gn) w7 V) (fun _ _ _ => False)
  (fun s A V h hb => ⟨(hb.block _ (aa h.1)).trans h.1, h.2.trans (q := fun _ => False) (Chg.ofBelow' hb) (fun _ _ e => e.elim)⟩) (fun c s A V h hb => h) (fun s A l o o' h hl ho hc => ⟨gQ h.1 ho hc, h.2.putObj hl⟩) (fun c s A l o o' h hl ho hc => h) (fun pre s A l o o' h hl ho hc => h) ⟨NN.out, Chg.refl _ _⟩
  (fun x => { tmps := T.setIfInBounds 59 x, defers := [] }) ?assign ?body ?done ?stop)
 case assign =>
  intro l x W K hK
  have hT2 : ((#[59] : Array Tmp).zip #[x]).foldl (fun t (p, v) => t.setIfInBounds p v) T = T.setIfInBounds 59 x := by simp
  rw [hT2]
  exact wpIn_skip hK
 case body =>
  rintro l pre x V ⟨hI1, hI2⟩ hlt
  have QS : IntKind.i64.wrap ((pre.length : Int) + 1) = ((pre.length + 1 : Nat) : Int) := by
   have := HAL.out
   rw [IntKind.wrap_i64]; omega
  have HI1 := hide hI1
  have HI2 := hide hI2
  have c0 := eU hI1
  have fz := frozen_of_row _ gn 0 _ _ hI1
  clear hI1 hI2 hlt
  have hT := HTT.out
  subst hT
  simp only [List.setIfInBounds_toArray, List.set_cons_zero, List.set_cons_succ]
  gi_wp2
  refine ⟨(Chg.refl _ _).setCell gn 0 _ (fun _ => rfl), ?_, HI2.out.setCell gn 0 _ (fun _ => rfl)⟩
  rw [List.length_append, show ([x] : List Value).length = 1 from rfl]
  exact one_setCell HI1.out
 case done =>
  rintro D ns V hD hns ⟨hI1, hI2⟩ hKD
  rw [hns, HAND.out] at hI1
  have BV := hide ((B7.out).trans (hI2.below w6.heap.size B7.out.size (fun k hk e => by have := HG.out; omega)))
  have KV7 := hide (KV6.out.then BV.out)
  have KEY7 := hide (KEY6.out.below BV.out (lr _))
  have KD := hide hKD
  have ND : Hid (¬ o'.has D /\ w.heap.size <= D) := ⟨fun e => by have := KV6.out.lt.2.2.2 D e; have := B7.out.size; omega, by have := KV6.out.below.size; have := B7.out.size; omega⟩
  have HI1 := hide hI1
  clear hI1 hI2 hKD hns hD Dt NN B7 KV6 KEY6 HAND HAL BV
  by_cases hab : a = b
  ·subst hab
   have hi : V.heap[gn]? = some (.cells #[.int .i64 1] 3 (0, 0)) := by have h := HI1.out; rw [if_pos rfl, HES.out] at h; exact h
   obtain ⟨rfl, -⟩ := GOT.out.1 rfl
   have c0 := eU hi
   clear hi HI1 GOT
   have hT := HTT.out
   subst hT
   go_wp2_with fail
   clear c0
   generalize hC : V.alloc _ = C
   have ra : C.heap[V.heap.size]? = some (.cells (([⟨a, some ⟨gi, 0, none⟩, n3, ci, none, 0, 0, true⟩] : List KcV).flatMap dN).toArray 30 (0, 0)) := by rw [<- hC]; exact heap_alloc_new _ _
   have ba : Below V.heap.size V C := by rw [<- hC]; exact ba ..
   have EL := hide (qP ra (by simp))
   have KVC := hide (KV7.out.then ba)
   have SC := hide (KEY7.out.below ba (lr _))
   have DC := hide ((ba.block D (aa KD.out)).trans KD.out)
   have hx : qH C ⟨a, some ⟨gi, 0, none⟩, n3, ci, none, 0, 0, true⟩ (a, ⟨0 :: xs, [], true⟩) := ⟨rfl, SC.out, Or.inl ⟨rfl, rfl⟩, rfl⟩
   clear ra ba hC KV7 KEY7 KD
   have u1 : S.used es <= 132 := by rw [HES.out]; simp only [S.used, List.length_cons]; have := LX.out; have := LY.out; omega
   have u2 : es.length = 1 := by rw [HES.out]; rfl
   refine (zw w C o' gk gt gs 4 5000 es _ ⟨a, some ⟨gi, 0, none⟩, n3, ci, none, 0, 0, true⟩ (a, ⟨0 :: xs, [], true⟩) KVC.out EL.out hx (by show 1 <= n3; have := N3.out; omega) (by show n3 <= 39; have := N3.out; have := LX.out; omega) (by show 0 <= 400; omega) (by show S.used es + (n3 + 1 + 0) <= 5000; have := N3.out; have := LX.out; omega) (by show S.used es + (n3 + 1 + 0) + 4 * (es.length + 1) <= 1019; have := N3.out; have := LX.out; omega) (by omega)).mono ?_
   clear hx EL u1 u2
   rintro e w8 ⟨rfl, o2, hkv, hch, hown⟩
   have KV8 : Hid (KvO w w8 o2 gk gt gs 6 ((5000 : Nat) : Int) []) := by have h := hkv; rw [HES.out, xM _ _ rfl, if_pos (by rfl)] at h; exact h
   have Gs := hide (SC.out.past hch (fun b off n c e => by simp only [Value.slice.injEq, Option.some.injEq, Addr.mk.injEq] at e; rw [<- e.1.1]; exact NO'.out))
   have D8 := hide (hch.row DC.out ND.out.1)
   clear hkv hch hown KVC SC DC
   go_wp2_with fail
   obtain ⟨pg, hr, ht, hlf⟩ := KV8.out.1.rds
   refine (ma _ gk gt gs _ pg _ a _ (0 :: xs) w8 hr ht hlf KV8.out.2.1 Gs.out (by have := LX.out; rw [List.length_cons]; omega)).mono ?_
   clear hr ht hlf
   rintro e w9 ⟨v9, ok9, rfl, kG, hb9⟩
   have D9 := hide ((hb9.block D (aa D8.out)).trans D8.out)
   have KV9 := hide (KV8.out.then hb9)
   obtain ⟨rfl, rfl⟩ := FO kG
   clear kG hb9 KV8 Gs D8
   go_wp2_with fail
   refine (ql w9 KV9.out.k (Nat.lt_of_lt_of_le HP.out KV9.out.below.size)).mono ?_
   rintro e w10 ⟨rfl, zB⟩
   have D10 := hide ((zB.block D (aa D9.out)).trans D9.out)
   have BW := hide (KV9.out.below.trans (zB.mono KV9.out.below.size))
   clear zB D9 KV9
   go_wp2_with fail
   refine ⟨by simp, .inl ⟨_, _, rfl, run_takeDeferred D10.out, ?_⟩⟩
   exact ⟨.bool true, (results_tmp (t := 8) (fn := Tryz.f3) rfl _ _ _).trans (by simp), rfl, kK BW.out ND.out.2⟩
  ·have hi : V.heap[gn]? = some (.cells #[.int .i64 0] 3 (0, 0)) := by have h := HI1.out; rw [if_neg hab] at h; exact h
   obtain ⟨rfl, -⟩ := GOT.out.2 hab
   have qi : ¬ (a.toNat : Int) = (b.toNat : Int) := fun e => hab (UInt8.toNat_inj.1 (by omega))
   have c0 := eU hi
   clear hi HI1 GOT
   have hT := HTT.out
   subst hT
   go_wp2_with fail
   clear c0
   generalize hC : V.alloc _ = C
   have ra : C.heap[V.heap.size]? = some (.cells (([⟨b, some ⟨gi, 0, none⟩, n3, ci, none, 0, 0, true⟩] : List KcV).flatMap dN).toArray 30 (0, 0)) := by rw [<- hC]; exact heap_alloc_new _ _
   have ba : Below V.heap.size V C := by rw [<- hC]; exact ba ..
   have EL := hide (qP ra (by simp))
   have KVC := hide (KV7.out.then ba)
   have SC := hide (KEY7.out.below ba (lr _))
   have DC := hide ((ba.block D (aa KD.out)).trans KD.out)
   have hx : qH C ⟨b, some ⟨gi, 0, none⟩, n3, ci, none, 0, 0, true⟩ (b, ⟨0 :: xs, [], true⟩) := ⟨rfl, SC.out, Or.inl ⟨rfl, rfl⟩, rfl⟩
   clear ra ba hC KV7 KEY7 KD
   have u1 : S.used es <= 132 := by rw [HES.out]; simp only [S.used, List.length_cons]; have := LX.out; have := LY.out; omega
   have u2 : es.length = 1 := by rw [HES.out]; rfl
   refine (zw w C o' gk gt gs 4 5000 es _ ⟨b, some ⟨gi, 0, none⟩, n3, ci, none, 0, 0, true⟩ (b, ⟨0 :: xs, [], true⟩) KVC.out EL.out hx (by show 1 <= n3; have := N3.out; omega) (by show n3 <= 39; have := N3.out; have := LX.out; omega) (by show 0 <= 400; omega) (by show S.used es + (n3 + 1 + 0) <= 5000; have := N3.out; have := LX.out; omega) (by show S.used es + (n3 + 1 + 0) + 4 * (es.length + 1) <= 1019; have := N3.out; have := LX.out; omega) (by omega)).mono ?_
   clear hx EL u1 u2
   rintro e w8 ⟨rfl, o2, hkv, hch, hown⟩
   have KV8 : Hid (KvO w w8 o2 gk gt gs 6 ((5000 : Nat) : Int) [⟨a :: 0 :: xs, ys, 0⟩]) := by have h := hkv; rw [HES.out, xM _ _ rfl, if_neg (by show ¬ a :: 0 :: xs = b :: 0 :: xs; simpa using hab)] at h; exact h
   have Gs := hide (SC.out.past hch (fun b off n c e => by simp only [Value.slice.injEq, Option.some.injEq, Addr.mk.injEq] at e; rw [<- e.1.1]; exact NO'.out))
   have D8 := hide (hch.row DC.out ND.out.1)
   clear hkv hch hown KVC SC DC
   go_wp2_with fail
   obtain ⟨pg, hr, ht, hlf⟩ := KV8.out.1.rds
   refine (ma _ gk gt gs _ pg _ a _ (0 :: xs) w8 hr ht hlf KV8.out.2.1 Gs.out (by have := LX.out; rw [List.length_cons]; omega)).mono ?_
   clear hr ht hlf
   rintro e w9 ⟨v9, ok9, rfl, kG, hb9⟩
   have D9 := hide ((hb9.block D (aa D8.out)).trans D8.out)
   have KV9 := hide (KV8.out.then hb9)
   obtain ⟨rfl, hv9⟩ := (AC kG).1 rfl
   have s9 : SliceAt w9 v9 ys := by
    rcases hv9 with ⟨rfl, hy⟩ | ⟨q, rfl, _, hq⟩
    ·exact Or.inl ⟨rfl, hy⟩
    ·exact az hq rfl (by have := LY.out; omega)
   obtain ⟨a9, n9, c9, hf9, zz1, zz2⟩ := s9.form
   subst hf9
   obtain ⟨YS, hYS⟩ : ∃ s : ByteArray, s = ⟨ys.toArray⟩ := ⟨_, rfl⟩
   have k1 : (convert 22 9 (.slice a9 n9 c9)).run Tryz.prog w9 = .ok (.string YS) w9 := by rw [hYS]; exact dx s9
   have k2 : (convert 22 9 (.slice a3 l3 c3)).run Tryz.prog w9 = .ok (.string YS) w9 := by rw [hYS]; exact dx (SW.out.below KV9.out.below (lr _))
   clear kG hb9 KV8 Gs D8 hv9 s9 zz1 zz2 hYS
   go_wp2_with fail
   refine (ql w9 KV9.out.k (Nat.lt_of_lt_of_le HP.out KV9.out.below.size)).mono ?_
   rintro e w10 ⟨rfl, zB⟩
   have D10 := hide ((zB.block D (aa D9.out)).trans D9.out)
   have BW := hide (KV9.out.below.trans (zB.mono KV9.out.below.size))
   clear zB D9 KV9
   go_wp2_with fail
   refine ⟨by simp, .inl ⟨_, _, rfl, run_takeDeferred D10.out, ?_⟩⟩
   exact ⟨.bool true, (results_tmp (t := 8) (fn := Tryz.f3) rfl _ _ _).trans (by simp; exact qi), rfl, kK BW.out ND.out.2⟩
 case stop =>
  rintro D c pre V _ _ h _
  exact h.elim
end Go.Proofs.YteealihknndclabGreatDoor
