/- A row of digests, gone through from its end: the library's iterator. -/
import Derived.Test.YtkljajfgdelfgaaDoorFc
import Derived.Test.YtkljajfgdelfgaaDoorRg
import Derived.Test.YtkljajfgdelfgaaDoorZe
import Derived.Test.YtkljajfgdelfgaaDoorFf
namespace Go.Proofs.YtkljajfgdelfgaaDoor
open Go.RowKit
open Go.Shelf
attribute [local go_sem] Oper.semAt_some

theorem upon_in {l n : Nat} {o : Oper} {a : Act} {next next' : Act → World → Prop} {Q : Exit → Act → World → Prop} {r : Result Next} (hn : ∀ a w, next a w → next' a w) (h : o.upon Tryd.prog a next Q r) : o.uponIn (Fence.wide.inRound l) n Tryd.prog a next' Q r := by
  cases r with
  | ok x w' =>
    cases x with
    | value v => exact hn _ _ h
    | skip => exact hn _ _ h
    | defer d => exact hn _ _ h
    | enter f args =>
      refine ⟨fun e => by simp [Fence.wide, Fence.inRound] at e, (CallsIn.inRound l (callsIn_wide.2 h)).mono ?_⟩
      intro e w'' he
      cases e with
      | returned v => exact hn _ _ he
      | panicked c => exact he
      | outgrown => exact he
    | row row args =>
      refine ⟨fun e => by simp [Fence.wide, Fence.inRound] at e, fun c cs _ => ?_⟩
      obtain ⟨v, w'', hr, hs⟩ := h c cs
      exact ⟨v, w'', hn _ _ hr, stepsIn_wide.2 hs⟩
    | _ => exact h.elim
  | halt x w' =>
    cases x with
    | panic v => exact h
    | _ => exact h.elim
/-- In a round operations do what they do anywhere. -/
theorem inRound_list {l n : Nat} {ops : Array Oper} {Q : Exit → Act → World → Prop} (hQ : ¬ LetsOut Q) : ∀ (L : List Oper) (a : Act) (w : World), (∀ o ∈ L, ∀ c, o.op ≠ .defer c) → wpList Tryd.prog ops Q L a w → wpListIn (Fence.wide.inRound l) n Tryd.prog ops Q L a w := by
  intro L
  induction L with
  | nil => intro a w _ h; exact h
  | cons o L ih =>
    intro a w hd h
    have hd' : ∀ o ∈ L, ∀ c, o.op ≠ .defer c := fun o ho => hd o (List.mem_cons_of_mem _ ho)
    rw [wpList] at h
    rw [wpListIn]
    split
    · rename_i hw
      rw [if_pos hw] at h
      rcases h with h | ⟨_, h⟩
      · refine ⟨fun _ _ => trivial, ?_⟩
        rw [show (Fence.wide.inRound l).round = some l from rfl, Oper.semAt_some l _ _ (hd o (by simp))]
        exact upon_in (fun a w h => ih a w hd' h) h
      · exact absurd h hQ
    · rename_i hw
      rw [if_neg hw] at h
      exact ⟨fun _ _ => trivial, ih _ _ hd' h⟩
theorem wpListIn_load_as {n : Nat} {w : World} {ops : Array Oper} {rest : List Oper} {o : Oper} {a : Act} {Q : Exit → Act → World → Prop} (hgd : o.guard = none) (t : TypeId) (x : Operand) (ho : o.op = .load t x) (vx : Value) (hx : a.eval x = vx) (v : Value)
    (hr : (Instr.loadAt t vx).run Tryd.prog w = .ok v w) (h : wpListIn Fence.wide n Tryd.prog ops Q rest (a.put o.dst v) w) : wpListIn Fence.wide n Tryd.prog ops Q (o :: rest) a w := by
  subst hx
  exact wpListIn_plain hgd fun K hK => ⟨fun _ _ => trivial, by
    show o.uponIn Fence.wide n Tryd.prog a K Q ((execOp a.eval o).run Tryd.prog w)
    unfold execOp
    simp only [ho, Sem.run_bind, hr, Result.andThen_ok]
    exact hK _ _ h⟩
theorem at_opIn (o : Oper) {n : Nat} {ops : Array Oper} {rest : List Oper} {a : Act} {Q : Exit → Act → World → Prop} {w : World} (h : wpListIn Fence.wide n Tryd.prog ops Q (o :: rest) a w) : wpListIn Fence.wide n Tryd.prog ops Q (o :: rest) a w := h
set_option maxHeartbeats 4000000 in
theorem backward_any (ao : Option Addr) (n c : Nat) (w : World) :
   Calls Tryd.prog 36 #[.slice ao n c] w fun r w' => r = .returned (.func (.func 50) #[] #[.pointer (some ⟨w.heap.size, 0, none⟩)]) ∧ w' = w.alloc (.cells #[.slice ao n c] 28) := by
  have hmf : ∀ (fn : Fn) (first cap : Array Value) (w : World), (Instr.makeFunc fn first cap).run Tryd.prog w = .ok (.func fn first cap) w := fun _ _ _ _ => rfl
  go_enter Tryd.func36, Tryd.ntmps36
  go_wp2_with fail
  go_ret
  exact ⟨rfl, rfl⟩
/-- The k-th that comes, from the end on. -/
def S.bk (hs : List (List UInt8)) (k : Nat) : Int × List UInt8 := (((hs.length - 1 - k : Nat) : Int), hs.getD (hs.length - 1 - k) [])
def S.bks (hs : List (List UInt8)) (k : Nat) : List (Int × List UInt8) := (List.range k).map (S.bk hs)
theorem S.bks_succ (hs : List (List UInt8)) (k : Nat) : S.bks hs (k + 1) = S.bks hs k ++ [S.bk hs k] := by simp [S.bks, List.range_succ]
theorem S.bks_length (hs : List (List UInt8)) (k : Nat) : (S.bks hs k).length = k := by simp [S.bks]
def encI (x : Int × List UInt8) : Array Value := #[.int .i64 x.1, .agg (S.v8 x.2)]
set_option maxHeartbeats 8000000 in
set_option maxRecDepth 100000 in
theorem back_seq (n : Nat) (hn : 1 ≤ n) (gs : Nat) (u : Value) (hs : List (List UInt8)) (q : Nat → Prop) (w : World) (hgs : w.heap[gs]? = some (.cells #[u] 28 (0, 0))) (hu : DgAt w u hs) (hq : ¬ q gs) (hq2 : ∀ a n c, u = .slice (some a) n c → ¬ q a.block) :
    SeqMem n Tryd.prog 50 #[.pointer (some ⟨gs, 0, none⟩)] encI q (fun pre x _ => pre.length < hs.length ∧ x = S.bk hs pre.length) (fun xs => xs = S.bks hs hs.length) (fun _ => True) w := by
  intro l J Jx W hW hJ hJx hY h0
  obtain ⟨uo, uc, rfl⟩ := hu.form
  have hmax : hs.length ≤ 1000000 := by obtain ⟨_, _, _, h, _⟩ := hu; exact h
  have h32 : ∀ d ∈ hs, d.length = 32 := by obtain ⟨_, _, _, _, h, _⟩ := hu; exact h
  obtain ⟨N, hN⟩ : ∃ N, N = hs.length := ⟨_, rfl⟩
  have HU := hide (hu.below hW)
  have RS := hide ((hW.block _ (block_lt_of_row hgs)).trans hgs)
  have HY := hide hY
  have HN := hide hN
  have HQ := hide hq2
  rw [← hN] at HU RS hmax HQ
  clear hu hgs hN h32 hY hq2
  refine callsIn_of_wp Tryd.func50 rfl trivial ?_ rfl
  simp only [Tryd.ntmps50, List.size_toArray, List.length_cons, List.length_nil, Nat.reduceAdd, Nat.reduceSub, Array.replicate_succ, Array.replicate_zero, List.push_toArray, List.append_toArray, List.nil_append, List.cons_append]
  have c0 := cells1 RS.out
  have qz : IntKind.i64.wrap ((N : Int) - 1) = (N : Int) - 1 := by rw [IntKind.wrap_i64]; omega
  gi_wp2
  gi_loopw [3] (fun i wr => ∃ k : Nat, k ≤ N ∧ i = .int .i64 ((N : Int) - 1 - (k : Int)) ∧ J (S.bks hs k) wr ∧ Chg q W wr) (fun i _ => (intOf i + 1).toNat)
  case atStart => exact ⟨0, Nat.zero_le _, by simp, h0, Chg.refl _ _⟩
  case round =>
    obtain ⟨k, hk, rfl, hJs, hc⟩ := hrel
    have c1 : wr.cell? ⟨gs, 0, none⟩ = some (.slice uo N uc) := cells1 (hc.row RS.out hq)
    by_cases hlt : k < N
    · obtain ⟨j, hj⟩ : ∃ j, j = N - 1 - k := ⟨_, rfl⟩
      rw [show (N : Int) - 1 - (k : Int) = (j : Int) by omega]
      have q1 : (0 : Int) ≤ (j : Int) := by omega
      have q2 : (j : Int) < (N : Int) := by omega
      have qw : IntKind.i64.wrap ((j : Int) - 1) = (j : Int) - 1 := by rw [IntKind.wrap_i64]; omega
      obtain ⟨gu, ou, cu, eu, hgu, hru, hpl⟩ := dg_at HU.out j (by rw [← HN.out]; omega)
      simp only [Value.slice.injEq] at eu
      obtain ⟨rfl, -, rfl⟩ := eu
      obtain ⟨D, hD⟩ : ∃ D, D = hs.getD j [] := ⟨_, rfl⟩
      rw [← hD] at hru hpl
      have hng : ¬ q gu := HQ.out _ _ _ rfl
      have hld := load_dmid (w := wr) (show wr.rangeAt gu (ou + j * 32) (S.v8l D) from fun i x hx => (World.cell?_of_block (hc.block gu hgu hng)).trans (hru i x hx)) hpl
      have hit : encI (S.bk hs k) = #[.int .i64 (j : Int), .agg (S.v8 D)] := by rw [hD, hj, HN.out]; rfl
      obtain ⟨fn, tmps, assign, body, hy, hR⟩ := HY.out (S.bks hs k) (S.bk hs k) wr hJs ⟨by rw [S.bks_length, ← HN.out]; exact hlt, by rw [S.bks_length]⟩
      rw [hit] at hy
      have HK := hide (And.intro hlt hj)
      obtain ⟨VD, hVD⟩ : ∃ V, V = Value.agg (S.v8 D) := ⟨_, rfl⟩
      rw [← hVD] at hld hy
      clear hj hD hru hpl hit hVD hgu hlt
      gi_wp2_with (with_reducible refine at_opIn { dst := some 16, op := Op.load 23 (Operand.tmp 15), type := 23, pos := "iter.go:29", after := #[{ on := 4, ground := Ground.data }], guard := none } ?_; refine wpListIn_load_as rfl 23 (.tmp 15) rfl (.pointer (some ⟨gu, ou + j * 32, none⟩)) rfl VD hld ?_)
      refine hR.mono ?_
      rintro e W3 (⟨rfl, hJ3, hk3⟩ | ⟨rfl, hJx3⟩)
      · gi_wp2
        go_roundw
        case rel => exact ⟨k + 1, by have := HK.out; omega, by congr 1; have := HK.out; omega, by rw [S.bks_succ]; exact hJ3, hc.trans hk3 (fun _ _ e => e)⟩
        case measure => simp [intOf]
      · gi_wp2
        refine bodyPost_ret (results_none rfl _ _ _) rfl ?_
        exact ⟨⟨_, rfl⟩, .inr ⟨_, trivial, hJx3⟩⟩
    · obtain rfl : k = N := by omega
      have qn : ¬ (k : Int) - 1 - (k : Int) ≥ 0 := by omega
      have qn' : (k : Int) - 1 - (k : Int) = -1 := by omega
      rw [qn']
      gi_wp2
      go_end0
      exact ⟨⟨_, rfl⟩, .inl (by rw [← HN.out]; exact hJs)⟩
end Go.Proofs.YtkljajfgdelfgaaDoor
