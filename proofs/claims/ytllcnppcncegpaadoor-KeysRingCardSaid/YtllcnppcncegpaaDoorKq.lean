/- What the statements call first: some runs. -/
import Derived.Test.YtllcnppcncegpaaDoorKo
namespace Go.Proofs.YtllcnppcncegpaaDoor
open Go.RowKit

theorem build_when {w : World} {ops : Array Oper} {rest : List Oper} {o : Oper} {a : Act} {Q : Exit → Act → World → Prop} (hw : Region.wanted o (yielded ops a.tmps) = true) (t : TypeId) (parts : List (Nat × Operand)) (ho : o.op = .build t parts.toArray) (vs : List (Nat × Value)) (hvs : (parts.map fun p => (p.1, a.eval p.2)) = vs) (v : Value)
    (hr : (Instr.build t vs.toArray).run Tryd.prog w = .ok v w) (h : wpList Tryd.prog ops Q rest (a.put o.dst v) w) : wpList Tryd.prog ops Q (o :: rest) a w := by
  subst hvs
  exact wpList_step fun _ hK => by
    rw [if_pos hw]
    unfold Oper.wp execOp
    simp only [ho, Sem.run_bind, Sem.run_pure, List.map_toArray, hr, Result.andThen_ok]
    exact hK _ _ h
theorem load_when {w : World} {ops : Array Oper} {rest : List Oper} {o : Oper} {a : Act} {Q : Exit → Act → World → Prop} (hw : Region.wanted o (yielded ops a.tmps) = true) (t : TypeId) (x : Operand) (ho : o.op = .load t x) (vx : Value) (hx : a.eval x = vx) (v : Value)
    (hr : (Instr.loadAt t vx).run Tryd.prog w = .ok v w) (h : wpList Tryd.prog ops Q rest (a.put o.dst v) w) : wpList Tryd.prog ops Q (o :: rest) a w := by
  subst hx
  exact wpList_step fun _ hK => by
    rw [if_pos hw]
    unfold Oper.wp execOp
    simp only [ho, Sem.run_bind, hr, Result.andThen_ok]
    exact hK _ _ h
namespace S
def T0 : List (List (List UInt8)) := List.replicate 16 []
/-- A signed head that its ring's keys made. -/
structure SgOk (T : List (List (List UInt8))) (x : Sg) : Prop where
  tr : isT x.h.tree = true
  e0 : 0 ≤ x.h.epoch
  e1 : x.h.epoch < (eps T x.h.tree : Int)
  tag : x.tag = mac (keyAt T x.h.tree x.h.epoch.toNat) (hb x.h)
theorem SgOk.holds {T : List (List (List UInt8))} {x : Sg} (h : SgOk T x) : rholds T x = true := by
  have e := h.tag
  rw [rholds, h.tr, show decide (0 ≤ x.h.epoch) = true by simpa using h.e0, show decide (x.h.epoch < (eps T x.h.tree : Int)) = true by simpa using h.e1, ← e]
  simp
theorem sign_ok {T : List (List (List UInt8))} {h : Hd} (he : signE T h = 0) : SgOk T (signG T h) ∧ (signG T h).h = ep h ((eps T h.tree : Int) - 1) := by
  have ht : isT h.tree = true := by
    rw [signE] at he
    by_cases q : isT h.tree = true
    · exact q
    · rw [if_neg q] at he; omega
  have hm : eps T h.tree ≠ 0 := fun e => by rw [signE, if_pos ht, if_pos e] at he; omega
  have e : signG T h = sign (keyAt T h.tree (eps T h.tree - 1)) (ep h ((eps T h.tree : Int) - 1)) := by rw [signG, if_pos he]
  have e2 : (signG T h).h = ep h ((eps T h.tree : Int) - 1) := by rw [e, sign_root]
  refine ⟨⟨?_, ?_, ?_, ?_⟩, e2⟩
  · rw [e2]; exact ht
  · rw [e2]; show 0 ≤ (eps T h.tree : Int) - 1; omega
  · rw [e2]; show (eps T h.tree : Int) - 1 < (eps T h.tree : Int); omega
  · rw [e2, e, sign_tag]
    show _ = mac (keyAt T h.tree ((eps T h.tree : Int) - 1).toNat) _
    rw [show ((eps T h.tree : Int) - 1).toNat = eps T h.tree - 1 by omega]
theorem g0_len : g0.h.root.length = 32 ∧ g0.tag.length = 32 := ⟨zeros_length 32, zeros_length 32⟩
theorem signG_len (T : List (List (List UInt8))) (h : Hd) (hr : h.root.length = 32) : (signG T h).h.root.length = 32 ∧ (signG T h).tag.length = 32 := by
  by_cases he : signE T h = 0
  · rw [(sign_ok he).2, (sign_ok he).1.tag]
    exact ⟨hr, mac_length _ _⟩
  · rw [signG, if_neg he]
    exact g0_len
theorem turnE_0 {T : List (List (List UInt8))} {t : Int} (h : turnE T t = 0) : isT t = true ∧ eps T t ≠ 32 := by
  rw [turnE] at h
  by_cases q : isT t = true
  · refine ⟨q, fun e => ?_⟩
    rw [if_pos q, if_pos e] at h; omega
  · rw [if_neg q] at h; omega
theorem turnT_at {ks : List UInt8} {T : List (List (List UInt8))} {t : Int} {d : Nat} (h : turnE T t = 0) (hn : T.length = 16) (u : Int) (hu : isT u = true) : (turnT ks T t d).getD u.toNat [] = if u = t then T.getD t.toNat [] ++ [key ks t (eps T t : Int) d] else T.getD u.toNat [] := by
  obtain ⟨a, rfl, ha⟩ := isT_nat hu
  obtain ⟨b, rfl, hb⟩ := isT_nat (turnE_0 h).1
  rw [turnT, if_pos h, getD_set' _ _ _ _ _ (by simp; omega)]
  by_cases e : a = b
  · subst e; simp
  · rw [if_neg (by simpa using e), if_neg (by omega)]
theorem turnT_eps {ks : List UInt8} {T : List (List (List UInt8))} {t : Int} {d : Nat} (h : turnE T t = 0) (hn : T.length = 16) : eps (turnT ks T t d) t = eps T t + 1 := by
  rw [eps, turnT_at h hn t (turnE_0 h).1, if_pos rfl, List.length_append]; rfl
theorem SgOk.turn {ks : List UInt8} {T : List (List (List UInt8))} {x : Sg} (hx : SgOk T x) (t : Int) (d : Nat) (hn : T.length = 16) : SgOk (turnT ks T t d) x := by
  by_cases h : turnE T t = 0
  · have key : ∀ j, j < eps T x.h.tree → (turnT ks T t d).getD x.h.tree.toNat [] = (turnT ks T t d).getD x.h.tree.toNat [] ∧ j < eps (turnT ks T t d) x.h.tree ∧ keyAt (turnT ks T t d) x.h.tree j = keyAt T x.h.tree j := fun j hj => by
      have e := turnT_at (ks := ks) (d := d) h hn x.h.tree hx.tr
      refine ⟨rfl, ?_, ?_⟩
      · rw [eps, e]
        by_cases q : x.h.tree = t
        · rw [if_pos q, List.length_append]
          rw [eps, q] at hj; omega
        · rw [if_neg q]; exact hj
      · rw [keyAt, e, keyAt]
        by_cases q : x.h.tree = t
        · rw [if_pos q, q]
          rw [eps, q] at hj
          rw [List.getD_eq_getElem?_getD, List.getElem?_append_left hj, ← List.getD_eq_getElem?_getD]
        · rw [if_neg q]
    have h0 := hx.e0
    have h1 := hx.e1
    obtain ⟨_, k1, k2⟩ := key x.h.epoch.toNat (by omega)
    exact ⟨hx.tr, hx.e0, by omega, by rw [k2]; exact hx.tag⟩
  · rw [turnT, if_neg h]; exact hx
end S
set_option maxRecDepth 100000 in
theorem build_h17 (w : World) : (Instr.build 32 #[(0, .int .i64 1), (1, .int .i64 7)]).run Tryd.prog w = .ok (.agg (encH ⟨1, 7, 0, 0, S.zeros 32⟩).toArray) w := run_build w 32 _ _ (by kernel_rfl)
set_option maxRecDepth 100000 in
theorem build_h (w : World) (t : Int) : (Instr.build 32 #[(0, .int .i64 t)]).run Tryd.prog w = .ok (.agg (encH ⟨t, 0, 0, 0, S.zeros 32⟩).toArray) w := run_build w 32 _ _ (by kernel_rfl)
set_option maxRecDepth 100000 in
theorem build_h0 (w : World) : (Instr.build 32 #[]).run Tryd.prog w = .ok (.agg (encH S.h0).toArray) w := run_build w 32 _ _ (by kernel_rfl)
theorem h0_ok : S.h0.Ok := ⟨by decide, by decide, by decide, by decide, by decide, by decide, S.zeros_length 32⟩
def S.h17 : S.Hd := ⟨1, 7, 0, 0, S.zeros 32⟩
theorem h17_ok : S.h17.Ok := ⟨by decide, by decide, by decide, by decide, by decide, by decide, S.zeros_length 32⟩
theorem known_turn : S.turnE S.T0 1 = 0 ∧ S.turnN S.T0 1 = 0 := by decide
theorem known_sign (ks : List UInt8) : S.signE (S.turnT ks S.T0 1 5) S.h17 = 0 ∧ S.eps (S.turnT ks S.T0 1 5) 1 = 1 := by
  have e : S.eps (S.turnT ks S.T0 1 5) 1 = 1 := by rw [S.turnT_eps known_turn.1 (by decide)]; decide
  refine ⟨?_, e⟩
  rw [S.signE, show S.isT S.h17.tree = true by decide, if_pos rfl, show S.h17.tree = 1 from rfl, e]; rfl
theorem RgTo.below {B : Nat} {o o' : Rn} {w w' : World} (h : RgTo o w o' w') (hf : ∀ k, o.foot k → B ≤ k) (hB : B ≤ w.heap.size) : Below B w w' ∧ ∀ k, o'.foot k → B ≤ k :=
  ⟨h.chg.below B hB (fun k hk e => by have := hf k e; omega), fun k hk => by rcases h.own k hk with e | e; exact hf k e; omega⟩
set_option maxHeartbeats 8000000 in
set_option maxRecDepth 10000 in
theorem known_any (w : World) (hK : KAt w) : Calls Tryd.prog 13 #[] w fun e w' => e = .returned (.bool true) ∧ Below w.heap.size w w' := by
  have HK := hide hK
  have h0 := hK.pos
  clear hK
  have kc := convK w #[.int .u8 115, .int .u8 101, .int .u8 101, .int .u8 100] 4 4
  obtain ⟨A, hA⟩ : ∃ A, A = w.alloc (.cells #[.int .u8 115, .int .u8 101, .int .u8 101, .int .u8 100] 5 ((#[.int .u8 115, .int .u8 101, .int .u8 101, .int .u8 100] : Array Value).size, (#[.int .u8 115, .int .u8 101, .int .u8 101, .int .u8 100] : Array Value).size + 1)) := ⟨_, rfl⟩
  obtain ⟨bA, sA⟩ := lit_new w [115, 101, 101, 100] #[.int .u8 115, .int .u8 101, .int .u8 101, .int .u8 100] 4 rfl rfl (by simp) ((#[.int .u8 115, .int .u8 101, .int .u8 101, .int .u8 100] : Array Value).size, (#[.int .u8 115, .int .u8 101, .int .u8 101, .int .u8 100] : Array Value).size + 1)
  rw [← hA] at kc bA sA
  have BA := hide bA
  have SA := hide sA
  clear hA bA sA
  go_enter Tryd.func13, Tryd.ntmps13
  go_wp2_with fail
  refine (newRing_any _ [115, 101, 101, 100] A SA.out (by simp)).mono ?_
  rintro r w1 ⟨o, rfl, hr1, hf1, _, hb1⟩
  have R1 : Hid (RgIs w1 o [115, 101, 101, 100] S.T0) := hr1
  have F1 : Hid (∀ k, o.foot k → w.heap.size ≤ k) := fun k hk => Nat.le_trans BA.out.size (hf1 k (Or.inl hk))
  have B1 := hide (BA.out.trans (hb1.mono BA.out.size))
  clear hr1 hb1 kc SA hf1
  go_wp2_with fail
  refine (turn_any o _ S.T0 1 5 w1 R1.out (by omega) (HK.out.below B1.out h0)).mono ?_
  rintro r w2 ⟨o2, rfl, hr2, ht2⟩
  rw [known_turn.1, known_turn.2]
  obtain ⟨hb2, hf2⟩ := ht2.below F1.out B1.out.size
  have hg2 := ht2.gr
  rw [← hg2]
  have B2 := hide (B1.out.trans hb2)
  have hk := known_sign [115, 101, 101, 100]
  have R2 := hide hr2
  obtain ⟨T, hT⟩ : ∃ T, T = S.turnT [115, 101, 101, 100] S.T0 1 5 := ⟨_, rfl⟩
  rw [← hT] at R2 hk
  obtain ⟨k1, k2⟩ := hk
  have sk := S.sign_ok k1
  obtain ⟨G, hG⟩ : ∃ G, G = S.signG T S.h17 := ⟨_, rfl⟩
  rw [← hG] at sk
  have hGl := S.signG_len T S.h17 (S.zeros_length 32)
  rw [← hG] at hGl
  have hE : G.h = S.ep S.h17 0 := by rw [sk.2, show S.h17.tree = 1 from rfl, k2]; rfl
  have hGe : G.h.epoch = 0 := by rw [hE]; rfl
  have GO := hide (show G.h.Ok by rw [hE]; exact h17_ok.ep 0 (by decide) (by decide))
  have GH := hide sk.1.holds
  have GL := hide hGl
  have SE := hide k1
  have HG := hide hG
  clear hT hr2 ht2 hb2 hf2 hg2 F1 R1 B1 k1 k2 sk hGl hG hE
  go_upto_region 5 with fail
  go_wp2_with (with_reducible refine at_op { dst := some 18, op := Op.build 32 #[(0, Operand.const (Value.int IntKind.i64 1)), (1, Operand.const (Value.int IntKind.i64 7))], type := 32, pos := "law.go:26", after := #[], guard := none } ?_; refine wpList_build_as rfl 32 [(0, .const (.int .i64 1)), (1, .const (.int .i64 7))] rfl [(0, .int .i64 1), (1, .int .i64 7)] rfl _ (build_h17 w2) ?_)
  refine (ringSign_any o2 _ T S.h17 w2 R2.out h17_ok (HK.out.below B2.out h0)).mono ?_
  rintro r w3 ⟨rfl, hb3⟩
  rw [SE.out, ← HG.out]
  have R3 := hide (R2.out.below hb3)
  have B3 := hide (B2.out.trans (hb3.mono B2.out.size))
  obtain ⟨A4, w4, ha4, hs4, hr4, hb4, -⟩ := lay_g w3 G GL.out.1 GL.out.2
  obtain ⟨gs, hgs⟩ : ∃ g, g = w3.heap.size := ⟨_, rfl⟩
  rw [← hgs] at ha4 hs4 hr4
  have R4 := hide (R3.out.below hb4)
  have B4 := hide (B3.out.trans (hb4.mono B3.out.size))
  have Q4 := hide hr4
  clear hb3 R2 B2 R3 B3 hgs hr4 hb4 HG
  go_upto_region 6 with (first | (with_reducible refine at_op { dst := some 4, op := Op.alloc 34, type := 0, pos := "law.go:26", after := #[], guard := none } ?_; refine wpList_alloc_known rfl 34 rfl _ _ ha4 ?_) | (with_reducible refine at_op { dst := none, op := Op.store 34 (Operand.tmp 4) (Operand.tmp 20), type := 0, pos := "law.go:26", after := #[{ on := 6, ground := Ground.data }, { on := 4, ground := Ground.data }, { on := 2, ground := Ground.chain }, { on := 0, ground := Ground.phase }, { on := 1, ground := Ground.phase }, { on := 2, ground := Ground.phase }, { on := 3, ground := Ground.phase }, { on := 4, ground := Ground.phase }, { on := 5, ground := Ground.textOnly Departure.lateStores }, { on := 6, ground := Ground.phase }], guard := none } ?_; refine wpList_store_as rfl 34 (.tmp 4) (.tmp 20) rfl (.pointer (some ⟨gs, 0, none⟩)) (.agg (encG G).toArray) rfl rfl w4 hs4 ?_))
  clear ha4 hs4
  obtain ⟨c0, c1, c2, c3⟩ := g_cells Q4.out
  rw [hGe] at c1
  have ld := load_g Q4.out GL.out.1 GL.out.2
  go_wp2_with (with_reducible refine at_op { dst := some 40, op := Op.load 34 (Operand.tmp 4), type := 34, pos := "law.go:27", after := #[{ on := 16, ground := Ground.guard }], guard := some (16, true) } ?_; refine load_when rfl 34 (.tmp 4) rfl (.pointer (some ⟨gs, 0, none⟩)) rfl (.agg (encG G).toArray) ld ?_)
  refine (ringHolds_any o2 _ T G w4 R4.out GO.out GL.out.2 (HK.out.below B4.out h0)).mono ?_
  rintro r w5 ⟨rfl, hb5⟩
  rw [GH.out]
  have B5 := hide (B4.out.trans (hb5.mono B4.out.size))
  clear hb5 R4 Q4 c0 c1 c2 c3 ld
  go_wp2_with (with_reducible refine at_op { dst := some 44, op := Op.build 32 #[], type := 32, pos := "law.go:27", after := #[{ on := 21, ground := Ground.guard }], guard := some (21, true) } ?_; refine build_when rfl 32 [] rfl [] rfl (.agg (encH S.h0).toArray) (build_h0 w5) ?_)
  refine (bytes_any S.h0 w5 h0_ok).mono ?_
  rintro r w6 ⟨gb, rfl, _, _, hb6⟩
  have B6 := hide (B5.out.trans (hb6.mono B5.out.size))
  clear hb6
  go_wp2_with fail
  go_ret
  exact ⟨rfl, B6.out⟩
end Go.Proofs.YtllcnppcncegpaaDoor
