/- A ring of the call's own; KeysNumbers. -/
import Derived.Test.YtllcnppcncegpaaDoorKq
namespace Go.Proofs.YtllcnppcncegpaaDoor
open Go.RowKit

/-- A ring that was made behind a world of size B. -/
def Ring (B : Nat) (w : World) (gr : Nat) (ks : List UInt8) (T : List (List (List UInt8))) : Prop := ∃ o, RgIs w o ks T ∧ o.gr = gr ∧ ∀ k, o.foot k → B ≤ k
/-- Nothing but rings and digests changes. -/
def Keeps (w w' : World) : Prop := ∀ (g : Nat) (c : Array Value) (t : TypeId) (p : Nat × Nat), t ≠ 72 → t ≠ 30 → w.heap[g]? = some (.cells c t p) → w'.heap[g]? = some (.cells c t p)
theorem Keeps.below {w w' : World} (h : Below w.heap.size w w') : Keeps w w' := fun g _ _ _ _ _ hg => (h.block g (block_lt_of_row hg)).trans hg
theorem Keeps.trans {a b c : World} (h : Keeps a b) (k : Keeps b c) : Keeps a c := fun g x t p h1 h2 hg => k g x t p h1 h2 (h g x t p h1 h2 hg)
theorem RgIs.apart {w : World} {o : Rn} {ks : List UInt8} {T : List (List (List UInt8))} (h : RgIs w o ks T) {g : Nat} {c : Array Value} {t : TypeId} {p : Nat × Nat} (hg : w.heap[g]? = some (.cells c t p)) (h1 : t ≠ 72) (h2 : t ≠ 30) : ¬ o.foot g := fun e => by
  rcases e with rfl | ⟨i, hi, e⟩
  · rw [h.row] at hg
    simp only [Option.some.injEq, Obj.cells.injEq] at hg
    exact h1 hg.2.1.symm
  · obtain ⟨_, _, cur, hc⟩ := (h.rows i hi).blk e
    rw [hc] at hg
    simp only [Option.some.injEq, Obj.cells.injEq] at hg
    exact h2 hg.2.1.symm
theorem Ring.below {B gr : Nat} {w w' : World} {ks : List UInt8} {T : List (List (List UInt8))} (h : Ring B w gr ks T) (hb : Below w.heap.size w w') : Ring B w' gr ks T := by
  obtain ⟨o, h1, h2, h3⟩ := h
  exact ⟨o, h1.below hb, h2, h3⟩
theorem Ring.tn {B gr : Nat} {w : World} {ks : List UInt8} {T : List (List (List UInt8))} (h : Ring B w gr ks T) : T.length = 16 := by
  obtain ⟨o, h1, _⟩ := h
  exact h1.tn
theorem newRing_r (v : Value) (ks : List UInt8) (w : World) (hv : SliceAt w v ks) (hl : ks.length ≤ 140737488355000) :
   Calls Tryd.prog 8 #[v] w fun e w' => ∃ gr, e = .returned (.pointer (some ⟨gr, 0, none⟩)) ∧ Ring w.heap.size w' gr ks S.T0 ∧ Below w.heap.size w w' :=
  (newRing_any v ks w hv hl).mono (by
    rintro e w' ⟨o, rfl, h1, h2, _, h4⟩
    exact ⟨o.gr, rfl, ⟨o, h1, rfl, fun k hk => h2 k (Or.inl hk)⟩, h4⟩)
theorem turn_r {B gr : Nat} {ks : List UInt8} {T : List (List (List UInt8))} (t : Int) (draw : Nat) (w : World) (h : Ring B w gr ks T) (hd : draw < 4294967296) (hB : B ≤ w.heap.size) (hK : KAt w) :
   Calls Tryd.prog 9 #[.pointer (some ⟨gr, 0, none⟩), .int .i64 t, .int .u32 (draw : Int)] w fun e w' => e = .returned (.tuple #[.int .i64 (S.turnN T t), .int .i64 (S.turnE T t)]) ∧ Ring B w' gr ks (S.turnT ks T t draw) ∧ Below B w w' ∧ Keeps w w' := by
  obtain ⟨o, h1, rfl, h3⟩ := h
  refine (turn_any o ks T t draw w h1 hd hK).mono ?_
  rintro e w' ⟨o', rfl, k1, k2⟩
  obtain ⟨q1, q2⟩ := k2.below h3 hB
  exact ⟨rfl, ⟨o', k1, k2.gr, q2⟩, q1, fun g c ty p t1 t2 hg => k2.chg.row hg (h1.apart hg t1 t2)⟩
theorem epoch_r {B gr : Nat} {ks : List UInt8} {T : List (List (List UInt8))} (t : Int) (w : World) (h : Ring B w gr ks T) :
   Calls Tryd.prog 11 #[.pointer (some ⟨gr, 0, none⟩), .int .i64 t] w fun e w' => e = .returned (.tuple #[.int .i64 (S.epN T t), .bool (S.epB T t)]) ∧ w = w' := by
  obtain ⟨o, h1, rfl, _⟩ := h
  exact epoch_any o ks T t w h1
theorem sign_r {B gr : Nat} {ks : List UInt8} {T : List (List (List UInt8))} (h : S.Hd) (w : World) (ho : Ring B w gr ks T) (hok : h.Ok) (hK : KAt w) :
   Calls Tryd.prog 10 #[.pointer (some ⟨gr, 0, none⟩), .agg (encH h).toArray] w fun e w' => e = .returned (.tuple #[.agg (encG (S.signG T h)).toArray, .int .i64 (S.signE T h)]) ∧ Below w.heap.size w w' := by
  obtain ⟨o, h1, rfl, _⟩ := ho
  exact ringSign_any o ks T h w h1 hok hK
theorem holds_r {B gr : Nat} {ks : List UInt8} {T : List (List (List UInt8))} (x : S.Sg) (w : World) (ho : Ring B w gr ks T) (hok : x.h.Ok) (ht : x.tag.length = 32) (hK : KAt w) :
   Calls Tryd.prog 12 #[.pointer (some ⟨gr, 0, none⟩), .agg (encG x).toArray] w fun e w' => e = .returned (.bool (S.rholds T x)) ∧ Below w.heap.size w w' := by
  obtain ⟨o, h1, rfl, _⟩ := ho
  exact ringHolds_any o ks T x w h1 hok ht hK
theorem nilAt (w : World) : SliceAt w (.slice none 0 0) [] := Or.inl ⟨rfl, rfl⟩
def S.hT (t : Int) : S.Hd := ⟨t, 0, 0, 0, S.zeros 32⟩
theorem hT_ok (t : Int) (h1 : -9223372036854775808 ≤ t) (h2 : t ≤ 9223372036854775807) : (S.hT t).Ok := ⟨h1, h2, (show -9223372036854775808 ≤ (0 : Int) by decide), (show (0 : Int) ≤ 9223372036854775807 by decide), (show 0 < 18446744073709551616 by decide), (show 0 < 18446744073709551616 by decide), S.zeros_length 32⟩
theorem build_hT (w : World) (t : Int) : (Instr.build 32 #[(0, .int .i64 t)]).run Tryd.prog w = .ok (.agg (encH (S.hT t)).toArray) w := build_h w t
/-- Another tree is named in a signed head. -/
def S.Sg.atTree (x : S.Sg) (t : Int) : S.Sg := ⟨⟨t, x.h.epoch, x.h.size, x.h.clock, x.h.root⟩, x.tag⟩
theorem tree_row {w : World} {g : Nat} {x : S.Sg} (t : Int) (hr : w.heap[g]? = some (.cells (encG x).toArray 34 (0, 0))) : (w.setCell ⟨g, 0, none⟩ (.int .i64 t)).heap[g]? = some (.cells (encG (x.atTree t)).toArray 34 (0, 0)) := by
  rw [heap_setCell_same _ _ _ _ _ _ hr]
  congr 2
theorem n_turn : S.turnE S.T0 (-1) = 1 ∧ S.turnE S.T0 16 = 1 ∧ S.signE S.T0 (S.hT 2) = 23 ∧ S.signE S.T0 (S.hT 99) = 1 ∧ S.epB S.T0 2 = false ∧ S.epB S.T0 (-1) = false ∧ S.turnE S.T0 2 = 0 ∧ S.eps S.T0 2 = 0 ∧ S.eps S.T0 3 = 0 := by decide
theorem turnT_no {ks : List UInt8} {T : List (List (List UInt8))} {t : Int} {d : Nat} (h : S.turnE T t ≠ 0) : S.turnT ks T t d = T := by rw [S.turnT, if_neg h]
theorem turnE_few {T : List (List (List UInt8))} {t : Int} (ht : S.isT t = true) (h : S.eps T t ≠ 32) : S.turnE T t = 0 := by rw [S.turnE, if_pos ht, if_neg h]
theorem turnT_other {ks : List UInt8} {T : List (List (List UInt8))} {t u : Int} {d : Nat} (hn : T.length = 16) (hu : S.isT u = true) (hne : u ≠ t) : S.eps (S.turnT ks T t d) u = S.eps T u := by
  by_cases h : S.turnE T t = 0
  · rw [S.eps, S.turnT_at h hn u hu, if_neg hne]; rfl
  · rw [turnT_no h]
set_option maxHeartbeats 16000000 in
set_option maxRecDepth 10000 in
theorem keysNumbers_walk (w : World) (hK : KAt w) : Calls Tryd.prog 3 #[] w fun e w' => e = .returned (.bool true) ∧ Below w.heap.size w w' := by
  have HK := hide hK
  have h0 := hK.pos
  clear hK
  obtain ⟨n1, n2, n3, n4, n5, n6, n7, n8, n9⟩ := n_turn
  have N1 := hide n1
  have N2 := hide n2
  have N3 := hide n3
  have N4 := hide n4
  have N5 := hide n5
  have N6 := hide n6
  have N7 := hide n7
  have N8 := hide n8
  have N9 := hide n9
  clear n1 n2 n3 n4 n5 n6 n7 n8 n9
  go_enter Tryd.func3, Tryd.ntmps3
  go_wp2_with fail
  refine (newRing_r _ [] w (nilAt w) (by simp)).mono ?_
  rintro r w1 ⟨gr, rfl, hr1, hb1⟩
  have R1 := hide hr1
  have B1 := hide hb1
  clear hr1 hb1
  go_wp2_with fail
  refine (turn_r (-1) 0 w1 R1.out (by omega) B1.out.size (HK.out.below B1.out h0)).mono ?_
  rintro r w2 ⟨rfl, hr, hb, hk⟩
  have R2 := hide hr
  have B2 := hide (B1.out.trans hb)
  have K2 := hide hk
  clear hr hb hk R1 B1
  rw [turnT_no (by rw [N1.out]; omega)] at R2
  rw [N1.out]
  obtain ⟨tn1, htn1⟩ : ∃ x, x = S.turnN S.T0 (-1) := ⟨_, rfl⟩
  rw [← htn1]
  clear htn1 K2
  go_wp2_with fail
  refine (turn_r (16) 0 w2 R2.out (by omega) B2.out.size (HK.out.below B2.out h0)).mono ?_
  rintro r w3 ⟨rfl, hr, hb, hk⟩
  have R3 := hide hr
  have B3 := hide (B2.out.trans hb)
  have K3 := hide hk
  clear hr hb hk R2 B2
  rw [turnT_no (by rw [N2.out]; omega)] at R3
  rw [N2.out]
  obtain ⟨tn2, htn2⟩ : ∃ x, x = S.turnN S.T0 (16) := ⟨_, rfl⟩
  rw [← htn2]
  clear htn2 K3
  go_upto_region 6 with fail
  go_wp2_with (with_reducible refine at_op { dst := some 37, op := Op.build 32 #[(0, Operand.const (Value.int IntKind.i64 2))], type := 32, pos := "law.go:38", after := #[], guard := none } ?_; refine wpList_build_as rfl 32 [(0, .const (.int .i64 2))] rfl [(0, .int .i64 2)] rfl (.agg (encH (S.hT 2)).toArray) (build_hT w3 2) ?_)
  refine (sign_r (S.hT 2) w3 R3.out (hT_ok 2 (by decide) (by decide)) (HK.out.below B3.out h0)).mono ?_
  rintro r w3a ⟨rfl, hb⟩
  rw [N3.out]
  have hGl := S.signG_len S.T0 (S.hT 2) (S.zeros_length 32)
  obtain ⟨G3, hG⟩ : ∃ G, G = S.signG S.T0 (S.hT 2) := ⟨_, rfl⟩
  rw [← hG] at hGl ⊢
  obtain ⟨A4, w4, ha4, hs4, hr4, hb4, -⟩ := lay_g w3a G3 hGl.1 hGl.2
  obtain ⟨g6, hgs⟩ : ∃ g, g = w3a.heap.size := ⟨_, rfl⟩
  rw [← hgs] at ha4 hs4 hr4
  have R4 := hide ((R3.out.below hb).below hb4)
  have B4 := hide ((B3.out.trans (hb.mono B3.out.size)).trans (hb4.mono (B3.out.trans (hb.mono B3.out.size)).size))
  have Qg6 := hide hr4
  have HG3 := hide hG
  clear hb hb4 hr4 hgs hG R3 B3
  go_upto_region 7 with (first | (with_reducible refine at_op { dst := some 6, op := Op.alloc 34, type := 0, pos := "law.go:38", after := #[], guard := none } ?_; refine wpList_alloc_known rfl 34 rfl _ _ ha4 ?_) | (with_reducible refine at_op { dst := none, op := Op.store 34 (Operand.tmp 6) (Operand.tmp 39), type := 0, pos := "law.go:38", after := #[{ on := 6, ground := Ground.data }, { on := 4, ground := Ground.data }, { on := 2, ground := Ground.chain }, { on := 0, ground := Ground.phase }, { on := 1, ground := Ground.phase }, { on := 2, ground := Ground.phase }, { on := 3, ground := Ground.phase }, { on := 4, ground := Ground.phase }, { on := 5, ground := Ground.textOnly Departure.lateStores }, { on := 6, ground := Ground.phase }], guard := none } ?_; refine wpList_store_as rfl 34 (.tmp 6) (.tmp 39) rfl (.pointer (some ⟨g6, 0, none⟩)) (.agg (encG G3).toArray) rfl rfl w4 hs4 ?_))
  clear ha4 hs4 A4
  clear Qg6 HG3 hGl w3a
  go_upto_region 7 with fail
  go_wp2_with (with_reducible refine at_op { dst := some 43, op := Op.build 32 #[(0, Operand.const (Value.int IntKind.i64 99))], type := 32, pos := "law.go:39", after := #[], guard := none } ?_; refine wpList_build_as rfl 32 [(0, .const (.int .i64 99))] rfl [(0, .int .i64 99)] rfl (.agg (encH (S.hT 99)).toArray) (build_hT w4 99) ?_)
  refine (sign_r (S.hT 99) w4 R4.out (hT_ok 99 (by decide) (by decide)) (HK.out.below B4.out h0)).mono ?_
  rintro r w4a ⟨rfl, hb⟩
  rw [N4.out]
  have hGl := S.signG_len S.T0 (S.hT 99) (S.zeros_length 32)
  obtain ⟨G4, hG⟩ : ∃ G, G = S.signG S.T0 (S.hT 99) := ⟨_, rfl⟩
  rw [← hG] at hGl ⊢
  obtain ⟨A4, w5, ha4, hs4, hr4, hb4, -⟩ := lay_g w4a G4 hGl.1 hGl.2
  obtain ⟨g8, hgs⟩ : ∃ g, g = w4a.heap.size := ⟨_, rfl⟩
  rw [← hgs] at ha4 hs4 hr4
  have R5 := hide ((R4.out.below hb).below hb4)
  have B5 := hide ((B4.out.trans (hb.mono B4.out.size)).trans (hb4.mono (B4.out.trans (hb.mono B4.out.size)).size))
  have Qg8 := hide hr4
  have HG4 := hide hG
  clear hb hb4 hr4 hgs hG R4 B4
  go_upto_region 8 with (first | (with_reducible refine at_op { dst := some 8, op := Op.alloc 34, type := 0, pos := "law.go:39", after := #[], guard := none } ?_; refine wpList_alloc_known rfl 34 rfl _ _ ha4 ?_) | (with_reducible refine at_op { dst := none, op := Op.store 34 (Operand.tmp 8) (Operand.tmp 45), type := 0, pos := "law.go:39", after := #[{ on := 6, ground := Ground.data }, { on := 4, ground := Ground.data }, { on := 2, ground := Ground.chain }, { on := 0, ground := Ground.phase }, { on := 1, ground := Ground.phase }, { on := 2, ground := Ground.phase }, { on := 3, ground := Ground.phase }, { on := 4, ground := Ground.phase }, { on := 5, ground := Ground.textOnly Departure.lateStores }, { on := 6, ground := Ground.phase }], guard := none } ?_; refine wpList_store_as rfl 34 (.tmp 8) (.tmp 45) rfl (.pointer (some ⟨g8, 0, none⟩)) (.agg (encG G4).toArray) rfl rfl w5 hs4 ?_))
  clear ha4 hs4 A4
  clear Qg8 HG4 hGl w4a
  go_wp2_with fail
  refine (epoch_r (2) w5 R5.out).mono ?_
  rintro r _ ⟨rfl, rfl⟩
  rw [N5.out]
  obtain ⟨e5, he5⟩ : ∃ x, x = S.epN S.T0 2 := ⟨_, rfl⟩
  rw [← he5]
  clear he5
  go_wp2_with fail
  refine (epoch_r (-1) w5 R5.out).mono ?_
  rintro r _ ⟨rfl, rfl⟩
  rw [N6.out]
  obtain ⟨e6, he6⟩ : ∃ x, x = S.epN S.T0 (-1) := ⟨_, rfl⟩
  rw [← he6]
  clear he6
  go_wp2_with fail
  refine (turn_r (2) 1 w5 R5.out (by omega) B5.out.size (HK.out.below B5.out h0)).mono ?_
  rintro r w6 ⟨rfl, hr, hb, hk⟩
  have R6 := hide hr
  have B6 := hide (B5.out.trans hb)
  have K6 := hide hk
  clear hr hb hk R5 B5
  rw [N7.out]
  obtain ⟨tn5, htn5⟩ : ∃ x, x = S.turnN S.T0 2 := ⟨_, rfl⟩
  rw [← htn5]
  have hm1 := S.turnT_eps (ks := []) (d := 1) N7.out (by decide)
  have hm3 := turnT_other (ks := []) (T := S.T0) (t := 2) (u := 3) (d := 1) (by decide) (by decide) (by decide)
  rw [N8.out] at hm1
  rw [N9.out] at hm3
  obtain ⟨T1, hT1⟩ : ∃ T, T = S.turnT [] S.T0 2 1 := ⟨_, rfl⟩
  rw [← hT1] at R6 hm1 hm3
  have s1 : S.signE T1 (S.hT 2) = 0 := by rw [S.signE, if_pos (by decide), if_neg (by rw [show (S.hT 2).tree = 2 from rfl, hm1]; omega)]
  have S1 := hide s1
  have M1 := hide hm1
  have M3 := hide hm3
  clear htn5 K6 hT1 hm1 hm3 s1
  go_upto_region 11 with fail
  go_wp2_with (with_reducible refine at_op { dst := some 61, op := Op.build 32 #[(0, Operand.const (Value.int IntKind.i64 2))], type := 32, pos := "law.go:43", after := #[], guard := none } ?_; refine wpList_build_as rfl 32 [(0, .const (.int .i64 2))] rfl [(0, .int .i64 2)] rfl (.agg (encH (S.hT 2)).toArray) (build_hT w6 2) ?_)
  refine (sign_r (S.hT 2) w6 R6.out (hT_ok 2 (by decide) (by decide)) (HK.out.below B6.out h0)).mono ?_
  rintro r w6a ⟨rfl, hb⟩
  rw [S1.out]
  have hGl := S.signG_len T1 (S.hT 2) (S.zeros_length 32)
  obtain ⟨G6, hG⟩ : ∃ G, G = S.signG T1 (S.hT 2) := ⟨_, rfl⟩
  rw [← hG] at hGl ⊢
  obtain ⟨A4, w7, ha4, hs4, hr4, hb4, -⟩ := lay_g w6a G6 hGl.1 hGl.2
  obtain ⟨g14, hgs⟩ : ∃ g, g = w6a.heap.size := ⟨_, rfl⟩
  rw [← hgs] at ha4 hs4 hr4
  have R7 := hide ((R6.out.below hb).below hb4)
  have B7 := hide ((B6.out.trans (hb.mono B6.out.size)).trans (hb4.mono (B6.out.trans (hb.mono B6.out.size)).size))
  have Qg14 := hide hr4
  have HG6 := hide hG
  clear hb hb4 hr4 hgs hG R6 B6
  go_upto_region 12 with (first | (with_reducible refine at_op { dst := some 14, op := Op.alloc 34, type := 0, pos := "law.go:43", after := #[], guard := none } ?_; refine wpList_alloc_known rfl 34 rfl _ _ ha4 ?_) | (with_reducible refine at_op { dst := none, op := Op.store 34 (Operand.tmp 14) (Operand.tmp 63), type := 0, pos := "law.go:43", after := #[{ on := 6, ground := Ground.data }, { on := 4, ground := Ground.data }, { on := 2, ground := Ground.chain }, { on := 0, ground := Ground.phase }, { on := 1, ground := Ground.phase }, { on := 2, ground := Ground.phase }, { on := 3, ground := Ground.phase }, { on := 4, ground := Ground.phase }, { on := 5, ground := Ground.textOnly Departure.lateStores }, { on := 6, ground := Ground.phase }], guard := none } ?_; refine wpList_store_as rfl 34 (.tmp 14) (.tmp 63) rfl (.pointer (some ⟨g14, 0, none⟩)) (.agg (encG G6).toArray) rfl rfl w7 hs4 ?_))
  clear ha4 hs4 A4
  have sk := S.sign_ok S1.out
  rw [← HG6.out] at sk
  have hE : G6.h = S.ep (S.hT 2) 0 := by rw [sk.2, show (S.hT 2).tree = 2 from rfl, M1.out]; rfl
  have GO := hide (show G6.h.Ok by rw [hE]; exact (hT_ok 2 (by decide) (by decide)).ep 0 (by decide) (by decide))
  have SK := hide sk.1
  have GL := hide hGl
  clear sk hE hGl HG6 w6a
  go_wp2_with fail
  have TL := hide R7.out.tn
  refine (turn_r (2) 2 w7 R7.out (by omega) B7.out.size (HK.out.below B7.out h0)).mono ?_
  rintro r w8 ⟨rfl, hr, hb, hk⟩
  have R8 := hide hr
  have B8 := hide (B7.out.trans hb)
  have K8 := hide hk
  clear hr hb hk R7 B7
  have t9 : S.turnE T1 2 = 0 := turnE_few (by decide) (by rw [M1.out]; omega)
  rw [t9]
  obtain ⟨tn7, htn7⟩ : ∃ x, x = S.turnN T1 2 := ⟨_, rfl⟩
  rw [← htn7]
  have tl := R8.out.tn
  have hm1 := S.turnT_eps (ks := []) (d := 2) t9 TL.out
  have hm3 := turnT_other (ks := []) (T := T1) (t := 2) (u := 3) (d := 2) TL.out (by decide) (by decide)
  have sk := SK.out.turn (ks := []) 2 2 TL.out
  rw [M1.out] at hm1
  rw [M3.out] at hm3
  obtain ⟨T2, hT2⟩ : ∃ T, T = S.turnT [] T1 2 2 := ⟨_, rfl⟩
  rw [← hT2] at R8 hm1 hm3 sk tl
  replace Qg14 := hide (K8.out _ _ _ _ (by decide) (by decide) Qg14.out)
  replace SK := hide sk
  have P1 := hide hm1
  have P3 := hide hm3
  clear htn7 K8 hT2 hm1 hm3 sk t9 M1 M3 TL tl
  have ld := load_g Qg14.out GL.out.1 GL.out.2
  obtain ⟨A4, w9, ha4, hs4, hr4, hb4, -⟩ := lay_g w8 G6 GL.out.1 GL.out.2
  obtain ⟨g16, hgs⟩ : ∃ g, g = w8.heap.size := ⟨_, rfl⟩
  rw [← hgs] at ha4 hs4 hr4
  have Q14 := hide ((hb4.block _ (block_lt_of_row Qg14.out)).trans Qg14.out)
  have R9 := hide (R8.out.below hb4)
  have B9 := hide (B8.out.trans (hb4.mono B8.out.size))
  have G16 := hide (show w.heap.size ≤ g16 by rw [hgs]; exact B8.out.size)
  have NE := hide (show g14 ≠ g16 by have := block_lt_of_row Qg14.out; omega)
  have Q16 := hide hr4
  go_upto_region 14 with (first | (with_reducible refine at_op { dst := some 67, op := Op.load 34 (Operand.tmp 14), type := 34, pos := "law.go:45", after := #[], guard := none } ?_; refine wpList_load_as rfl 34 (.tmp 14) rfl (.pointer (some ⟨g14, 0, none⟩)) rfl (.agg (encG G6).toArray) ld ?_) | (with_reducible refine at_op { dst := some 16, op := Op.alloc 34, type := 0, pos := "law.go:45", after := #[], guard := none } ?_; refine wpList_alloc_known rfl 34 rfl _ _ ha4 ?_) | (with_reducible refine at_op { dst := none, op := Op.store 34 (Operand.tmp 16) (Operand.tmp 67), type := 0, pos := "law.go:45", after := #[{ on := 1, ground := Ground.data }, { on := 0, ground := Ground.data }, { on := 0, ground := Ground.phase }, { on := 1, ground := Ground.phase }], guard := none } ?_; refine wpList_store_as rfl 34 (.tmp 16) (.tmp 67) rfl (.pointer (some ⟨g16, 0, none⟩)) (.agg (encG G6).toArray) rfl rfl w9 hs4 ?_))
  clear ld ha4 hs4 hr4 hb4 hgs Qg14 R8 B8
  obtain ⟨c0, c1, c2, c3⟩ := g_cells Q16.out
  have f1 := frozen_of_row _ _ 0 _ _ Q16.out
  go_upto_region 15 with fail
  generalize hX : w9.setCell _ _ = w10
  have X16 : Hid (w10.heap[g16]? = some (.cells (encG (G6.atTree 3)).toArray 34 (0, 0))) := by rw [← hX]; exact tree_row 3 Q16.out
  have cX : Chg (fun k => k = g16) w9 w10 := by rw [← hX]; exact (Chg.refl _ _).setCell _ _ _ (fun _ => rfl)
  have X14 : Hid (w10.heap[g14]? = some (.cells (encG G6).toArray 34 (0, 0))) := cX.row Q14.out NE.out
  have R10 : Hid (Ring w.heap.size w10 gr [] T2) := by
    obtain ⟨o, h1, h2, h3⟩ := R9.out
    refine ⟨o, h1.chg cX (fun k hk e => (h1.apart Q16.out (by decide) (by decide)) (e ▸ hk)) (fun k hk e => ?_), h2, h3⟩
    have q := Q16.out
    rcases h1.seed.2 with ⟨e2, _⟩ | ⟨g, cap, cur, e2, _, hgr, _⟩
    · rw [e2] at hk; cases hk
    · rw [e2] at hk
      simp only [Value.ownBlock, Option.some.injEq] at hk
      rw [hk, e, q] at hgr
      simp at hgr
  have B10 := hide (B9.out.trans (cX.below w.heap.size B9.out.size (fun k hk e => by have := G16.out; omega)))
  have X3 : Hid ((G6.atTree 3).h.Ok) := ⟨(show -9223372036854775808 ≤ (3 : Int) by decide), (show (3 : Int) ≤ 9223372036854775807 by decide), GO.out.e1, GO.out.e2, GO.out.s2, GO.out.c2, GO.out.r⟩
  clear hX cX Q14 Q16 R9 B9 c0 c1 c2 c3 f1 NE G16
  have b10 : S.epB T2 2 = true := by rw [S.epB, show S.isT 2 = true by decide, P1.out]; rfl
  have m10 : S.epN T2 2 = 1 := by rw [S.epN, b10, P1.out]; rfl
  have BB10 := hide b10
  have MM10 := hide m10
  clear b10 m10
  go_wp2_with fail
  refine (epoch_r 2 w10 R10.out).mono ?_
  rintro r _ ⟨rfl, rfl⟩
  rw [BB10.out, MM10.out]
  go_wp2_with fail
  go_loopg [19] 30 (fun gk s19 wr => ∃ (i : Nat) (T : List (List (List UInt8))), i + gk = 32 ∧ 2 ≤ i ∧ s19 = .int .i64 (i : Int) ∧ Hid (Ring w.heap.size wr gr [] T) ∧ Hid (S.eps T 2 = i) ∧ Hid (S.eps T 3 = 0) ∧ Hid (S.SgOk T G6) ∧ Hid (wr.heap[g14]? = some (.cells (encG G6).toArray 34 (0, 0))) ∧ Hid (wr.heap[g16]? = some (.cells (encG (G6.atTree 3)).toArray 34 (0, 0))) ∧ Hid (Below w.heap.size w wr))
  case atStart => exact ⟨2, T2, by omega, by omega, rfl, R10, P1, P3, SK, X14, X16, B10⟩
  case round =>
    clear R10 P1 P3 SK X14 X16 B10 BB10 MM10
    obtain ⟨i, T, hi, hi2, rfl, RR, M2, M3, SK, Q14, Q16, BW⟩ := hrel
    cases gk with
    | zero =>
      obtain rfl : i = 32 := by omega
      have q : ¬ ((32 : Nat) : Int) < 32 := by omega
      have t20 : S.turnE T 2 = 4 := by rw [S.turnE, if_pos (by decide), if_pos M2.out]
      have T20 := hide t20
      clear t20 hi
      go_upto_region 20 with fail
      clear q
      go_wp2_with fail
      refine (turn_r 2 0 wr RR.out (by omega) BW.out.size (HK.out.below BW.out h0)).mono ?_
      rintro r v1 ⟨rfl, hr, hb, hk⟩
      rw [T20.out]
      obtain ⟨tnz, htnz⟩ : ∃ x, x = S.turnN T 2 := ⟨_, rfl⟩
      rw [← htnz]
      rw [turnT_no (by rw [T20.out]; omega)] at hr
      have RV := hide hr
      have BV := hide (BW.out.trans hb)
      have V14 := hide (hk _ _ _ _ (by decide) (by decide) Q14.out)
      have V16 := hide (hk _ _ _ _ (by decide) (by decide) Q16.out)
      have ld1 := load_g V14.out GL.out.1 GL.out.2
      clear hr hb hk htnz RR BW Q14 Q16 T20
      go_wp2_with (with_reducible refine at_op { dst := some 119, op := Op.load 34 (Operand.tmp 14), type := 34, pos := "law.go:52", after := #[{ on := 29, ground := Ground.guard }], guard := some (29, true) } ?_; refine load_when rfl 34 (.tmp 14) rfl (.pointer (some ⟨g14, 0, none⟩)) rfl (.agg (encG G6).toArray) ld1 ?_)
      refine (holds_r G6 v1 RV.out GO.out GL.out.2 (HK.out.below BV.out h0)).mono ?_
      rintro r v2 ⟨rfl, hb⟩
      rw [SK.out.holds]
      have R2 := hide (RV.out.below hb)
      have B2 := hide (BV.out.trans (hb.mono BV.out.size))
      have ld2 := load_g (x := G6.atTree 3) ((hb.block _ (block_lt_of_row V16.out)).trans V16.out) GL.out.1 GL.out.2
      clear hb RV BV V14 V16 ld1
      go_wp2_with (with_reducible refine at_op { dst := some 124, op := Op.load 34 (Operand.tmp 16), type := 34, pos := "law.go:52", after := #[{ on := 34, ground := Ground.guard }], guard := some (34, true) } ?_; refine load_when rfl 34 (.tmp 16) rfl (.pointer (some ⟨g16, 0, none⟩)) rfl (.agg (encG (G6.atTree 3)).toArray) ld2 ?_)
      refine (holds_r (G6.atTree 3) v2 R2.out X3.out GL.out.2 (HK.out.below B2.out h0)).mono ?_
      rintro r v3 ⟨rfl, hb⟩
      have hno : S.rholds T (G6.atTree 3) = false := by
        have e1 := SK.out.e0
        rw [S.rholds, show S.eps T (G6.atTree 3).h.tree = 0 from M3.out, show decide ((G6.atTree 3).h.epoch < ((0 : Nat) : Int)) = false by simp; exact e1]; simp
      rw [hno]
      have B3 := hide (B2.out.trans (hb.mono B2.out.size))
      clear hb hno R2 B2 ld2
      go_wp2_with fail
      refine (known_any v3 (HK.out.below B3.out h0)).mono ?_
      rintro r v4 ⟨rfl, hb⟩
      have B4 := hide (B3.out.trans (hb.mono B3.out.size))
      clear hb
      go_wp2_with fail
      go_ret
      exact ⟨rfl, B4.out⟩
    | succ gO =>
      have q : (i : Int) < 32 := by omega
      have q1 : IntKind.i64.wrap ((i : Int) + 1) = (i : Int) + 1 := by rw [IntKind.wrap_i64]; omega
      have q2 : IntKind.u32.wrap (i : Int) = (i : Int) := by rw [IntKind.wrap_u32']; omega
      have t2 : S.turnE T 2 = 0 := turnE_few (by decide) (by rw [M2.out]; omega)
      have TT := hide t2
      have TL := hide RR.out.tn
      clear t2
      go_wp2_with fail
      refine (turn_r 2 i wr RR.out (by omega) BW.out.size (HK.out.below BW.out h0)).mono ?_
      rintro r v1 ⟨rfl, hr, hb, hk⟩
      have M2' := hide ((S.turnT_eps (ks := []) (d := i) TT.out TL.out).trans (by rw [M2.out]))
      have M3' := hide ((turnT_other (ks := []) (T := T) (t := 2) (u := 3) (d := i) TL.out (by decide) (by decide)).trans M3.out)
      have SK' := hide (SK.out.turn (ks := []) 2 i TL.out)
      have RV := hide hr
      have BV := hide (BW.out.trans hb)
      have V14 := hide (hk _ _ _ _ (by decide) (by decide) Q14.out)
      have V16 := hide (hk _ _ _ _ (by decide) (by decide) Q16.out)
      obtain ⟨T', hT'⟩ : ∃ T', T' = S.turnT [] T 2 i := ⟨_, rfl⟩
      rw [← hT'] at RV M2' M3' SK'
      obtain ⟨tnz, htnz⟩ : ∃ x, x = S.turnN T 2 := ⟨_, rfl⟩
      obtain ⟨tez, htez⟩ : ∃ x, x = S.turnE T 2 := ⟨_, rfl⟩
      rw [← htnz, ← htez]
      clear hr hb hk htnz htez RR BW Q14 Q16 TT hT' M2 M3 SK
      go_wp2_with fail
      go_roundg gO
      case measure => omega
      case rel => exact ⟨i + 1, T', by omega, by omega, by first | rfl | simp, RV, M2', M3', SK', V14, V16, BV⟩
end Go.Proofs.YtllcnppcncegpaaDoor
