/- TokenOrders. -/
import Derived.Test.YtlcilclhaahopaaDoorTg
import Derived.Test.YtlcilclhaahopaaDoorWithin
namespace Go.Proofs.YtlcilclhaahopaaDoor
open Go.RowKit

theorem S.odd_no {c : S.Cv} (h : c.k = 1 ∨ c.k = 2 ∨ c.k = 3) : S.odd c = false := by
  rcases h with h | h | h <;> simp [S.odd, h]
theorem S.narrow_facts (t : S.Tk) (c : S.Cv) (h : S.odd c = false) (hl : t.cs.length < 4) : (S.narrow t c).2 = 0 ∧ (S.narrow t c).1.cs = t.cs ++ [c] := by
  rw [S.narrow_yes t c h hl]; exact ⟨rfl, rfl⟩
set_option maxHeartbeats 40000000 in
set_option maxRecDepth 10000 in
theorem tokenOrders_walk (id : Nat) (a b : S.Cv) (op tree : Int) (clock : Nat) (w : World) (hid : id < 4294967296) (ha : a.Ok) (hb : b.Ok) (hK : KAt w) :
   Calls Tryd.prog 8 #[.int .u32 (id : Int), .agg (encC a).toArray, .agg (encC b).toArray, .int .i64 op, .int .i64 tree, .int .u64 (clock : Int)] w fun e w' => e = .returned (.bool true) ∧ Below w.heap.size w w' := by
  have HK := hide hK
  have h0 := hK.pos
  have HA := hide ha
  have HB := hide hb
  clear hK ha hb
  go_enter Tryd.func8, Tryd.ntmps8
  go_upto_region 1 with fail
  generalize hW0 : w.alloc _ = W0
  generalize hW1 : W0.alloc _ = W1
  have B0 : Below w.heap.size w W0 := by rw [← hW0]; exact (Below.refl _ _).alloc (Nat.le_refl _) _
  have s0 : W0.heap.size = w.heap.size + 1 := by rw [← hW0]; simp
  have r0 : W0.heap[w.heap.size]? = some (.cells (encC a).toArray 42 (0, 0)) := by rw [← hW0]; exact heap_alloc_new _ _
  have B1 : Below W0.heap.size W0 W1 := by rw [← hW1]; exact (Below.refl _ _).alloc (Nat.le_refl _) _
  have s1 : W1.heap.size = w.heap.size + 2 := by rw [← hW1]; simp [s0]
  have r1 : W1.heap[w.heap.size + 1]? = some (.cells (encC b).toArray 42 (0, 0)) := by rw [← hW1, ← s0]; exact heap_alloc_new _ _
  have BB : Hid (Below w.heap.size w W1) := (B0.trans (B1.mono (by omega)))
  have Q0 : Hid (W1.heap[w.heap.size]? = some (.cells (encC a).toArray 42 (0, 0))) := ((B1.block _ (by omega)).trans r0)
  have Q1 : Hid (W1.heap[w.heap.size + 1]? = some (.cells (encC b).toArray 42 (0, 0))) := r1
  clear hW0 B0 s0 r0 hW1 B1 s1 r1
  obtain ⟨c0, -⟩ := c_cells Q0.out
  have f0 := frozen_of_row _ _ 0 _ _ Q0.out
  go_wp2_with fail
  refine (within_any a.k 2 W1 HA.out.k1 HA.out.k2 (by omega) (by omega)).mono ?_
  rintro r _ ⟨rfl, rfl⟩
  have hml := S.within_le a.k 2 (by omega)
  obtain ⟨m, hm⟩ : ∃ m, m = S.within a.k 2 := ⟨_, rfl⟩
  rw [← hm] at hml ⊢
  clear hm
  have qm : IntKind.i64.wrap (1 + (m : Int)) = 1 + (m : Int) := by rw [IntKind.wrap_i64]; omega
  have NX := hide (set_k (1 + (m : Int)) Q0.out)
  have NC : Hid (Chg (fun k => k = w.heap.size) W1 (W1.setCell ⟨w.heap.size, 0, none⟩ (.int .i64 (1 + (m : Int))))) := (Chg.refl _ _).setCell _ _ _ (fun _ => rfl)
  go_upto_region 2 with fail
  generalize W1.setCell ⟨w.heap.size, 0, none⟩ (.int .i64 (1 + (m : Int))) = W2 at NX NC ⊢
  have NB := hide (NC.out.row Q1.out (by omega))
  have B2 := hide (BB.out.trans (NC.out.below w.heap.size BB.out.size (fun k hk e => by omega)))
  obtain ⟨A, hA⟩ : ∃ A : S.Cv, A = ⟨1 + (m : Int), a.n⟩ := ⟨_, rfl⟩
  rw [← hA] at NX
  have AOK := hide (show A.Ok by rw [hA]; exact ⟨by show _ ≤ 1 + (m : Int); omega, by show 1 + (m : Int) ≤ _; omega, HA.out.n2⟩)
  have AOD := hide (S.odd_no (c := A) (by rw [hA]; show 1 + (m : Int) = 1 ∨ 1 + (m : Int) = 2 ∨ 1 + (m : Int) = 3; omega))
  clear c0 f0 Q0 Q1 BB NC hA qm hml
  obtain ⟨c0, -⟩ := c_cells NB.out
  have f0 := frozen_of_row _ _ 0 _ _ NB.out
  go_wp2_with fail
  refine (within_any b.k 2 W2 HB.out.k1 HB.out.k2 (by omega) (by omega)).mono ?_
  rintro r _ ⟨rfl, rfl⟩
  have hml := S.within_le b.k 2 (by omega)
  obtain ⟨n, hn⟩ : ∃ m, m = S.within b.k 2 := ⟨_, rfl⟩
  rw [← hn] at hml ⊢
  clear hn
  have qm : IntKind.i64.wrap (1 + (n : Int)) = 1 + (n : Int) := by rw [IntKind.wrap_i64]; omega
  have NY := hide (set_k (1 + (n : Int)) NB.out)
  have NC : Hid (Chg (fun k => k = w.heap.size + 1) W2 (W2.setCell ⟨w.heap.size + 1, 0, none⟩ (.int .i64 (1 + (n : Int))))) := (Chg.refl _ _).setCell _ _ _ (fun _ => rfl)
  go_upto_region 3 with fail
  generalize W2.setCell ⟨w.heap.size + 1, 0, none⟩ (.int .i64 (1 + (n : Int))) = W3 at NY NC ⊢
  have PA := hide (NC.out.row NX.out (by omega))
  have B3 := hide (B2.out.trans (NC.out.below w.heap.size B2.out.size (fun k hk e => by omega)))
  obtain ⟨Bv, hB⟩ : ∃ A : S.Cv, A = ⟨1 + (n : Int), b.n⟩ := ⟨_, rfl⟩
  rw [← hB] at NY
  have PB := hide NY.out
  have BOK := hide (show Bv.Ok by rw [hB]; exact ⟨by show _ ≤ 1 + (n : Int); omega, by show 1 + (n : Int) ≤ _; omega, HB.out.n2⟩)
  have BOD := hide (S.odd_no (c := Bv) (by rw [hB]; show 1 + (n : Int) = 1 ∨ 1 + (n : Int) = 2 ∨ 1 + (n : Int) = 3; omega))
  clear c0 f0 NX NY NB B2 NC hB qm hml HA HB
  go_wp2_with fail
  refine (root_is 6 6 W3 rfl).mono ?_
  rintro e w1 ⟨rfl, hb1⟩
  have B4 := hide (B3.out.trans (hb1.mono B3.out.size))
  go_wp2_with fail
  refine (mint_any (S.root 6) id w1 (S.root_length 6) hid (HK.out.below B4.out h0)).mono ?_
  rintro e w2 ⟨rfl, hb2⟩
  obtain ⟨D, hD⟩ : ∃ D, D = (S.mint (S.root 6) id).tag := ⟨_, rfl⟩
  rw [← hD]
  have LD := hide (show D.length = 32 by rw [hD]; exact S.mint_tag _ _)
  have MT := hide (S.made_mint (S.root 6) id D hD)
  have OKT : Hid (S.Tk.Ok ⟨id, [], D⟩) := ⟨hid, LD.out, by simp, by simp⟩
  obtain ⟨A3, w3, ha3, hs3, hr3, hb3, -⟩ := lay_t w2 id none 0 0 D LD.out
  obtain ⟨g13, hg⟩ : ∃ g, g = w2.heap.size := ⟨_, rfl⟩
  rw [← hg] at ha3 hs3 hr3
  have hbb := hb1.trans ((hb2.mono hb1.size).trans (hb3.mono (Nat.le_trans hb1.size hb2.size)))
  have Bw3 := hide (B3.out.trans (hbb.mono B3.out.size))
  have R13 := hide hr3
  replace PA := hide ((hbb.block _ (block_lt_of_row PA.out)).trans PA.out)
  replace PB := hide ((hbb.block _ (block_lt_of_row PB.out)).trans PB.out)
  clear hD hb1 hb2 hb3 hbb hr3 hg B3 B4
  go_upto_region 4 with (first | (with_reducible refine at_op { dst := some 13, op := Op.alloc 27, type := 0, pos := "law.go:165", after := #[], guard := none } ?_; refine wpList_alloc_known rfl 27 rfl _ _ ha3 ?_) | (with_reducible refine at_op { dst := none, op := Op.store 27 (Operand.tmp 13) (Operand.tmp 32), type := 0, pos := "law.go:165", after := #[{ on := 3, ground := Ground.data }, { on := 2, ground := Ground.data }, { on := 2, ground := Ground.chain }, { on := 0, ground := Ground.phase }, { on := 1, ground := Ground.phase }, { on := 2, ground := Ground.phase }, { on := 3, ground := Ground.phase }], guard := none } ?_; refine wpList_store_as rfl 27 (.tmp 13) (.tmp 32) rfl (.pointer (some ⟨g13, 0, none⟩)) (.agg (encT id (.slice none 0 0) D).toArray) rfl rfl w3 hs3 ?_))
  clear ha3 hs3 A3
  have LW3 := hide (show w.heap.size + 1 < w3.heap.size ∧ g13 < w3.heap.size from ⟨block_lt_of_row PB.out, block_lt_of_row R13.out⟩)
  have ld1 := load_t R13.out OKT.out.tl
  have ld2 := load_c PA.out
  go_wp2_with (first | (with_reducible refine at_op { dst := some 34, op := Op.load 27 (Operand.tmp 13), type := 27, pos := "law.go:166", after := #[], guard := none } ?_; refine wpList_load_as rfl 27 (.tmp 13) rfl (.pointer (some ⟨g13, 0, none⟩)) rfl (.agg (encT id (.slice none 0 0) D).toArray) ld1 ?_) | (with_reducible refine at_op { dst := some 35, op := Op.load 42 (Operand.tmp 7), type := 42, pos := "law.go:166", after := #[], guard := none } ?_; refine wpList_load_as rfl 42 (.tmp 7) rfl (.pointer (some ⟨w.heap.size, 0, none⟩)) rfl (.agg (encC A).toArray) ld2 ?_))
  refine (narrow_any ⟨id, [], D⟩ (.slice none 0 0) A w3 OKT.out AOK.out (CvAt.nil _) (HK.out.below Bw3.out h0)).mono ?_
  rintro e w4m ⟨⟨nv, rfl, hcr⟩, hb2⟩
  have hok := S.narrow_ok ⟨id, [], D⟩ A OKT.out AOK.out
  obtain ⟨he, hcs⟩ := S.narrow_facts ⟨id, [], D⟩ A AOD.out (by simp)
  have EX1 := hide he
  rw [he]
  obtain ⟨X1, hu⟩ : ∃ u, u = (S.narrow ⟨id, [], D⟩ A).1 := ⟨_, rfl⟩
  rw [← hu] at hcr hok hcs ⊢
  have HX1 := hide hu
  have CX1 := hide hcs
  have OX1 := hide hok
  obtain ⟨X1o, X1c, rfl⟩ := hcr.form
  obtain ⟨X1n, hun⟩ : ∃ un, un = X1.cs.length := ⟨_, rfl⟩
  rw [← hun] at hcr ⊢
  obtain ⟨A3, w4, ha3, hs3, hr3, hb3, -⟩ := lay_t w4m X1.id X1o X1n X1c X1.tag hok.tl
  obtain ⟨g14, hg⟩ : ∃ g, g = w4m.heap.size := ⟨_, rfl⟩
  rw [← hg] at ha3 hs3 hr3
  have hbb := hb2.trans (hb3.mono hb2.size)
  have Bw4 := hide (Bw3.out.trans (hbb.mono Bw3.out.size))
  have R14 := hide hr3
  have G14 := hide (show w3.heap.size ≤ g14 by rw [hg]; exact hb2.size)
  replace PA := hide ((hbb.block _ (block_lt_of_row PA.out)).trans PA.out)
  replace PB := hide ((hbb.block _ (block_lt_of_row PB.out)).trans PB.out)
  replace R13 := hide ((hbb.block _ (block_lt_of_row R13.out)).trans R13.out)
  have CVX1 : Hid (CRow 0 w4 (.slice X1o X1n X1c) X1.cs) := (hcr.below hb3).mono (Nat.zero_le _)
  clear hcr hok he hcs hu hun hb2 hb3 hbb hr3 hg ld1 ld2 Bw3
  go_upto_region 5 with (first | (with_reducible refine at_op { dst := some 14, op := Op.alloc 27, type := 0, pos := "law.go:166", after := #[], guard := none } ?_; refine wpList_alloc_known rfl 27 rfl _ _ ha3 ?_) | (with_reducible refine at_op { dst := none, op := Op.store 27 (Operand.tmp 14) (Operand.tmp 37), type := 0, pos := "law.go:166", after := #[{ on := 6, ground := Ground.data }, { on := 4, ground := Ground.data }, { on := 2, ground := Ground.chain }, { on := 0, ground := Ground.phase }, { on := 1, ground := Ground.phase }, { on := 2, ground := Ground.phase }, { on := 3, ground := Ground.phase }, { on := 4, ground := Ground.phase }, { on := 5, ground := Ground.textOnly Departure.lateStores }, { on := 6, ground := Ground.phase }], guard := none } ?_; refine wpList_store_as rfl 27 (.tmp 14) (.tmp 37) rfl (.pointer (some ⟨g14, 0, none⟩)) (.agg (encT X1.id (.slice X1o X1n X1c) X1.tag).toArray) rfl rfl w4 hs3 ?_))
  clear ha3 hs3 A3
  have GL14 := hide (show w.heap.size + 1 < g14 ∧ g13 < g14 by have := G14.out; have := LW3.out; omega)
  have NE := hide (show g13 ≠ g14 by have := GL14.out; omega)
  have ld1 := load_t R14.out OX1.out.tl
  have ld2 := load_c PB.out
  go_wp2_with (first | (with_reducible refine at_op { dst := some 40, op := Op.load 27 (Operand.tmp 14), type := 27, pos := "law.go:167", after := #[], guard := none } ?_; refine wpList_load_as rfl 27 (.tmp 14) rfl (.pointer (some ⟨g14, 0, none⟩)) rfl (.agg (encT X1.id (.slice X1o X1n X1c) X1.tag).toArray) ld1 ?_) | (with_reducible refine at_op { dst := some 41, op := Op.load 42 (Operand.tmp 8), type := 42, pos := "law.go:167", after := #[], guard := none } ?_; refine wpList_load_as rfl 42 (.tmp 8) rfl (.pointer (some ⟨w.heap.size + 1, 0, none⟩)) rfl (.agg (encC Bv).toArray) ld2 ?_))
  refine (narrow_any X1 (.slice X1o X1n X1c) Bv w4 OX1.out BOK.out (CRow.at CVX1.out) (HK.out.below Bw4.out h0)).mono ?_
  rintro e w5m ⟨⟨nv, rfl, hcr⟩, hb2⟩
  have hok := S.narrow_ok X1 Bv OX1.out BOK.out
  obtain ⟨he, hcs⟩ := S.narrow_facts X1 Bv BOD.out (by rw [CX1.out]; simp)
  have EX2 := hide he
  rw [he]
  obtain ⟨X2, hu⟩ : ∃ u, u = (S.narrow X1 Bv).1 := ⟨_, rfl⟩
  rw [← hu] at hcr hok hcs ⊢
  have HX2 := hide hu
  have CX2 := hide hcs
  have OX2 := hide hok
  obtain ⟨X2o, X2c, rfl⟩ := hcr.form
  obtain ⟨X2n, hun⟩ : ∃ un, un = X2.cs.length := ⟨_, rfl⟩
  rw [← hun] at hcr ⊢
  obtain ⟨w5, hs3, hr3, hc3, -⟩ := store_t (id := X2.id) (ao := X2o) (n := X2n) (m := X2c) (tag := X2.tag) ((hb2.block _ (block_lt_of_row R14.out)).trans R14.out) (by rw [List.size_toArray, encT_length _ _ _ OX1.out.tl]) hok.tl
  have Bw5 := hide ((Bw4.out.trans (hb2.mono Bw4.out.size)).trans (hc3.below w.heap.size (Bw4.out.trans (hb2.mono Bw4.out.size)).size (fun k hk e => by have := GL14.out; omega)))
  replace PA := hide (hc3.row ((hb2.block _ (block_lt_of_row PA.out)).trans PA.out) (by have := GL14.out; omega))
  replace PB := hide (hc3.row ((hb2.block _ (block_lt_of_row PB.out)).trans PB.out) (by have := GL14.out; omega))
  replace R13 := hide (hc3.row ((hb2.block _ (block_lt_of_row R13.out)).trans R13.out) (by have := GL14.out; have := NE.out; omega))
  have CVX2 : Hid (CRow 0 w5 (.slice X2o X2n X2c) X2.cs) := (hcr.chg hc3 (fun j e e2 => hcr.apart ((hb2.block _ (block_lt_of_row R14.out)).trans R14.out) (by decide) (e2 ▸ e))).mono (Nat.zero_le _)
  replace R14 := hide hr3
  clear hcr hok he hcs hu hun hb2 hc3 hr3 ld1 ld2 Bw4
  go_upto_region 6 with (with_reducible refine at_op { dst := none, op := Op.store 27 (Operand.tmp 14) (Operand.tmp 43), type := 0, pos := "law.go:167", after := #[{ on := 4, ground := Ground.data }, { on := 2, ground := Ground.chain }, { on := 0, ground := Ground.phase }, { on := 1, ground := Ground.phase }, { on := 2, ground := Ground.phase }, { on := 3, ground := Ground.phase }, { on := 4, ground := Ground.phase }, { on := 5, ground := Ground.textOnly Departure.lateStores }], guard := none } ?_; refine wpList_store_as rfl 27 (.tmp 14) (.tmp 43) rfl (.pointer (some ⟨g14, 0, none⟩)) (.agg (encT X2.id (.slice X2o X2n X2c) X2.tag).toArray) rfl rfl w5 hs3 ?_)
  clear hs3
  have LW5 := hide (show w.heap.size + 1 < w5.heap.size ∧ g13 < w5.heap.size ∧ g14 < w5.heap.size from ⟨block_lt_of_row PB.out, block_lt_of_row R13.out, block_lt_of_row R14.out⟩)
  clear NE CVX1
  have ld1 := load_t R13.out OKT.out.tl
  have ld2 := load_c PB.out
  go_wp2_with (first | (with_reducible refine at_op { dst := some 46, op := Op.load 27 (Operand.tmp 13), type := 27, pos := "law.go:168", after := #[], guard := none } ?_; refine wpList_load_as rfl 27 (.tmp 13) rfl (.pointer (some ⟨g13, 0, none⟩)) rfl (.agg (encT id (.slice none 0 0) D).toArray) ld1 ?_) | (with_reducible refine at_op { dst := some 47, op := Op.load 42 (Operand.tmp 8), type := 42, pos := "law.go:168", after := #[], guard := none } ?_; refine wpList_load_as rfl 42 (.tmp 8) rfl (.pointer (some ⟨w.heap.size + 1, 0, none⟩)) rfl (.agg (encC Bv).toArray) ld2 ?_))
  refine (narrow_any ⟨id, [], D⟩ (.slice none 0 0) Bv w5 OKT.out BOK.out (CvAt.nil _) (HK.out.below Bw5.out h0)).mono ?_
  rintro e w6m ⟨⟨nv, rfl, hcr⟩, hb2⟩
  have hok := S.narrow_ok ⟨id, [], D⟩ Bv OKT.out BOK.out
  obtain ⟨he, hcs⟩ := S.narrow_facts ⟨id, [], D⟩ Bv BOD.out (by simp)
  have EY1 := hide he
  rw [he]
  obtain ⟨Y1, hu⟩ : ∃ u, u = (S.narrow ⟨id, [], D⟩ Bv).1 := ⟨_, rfl⟩
  rw [← hu] at hcr hok hcs ⊢
  have HY1 := hide hu
  have CY1 := hide hcs
  have OY1 := hide hok
  obtain ⟨Y1o, Y1c, rfl⟩ := hcr.form
  obtain ⟨Y1n, hun⟩ : ∃ un, un = Y1.cs.length := ⟨_, rfl⟩
  rw [← hun] at hcr ⊢
  obtain ⟨A3, w6, ha3, hs3, hr3, hb3, -⟩ := lay_t w6m Y1.id Y1o Y1n Y1c Y1.tag hok.tl
  obtain ⟨g17, hg⟩ : ∃ g, g = w6m.heap.size := ⟨_, rfl⟩
  rw [← hg] at ha3 hs3 hr3
  have hbb := hb2.trans (hb3.mono hb2.size)
  have Bw6 := hide (Bw5.out.trans (hbb.mono Bw5.out.size))
  have R17 := hide hr3
  have G17 := hide (show w5.heap.size ≤ g17 by rw [hg]; exact hb2.size)
  replace PA := hide ((hbb.block _ (block_lt_of_row PA.out)).trans PA.out)
  replace PB := hide ((hbb.block _ (block_lt_of_row PB.out)).trans PB.out)
  replace R13 := hide ((hbb.block _ (block_lt_of_row R13.out)).trans R13.out)
  replace R14 := hide ((hbb.block _ (block_lt_of_row R14.out)).trans R14.out)
  replace CVX2 := hide (CVX2.out.below hbb)
  have CVY1 : Hid (CRow 0 w6 (.slice Y1o Y1n Y1c) Y1.cs) := (hcr.below hb3).mono (Nat.zero_le _)
  clear hcr hok he hcs hu hun hb2 hb3 hbb hr3 hg ld1 ld2 Bw5
  go_upto_region 7 with (first | (with_reducible refine at_op { dst := some 17, op := Op.alloc 27, type := 0, pos := "law.go:168", after := #[], guard := none } ?_; refine wpList_alloc_known rfl 27 rfl _ _ ha3 ?_) | (with_reducible refine at_op { dst := none, op := Op.store 27 (Operand.tmp 17) (Operand.tmp 49), type := 0, pos := "law.go:168", after := #[{ on := 6, ground := Ground.data }, { on := 4, ground := Ground.data }, { on := 2, ground := Ground.chain }, { on := 0, ground := Ground.phase }, { on := 1, ground := Ground.phase }, { on := 2, ground := Ground.phase }, { on := 3, ground := Ground.phase }, { on := 4, ground := Ground.phase }, { on := 5, ground := Ground.textOnly Departure.lateStores }, { on := 6, ground := Ground.phase }], guard := none } ?_; refine wpList_store_as rfl 27 (.tmp 17) (.tmp 49) rfl (.pointer (some ⟨g17, 0, none⟩)) (.agg (encT Y1.id (.slice Y1o Y1n Y1c) Y1.tag).toArray) rfl rfl w6 hs3 ?_))
  clear ha3 hs3 A3
  have GL17 := hide (show w.heap.size + 1 < g17 ∧ g13 < g17 ∧ g14 < g17 by have := G17.out; have := LW5.out; omega)
  have NE := hide (show g13 ≠ g17 ∧ g14 ≠ g17 by have := GL17.out; omega)
  have ld1 := load_t R17.out OY1.out.tl
  have ld2 := load_c PA.out
  go_wp2_with (first | (with_reducible refine at_op { dst := some 52, op := Op.load 27 (Operand.tmp 17), type := 27, pos := "law.go:169", after := #[], guard := none } ?_; refine wpList_load_as rfl 27 (.tmp 17) rfl (.pointer (some ⟨g17, 0, none⟩)) rfl (.agg (encT Y1.id (.slice Y1o Y1n Y1c) Y1.tag).toArray) ld1 ?_) | (with_reducible refine at_op { dst := some 53, op := Op.load 42 (Operand.tmp 7), type := 42, pos := "law.go:169", after := #[], guard := none } ?_; refine wpList_load_as rfl 42 (.tmp 7) rfl (.pointer (some ⟨w.heap.size, 0, none⟩)) rfl (.agg (encC A).toArray) ld2 ?_))
  refine (narrow_any Y1 (.slice Y1o Y1n Y1c) A w6 OY1.out AOK.out (CRow.at CVY1.out) (HK.out.below Bw6.out h0)).mono ?_
  rintro e w7m ⟨⟨nv, rfl, hcr⟩, hb2⟩
  have hok := S.narrow_ok Y1 A OY1.out AOK.out
  obtain ⟨he, hcs⟩ := S.narrow_facts Y1 A AOD.out (by rw [CY1.out]; simp)
  have EY2 := hide he
  rw [he]
  obtain ⟨Y2, hu⟩ : ∃ u, u = (S.narrow Y1 A).1 := ⟨_, rfl⟩
  rw [← hu] at hcr hok hcs ⊢
  have HY2 := hide hu
  have CY2 := hide hcs
  have OY2 := hide hok
  obtain ⟨Y2o, Y2c, rfl⟩ := hcr.form
  obtain ⟨Y2n, hun⟩ : ∃ un, un = Y2.cs.length := ⟨_, rfl⟩
  rw [← hun] at hcr ⊢
  obtain ⟨w7, hs3, hr3, hc3, -⟩ := store_t (id := Y2.id) (ao := Y2o) (n := Y2n) (m := Y2c) (tag := Y2.tag) ((hb2.block _ (block_lt_of_row R17.out)).trans R17.out) (by rw [List.size_toArray, encT_length _ _ _ OY1.out.tl]) hok.tl
  have Bw7 := hide ((Bw6.out.trans (hb2.mono Bw6.out.size)).trans (hc3.below w.heap.size (Bw6.out.trans (hb2.mono Bw6.out.size)).size (fun k hk e => by have := GL17.out; omega)))
  replace PA := hide (hc3.row ((hb2.block _ (block_lt_of_row PA.out)).trans PA.out) (by have := GL17.out; omega))
  replace PB := hide (hc3.row ((hb2.block _ (block_lt_of_row PB.out)).trans PB.out) (by have := GL17.out; omega))
  replace R13 := hide (hc3.row ((hb2.block _ (block_lt_of_row R13.out)).trans R13.out) (by have := GL17.out; have := NE.out; omega))
  replace R14 := hide (hc3.row ((hb2.block _ (block_lt_of_row R14.out)).trans R14.out) (by have := GL17.out; have := NE.out; omega))
  replace CVX2 := hide ((CVX2.out.below hb2).chg hc3 (fun j e e2 => (CVX2.out.below hb2).apart ((hb2.block _ (block_lt_of_row R17.out)).trans R17.out) (by decide) (e2 ▸ e)))
  have CVY2 : Hid (CRow 0 w7 (.slice Y2o Y2n Y2c) Y2.cs) := (hcr.chg hc3 (fun j e e2 => hcr.apart ((hb2.block _ (block_lt_of_row R17.out)).trans R17.out) (by decide) (e2 ▸ e))).mono (Nat.zero_le _)
  replace R17 := hide hr3
  clear hcr hok he hcs hu hun hb2 hc3 hr3 ld1 ld2 Bw6
  go_upto_region 8 with (with_reducible refine at_op { dst := none, op := Op.store 27 (Operand.tmp 17) (Operand.tmp 55), type := 0, pos := "law.go:169", after := #[{ on := 4, ground := Ground.data }, { on := 2, ground := Ground.chain }, { on := 0, ground := Ground.phase }, { on := 1, ground := Ground.phase }, { on := 2, ground := Ground.phase }, { on := 3, ground := Ground.phase }, { on := 4, ground := Ground.phase }, { on := 5, ground := Ground.textOnly Departure.lateStores }], guard := none } ?_; refine wpList_store_as rfl 27 (.tmp 17) (.tmp 55) rfl (.pointer (some ⟨g17, 0, none⟩)) (.agg (encT Y2.id (.slice Y2o Y2n Y2c) Y2.tag).toArray) rfl rfl w7 hs3 ?_)
  clear hs3
  clear CVY1
  have L14 := hide (show S.genuine (S.root 6) X2 = true from (S.made_narrow (S.made_narrow MT.out EX1.out) (by rw [← HX1.out]; exact EX2.out) |> fun h => by rw [HX2.out, HX1.out]; exact h.genuine))
  have L17 := hide (show S.genuine (S.root 6) Y2 = true from (S.made_narrow (S.made_narrow MT.out EY1.out) (by rw [← HY1.out]; exact EY2.out) |> fun h => by rw [HY2.out, HY1.out]; exact h.genuine))
  have HOL := hide (show S.holds X2.cs op tree clock = S.holds Y2.cs op tree clock by
    rw [CX2.out, CY2.out, CX1.out, CY1.out]
    simp [S.holds, Bool.and_comm])
  have SAM := hide (show A = Bv → X2.tag = Y2.tag from fun e => by rw [HX2.out, HY2.out, HX1.out, HY1.out, e])
  clear HX1 HX2 HY1 HY2 EX1 EX2 EY1 EY2 CX1 CX2 CY1 CY2 MT
  go_upto_region 10 with fail
  by_cases hAB : A = Bv
  · have EQC := fun W => equal_c A Bv true (by simp [hAB]) W
    have EQT : ∀ W, (Op.equalIn 10000 25 (.agg (S.v8l X2.tag).toArray) (.agg (S.v8l Y2.tag).toArray)).run Tryd.prog W = .ok true W := fun W => by
      rw [← S.v8_eq, ← S.v8_eq]
      exact equal_dig X2.tag Y2.tag OX2.out.tl OY2.out.tl true (by rw [SAM.out hAB]; simp) W
    clear hAB SAM
    refine wp_region_noPanic ?_
    refine wp_region_held_drew (S := (fun W => Chg (fun _ => False) w7 W)) follows ((Chg.refl _ _).drew) (fun hHeld => ?_)
    clear hHeld
    have hHeld : Chg (fun _ => False) w7 w7.drew := (Chg.refl _ _).drew
    have CZ0 := hide hHeld
    generalize w7.drew = Z0 at CZ0 hHeld ⊢
    refine wpAnyH_take (i := 1) (oi := { dst := some 72, op := Op.load 27 (Operand.tmp 14), type := 27, pos := "law.go:173", after := #[], guard := none }) (v := .agg (encT X2.id (.slice X2o X2n X2c) X2.tag).toArray) rfl (by kernel_rfl) (by kernel_rfl) (by kernel_rfl) (fun _ _ _ h => h) (yieldsIf_load_mid (by rfl) _ _ rfl g14 0 rfl (encT X2.id (.slice X2o X2n X2c) X2.tag) _ (fun _ hSw => rangeAt_row (hSw.row R14.out (fun e => e))) Tryd.underlying27 rfl (by rw [size_t _ _ _ OX2.out.tl, List.size_toArray])) (by assumption) ?_
    simp only [Act.put, List.setIfInBounds_toArray, List.set_cons_zero, List.set_cons_succ]
    refine wpAnyH_ready (rs := [0]) (by kernel_rfl) (by simp) ?_
    refine AllReadyH.cons (o := { dst := some 71, op := Op.call { callee := Callee.value (Operand.func 10), args := #[Operand.const (Value.int IntKind.u8 6)], argTypes := #[5] }, type := 25, pos := "law.go:173", after := #[], guard := none }) rfl (fun K hK => ?_) AllReadyH.nil
    go_simp
    refine (root_is 6 6 Z0 rfl).mono ?_
    rintro e Z1 ⟨rfl, hb2⟩
    have CZ1 : Hid (Chg (fun _ => False) w7 Z1) := CZ0.out.then hb2
    clear hb2 CZ0
    clear hHeld
    refine hK.out _ _ CZ1.out (fun hHeld => ?_)
    clear hK K
    try simp only [Act.put, List.setIfInBounds_toArray, List.set_cons_zero, List.set_cons_succ]
    refine wpAnyH_ready (rs := [2]) (by kernel_rfl) (by simp) ?_
    refine AllReadyH.cons (o := { dst := some 73, op := Op.call { callee := Callee.value (Operand.func 16), args := #[Operand.tmp 71, Operand.tmp 72], argTypes := #[25, 27] }, type := 4, pos := "law.go:173", after := #[{ on := 0, ground := Ground.data }, { on := 1, ground := Ground.data }, { on := 0, ground := Ground.chain }], guard := none }) rfl (fun K hK => ?_) AllReadyH.nil
    go_simp
    refine (genuine_any (S.root 6) X2 (.slice X2o X2n X2c) Z1 (S.root_length 6) OX2.out ((CRow.at CVX2.out).below (CZ1.out.below _ (Nat.le_refl _) (fun _ _ e => e))) (HK.out.below (Bw7.out.trans (CZ1.out.below w.heap.size Bw7.out.size (fun k hk e => by omega))) h0)).mono ?_
    rintro e Z2 ⟨rfl, hb2⟩
    rw [L14.out]
    have CZ2 : Hid (Chg (fun _ => False) w7 Z2) := CZ1.out.then hb2
    clear hb2 CZ1
    clear hHeld
    refine hK.out _ _ CZ2.out (fun hHeld => ?_)
    clear hK K
    try simp only [Act.put, List.setIfInBounds_toArray, List.set_cons_zero, List.set_cons_succ]
    refine wpAnyH_take (i := 3) (oi := { dst := some 74, op := Op.move (Operand.tmp 73), type := 4, pos := "law.go:173", after := #[{ on := 2, ground := Ground.data }, { on := 2, ground := Ground.chain }], guard := none }) (v := ?_) rfl (by kernel_rfl) (by kernel_rfl) (by kernel_rfl) (fun _ _ _ h => h) (Or.inl ⟨by rfl, ?_⟩) (by assumption) ?_
    rotate_left
    · intro w hSw
      clear hSw
      go_simp
      all_goals with_reducible rfl
    simp only [Act.put, List.setIfInBounds_toArray, List.set_cons_zero, List.set_cons_succ]
    refine wpAnyH_take (i := 5) (oi := { dst := some 76, op := Op.load 27 (Operand.tmp 17), type := 27, pos := "law.go:173", after := #[{ on := 3, ground := Ground.guard }], guard := some (3, true) }) (v := .agg (encT Y2.id (.slice Y2o Y2n Y2c) Y2.tag).toArray) rfl (by kernel_rfl) (by kernel_rfl) (by kernel_rfl) (fun _ _ _ h => h) (yieldsIf_load_mid (by rfl) _ _ rfl g17 0 rfl (encT Y2.id (.slice Y2o Y2n Y2c) Y2.tag) _ (fun _ hSw => rangeAt_row (hSw.row R17.out (fun e => e))) Tryd.underlying27 rfl (by rw [size_t _ _ _ OY2.out.tl, List.size_toArray])) (by assumption) ?_
    simp only [Act.put, List.setIfInBounds_toArray, List.set_cons_zero, List.set_cons_succ]
    refine wpAnyH_ready (rs := [4]) (by kernel_rfl) (by simp) ?_
    refine AllReadyH.cons (o := { dst := some 75, op := Op.call { callee := Callee.value (Operand.func 10), args := #[Operand.const (Value.int IntKind.u8 6)], argTypes := #[5] }, type := 25, pos := "law.go:173", after := #[{ on := 3, ground := Ground.chain }, { on := 3, ground := Ground.guard }], guard := some (3, true) }) rfl (fun K hK => ?_) AllReadyH.nil
    go_simp
    refine (root_is 6 6 Z2 rfl).mono ?_
    rintro e Z3 ⟨rfl, hb2⟩
    have CZ3 : Hid (Chg (fun _ => False) w7 Z3) := CZ2.out.then hb2
    clear hb2 CZ2
    clear hHeld
    refine hK.out _ _ CZ3.out (fun hHeld => ?_)
    clear hK K
    try simp only [Act.put, List.setIfInBounds_toArray, List.set_cons_zero, List.set_cons_succ]
    refine wpAnyH_ready (rs := [6]) (by kernel_rfl) (by simp) ?_
    refine AllReadyH.cons (o := { dst := some 77, op := Op.call { callee := Callee.value (Operand.func 16), args := #[Operand.tmp 75, Operand.tmp 76], argTypes := #[25, 27] }, type := 4, pos := "law.go:173", after := #[{ on := 4, ground := Ground.data }, { on := 5, ground := Ground.data }, { on := 4, ground := Ground.chain }, { on := 3, ground := Ground.guard }], guard := some (3, true) }) rfl (fun K hK => ?_) AllReadyH.nil
    go_simp
    refine (genuine_any (S.root 6) Y2 (.slice Y2o Y2n Y2c) Z3 (S.root_length 6) OY2.out ((CRow.at CVY2.out).below (CZ3.out.below _ (Nat.le_refl _) (fun _ _ e => e))) (HK.out.below (Bw7.out.trans (CZ3.out.below w.heap.size Bw7.out.size (fun k hk e => by omega))) h0)).mono ?_
    rintro e Z4 ⟨rfl, hb2⟩
    rw [L17.out]
    have CZ4 : Hid (Chg (fun _ => False) w7 Z4) := CZ3.out.then hb2
    clear hb2 CZ3
    clear hHeld
    refine hK.out _ _ CZ4.out (fun hHeld => ?_)
    clear hK K
    try simp only [Act.put, List.setIfInBounds_toArray, List.set_cons_zero, List.set_cons_succ]
    refine wpAnyH_take (i := 7) (oi := { dst := some 78, op := Op.pick (Operand.tmp 74) (Operand.tmp 77) (Operand.const (Value.bool false)), type := 4, pos := "law.go:173", after := #[{ on := 3, ground := Ground.data }, { on := 6, ground := Ground.data }], guard := none }) (v := ?_) rfl (by kernel_rfl) (by kernel_rfl) (by kernel_rfl) (fun _ _ _ h => h) (Or.inl ⟨by rfl, ?_⟩) (by assumption) ?_
    rotate_left
    · intro w hSw
      clear hSw
      go_simp
      all_goals with_reducible rfl
    simp only [Act.put, List.setIfInBounds_toArray, List.set_cons_zero, List.set_cons_succ]
    refine wpAnyH_take (i := 8) (oi := { dst := some 79, op := Op.move (Operand.tmp 78), type := 4, pos := "law.go:173", after := #[{ on := 7, ground := Ground.data }, { on := 6, ground := Ground.chain }], guard := none }) (v := ?_) rfl (by kernel_rfl) (by kernel_rfl) (by kernel_rfl) (fun _ _ _ h => h) (Or.inl ⟨by rfl, ?_⟩) (by assumption) ?_
    rotate_left
    · intro w hSw
      clear hSw
      go_simp
      all_goals with_reducible rfl
    simp only [Act.put, List.setIfInBounds_toArray, List.set_cons_zero, List.set_cons_succ]
    refine wpAnyH_take (i := 9) (oi := { dst := some 80, op := Op.load 42 (Operand.tmp 7), type := 42, pos := "law.go:173", after := #[{ on := 8, ground := Ground.guard }], guard := some (8, true) }) (v := .agg (encC A).toArray) rfl (by kernel_rfl) (by kernel_rfl) (by kernel_rfl) (fun _ _ _ h => h) (yieldsIf_load_mid (by rfl) _ _ rfl w.heap.size 0 rfl (encC A) _ (fun _ hSw => rangeAt_row (hSw.row PA.out (fun e => e))) Tryd.underlying42 rfl (by rw [size_c, List.size_toArray])) (by assumption) ?_
    simp only [Act.put, List.setIfInBounds_toArray, List.set_cons_zero, List.set_cons_succ]
    refine wpAnyH_take (i := 10) (oi := { dst := some 81, op := Op.load 42 (Operand.tmp 8), type := 42, pos := "law.go:173", after := #[{ on := 8, ground := Ground.guard }], guard := some (8, true) }) (v := .agg (encC Bv).toArray) rfl (by kernel_rfl) (by kernel_rfl) (by kernel_rfl) (fun _ _ _ h => h) (yieldsIf_load_mid (by rfl) _ _ rfl (w.heap.size + 1) 0 rfl (encC Bv) _ (fun _ hSw => rangeAt_row (hSw.row PB.out (fun e => e))) Tryd.underlying42 rfl (by rw [size_c, List.size_toArray])) (by assumption) ?_
    simp only [Act.put, List.setIfInBounds_toArray, List.set_cons_zero, List.set_cons_succ]
    refine wpAnyH_take (i := 11) (oi := { dst := some 82, op := Op.binOp BinOp.neq 42 (Operand.tmp 80) (Operand.tmp 81) 42, type := 4, pos := "law.go:173", after := #[{ on := 9, ground := Ground.data }, { on := 10, ground := Ground.data }, { on := 8, ground := Ground.guard }], guard := some (8, true) }) (v := ?_) rfl (by kernel_rfl) (by kernel_rfl) (by kernel_rfl) (fun _ _ _ h => h) (Or.inl ⟨by rfl, ?_⟩) (by assumption) ?_
    rotate_left
    · intro w hSw
      have e := EQC
      clear hSw
      go_simp
      all_goals with_reducible rfl
    simp only [Act.put, List.setIfInBounds_toArray, List.set_cons_zero, List.set_cons_succ]
    refine wpAnyH_take (i := 12) (oi := { dst := some 83, op := Op.move (Operand.tmp 82), type := 4, pos := "law.go:173", after := #[{ on := 11, ground := Ground.data }, { on := 8, ground := Ground.chain }, { on := 8, ground := Ground.guard }], guard := some (8, true) }) (v := ?_) rfl (by kernel_rfl) (by kernel_rfl) (by kernel_rfl) (fun _ _ _ h => h) (Or.inl ⟨by rfl, ?_⟩) (by assumption) ?_
    rotate_left
    · intro w hSw
      clear hSw
      go_simp
      all_goals with_reducible rfl
    simp only [Act.put, List.setIfInBounds_toArray, List.set_cons_zero, List.set_cons_succ]
    refine wpAnyH_take (i := 13) (oi := { dst := some 84, op := Op.fieldAddr 27 (Operand.tmp 14) 2, type := 0, pos := "law.go:173", after := #[{ on := 12, ground := Ground.guard }], guard := some (12, false) }) (v := ?_) rfl (by kernel_rfl) (by kernel_rfl) (by kernel_rfl) (fun _ _ _ h => h) (Or.inl ⟨by rfl, ?_⟩) (by assumption) ?_
    rotate_left
    · intro w hSw
      clear hSw
      go_simp
      all_goals with_reducible rfl
    simp only [Act.put, List.setIfInBounds_toArray, List.set_cons_zero, List.set_cons_succ]
    refine wpAnyH_take (i := 14) (oi := { dst := some 85, op := Op.load 25 (Operand.tmp 84), type := 25, pos := "law.go:173", after := #[{ on := 13, ground := Ground.data }, { on := 12, ground := Ground.guard }], guard := some (12, false) }) (v := .agg (S.v8l X2.tag).toArray) rfl (by kernel_rfl) (by kernel_rfl) (by kernel_rfl) (fun _ _ _ h => h) (yieldsIf_load_mid (by rfl) _ _ rfl g14 2 rfl (S.v8l X2.tag) _ (fun _ hSw => t_tag (hSw.row R14.out (fun e => e))) Tryd.underlying25 rfl (by rw [size_dig _ OX2.out.tl, S.v8_size, S.v8l_length])) (by assumption) ?_
    simp only [Act.put, List.setIfInBounds_toArray, List.set_cons_zero, List.set_cons_succ]
    refine wpAnyH_take (i := 15) (oi := { dst := some 86, op := Op.fieldAddr 27 (Operand.tmp 17) 2, type := 0, pos := "law.go:173", after := #[{ on := 12, ground := Ground.guard }], guard := some (12, false) }) (v := ?_) rfl (by kernel_rfl) (by kernel_rfl) (by kernel_rfl) (fun _ _ _ h => h) (Or.inl ⟨by rfl, ?_⟩) (by assumption) ?_
    rotate_left
    · intro w hSw
      clear hSw
      go_simp
      all_goals with_reducible rfl
    simp only [Act.put, List.setIfInBounds_toArray, List.set_cons_zero, List.set_cons_succ]
    refine wpAnyH_take (i := 16) (oi := { dst := some 87, op := Op.load 25 (Operand.tmp 86), type := 25, pos := "law.go:173", after := #[{ on := 15, ground := Ground.data }, { on := 12, ground := Ground.guard }], guard := some (12, false) }) (v := .agg (S.v8l Y2.tag).toArray) rfl (by kernel_rfl) (by kernel_rfl) (by kernel_rfl) (fun _ _ _ h => h) (yieldsIf_load_mid (by rfl) _ _ rfl g17 2 rfl (S.v8l Y2.tag) _ (fun _ hSw => t_tag (hSw.row R17.out (fun e => e))) Tryd.underlying25 rfl (by rw [size_dig _ OY2.out.tl, S.v8_size, S.v8l_length])) (by assumption) ?_
    simp only [Act.put, List.setIfInBounds_toArray, List.set_cons_zero, List.set_cons_succ]
    refine wpAnyH_take (i := 17) (oi := { dst := some 88, op := Op.binOp BinOp.eql 25 (Operand.tmp 85) (Operand.tmp 87) 25, type := 4, pos := "law.go:173", after := #[{ on := 14, ground := Ground.data }, { on := 16, ground := Ground.data }, { on := 12, ground := Ground.guard }], guard := some (12, false) }) (v := ?_) rfl (by kernel_rfl) (by kernel_rfl) (by kernel_rfl) (fun _ _ _ h => h) (Or.inl ⟨by rfl, ?_⟩) (by assumption) ?_
    rotate_left
    · intro w hSw
      have e := EQT
      clear hSw
      go_simp
      all_goals with_reducible rfl
    simp only [Act.put, List.setIfInBounds_toArray, List.set_cons_zero, List.set_cons_succ]
    refine wpAnyH_take (i := 18) (oi := { dst := some 89, op := Op.pick (Operand.tmp 83) (Operand.const (Value.bool true)) (Operand.tmp 88), type := 4, pos := "law.go:173", after := #[{ on := 12, ground := Ground.data }, { on := 17, ground := Ground.data }, { on := 8, ground := Ground.guard }], guard := some (8, true) }) (v := ?_) rfl (by kernel_rfl) (by kernel_rfl) (by kernel_rfl) (fun _ _ _ h => h) (Or.inl ⟨by rfl, ?_⟩) (by assumption) ?_
    rotate_left
    · intro w hSw
      clear hSw
      go_simp
      all_goals with_reducible rfl
    simp only [Act.put, List.setIfInBounds_toArray, List.set_cons_zero, List.set_cons_succ]
    refine wpAnyH_take (i := 19) (oi := { dst := some 90, op := Op.pick (Operand.tmp 79) (Operand.tmp 89) (Operand.const (Value.bool false)), type := 4, pos := "law.go:173", after := #[{ on := 8, ground := Ground.data }, { on := 18, ground := Ground.data }], guard := none }) (v := ?_) rfl (by kernel_rfl) (by kernel_rfl) (by kernel_rfl) (fun _ _ _ h => h) (Or.inl ⟨by rfl, ?_⟩) (by assumption) ?_
    rotate_left
    · intro w hSw
      clear hSw
      go_simp
      all_goals with_reducible rfl
    simp only [Act.put, List.setIfInBounds_toArray, List.set_cons_zero, List.set_cons_succ]
    refine wpAnyH_take (i := 20) (oi := { dst := some 91, op := Op.move (Operand.tmp 90), type := 4, pos := "law.go:173", after := #[{ on := 19, ground := Ground.data }, { on := 12, ground := Ground.chain }], guard := none }) (v := ?_) rfl (by kernel_rfl) (by kernel_rfl) (by kernel_rfl) (fun _ _ _ h => h) (Or.inl ⟨by rfl, ?_⟩) (by assumption) ?_
    rotate_left
    · intro w hSw
      clear hSw
      go_simp
      all_goals with_reducible rfl
    simp only [Act.put, List.setIfInBounds_toArray, List.set_cons_zero, List.set_cons_succ]
    refine wpAnyH_take (i := 21) (oi := { dst := some 92, op := Op.load 27 (Operand.tmp 14), type := 27, pos := "law.go:173", after := #[{ on := 20, ground := Ground.guard }], guard := some (20, true) }) (v := .agg (encT X2.id (.slice X2o X2n X2c) X2.tag).toArray) rfl (by kernel_rfl) (by kernel_rfl) (by kernel_rfl) (fun _ _ _ h => h) (yieldsIf_load_mid (by rfl) _ _ rfl g14 0 rfl (encT X2.id (.slice X2o X2n X2c) X2.tag) _ (fun _ hSw => rangeAt_row (hSw.row R14.out (fun e => e))) Tryd.underlying27 rfl (by rw [size_t _ _ _ OX2.out.tl, List.size_toArray])) (by assumption) ?_
    simp only [Act.put, List.setIfInBounds_toArray, List.set_cons_zero, List.set_cons_succ]
    refine wpAnyH_take (i := 22) (oi := { dst := some 93, op := Op.move (Operand.tmp 3), type := 3, pos := "law.go:173", after := #[{ on := 20, ground := Ground.guard }], guard := some (20, true) }) (v := ?_) rfl (by kernel_rfl) (by kernel_rfl) (by kernel_rfl) (fun _ _ _ h => h) (Or.inl ⟨by rfl, ?_⟩) (by assumption) ?_
    rotate_left
    · intro w hSw
      clear hSw
      go_simp
      all_goals with_reducible rfl
    simp only [Act.put, List.setIfInBounds_toArray, List.set_cons_zero, List.set_cons_succ]
    refine wpAnyH_take (i := 23) (oi := { dst := some 94, op := Op.move (Operand.tmp 4), type := 3, pos := "law.go:173", after := #[{ on := 20, ground := Ground.guard }], guard := some (20, true) }) (v := ?_) rfl (by kernel_rfl) (by kernel_rfl) (by kernel_rfl) (fun _ _ _ h => h) (Or.inl ⟨by rfl, ?_⟩) (by assumption) ?_
    rotate_left
    · intro w hSw
      clear hSw
      go_simp
      all_goals with_reducible rfl
    simp only [Act.put, List.setIfInBounds_toArray, List.set_cons_zero, List.set_cons_succ]
    refine wpAnyH_take (i := 24) (oi := { dst := some 95, op := Op.move (Operand.tmp 5), type := 46, pos := "law.go:173", after := #[{ on := 20, ground := Ground.guard }], guard := some (20, true) }) (v := ?_) rfl (by kernel_rfl) (by kernel_rfl) (by kernel_rfl) (fun _ _ _ h => h) (Or.inl ⟨by rfl, ?_⟩) (by assumption) ?_
    rotate_left
    · intro w hSw
      clear hSw
      go_simp
      all_goals with_reducible rfl
    simp only [Act.put, List.setIfInBounds_toArray, List.set_cons_zero, List.set_cons_succ]
    refine wpAnyH_take (i := 26) (oi := { dst := some 97, op := Op.load 27 (Operand.tmp 17), type := 27, pos := "law.go:173", after := #[{ on := 20, ground := Ground.guard }], guard := some (20, true) }) (v := .agg (encT Y2.id (.slice Y2o Y2n Y2c) Y2.tag).toArray) rfl (by kernel_rfl) (by kernel_rfl) (by kernel_rfl) (fun _ _ _ h => h) (yieldsIf_load_mid (by rfl) _ _ rfl g17 0 rfl (encT Y2.id (.slice Y2o Y2n Y2c) Y2.tag) _ (fun _ hSw => rangeAt_row (hSw.row R17.out (fun e => e))) Tryd.underlying27 rfl (by rw [size_t _ _ _ OY2.out.tl, List.size_toArray])) (by assumption) ?_
    simp only [Act.put, List.setIfInBounds_toArray, List.set_cons_zero, List.set_cons_succ]
    refine wpAnyH_take (i := 27) (oi := { dst := some 98, op := Op.move (Operand.tmp 3), type := 3, pos := "law.go:173", after := #[{ on := 20, ground := Ground.guard }], guard := some (20, true) }) (v := ?_) rfl (by kernel_rfl) (by kernel_rfl) (by kernel_rfl) (fun _ _ _ h => h) (Or.inl ⟨by rfl, ?_⟩) (by assumption) ?_
    rotate_left
    · intro w hSw
      clear hSw
      go_simp
      all_goals with_reducible rfl
    simp only [Act.put, List.setIfInBounds_toArray, List.set_cons_zero, List.set_cons_succ]
    refine wpAnyH_take (i := 28) (oi := { dst := some 99, op := Op.move (Operand.tmp 4), type := 3, pos := "law.go:173", after := #[{ on := 20, ground := Ground.guard }], guard := some (20, true) }) (v := ?_) rfl (by kernel_rfl) (by kernel_rfl) (by kernel_rfl) (fun _ _ _ h => h) (Or.inl ⟨by rfl, ?_⟩) (by assumption) ?_
    rotate_left
    · intro w hSw
      clear hSw
      go_simp
      all_goals with_reducible rfl
    simp only [Act.put, List.setIfInBounds_toArray, List.set_cons_zero, List.set_cons_succ]
    refine wpAnyH_take (i := 29) (oi := { dst := some 100, op := Op.move (Operand.tmp 5), type := 46, pos := "law.go:173", after := #[{ on := 20, ground := Ground.guard }], guard := some (20, true) }) (v := ?_) rfl (by kernel_rfl) (by kernel_rfl) (by kernel_rfl) (fun _ _ _ h => h) (Or.inl ⟨by rfl, ?_⟩) (by assumption) ?_
    rotate_left
    · intro w hSw
      clear hSw
      go_simp
      all_goals with_reducible rfl
    simp only [Act.put, List.setIfInBounds_toArray, List.set_cons_zero, List.set_cons_succ]
    refine wpAnyH_ready (rs := [25]) (by kernel_rfl) (by simp) ?_
    refine AllReadyH.cons (o := { dst := some 96, op := Op.call { callee := Callee.value (Operand.func 17), args := #[Operand.tmp 92, Operand.tmp 93, Operand.tmp 94, Operand.tmp 95], argTypes := #[27, 3, 3, 46] }, type := 4, pos := "law.go:173", after := #[{ on := 21, ground := Ground.data }, { on := 22, ground := Ground.data }, { on := 23, ground := Ground.data }, { on := 24, ground := Ground.data }, { on := 20, ground := Ground.chain }, { on := 20, ground := Ground.guard }], guard := some (20, true) }) rfl (fun K hK => ?_) AllReadyH.nil
    go_simp
    refine (holds_any X2 (.slice X2o X2n X2c) op tree clock Z4 OX2.out ((CRow.at CVX2.out).below (CZ4.out.below _ (Nat.le_refl _) (fun _ _ e => e)))).mono ?_
    rintro e Z5 ⟨rfl, hb2⟩
    rw [HOL.out]
    obtain ⟨q, hq⟩ : ∃ q, q = S.holds Y2.cs op tree clock := ⟨_, rfl⟩
    rw [← hq]
    have HQ := hide hq
    clear hq
    have CZ5 : Hid (Chg (fun _ => False) w7 Z5) := CZ4.out.then hb2
    clear hb2 CZ4
    clear hHeld
    refine hK.out _ _ CZ5.out (fun hHeld => ?_)
    clear hK K
    try simp only [Act.put, List.setIfInBounds_toArray, List.set_cons_zero, List.set_cons_succ]
    refine wpAnyH_ready (rs := [30]) (by kernel_rfl) (by simp) ?_
    refine AllReadyH.cons (o := { dst := some 101, op := Op.call { callee := Callee.value (Operand.func 17), args := #[Operand.tmp 97, Operand.tmp 98, Operand.tmp 99, Operand.tmp 100], argTypes := #[27, 3, 3, 46] }, type := 4, pos := "law.go:173", after := #[{ on := 26, ground := Ground.data }, { on := 27, ground := Ground.data }, { on := 28, ground := Ground.data }, { on := 29, ground := Ground.data }, { on := 25, ground := Ground.chain }, { on := 20, ground := Ground.guard }], guard := some (20, true) }) rfl (fun K hK => ?_) AllReadyH.nil
    go_simp
    refine (holds_any Y2 (.slice Y2o Y2n Y2c) op tree clock Z5 OY2.out ((CRow.at CVY2.out).below (CZ5.out.below _ (Nat.le_refl _) (fun _ _ e => e)))).mono ?_
    rintro e Z6 ⟨rfl, hb2⟩
    rw [← HQ.out]
    have CZ6 : Hid (Chg (fun _ => False) w7 Z6) := CZ5.out.then hb2
    clear hb2 CZ5
    clear hHeld
    refine hK.out _ _ CZ6.out (fun hHeld => ?_)
    clear hK K
    try simp only [Act.put, List.setIfInBounds_toArray, List.set_cons_zero, List.set_cons_succ]
    refine wpAnyH_take (i := 31) (oi := { dst := some 102, op := Op.binOp BinOp.eql 4 (Operand.tmp 96) (Operand.tmp 101) 4, type := 4, pos := "law.go:173", after := #[{ on := 25, ground := Ground.data }, { on := 30, ground := Ground.data }, { on := 20, ground := Ground.guard }], guard := some (20, true) }) (v := ?_) rfl (by kernel_rfl) (by kernel_rfl) (by kernel_rfl) (fun _ _ _ h => h) (Or.inl ⟨by rfl, ?_⟩) (by assumption) ?_
    rotate_left
    · intro w hSw
      clear hSw
      go_simp
      all_goals with_reducible rfl
    simp only [Act.put, List.setIfInBounds_toArray, List.set_cons_zero, List.set_cons_succ]
    refine wpAnyH_take (i := 32) (oi := { dst := some 103, op := Op.pick (Operand.tmp 91) (Operand.tmp 102) (Operand.const (Value.bool false)), type := 4, pos := "law.go:173", after := #[{ on := 20, ground := Ground.data }, { on := 31, ground := Ground.data }], guard := none }) (v := ?_) rfl (by kernel_rfl) (by kernel_rfl) (by kernel_rfl) (fun _ _ _ h => h) (Or.inl ⟨by rfl, ?_⟩) (by assumption) ?_
    rotate_left
    · intro w hSw
      clear hSw
      go_simp
      all_goals with_reducible rfl
    simp only [Act.put, List.setIfInBounds_toArray, List.set_cons_zero, List.set_cons_succ]
    refine wpAnyH_take (i := 33) (oi := { dst := some 104, op := Op.move (Operand.tmp 103), type := 4, pos := "law.go:173", after := #[{ on := 32, ground := Ground.data }, { on := 30, ground := Ground.chain }], guard := none }) (v := ?_) rfl (by kernel_rfl) (by kernel_rfl) (by kernel_rfl) (fun _ _ _ h => h) (Or.inl ⟨by rfl, ?_⟩) (by assumption) ?_
    rotate_left
    · intro w hSw
      clear hSw
      go_simp
      all_goals with_reducible rfl
    simp only [Act.put, List.setIfInBounds_toArray, List.set_cons_zero, List.set_cons_succ]
    refine wpAnyH_ready (rs := [34]) (by kernel_rfl) (by simp) ?_
    refine AllReadyH.cons (o := { dst := some 105, op := Op.call { callee := Callee.value (Operand.func 19), args := #[], argTypes := #[] }, type := 4, pos := "law.go:173", after := #[{ on := 33, ground := Ground.chain }, { on := 33, ground := Ground.guard }], guard := some (33, true) }) rfl (fun K hK => ?_) AllReadyH.nil
    go_simp
    refine (known_any Z6 (HK.out.below (Bw7.out.trans (CZ6.out.below w.heap.size Bw7.out.size (fun k hk e => by omega))) h0)).mono ?_
    rintro e Z7 ⟨rfl, hb2⟩
    have CZ7 : Hid (Chg (fun _ => False) w7 Z7) := CZ6.out.then hb2
    clear hb2 CZ6
    clear hHeld
    refine hK.out _ _ CZ7.out (fun hHeld => ?_)
    clear hK K
    try simp only [Act.put, List.setIfInBounds_toArray, List.set_cons_zero, List.set_cons_succ]
    refine wpAnyH_take (i := 35) (oi := { dst := some 106, op := Op.pick (Operand.tmp 104) (Operand.tmp 105) (Operand.const (Value.bool false)), type := 4, pos := "law.go:173", after := #[{ on := 33, ground := Ground.data }, { on := 34, ground := Ground.data }], guard := none }) (v := ?_) rfl (by kernel_rfl) (by kernel_rfl) (by kernel_rfl) (fun _ _ _ h => h) (Or.inl ⟨by rfl, ?_⟩) (by assumption) ?_
    rotate_left
    · intro w hSw
      clear hSw
      go_simp
      all_goals with_reducible rfl
    simp only [Act.put, List.setIfInBounds_toArray, List.set_cons_zero, List.set_cons_succ]
    refine wpAnyH_take (i := 36) (oi := { dst := some 12, op := Op.assign (Operand.tmp 106), type := 4, pos := "law.go:173", after := #[{ on := 35, ground := Ground.data }, { on := 34, ground := Ground.chain }, { on := 0, ground := Ground.phase }, { on := 1, ground := Ground.phase }, { on := 2, ground := Ground.phase }, { on := 3, ground := Ground.phase }, { on := 4, ground := Ground.phase }, { on := 5, ground := Ground.phase }, { on := 6, ground := Ground.phase }, { on := 7, ground := Ground.phase }, { on := 8, ground := Ground.phase }, { on := 9, ground := Ground.phase }, { on := 10, ground := Ground.phase }, { on := 11, ground := Ground.phase }, { on := 12, ground := Ground.phase }, { on := 13, ground := Ground.phase }, { on := 14, ground := Ground.phase }, { on := 15, ground := Ground.phase }, { on := 16, ground := Ground.phase }, { on := 17, ground := Ground.phase }, { on := 18, ground := Ground.phase }, { on := 19, ground := Ground.phase }, { on := 20, ground := Ground.phase }, { on := 21, ground := Ground.phase }, { on := 22, ground := Ground.phase }, { on := 23, ground := Ground.phase }, { on := 24, ground := Ground.phase }, { on := 25, ground := Ground.phase }, { on := 26, ground := Ground.phase }, { on := 27, ground := Ground.phase }, { on := 28, ground := Ground.phase }, { on := 29, ground := Ground.phase }, { on := 30, ground := Ground.phase }, { on := 31, ground := Ground.phase }, { on := 32, ground := Ground.phase }, { on := 33, ground := Ground.phase }, { on := 34, ground := Ground.phase }, { on := 35, ground := Ground.phase }], guard := none }) (v := ?_) rfl (by kernel_rfl) (by kernel_rfl) (by kernel_rfl) (fun _ _ _ h => h) (Or.inl ⟨by rfl, ?_⟩) (by assumption) ?_
    rotate_left
    · intro w hSw
      clear hSw
      go_simp
      all_goals with_reducible rfl
    simp only [Act.put, List.setIfInBounds_toArray, List.set_cons_zero, List.set_cons_succ]
    refine wpAnyH_done (by kernel_rfl) ?_ _
    refine NoPanic.normal ?_
    clear hHeld
    have BF := hide (Bw7.out.trans (CZ7.out.below w.heap.size Bw7.out.size (fun k hk e => by omega)))
    generalize Z7 = Y at BF ⊢
    go_wp2_with fail
    go_ret
    exact ⟨rfl, BF.out⟩
  · have EQC := fun W => equal_c A Bv false (by simp [hAB]) W
    clear hAB SAM
    refine wp_region_noPanic ?_
    refine wp_region_held_drew (S := (fun W => Chg (fun _ => False) w7 W)) follows ((Chg.refl _ _).drew) (fun hHeld => ?_)
    clear hHeld
    have hHeld : Chg (fun _ => False) w7 w7.drew := (Chg.refl _ _).drew
    have CZ0 := hide hHeld
    generalize w7.drew = Z0 at CZ0 hHeld ⊢
    refine wpAnyH_take (i := 1) (oi := { dst := some 72, op := Op.load 27 (Operand.tmp 14), type := 27, pos := "law.go:173", after := #[], guard := none }) (v := .agg (encT X2.id (.slice X2o X2n X2c) X2.tag).toArray) rfl (by kernel_rfl) (by kernel_rfl) (by kernel_rfl) (fun _ _ _ h => h) (yieldsIf_load_mid (by rfl) _ _ rfl g14 0 rfl (encT X2.id (.slice X2o X2n X2c) X2.tag) _ (fun _ hSw => rangeAt_row (hSw.row R14.out (fun e => e))) Tryd.underlying27 rfl (by rw [size_t _ _ _ OX2.out.tl, List.size_toArray])) (by assumption) ?_
    simp only [Act.put, List.setIfInBounds_toArray, List.set_cons_zero, List.set_cons_succ]
    refine wpAnyH_ready (rs := [0]) (by kernel_rfl) (by simp) ?_
    refine AllReadyH.cons (o := { dst := some 71, op := Op.call { callee := Callee.value (Operand.func 10), args := #[Operand.const (Value.int IntKind.u8 6)], argTypes := #[5] }, type := 25, pos := "law.go:173", after := #[], guard := none }) rfl (fun K hK => ?_) AllReadyH.nil
    go_simp
    refine (root_is 6 6 Z0 rfl).mono ?_
    rintro e Z1 ⟨rfl, hb2⟩
    have CZ1 : Hid (Chg (fun _ => False) w7 Z1) := CZ0.out.then hb2
    clear hb2 CZ0
    clear hHeld
    refine hK.out _ _ CZ1.out (fun hHeld => ?_)
    clear hK K
    try simp only [Act.put, List.setIfInBounds_toArray, List.set_cons_zero, List.set_cons_succ]
    refine wpAnyH_ready (rs := [2]) (by kernel_rfl) (by simp) ?_
    refine AllReadyH.cons (o := { dst := some 73, op := Op.call { callee := Callee.value (Operand.func 16), args := #[Operand.tmp 71, Operand.tmp 72], argTypes := #[25, 27] }, type := 4, pos := "law.go:173", after := #[{ on := 0, ground := Ground.data }, { on := 1, ground := Ground.data }, { on := 0, ground := Ground.chain }], guard := none }) rfl (fun K hK => ?_) AllReadyH.nil
    go_simp
    refine (genuine_any (S.root 6) X2 (.slice X2o X2n X2c) Z1 (S.root_length 6) OX2.out ((CRow.at CVX2.out).below (CZ1.out.below _ (Nat.le_refl _) (fun _ _ e => e))) (HK.out.below (Bw7.out.trans (CZ1.out.below w.heap.size Bw7.out.size (fun k hk e => by omega))) h0)).mono ?_
    rintro e Z2 ⟨rfl, hb2⟩
    rw [L14.out]
    have CZ2 : Hid (Chg (fun _ => False) w7 Z2) := CZ1.out.then hb2
    clear hb2 CZ1
    clear hHeld
    refine hK.out _ _ CZ2.out (fun hHeld => ?_)
    clear hK K
    try simp only [Act.put, List.setIfInBounds_toArray, List.set_cons_zero, List.set_cons_succ]
    refine wpAnyH_take (i := 3) (oi := { dst := some 74, op := Op.move (Operand.tmp 73), type := 4, pos := "law.go:173", after := #[{ on := 2, ground := Ground.data }, { on := 2, ground := Ground.chain }], guard := none }) (v := ?_) rfl (by kernel_rfl) (by kernel_rfl) (by kernel_rfl) (fun _ _ _ h => h) (Or.inl ⟨by rfl, ?_⟩) (by assumption) ?_
    rotate_left
    · intro w hSw
      clear hSw
      go_simp
      all_goals with_reducible rfl
    simp only [Act.put, List.setIfInBounds_toArray, List.set_cons_zero, List.set_cons_succ]
    refine wpAnyH_take (i := 5) (oi := { dst := some 76, op := Op.load 27 (Operand.tmp 17), type := 27, pos := "law.go:173", after := #[{ on := 3, ground := Ground.guard }], guard := some (3, true) }) (v := .agg (encT Y2.id (.slice Y2o Y2n Y2c) Y2.tag).toArray) rfl (by kernel_rfl) (by kernel_rfl) (by kernel_rfl) (fun _ _ _ h => h) (yieldsIf_load_mid (by rfl) _ _ rfl g17 0 rfl (encT Y2.id (.slice Y2o Y2n Y2c) Y2.tag) _ (fun _ hSw => rangeAt_row (hSw.row R17.out (fun e => e))) Tryd.underlying27 rfl (by rw [size_t _ _ _ OY2.out.tl, List.size_toArray])) (by assumption) ?_
    simp only [Act.put, List.setIfInBounds_toArray, List.set_cons_zero, List.set_cons_succ]
    refine wpAnyH_ready (rs := [4]) (by kernel_rfl) (by simp) ?_
    refine AllReadyH.cons (o := { dst := some 75, op := Op.call { callee := Callee.value (Operand.func 10), args := #[Operand.const (Value.int IntKind.u8 6)], argTypes := #[5] }, type := 25, pos := "law.go:173", after := #[{ on := 3, ground := Ground.chain }, { on := 3, ground := Ground.guard }], guard := some (3, true) }) rfl (fun K hK => ?_) AllReadyH.nil
    go_simp
    refine (root_is 6 6 Z2 rfl).mono ?_
    rintro e Z3 ⟨rfl, hb2⟩
    have CZ3 : Hid (Chg (fun _ => False) w7 Z3) := CZ2.out.then hb2
    clear hb2 CZ2
    clear hHeld
    refine hK.out _ _ CZ3.out (fun hHeld => ?_)
    clear hK K
    try simp only [Act.put, List.setIfInBounds_toArray, List.set_cons_zero, List.set_cons_succ]
    refine wpAnyH_ready (rs := [6]) (by kernel_rfl) (by simp) ?_
    refine AllReadyH.cons (o := { dst := some 77, op := Op.call { callee := Callee.value (Operand.func 16), args := #[Operand.tmp 75, Operand.tmp 76], argTypes := #[25, 27] }, type := 4, pos := "law.go:173", after := #[{ on := 4, ground := Ground.data }, { on := 5, ground := Ground.data }, { on := 4, ground := Ground.chain }, { on := 3, ground := Ground.guard }], guard := some (3, true) }) rfl (fun K hK => ?_) AllReadyH.nil
    go_simp
    refine (genuine_any (S.root 6) Y2 (.slice Y2o Y2n Y2c) Z3 (S.root_length 6) OY2.out ((CRow.at CVY2.out).below (CZ3.out.below _ (Nat.le_refl _) (fun _ _ e => e))) (HK.out.below (Bw7.out.trans (CZ3.out.below w.heap.size Bw7.out.size (fun k hk e => by omega))) h0)).mono ?_
    rintro e Z4 ⟨rfl, hb2⟩
    rw [L17.out]
    have CZ4 : Hid (Chg (fun _ => False) w7 Z4) := CZ3.out.then hb2
    clear hb2 CZ3
    clear hHeld
    refine hK.out _ _ CZ4.out (fun hHeld => ?_)
    clear hK K
    try simp only [Act.put, List.setIfInBounds_toArray, List.set_cons_zero, List.set_cons_succ]
    refine wpAnyH_take (i := 7) (oi := { dst := some 78, op := Op.pick (Operand.tmp 74) (Operand.tmp 77) (Operand.const (Value.bool false)), type := 4, pos := "law.go:173", after := #[{ on := 3, ground := Ground.data }, { on := 6, ground := Ground.data }], guard := none }) (v := ?_) rfl (by kernel_rfl) (by kernel_rfl) (by kernel_rfl) (fun _ _ _ h => h) (Or.inl ⟨by rfl, ?_⟩) (by assumption) ?_
    rotate_left
    · intro w hSw
      clear hSw
      go_simp
      all_goals with_reducible rfl
    simp only [Act.put, List.setIfInBounds_toArray, List.set_cons_zero, List.set_cons_succ]
    refine wpAnyH_take (i := 8) (oi := { dst := some 79, op := Op.move (Operand.tmp 78), type := 4, pos := "law.go:173", after := #[{ on := 7, ground := Ground.data }, { on := 6, ground := Ground.chain }], guard := none }) (v := ?_) rfl (by kernel_rfl) (by kernel_rfl) (by kernel_rfl) (fun _ _ _ h => h) (Or.inl ⟨by rfl, ?_⟩) (by assumption) ?_
    rotate_left
    · intro w hSw
      clear hSw
      go_simp
      all_goals with_reducible rfl
    simp only [Act.put, List.setIfInBounds_toArray, List.set_cons_zero, List.set_cons_succ]
    refine wpAnyH_take (i := 9) (oi := { dst := some 80, op := Op.load 42 (Operand.tmp 7), type := 42, pos := "law.go:173", after := #[{ on := 8, ground := Ground.guard }], guard := some (8, true) }) (v := .agg (encC A).toArray) rfl (by kernel_rfl) (by kernel_rfl) (by kernel_rfl) (fun _ _ _ h => h) (yieldsIf_load_mid (by rfl) _ _ rfl w.heap.size 0 rfl (encC A) _ (fun _ hSw => rangeAt_row (hSw.row PA.out (fun e => e))) Tryd.underlying42 rfl (by rw [size_c, List.size_toArray])) (by assumption) ?_
    simp only [Act.put, List.setIfInBounds_toArray, List.set_cons_zero, List.set_cons_succ]
    refine wpAnyH_take (i := 10) (oi := { dst := some 81, op := Op.load 42 (Operand.tmp 8), type := 42, pos := "law.go:173", after := #[{ on := 8, ground := Ground.guard }], guard := some (8, true) }) (v := .agg (encC Bv).toArray) rfl (by kernel_rfl) (by kernel_rfl) (by kernel_rfl) (fun _ _ _ h => h) (yieldsIf_load_mid (by rfl) _ _ rfl (w.heap.size + 1) 0 rfl (encC Bv) _ (fun _ hSw => rangeAt_row (hSw.row PB.out (fun e => e))) Tryd.underlying42 rfl (by rw [size_c, List.size_toArray])) (by assumption) ?_
    simp only [Act.put, List.setIfInBounds_toArray, List.set_cons_zero, List.set_cons_succ]
    refine wpAnyH_take (i := 11) (oi := { dst := some 82, op := Op.binOp BinOp.neq 42 (Operand.tmp 80) (Operand.tmp 81) 42, type := 4, pos := "law.go:173", after := #[{ on := 9, ground := Ground.data }, { on := 10, ground := Ground.data }, { on := 8, ground := Ground.guard }], guard := some (8, true) }) (v := ?_) rfl (by kernel_rfl) (by kernel_rfl) (by kernel_rfl) (fun _ _ _ h => h) (Or.inl ⟨by rfl, ?_⟩) (by assumption) ?_
    rotate_left
    · intro w hSw
      have e := EQC
      clear hSw
      go_simp
      all_goals with_reducible rfl
    simp only [Act.put, List.setIfInBounds_toArray, List.set_cons_zero, List.set_cons_succ]
    refine wpAnyH_take (i := 12) (oi := { dst := some 83, op := Op.move (Operand.tmp 82), type := 4, pos := "law.go:173", after := #[{ on := 11, ground := Ground.data }, { on := 8, ground := Ground.chain }, { on := 8, ground := Ground.guard }], guard := some (8, true) }) (v := ?_) rfl (by kernel_rfl) (by kernel_rfl) (by kernel_rfl) (fun _ _ _ h => h) (Or.inl ⟨by rfl, ?_⟩) (by assumption) ?_
    rotate_left
    · intro w hSw
      clear hSw
      go_simp
      all_goals with_reducible rfl
    simp only [Act.put, List.setIfInBounds_toArray, List.set_cons_zero, List.set_cons_succ]
    refine wpAnyH_take (i := 13) (oi := { dst := some 84, op := Op.fieldAddr 27 (Operand.tmp 14) 2, type := 0, pos := "law.go:173", after := #[{ on := 12, ground := Ground.guard }], guard := some (12, false) }) (v := undef) rfl (by kernel_rfl) (by kernel_rfl) (by kernel_rfl) (fun _ _ _ h => h) (Or.inr ⟨by rfl, rfl⟩) (by assumption) ?_
    simp only [Act.put, List.setIfInBounds_toArray, List.set_cons_zero, List.set_cons_succ]
    refine wpAnyH_take (i := 14) (oi := { dst := some 85, op := Op.load 25 (Operand.tmp 84), type := 25, pos := "law.go:173", after := #[{ on := 13, ground := Ground.data }, { on := 12, ground := Ground.guard }], guard := some (12, false) }) (v := undef) rfl (by kernel_rfl) (by kernel_rfl) (by kernel_rfl) (fun _ _ _ h => h) (Or.inr ⟨by rfl, rfl⟩) (by assumption) ?_
    simp only [Act.put, List.setIfInBounds_toArray, List.set_cons_zero, List.set_cons_succ]
    refine wpAnyH_take (i := 15) (oi := { dst := some 86, op := Op.fieldAddr 27 (Operand.tmp 17) 2, type := 0, pos := "law.go:173", after := #[{ on := 12, ground := Ground.guard }], guard := some (12, false) }) (v := undef) rfl (by kernel_rfl) (by kernel_rfl) (by kernel_rfl) (fun _ _ _ h => h) (Or.inr ⟨by rfl, rfl⟩) (by assumption) ?_
    simp only [Act.put, List.setIfInBounds_toArray, List.set_cons_zero, List.set_cons_succ]
    refine wpAnyH_take (i := 16) (oi := { dst := some 87, op := Op.load 25 (Operand.tmp 86), type := 25, pos := "law.go:173", after := #[{ on := 15, ground := Ground.data }, { on := 12, ground := Ground.guard }], guard := some (12, false) }) (v := undef) rfl (by kernel_rfl) (by kernel_rfl) (by kernel_rfl) (fun _ _ _ h => h) (Or.inr ⟨by rfl, rfl⟩) (by assumption) ?_
    simp only [Act.put, List.setIfInBounds_toArray, List.set_cons_zero, List.set_cons_succ]
    refine wpAnyH_take (i := 17) (oi := { dst := some 88, op := Op.binOp BinOp.eql 25 (Operand.tmp 85) (Operand.tmp 87) 25, type := 4, pos := "law.go:173", after := #[{ on := 14, ground := Ground.data }, { on := 16, ground := Ground.data }, { on := 12, ground := Ground.guard }], guard := some (12, false) }) (v := undef) rfl (by kernel_rfl) (by kernel_rfl) (by kernel_rfl) (fun _ _ _ h => h) (Or.inr ⟨by rfl, rfl⟩) (by assumption) ?_
    simp only [Act.put, List.setIfInBounds_toArray, List.set_cons_zero, List.set_cons_succ]
    refine wpAnyH_take (i := 18) (oi := { dst := some 89, op := Op.pick (Operand.tmp 83) (Operand.const (Value.bool true)) (Operand.tmp 88), type := 4, pos := "law.go:173", after := #[{ on := 12, ground := Ground.data }, { on := 17, ground := Ground.data }, { on := 8, ground := Ground.guard }], guard := some (8, true) }) (v := ?_) rfl (by kernel_rfl) (by kernel_rfl) (by kernel_rfl) (fun _ _ _ h => h) (Or.inl ⟨by rfl, ?_⟩) (by assumption) ?_
    rotate_left
    · intro w hSw
      clear hSw
      go_simp
      all_goals with_reducible rfl
    simp only [Act.put, List.setIfInBounds_toArray, List.set_cons_zero, List.set_cons_succ]
    refine wpAnyH_take (i := 19) (oi := { dst := some 90, op := Op.pick (Operand.tmp 79) (Operand.tmp 89) (Operand.const (Value.bool false)), type := 4, pos := "law.go:173", after := #[{ on := 8, ground := Ground.data }, { on := 18, ground := Ground.data }], guard := none }) (v := ?_) rfl (by kernel_rfl) (by kernel_rfl) (by kernel_rfl) (fun _ _ _ h => h) (Or.inl ⟨by rfl, ?_⟩) (by assumption) ?_
    rotate_left
    · intro w hSw
      clear hSw
      go_simp
      all_goals with_reducible rfl
    simp only [Act.put, List.setIfInBounds_toArray, List.set_cons_zero, List.set_cons_succ]
    refine wpAnyH_take (i := 20) (oi := { dst := some 91, op := Op.move (Operand.tmp 90), type := 4, pos := "law.go:173", after := #[{ on := 19, ground := Ground.data }, { on := 12, ground := Ground.chain }], guard := none }) (v := ?_) rfl (by kernel_rfl) (by kernel_rfl) (by kernel_rfl) (fun _ _ _ h => h) (Or.inl ⟨by rfl, ?_⟩) (by assumption) ?_
    rotate_left
    · intro w hSw
      clear hSw
      go_simp
      all_goals with_reducible rfl
    simp only [Act.put, List.setIfInBounds_toArray, List.set_cons_zero, List.set_cons_succ]
    refine wpAnyH_take (i := 21) (oi := { dst := some 92, op := Op.load 27 (Operand.tmp 14), type := 27, pos := "law.go:173", after := #[{ on := 20, ground := Ground.guard }], guard := some (20, true) }) (v := .agg (encT X2.id (.slice X2o X2n X2c) X2.tag).toArray) rfl (by kernel_rfl) (by kernel_rfl) (by kernel_rfl) (fun _ _ _ h => h) (yieldsIf_load_mid (by rfl) _ _ rfl g14 0 rfl (encT X2.id (.slice X2o X2n X2c) X2.tag) _ (fun _ hSw => rangeAt_row (hSw.row R14.out (fun e => e))) Tryd.underlying27 rfl (by rw [size_t _ _ _ OX2.out.tl, List.size_toArray])) (by assumption) ?_
    simp only [Act.put, List.setIfInBounds_toArray, List.set_cons_zero, List.set_cons_succ]
    refine wpAnyH_take (i := 22) (oi := { dst := some 93, op := Op.move (Operand.tmp 3), type := 3, pos := "law.go:173", after := #[{ on := 20, ground := Ground.guard }], guard := some (20, true) }) (v := ?_) rfl (by kernel_rfl) (by kernel_rfl) (by kernel_rfl) (fun _ _ _ h => h) (Or.inl ⟨by rfl, ?_⟩) (by assumption) ?_
    rotate_left
    · intro w hSw
      clear hSw
      go_simp
      all_goals with_reducible rfl
    simp only [Act.put, List.setIfInBounds_toArray, List.set_cons_zero, List.set_cons_succ]
    refine wpAnyH_take (i := 23) (oi := { dst := some 94, op := Op.move (Operand.tmp 4), type := 3, pos := "law.go:173", after := #[{ on := 20, ground := Ground.guard }], guard := some (20, true) }) (v := ?_) rfl (by kernel_rfl) (by kernel_rfl) (by kernel_rfl) (fun _ _ _ h => h) (Or.inl ⟨by rfl, ?_⟩) (by assumption) ?_
    rotate_left
    · intro w hSw
      clear hSw
      go_simp
      all_goals with_reducible rfl
    simp only [Act.put, List.setIfInBounds_toArray, List.set_cons_zero, List.set_cons_succ]
    refine wpAnyH_take (i := 24) (oi := { dst := some 95, op := Op.move (Operand.tmp 5), type := 46, pos := "law.go:173", after := #[{ on := 20, ground := Ground.guard }], guard := some (20, true) }) (v := ?_) rfl (by kernel_rfl) (by kernel_rfl) (by kernel_rfl) (fun _ _ _ h => h) (Or.inl ⟨by rfl, ?_⟩) (by assumption) ?_
    rotate_left
    · intro w hSw
      clear hSw
      go_simp
      all_goals with_reducible rfl
    simp only [Act.put, List.setIfInBounds_toArray, List.set_cons_zero, List.set_cons_succ]
    refine wpAnyH_take (i := 26) (oi := { dst := some 97, op := Op.load 27 (Operand.tmp 17), type := 27, pos := "law.go:173", after := #[{ on := 20, ground := Ground.guard }], guard := some (20, true) }) (v := .agg (encT Y2.id (.slice Y2o Y2n Y2c) Y2.tag).toArray) rfl (by kernel_rfl) (by kernel_rfl) (by kernel_rfl) (fun _ _ _ h => h) (yieldsIf_load_mid (by rfl) _ _ rfl g17 0 rfl (encT Y2.id (.slice Y2o Y2n Y2c) Y2.tag) _ (fun _ hSw => rangeAt_row (hSw.row R17.out (fun e => e))) Tryd.underlying27 rfl (by rw [size_t _ _ _ OY2.out.tl, List.size_toArray])) (by assumption) ?_
    simp only [Act.put, List.setIfInBounds_toArray, List.set_cons_zero, List.set_cons_succ]
    refine wpAnyH_take (i := 27) (oi := { dst := some 98, op := Op.move (Operand.tmp 3), type := 3, pos := "law.go:173", after := #[{ on := 20, ground := Ground.guard }], guard := some (20, true) }) (v := ?_) rfl (by kernel_rfl) (by kernel_rfl) (by kernel_rfl) (fun _ _ _ h => h) (Or.inl ⟨by rfl, ?_⟩) (by assumption) ?_
    rotate_left
    · intro w hSw
      clear hSw
      go_simp
      all_goals with_reducible rfl
    simp only [Act.put, List.setIfInBounds_toArray, List.set_cons_zero, List.set_cons_succ]
    refine wpAnyH_take (i := 28) (oi := { dst := some 99, op := Op.move (Operand.tmp 4), type := 3, pos := "law.go:173", after := #[{ on := 20, ground := Ground.guard }], guard := some (20, true) }) (v := ?_) rfl (by kernel_rfl) (by kernel_rfl) (by kernel_rfl) (fun _ _ _ h => h) (Or.inl ⟨by rfl, ?_⟩) (by assumption) ?_
    rotate_left
    · intro w hSw
      clear hSw
      go_simp
      all_goals with_reducible rfl
    simp only [Act.put, List.setIfInBounds_toArray, List.set_cons_zero, List.set_cons_succ]
    refine wpAnyH_take (i := 29) (oi := { dst := some 100, op := Op.move (Operand.tmp 5), type := 46, pos := "law.go:173", after := #[{ on := 20, ground := Ground.guard }], guard := some (20, true) }) (v := ?_) rfl (by kernel_rfl) (by kernel_rfl) (by kernel_rfl) (fun _ _ _ h => h) (Or.inl ⟨by rfl, ?_⟩) (by assumption) ?_
    rotate_left
    · intro w hSw
      clear hSw
      go_simp
      all_goals with_reducible rfl
    simp only [Act.put, List.setIfInBounds_toArray, List.set_cons_zero, List.set_cons_succ]
    refine wpAnyH_ready (rs := [25]) (by kernel_rfl) (by simp) ?_
    refine AllReadyH.cons (o := { dst := some 96, op := Op.call { callee := Callee.value (Operand.func 17), args := #[Operand.tmp 92, Operand.tmp 93, Operand.tmp 94, Operand.tmp 95], argTypes := #[27, 3, 3, 46] }, type := 4, pos := "law.go:173", after := #[{ on := 21, ground := Ground.data }, { on := 22, ground := Ground.data }, { on := 23, ground := Ground.data }, { on := 24, ground := Ground.data }, { on := 20, ground := Ground.chain }, { on := 20, ground := Ground.guard }], guard := some (20, true) }) rfl (fun K hK => ?_) AllReadyH.nil
    go_simp
    refine (holds_any X2 (.slice X2o X2n X2c) op tree clock Z4 OX2.out ((CRow.at CVX2.out).below (CZ4.out.below _ (Nat.le_refl _) (fun _ _ e => e)))).mono ?_
    rintro e Z5 ⟨rfl, hb2⟩
    rw [HOL.out]
    obtain ⟨q, hq⟩ : ∃ q, q = S.holds Y2.cs op tree clock := ⟨_, rfl⟩
    rw [← hq]
    have HQ := hide hq
    clear hq
    have CZ5 : Hid (Chg (fun _ => False) w7 Z5) := CZ4.out.then hb2
    clear hb2 CZ4
    clear hHeld
    refine hK.out _ _ CZ5.out (fun hHeld => ?_)
    clear hK K
    try simp only [Act.put, List.setIfInBounds_toArray, List.set_cons_zero, List.set_cons_succ]
    refine wpAnyH_ready (rs := [30]) (by kernel_rfl) (by simp) ?_
    refine AllReadyH.cons (o := { dst := some 101, op := Op.call { callee := Callee.value (Operand.func 17), args := #[Operand.tmp 97, Operand.tmp 98, Operand.tmp 99, Operand.tmp 100], argTypes := #[27, 3, 3, 46] }, type := 4, pos := "law.go:173", after := #[{ on := 26, ground := Ground.data }, { on := 27, ground := Ground.data }, { on := 28, ground := Ground.data }, { on := 29, ground := Ground.data }, { on := 25, ground := Ground.chain }, { on := 20, ground := Ground.guard }], guard := some (20, true) }) rfl (fun K hK => ?_) AllReadyH.nil
    go_simp
    refine (holds_any Y2 (.slice Y2o Y2n Y2c) op tree clock Z5 OY2.out ((CRow.at CVY2.out).below (CZ5.out.below _ (Nat.le_refl _) (fun _ _ e => e)))).mono ?_
    rintro e Z6 ⟨rfl, hb2⟩
    rw [← HQ.out]
    have CZ6 : Hid (Chg (fun _ => False) w7 Z6) := CZ5.out.then hb2
    clear hb2 CZ5
    clear hHeld
    refine hK.out _ _ CZ6.out (fun hHeld => ?_)
    clear hK K
    try simp only [Act.put, List.setIfInBounds_toArray, List.set_cons_zero, List.set_cons_succ]
    refine wpAnyH_take (i := 31) (oi := { dst := some 102, op := Op.binOp BinOp.eql 4 (Operand.tmp 96) (Operand.tmp 101) 4, type := 4, pos := "law.go:173", after := #[{ on := 25, ground := Ground.data }, { on := 30, ground := Ground.data }, { on := 20, ground := Ground.guard }], guard := some (20, true) }) (v := ?_) rfl (by kernel_rfl) (by kernel_rfl) (by kernel_rfl) (fun _ _ _ h => h) (Or.inl ⟨by rfl, ?_⟩) (by assumption) ?_
    rotate_left
    · intro w hSw
      clear hSw
      go_simp
      all_goals with_reducible rfl
    simp only [Act.put, List.setIfInBounds_toArray, List.set_cons_zero, List.set_cons_succ]
    refine wpAnyH_take (i := 32) (oi := { dst := some 103, op := Op.pick (Operand.tmp 91) (Operand.tmp 102) (Operand.const (Value.bool false)), type := 4, pos := "law.go:173", after := #[{ on := 20, ground := Ground.data }, { on := 31, ground := Ground.data }], guard := none }) (v := ?_) rfl (by kernel_rfl) (by kernel_rfl) (by kernel_rfl) (fun _ _ _ h => h) (Or.inl ⟨by rfl, ?_⟩) (by assumption) ?_
    rotate_left
    · intro w hSw
      clear hSw
      go_simp
      all_goals with_reducible rfl
    simp only [Act.put, List.setIfInBounds_toArray, List.set_cons_zero, List.set_cons_succ]
    refine wpAnyH_take (i := 33) (oi := { dst := some 104, op := Op.move (Operand.tmp 103), type := 4, pos := "law.go:173", after := #[{ on := 32, ground := Ground.data }, { on := 30, ground := Ground.chain }], guard := none }) (v := ?_) rfl (by kernel_rfl) (by kernel_rfl) (by kernel_rfl) (fun _ _ _ h => h) (Or.inl ⟨by rfl, ?_⟩) (by assumption) ?_
    rotate_left
    · intro w hSw
      clear hSw
      go_simp
      all_goals with_reducible rfl
    simp only [Act.put, List.setIfInBounds_toArray, List.set_cons_zero, List.set_cons_succ]
    refine wpAnyH_ready (rs := [34]) (by kernel_rfl) (by simp) ?_
    refine AllReadyH.cons (o := { dst := some 105, op := Op.call { callee := Callee.value (Operand.func 19), args := #[], argTypes := #[] }, type := 4, pos := "law.go:173", after := #[{ on := 33, ground := Ground.chain }, { on := 33, ground := Ground.guard }], guard := some (33, true) }) rfl (fun K hK => ?_) AllReadyH.nil
    go_simp
    refine (known_any Z6 (HK.out.below (Bw7.out.trans (CZ6.out.below w.heap.size Bw7.out.size (fun k hk e => by omega))) h0)).mono ?_
    rintro e Z7 ⟨rfl, hb2⟩
    have CZ7 : Hid (Chg (fun _ => False) w7 Z7) := CZ6.out.then hb2
    clear hb2 CZ6
    clear hHeld
    refine hK.out _ _ CZ7.out (fun hHeld => ?_)
    clear hK K
    try simp only [Act.put, List.setIfInBounds_toArray, List.set_cons_zero, List.set_cons_succ]
    refine wpAnyH_take (i := 35) (oi := { dst := some 106, op := Op.pick (Operand.tmp 104) (Operand.tmp 105) (Operand.const (Value.bool false)), type := 4, pos := "law.go:173", after := #[{ on := 33, ground := Ground.data }, { on := 34, ground := Ground.data }], guard := none }) (v := ?_) rfl (by kernel_rfl) (by kernel_rfl) (by kernel_rfl) (fun _ _ _ h => h) (Or.inl ⟨by rfl, ?_⟩) (by assumption) ?_
    rotate_left
    · intro w hSw
      clear hSw
      go_simp
      all_goals with_reducible rfl
    simp only [Act.put, List.setIfInBounds_toArray, List.set_cons_zero, List.set_cons_succ]
    refine wpAnyH_take (i := 36) (oi := { dst := some 12, op := Op.assign (Operand.tmp 106), type := 4, pos := "law.go:173", after := #[{ on := 35, ground := Ground.data }, { on := 34, ground := Ground.chain }, { on := 0, ground := Ground.phase }, { on := 1, ground := Ground.phase }, { on := 2, ground := Ground.phase }, { on := 3, ground := Ground.phase }, { on := 4, ground := Ground.phase }, { on := 5, ground := Ground.phase }, { on := 6, ground := Ground.phase }, { on := 7, ground := Ground.phase }, { on := 8, ground := Ground.phase }, { on := 9, ground := Ground.phase }, { on := 10, ground := Ground.phase }, { on := 11, ground := Ground.phase }, { on := 12, ground := Ground.phase }, { on := 13, ground := Ground.phase }, { on := 14, ground := Ground.phase }, { on := 15, ground := Ground.phase }, { on := 16, ground := Ground.phase }, { on := 17, ground := Ground.phase }, { on := 18, ground := Ground.phase }, { on := 19, ground := Ground.phase }, { on := 20, ground := Ground.phase }, { on := 21, ground := Ground.phase }, { on := 22, ground := Ground.phase }, { on := 23, ground := Ground.phase }, { on := 24, ground := Ground.phase }, { on := 25, ground := Ground.phase }, { on := 26, ground := Ground.phase }, { on := 27, ground := Ground.phase }, { on := 28, ground := Ground.phase }, { on := 29, ground := Ground.phase }, { on := 30, ground := Ground.phase }, { on := 31, ground := Ground.phase }, { on := 32, ground := Ground.phase }, { on := 33, ground := Ground.phase }, { on := 34, ground := Ground.phase }, { on := 35, ground := Ground.phase }], guard := none }) (v := ?_) rfl (by kernel_rfl) (by kernel_rfl) (by kernel_rfl) (fun _ _ _ h => h) (Or.inl ⟨by rfl, ?_⟩) (by assumption) ?_
    rotate_left
    · intro w hSw
      clear hSw
      go_simp
      all_goals with_reducible rfl
    simp only [Act.put, List.setIfInBounds_toArray, List.set_cons_zero, List.set_cons_succ]
    refine wpAnyH_done (by kernel_rfl) ?_ _
    refine NoPanic.normal ?_
    clear hHeld
    have BF := hide (Bw7.out.trans (CZ7.out.below w.heap.size Bw7.out.size (fun k hk e => by omega)))
    generalize Z7 = Y at BF ⊢
    go_wp2_with fail
    go_ret
    exact ⟨rfl, BF.out⟩
end Go.Proofs.YtlcilclhaahopaaDoor
