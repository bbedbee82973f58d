/- What the statements call first: some runs. Equality of caveats. -/
import Derived.Test.YtlcilclhaahopaaDoorTf
namespace Go.Proofs.YtlcilclhaahopaaDoor
open Go.RowKit

set_option maxRecDepth 100000 in
theorem tags_apart : (S.mac (S.root 1) (S.mintText 8) == S.mac (S.root 1) (S.mintText 7)) = false := by kernel_rfl
theorem S.mint_tag_eq (r : List UInt8) (id : Nat) : (S.mint r id).tag = S.mac r (S.mintText id) := by simp only [S.mint]
theorem set_id {w : World} {g id : Nat} {cv : Value} {tag : List UInt8} (x : Int) (n : Nat) (hx : x = (n : Int)) (hr : w.heap[g]? = some (.cells (encT id cv tag).toArray 27 (0, 0))) : (w.setCell ⟨g, 0, none⟩ (.int .u32 x)).heap[g]? = some (.cells (encT n cv tag).toArray 27 (0, 0)) := by
  subst hx
  rw [heap_setCell_same _ _ _ _ _ _ hr]
  congr 2
theorem set_k {w : World} {g : Nat} {c : S.Cv} (k : Int) (hr : w.heap[g]? = some (.cells (encC c).toArray 42 (0, 0))) : (w.setCell ⟨g, 0, none⟩ (.int .i64 k)).heap[g]? = some (.cells (encC ⟨k, c.n⟩).toArray 42 (0, 0)) := by
  rw [heap_setCell_same _ _ _ _ _ _ hr]
  congr 2
theorem build_c13 (w : World) : (Instr.build 42 #[(0, .int .i64 1), (1, .int .u32 3)]).run Tryd.prog w = .ok (.agg (encC ⟨1, 3⟩).toArray) w := run_build w 42 _ _ (by kernel_rfl)
set_option maxHeartbeats 8000000 in
set_option maxRecDepth 10000 in
theorem known_any (w : World) (hK : KAt w) : Calls Tryd.prog 19 #[] w fun e w' => e = .returned (.bool true) ∧ Below w.heap.size w w' := by
  have HK := hide hK
  have h0 := hK.pos
  clear hK
  go_enter Tryd.func19, Tryd.ntmps19
  go_wp2_with fail
  refine (root_is 1 1 w rfl).mono ?_
  rintro e w1 ⟨rfl, hb1⟩
  have B1 := hide hb1
  clear hb1
  go_wp2_with fail
  refine (mint_any (S.root 1) 7 w1 (S.root_length 1) (by omega) (HK.out.below B1.out h0)).mono ?_
  rintro e w2 ⟨rfl, hb2⟩
  have B2 := hide (B1.out.trans (hb2.mono B1.out.size))
  obtain ⟨D, hD⟩ : ∃ D, D = (S.mint (S.root 1) 7).tag := ⟨_, rfl⟩
  rw [← hD]
  have LD := hide (show D.length = 32 by rw [hD]; exact S.mint_tag _ _)
  have MT := hide (S.made_mint (S.root 1) 7 D hD)
  have GT2 := hide (show S.genuine (S.root 1) ⟨8, [], D⟩ = false by
    rw [S.genuine_of (t := S.mint (S.root 1) 8) rfl, S.mint_tag_eq]
    show (_ == D) = false
    rw [hD, S.mint_tag_eq]
    exact tags_apart)
  have GT1 := hide MT.out.genuine
  clear hD hb2 B1
  obtain ⟨A3, w3, ha3, hs3, hr3, hb3, -⟩ := lay_t w2 7 none 0 0 D LD.out
  obtain ⟨g1, hg1⟩ : ∃ g, g = w2.heap.size := ⟨_, rfl⟩
  rw [← hg1] at ha3 hs3 hr3
  have B3 := hide (B2.out.trans (hb3.mono B2.out.size))
  have R1 := hide hr3
  have G1 := hide (show w.heap.size ≤ g1 by rw [hg1]; exact B2.out.size)
  clear hb3 hg1 hr3 B2
  go_upto_region 2 with (first | (with_reducible refine at_op { dst := some 1, op := Op.alloc 27, type := 0, pos := "law.go:30", after := #[], guard := none } ?_; refine wpList_alloc_known rfl 27 rfl _ _ ha3 ?_) | (with_reducible refine at_op { dst := none, op := Op.store 27 (Operand.tmp 1) (Operand.tmp 6), type := 0, pos := "law.go:30", after := #[{ on := 2, ground := Ground.data }, { on := 1, ground := Ground.data }, { on := 1, ground := Ground.chain }, { on := 0, ground := Ground.phase }, { on := 1, ground := Ground.phase }, { on := 2, ground := Ground.phase }], guard := none } ?_; refine wpList_store_as rfl 27 (.tmp 1) (.tmp 6) rfl (.pointer (some ⟨g1, 0, none⟩)) (.agg (encT 7 (.slice none 0 0) D).toArray) rfl rfl w3 hs3 ?_))
  clear ha3 hs3 A3
  obtain ⟨A3, w4, ha3, hs3, hr3, hb3, -⟩ := lay_t w3 7 none 0 0 D LD.out
  obtain ⟨g2, hg2⟩ : ∃ g, g = w3.heap.size := ⟨_, rfl⟩
  rw [← hg2] at ha3 hs3 hr3
  have ld := load_t R1.out LD.out
  have L1 := hide (show g1 < g2 by rw [hg2]; exact block_lt_of_row R1.out)
  have B4 := hide (B3.out.trans (hb3.mono B3.out.size))
  have R1b := hide ((hb3.block _ (block_lt_of_row R1.out)).trans R1.out)
  have R2 := hide hr3
  clear hb3 hg2 hr3 B3 R1
  go_upto_region 3 with (first | (with_reducible refine at_op { dst := some 7, op := Op.load 27 (Operand.tmp 1), type := 27, pos := "law.go:31", after := #[], guard := none } ?_; refine wpList_load_as rfl 27 (.tmp 1) rfl (.pointer (some ⟨g1, 0, none⟩)) rfl (.agg (encT 7 (.slice none 0 0) D).toArray) ld ?_) | (with_reducible refine at_op { dst := some 2, op := Op.alloc 27, type := 0, pos := "law.go:31", after := #[], guard := none } ?_; refine wpList_alloc_known rfl 27 rfl _ _ ha3 ?_) | (with_reducible refine at_op { dst := none, op := Op.store 27 (Operand.tmp 2) (Operand.tmp 7), type := 0, pos := "law.go:31", after := #[{ on := 1, ground := Ground.data }, { on := 0, ground := Ground.data }, { on := 0, ground := Ground.phase }, { on := 1, ground := Ground.phase }], guard := none } ?_; refine wpList_store_as rfl 27 (.tmp 2) (.tmp 7) rfl (.pointer (some ⟨g2, 0, none⟩)) (.agg (encT 7 (.slice none 0 0) D).toArray) rfl rfl w4 hs3 ?_))
  clear ha3 hs3 A3 ld
  obtain ⟨c0, -⟩ := t_cells R2.out
  have f0 := frozen_of_row _ _ 0 _ _ R2.out
  have NX := hide (set_id 8 8 rfl R2.out)
  have NC : Hid (Chg (fun k => k = g2) w4 (w4.setCell ⟨g2, 0, none⟩ (.int .u32 8))) := (Chg.refl _ _).setCell _ _ _ (fun _ => rfl)
  go_upto_region 4 with fail
  clear c0 f0
  generalize w4.setCell ⟨g2, 0, none⟩ (.int .u32 8) = w5 at NX NC ⊢
  have R1c := hide (NC.out.row R1b.out (by have := L1.out; omega))
  have B5 := hide (B4.out.trans (NC.out.below w.heap.size B4.out.size (fun k hk e => by have := L1.out; have := G1.out; omega)))
  clear R1b R2 B4 NC
  have ld := load_t R1c.out LD.out
  go_wp2_with (first | (with_reducible refine at_op { dst := some 10, op := Op.load 27 (Operand.tmp 1), type := 27, pos := "law.go:33", after := #[], guard := none } ?_; refine wpList_load_as rfl 27 (.tmp 1) rfl (.pointer (some ⟨g1, 0, none⟩)) rfl (.agg (encT 7 (.slice none 0 0) D).toArray) ld ?_) | (with_reducible refine at_op { dst := some 11, op := Op.build 42 #[(0, Operand.const (Value.int IntKind.i64 1)), (1, Operand.const (Value.int IntKind.u32 3))], type := 42, pos := "law.go:33", after := #[], guard := none } ?_; refine wpList_build_as rfl 42 [(0, .const (.int .i64 1)), (1, .const (.int .u32 3))] rfl [(0, .int .i64 1), (1, .int .u32 3)] rfl (.agg (encC ⟨1, 3⟩).toArray) (build_c13 w5) ?_))
  have OK1 : Hid (S.Tk.Ok ⟨7, [], D⟩) := ⟨by show 7 < _; omega, LD.out, by simp, by simp⟩
  have OK2 : Hid (S.Tk.Ok ⟨8, [], D⟩) := ⟨by show 8 < _; omega, LD.out, by simp, by simp⟩
  have OKC : Hid (S.Cv.Ok ⟨1, 3⟩) := ⟨by decide, by decide, by decide⟩
  refine (narrow_any ⟨7, [], D⟩ (.slice none 0 0) ⟨1, 3⟩ w5 OK1.out OKC.out (CvAt.nil _) (HK.out.below B5.out h0)).mono ?_
  rintro e w6 ⟨⟨nv, rfl, hcr⟩, hb6⟩
  have nr := S.narrow_yes ⟨7, [], D⟩ ⟨1, 3⟩ (by decide) (by simp)
  have he : (S.narrow ⟨7, [], D⟩ ⟨1, 3⟩).2 = 0 := by rw [nr]
  have hcs : (S.narrow ⟨7, [], D⟩ ⟨1, 3⟩).1.cs = [⟨1, 3⟩] := by rw [nr]; rfl
  have hmd := S.made_narrow MT.out he
  have hok := S.narrow_ok ⟨7, [], D⟩ ⟨1, 3⟩ OK1.out OKC.out
  have hid : (S.narrow ⟨7, [], D⟩ ⟨1, 3⟩).1.id = 7 := by rw [nr]
  rw [he]
  obtain ⟨u, hu⟩ : ∃ u, u = (S.narrow ⟨7, [], D⟩ ⟨1, 3⟩).1 := ⟨_, rfl⟩
  rw [← hu] at hcr hcs hmd hok ⊢
  obtain ⟨uo, uc, rfl⟩ := hcr.form
  obtain ⟨un, hun⟩ : ∃ un, un = u.cs.length := ⟨_, rfl⟩
  rw [← hun] at hcr ⊢
  have HU := hide hok
  have GT3 := hide hmd.genuine
  have H1 := hide (show S.holds u.cs 2 3 0 = true by rw [hcs]; decide)
  have H2 := hide (show S.holds u.cs 2 4 0 = false by rw [hcs]; decide)
  obtain ⟨A3, w7, ha3, hs3, hr3, hb3, -⟩ := lay_t w6 u.id uo un uc u.tag hok.tl
  obtain ⟨g3, hg3⟩ : ∃ g, g = w6.heap.size := ⟨_, rfl⟩
  rw [← hg3] at ha3 hs3 hr3
  have hb67 := hb6.trans (hb3.mono hb6.size)
  have B7 := hide (B5.out.trans (hb67.mono B5.out.size))
  have R3 := hide hr3
  have R1d := hide ((hb67.block _ (block_lt_of_row R1c.out)).trans R1c.out)
  have R2d := hide ((hb67.block _ (block_lt_of_row NX.out)).trans NX.out)
  have CV : Hid (CvAt w7 (.slice uo un uc) u.cs) := CRow.at (hcr.below hb3)
  clear nr he hcs hmd hok hid hu hun hcr hb6 hb3 hb67 hr3 hg3 R1c NX B5 ld MT
  go_upto_region 5 with (first | (with_reducible refine at_op { dst := some 3, op := Op.alloc 27, type := 0, pos := "law.go:33", after := #[], guard := none } ?_; refine wpList_alloc_known rfl 27 rfl _ _ ha3 ?_) | (with_reducible refine at_op { dst := none, op := Op.store 27 (Operand.tmp 3) (Operand.tmp 13), type := 0, pos := "law.go:33", after := #[{ on := 6, ground := Ground.data }, { on := 4, ground := Ground.data }, { on := 2, ground := Ground.chain }, { on := 0, ground := Ground.phase }, { on := 1, ground := Ground.phase }, { on := 2, ground := Ground.phase }, { on := 3, ground := Ground.phase }, { on := 4, ground := Ground.phase }, { on := 5, ground := Ground.textOnly Departure.lateStores }, { on := 6, ground := Ground.phase }], guard := none } ?_; refine wpList_store_as rfl 27 (.tmp 3) (.tmp 13) rfl (.pointer (some ⟨g3, 0, none⟩)) (.agg (encT u.id (.slice uo un uc) u.tag).toArray) rfl rfl w7 hs3 ?_))
  clear ha3 hs3 A3
  refine wp_region_noPanic ?_
  refine wp_region_held_drew (S := (fun W => Chg (fun _ => False) w7 W)) follows ((Chg.refl _ _).drew) (fun hHeld => ?_)
  clear hHeld
  have hHeld : Chg (fun _ => False) w7 w7.drew := (Chg.refl _ _).drew
  have CZ0 := hide hHeld
  generalize w7.drew = Z0 at CZ0 hHeld ⊢
  refine wpAnyH_take (i := 1) (oi := { dst := some 16, op := Op.load 27 (Operand.tmp 1), type := 27, pos := "law.go:34", after := #[], guard := none }) (v := .agg (encT 7 (.slice none 0 0) D).toArray) rfl (by kernel_rfl) (by kernel_rfl) (by kernel_rfl) (fun _ _ _ h => h) (yieldsIf_load_mid (by rfl) _ _ rfl g1 0 rfl (encT 7 (.slice none 0 0) D) _ (fun _ hSw => rangeAt_row (hSw.row R1d.out (fun e => e))) Tryd.underlying27 rfl (by rw [size_t _ _ _ LD.out, List.size_toArray])) (by assumption) ?_
  simp only [Act.put, List.setIfInBounds_toArray, List.set_cons_zero, List.set_cons_succ]
  refine wpAnyH_ready (rs := [0]) (by kernel_rfl) (by simp) ?_
  refine AllReadyH.cons (o := { dst := some 15, op := Op.call { callee := Callee.value (Operand.func 10), args := #[Operand.const (Value.int IntKind.u8 1)], argTypes := #[5] }, type := 25, pos := "law.go:34", after := #[], guard := none }) rfl (fun K hK => ?_) AllReadyH.nil
  go_simp
  refine (root_is 1 1 Z0 rfl).mono ?_
  rintro e Z1 ⟨rfl, hb2⟩
  have CZ1 : Hid (Chg (fun _ => False) w7 Z1) := CZ0.out.then hb2
  clear hb2 CZ0
  clear hHeld
  refine hK.out _ _ CZ1.out (fun hHeld => ?_)
  clear hK K
  try simp only [Act.put, List.setIfInBounds_toArray, List.set_cons_zero, List.set_cons_succ]
  refine wpAnyH_ready (rs := [2]) (by kernel_rfl) (by simp) ?_
  refine AllReadyH.cons (o := { dst := some 17, op := Op.call { callee := Callee.value (Operand.func 16), args := #[Operand.tmp 15, Operand.tmp 16], argTypes := #[25, 27] }, type := 4, pos := "law.go:34", after := #[{ on := 0, ground := Ground.data }, { on := 1, ground := Ground.data }, { on := 0, ground := Ground.chain }], guard := none }) rfl (fun K hK => ?_) AllReadyH.nil
  go_simp
  refine (genuine_any (S.root 1) ⟨7, [], D⟩ (.slice none 0 0) Z1 (S.root_length 1) OK1.out (CvAt.nil _) (HK.out.below (B7.out.trans (CZ1.out.below w.heap.size B7.out.size (fun k hk e => by omega))) h0)).mono ?_
  rintro e Z2 ⟨rfl, hb2⟩
  rw [GT1.out]
  have CZ2 : Hid (Chg (fun _ => False) w7 Z2) := CZ1.out.then hb2
  clear hb2 CZ1
  clear hHeld
  refine hK.out _ _ CZ2.out (fun hHeld => ?_)
  clear hK K
  try simp only [Act.put, List.setIfInBounds_toArray, List.set_cons_zero, List.set_cons_succ]
  refine wpAnyH_take (i := 3) (oi := { dst := some 18, op := Op.move (Operand.tmp 17), type := 4, pos := "law.go:34", after := #[{ on := 2, ground := Ground.data }, { on := 2, ground := Ground.chain }], guard := none }) (v := ?_) rfl (by kernel_rfl) (by kernel_rfl) (by kernel_rfl) (fun _ _ _ h => h) (Or.inl ⟨by rfl, ?_⟩) (by assumption) ?_
  rotate_left
  · intro w hSw
    clear hSw
    go_simp
    all_goals with_reducible rfl
  simp only [Act.put, List.setIfInBounds_toArray, List.set_cons_zero, List.set_cons_succ]
  refine wpAnyH_take (i := 5) (oi := { dst := some 20, op := Op.load 27 (Operand.tmp 2), type := 27, pos := "law.go:34", after := #[{ on := 3, ground := Ground.guard }], guard := some (3, true) }) (v := .agg (encT 8 (.slice none 0 0) D).toArray) rfl (by kernel_rfl) (by kernel_rfl) (by kernel_rfl) (fun _ _ _ h => h) (yieldsIf_load_mid (by rfl) _ _ rfl g2 0 rfl (encT 8 (.slice none 0 0) D) _ (fun _ hSw => rangeAt_row (hSw.row R2d.out (fun e => e))) Tryd.underlying27 rfl (by rw [size_t _ _ _ LD.out, List.size_toArray])) (by assumption) ?_
  simp only [Act.put, List.setIfInBounds_toArray, List.set_cons_zero, List.set_cons_succ]
  refine wpAnyH_ready (rs := [4]) (by kernel_rfl) (by simp) ?_
  refine AllReadyH.cons (o := { dst := some 19, op := Op.call { callee := Callee.value (Operand.func 10), args := #[Operand.const (Value.int IntKind.u8 1)], argTypes := #[5] }, type := 25, pos := "law.go:34", after := #[{ on := 3, ground := Ground.chain }, { on := 3, ground := Ground.guard }], guard := some (3, true) }) rfl (fun K hK => ?_) AllReadyH.nil
  go_simp
  refine (root_is 1 1 Z2 rfl).mono ?_
  rintro e Z3 ⟨rfl, hb2⟩
  have CZ3 : Hid (Chg (fun _ => False) w7 Z3) := CZ2.out.then hb2
  clear hb2 CZ2
  clear hHeld
  refine hK.out _ _ CZ3.out (fun hHeld => ?_)
  clear hK K
  try simp only [Act.put, List.setIfInBounds_toArray, List.set_cons_zero, List.set_cons_succ]
  refine wpAnyH_ready (rs := [6]) (by kernel_rfl) (by simp) ?_
  refine AllReadyH.cons (o := { dst := some 21, op := Op.call { callee := Callee.value (Operand.func 16), args := #[Operand.tmp 19, Operand.tmp 20], argTypes := #[25, 27] }, type := 4, pos := "law.go:34", after := #[{ on := 4, ground := Ground.data }, { on := 5, ground := Ground.data }, { on := 4, ground := Ground.chain }, { on := 3, ground := Ground.guard }], guard := some (3, true) }) rfl (fun K hK => ?_) AllReadyH.nil
  go_simp
  refine (genuine_any (S.root 1) ⟨8, [], D⟩ (.slice none 0 0) Z3 (S.root_length 1) OK2.out (CvAt.nil _) (HK.out.below (B7.out.trans (CZ3.out.below w.heap.size B7.out.size (fun k hk e => by omega))) h0)).mono ?_
  rintro e Z4 ⟨rfl, hb2⟩
  rw [GT2.out]
  have CZ4 : Hid (Chg (fun _ => False) w7 Z4) := CZ3.out.then hb2
  clear hb2 CZ3
  clear hHeld
  refine hK.out _ _ CZ4.out (fun hHeld => ?_)
  clear hK K
  try simp only [Act.put, List.setIfInBounds_toArray, List.set_cons_zero, List.set_cons_succ]
  refine wpAnyH_take (i := 7) (oi := { dst := some 22, op := Op.unOp UnOp.not 4 (Operand.tmp 21), type := 4, pos := "law.go:34", after := #[{ on := 6, ground := Ground.data }, { on := 3, ground := Ground.guard }], guard := some (3, true) }) (v := ?_) rfl (by kernel_rfl) (by kernel_rfl) (by kernel_rfl) (fun _ _ _ h => h) (Or.inl ⟨by rfl, ?_⟩) (by assumption) ?_
  rotate_left
  · intro w hSw
    clear hSw
    go_simp
    all_goals with_reducible rfl
  simp only [Act.put, List.setIfInBounds_toArray, List.set_cons_zero, List.set_cons_succ]
  refine wpAnyH_take (i := 8) (oi := { dst := some 23, op := Op.pick (Operand.tmp 18) (Operand.tmp 22) (Operand.const (Value.bool false)), type := 4, pos := "law.go:34", after := #[{ on := 3, ground := Ground.data }, { on := 7, ground := Ground.data }], guard := none }) (v := ?_) rfl (by kernel_rfl) (by kernel_rfl) (by kernel_rfl) (fun _ _ _ h => h) (Or.inl ⟨by rfl, ?_⟩) (by assumption) ?_
  rotate_left
  · intro w hSw
    clear hSw
    go_simp
    all_goals with_reducible rfl
  simp only [Act.put, List.setIfInBounds_toArray, List.set_cons_zero, List.set_cons_succ]
  refine wpAnyH_take (i := 9) (oi := { dst := some 24, op := Op.move (Operand.tmp 23), type := 4, pos := "law.go:34", after := #[{ on := 8, ground := Ground.data }, { on := 6, ground := Ground.chain }], guard := none }) (v := ?_) rfl (by kernel_rfl) (by kernel_rfl) (by kernel_rfl) (fun _ _ _ h => h) (Or.inl ⟨by rfl, ?_⟩) (by assumption) ?_
  rotate_left
  · intro w hSw
    clear hSw
    go_simp
    all_goals with_reducible rfl
  simp only [Act.put, List.setIfInBounds_toArray, List.set_cons_zero, List.set_cons_succ]
  refine wpAnyH_take (i := 10) (oi := { dst := some 25, op := Op.move (Operand.tmp 4), type := 31, pos := "law.go:34", after := #[{ on := 9, ground := Ground.guard }], guard := some (9, true) }) (v := ?_) rfl (by kernel_rfl) (by kernel_rfl) (by kernel_rfl) (fun _ _ _ h => h) (Or.inl ⟨by rfl, ?_⟩) (by assumption) ?_
  rotate_left
  · intro w hSw
    clear hSw
    go_simp
    all_goals with_reducible rfl
  simp only [Act.put, List.setIfInBounds_toArray, List.set_cons_zero, List.set_cons_succ]
  refine wpAnyH_take (i := 11) (oi := { dst := some 26, op := Op.binOp BinOp.eql 31 (Operand.tmp 25) (Operand.const (Value.int IntKind.i64 0)) 31, type := 4, pos := "law.go:34", after := #[{ on := 10, ground := Ground.data }, { on := 9, ground := Ground.guard }], guard := some (9, true) }) (v := ?_) rfl (by kernel_rfl) (by kernel_rfl) (by kernel_rfl) (fun _ _ _ h => h) (Or.inl ⟨by rfl, ?_⟩) (by assumption) ?_
  rotate_left
  · intro w hSw
    clear hSw
    go_simp
    all_goals with_reducible rfl
  simp only [Act.put, List.setIfInBounds_toArray, List.set_cons_zero, List.set_cons_succ]
  refine wpAnyH_take (i := 12) (oi := { dst := some 27, op := Op.pick (Operand.tmp 24) (Operand.tmp 26) (Operand.const (Value.bool false)), type := 4, pos := "law.go:34", after := #[{ on := 9, ground := Ground.data }, { on := 11, ground := Ground.data }], guard := none }) (v := ?_) rfl (by kernel_rfl) (by kernel_rfl) (by kernel_rfl) (fun _ _ _ h => h) (Or.inl ⟨by rfl, ?_⟩) (by assumption) ?_
  rotate_left
  · intro w hSw
    clear hSw
    go_simp
    all_goals with_reducible rfl
  simp only [Act.put, List.setIfInBounds_toArray, List.set_cons_zero, List.set_cons_succ]
  refine wpAnyH_take (i := 13) (oi := { dst := some 28, op := Op.move (Operand.tmp 27), type := 4, pos := "law.go:34", after := #[{ on := 12, ground := Ground.data }, { on := 9, ground := Ground.chain }], guard := none }) (v := ?_) rfl (by kernel_rfl) (by kernel_rfl) (by kernel_rfl) (fun _ _ _ h => h) (Or.inl ⟨by rfl, ?_⟩) (by assumption) ?_
  rotate_left
  · intro w hSw
    clear hSw
    go_simp
    all_goals with_reducible rfl
  simp only [Act.put, List.setIfInBounds_toArray, List.set_cons_zero, List.set_cons_succ]
  refine wpAnyH_take (i := 15) (oi := { dst := some 30, op := Op.load 27 (Operand.tmp 3), type := 27, pos := "law.go:34", after := #[{ on := 13, ground := Ground.guard }], guard := some (13, true) }) (v := .agg (encT u.id (.slice uo un uc) u.tag).toArray) rfl (by kernel_rfl) (by kernel_rfl) (by kernel_rfl) (fun _ _ _ h => h) (yieldsIf_load_mid (by rfl) _ _ rfl g3 0 rfl (encT u.id (.slice uo un uc) u.tag) _ (fun _ hSw => rangeAt_row (hSw.row R3.out (fun e => e))) Tryd.underlying27 rfl (by rw [size_t _ _ _ HU.out.tl, List.size_toArray])) (by assumption) ?_
  simp only [Act.put, List.setIfInBounds_toArray, List.set_cons_zero, List.set_cons_succ]
  refine wpAnyH_ready (rs := [14]) (by kernel_rfl) (by simp) ?_
  refine AllReadyH.cons (o := { dst := some 29, op := Op.call { callee := Callee.value (Operand.func 10), args := #[Operand.const (Value.int IntKind.u8 1)], argTypes := #[5] }, type := 25, pos := "law.go:34", after := #[{ on := 13, ground := Ground.chain }, { on := 13, ground := Ground.guard }], guard := some (13, true) }) rfl (fun K hK => ?_) AllReadyH.nil
  go_simp
  refine (root_is 1 1 Z4 rfl).mono ?_
  rintro e Z5 ⟨rfl, hb2⟩
  have CZ5 : Hid (Chg (fun _ => False) w7 Z5) := CZ4.out.then hb2
  clear hb2 CZ4
  clear hHeld
  refine hK.out _ _ CZ5.out (fun hHeld => ?_)
  clear hK K
  try simp only [Act.put, List.setIfInBounds_toArray, List.set_cons_zero, List.set_cons_succ]
  refine wpAnyH_ready (rs := [16]) (by kernel_rfl) (by simp) ?_
  refine AllReadyH.cons (o := { dst := some 31, op := Op.call { callee := Callee.value (Operand.func 16), args := #[Operand.tmp 29, Operand.tmp 30], argTypes := #[25, 27] }, type := 4, pos := "law.go:34", after := #[{ on := 14, ground := Ground.data }, { on := 15, ground := Ground.data }, { on := 14, ground := Ground.chain }, { on := 13, ground := Ground.guard }], guard := some (13, true) }) rfl (fun K hK => ?_) AllReadyH.nil
  go_simp
  refine (genuine_any (S.root 1) u (.slice uo un uc) Z5 (S.root_length 1) HU.out (CV.out.below (CZ5.out.below _ (Nat.le_refl _) (fun _ _ e => e))) (HK.out.below (B7.out.trans (CZ5.out.below w.heap.size B7.out.size (fun k hk e => by omega))) h0)).mono ?_
  rintro e Z6 ⟨rfl, hb2⟩
  rw [GT3.out]
  have CZ6 : Hid (Chg (fun _ => False) w7 Z6) := CZ5.out.then hb2
  clear hb2 CZ5
  clear hHeld
  refine hK.out _ _ CZ6.out (fun hHeld => ?_)
  clear hK K
  try simp only [Act.put, List.setIfInBounds_toArray, List.set_cons_zero, List.set_cons_succ]
  refine wpAnyH_take (i := 17) (oi := { dst := some 32, op := Op.pick (Operand.tmp 28) (Operand.tmp 31) (Operand.const (Value.bool false)), type := 4, pos := "law.go:34", after := #[{ on := 13, ground := Ground.data }, { on := 16, ground := Ground.data }], guard := none }) (v := ?_) rfl (by kernel_rfl) (by kernel_rfl) (by kernel_rfl) (fun _ _ _ h => h) (Or.inl ⟨by rfl, ?_⟩) (by assumption) ?_
  rotate_left
  · intro w hSw
    clear hSw
    go_simp
    all_goals with_reducible rfl
  simp only [Act.put, List.setIfInBounds_toArray, List.set_cons_zero, List.set_cons_succ]
  refine wpAnyH_take (i := 18) (oi := { dst := some 33, op := Op.move (Operand.tmp 32), type := 4, pos := "law.go:34", after := #[{ on := 17, ground := Ground.data }, { on := 16, ground := Ground.chain }], guard := none }) (v := ?_) rfl (by kernel_rfl) (by kernel_rfl) (by kernel_rfl) (fun _ _ _ h => h) (Or.inl ⟨by rfl, ?_⟩) (by assumption) ?_
  rotate_left
  · intro w hSw
    clear hSw
    go_simp
    all_goals with_reducible rfl
  simp only [Act.put, List.setIfInBounds_toArray, List.set_cons_zero, List.set_cons_succ]
  refine wpAnyH_take (i := 19) (oi := { dst := some 34, op := Op.load 27 (Operand.tmp 3), type := 27, pos := "law.go:34", after := #[{ on := 18, ground := Ground.guard }], guard := some (18, true) }) (v := .agg (encT u.id (.slice uo un uc) u.tag).toArray) rfl (by kernel_rfl) (by kernel_rfl) (by kernel_rfl) (fun _ _ _ h => h) (yieldsIf_load_mid (by rfl) _ _ rfl g3 0 rfl (encT u.id (.slice uo un uc) u.tag) _ (fun _ hSw => rangeAt_row (hSw.row R3.out (fun e => e))) Tryd.underlying27 rfl (by rw [size_t _ _ _ HU.out.tl, List.size_toArray])) (by assumption) ?_
  simp only [Act.put, List.setIfInBounds_toArray, List.set_cons_zero, List.set_cons_succ]
  refine wpAnyH_ready (rs := [20]) (by kernel_rfl) (by simp) ?_
  refine AllReadyH.cons (o := { dst := some 35, op := Op.call { callee := Callee.value (Operand.func 17), args := #[Operand.tmp 34, Operand.const (Value.int IntKind.i64 2), Operand.const (Value.int IntKind.i64 3), Operand.const (Value.int IntKind.u64 0)], argTypes := #[27, 3, 3, 46] }, type := 4, pos := "law.go:34", after := #[{ on := 19, ground := Ground.data }, { on := 18, ground := Ground.chain }, { on := 18, ground := Ground.guard }], guard := some (18, true) }) rfl (fun K hK => ?_) AllReadyH.nil
  go_simp
  refine (holds_any u (.slice uo un uc) 2 3 0 Z6 HU.out (CV.out.below (CZ6.out.below _ (Nat.le_refl _) (fun _ _ e => e)))).mono ?_
  rintro e Z7 ⟨rfl, hb2⟩
  rw [H1.out]
  have CZ7 : Hid (Chg (fun _ => False) w7 Z7) := CZ6.out.then hb2
  clear hb2 CZ6
  clear hHeld
  refine hK.out _ _ CZ7.out (fun hHeld => ?_)
  clear hK K
  try simp only [Act.put, List.setIfInBounds_toArray, List.set_cons_zero, List.set_cons_succ]
  refine wpAnyH_take (i := 21) (oi := { dst := some 36, op := Op.pick (Operand.tmp 33) (Operand.tmp 35) (Operand.const (Value.bool false)), type := 4, pos := "law.go:34", after := #[{ on := 18, ground := Ground.data }, { on := 20, ground := Ground.data }], guard := none }) (v := ?_) rfl (by kernel_rfl) (by kernel_rfl) (by kernel_rfl) (fun _ _ _ h => h) (Or.inl ⟨by rfl, ?_⟩) (by assumption) ?_
  rotate_left
  · intro w hSw
    clear hSw
    go_simp
    all_goals with_reducible rfl
  simp only [Act.put, List.setIfInBounds_toArray, List.set_cons_zero, List.set_cons_succ]
  refine wpAnyH_take (i := 22) (oi := { dst := some 37, op := Op.move (Operand.tmp 36), type := 4, pos := "law.go:34", after := #[{ on := 21, ground := Ground.data }, { on := 20, ground := Ground.chain }], guard := none }) (v := ?_) rfl (by kernel_rfl) (by kernel_rfl) (by kernel_rfl) (fun _ _ _ h => h) (Or.inl ⟨by rfl, ?_⟩) (by assumption) ?_
  rotate_left
  · intro w hSw
    clear hSw
    go_simp
    all_goals with_reducible rfl
  simp only [Act.put, List.setIfInBounds_toArray, List.set_cons_zero, List.set_cons_succ]
  refine wpAnyH_take (i := 23) (oi := { dst := some 38, op := Op.load 27 (Operand.tmp 3), type := 27, pos := "law.go:34", after := #[{ on := 22, ground := Ground.guard }], guard := some (22, true) }) (v := .agg (encT u.id (.slice uo un uc) u.tag).toArray) rfl (by kernel_rfl) (by kernel_rfl) (by kernel_rfl) (fun _ _ _ h => h) (yieldsIf_load_mid (by rfl) _ _ rfl g3 0 rfl (encT u.id (.slice uo un uc) u.tag) _ (fun _ hSw => rangeAt_row (hSw.row R3.out (fun e => e))) Tryd.underlying27 rfl (by rw [size_t _ _ _ HU.out.tl, List.size_toArray])) (by assumption) ?_
  simp only [Act.put, List.setIfInBounds_toArray, List.set_cons_zero, List.set_cons_succ]
  refine wpAnyH_ready (rs := [24]) (by kernel_rfl) (by simp) ?_
  refine AllReadyH.cons (o := { dst := some 39, op := Op.call { callee := Callee.value (Operand.func 17), args := #[Operand.tmp 38, Operand.const (Value.int IntKind.i64 2), Operand.const (Value.int IntKind.i64 4), Operand.const (Value.int IntKind.u64 0)], argTypes := #[27, 3, 3, 46] }, type := 4, pos := "law.go:34", after := #[{ on := 23, ground := Ground.data }, { on := 22, ground := Ground.chain }, { on := 22, ground := Ground.guard }], guard := some (22, true) }) rfl (fun K hK => ?_) AllReadyH.nil
  go_simp
  refine (holds_any u (.slice uo un uc) 2 4 0 Z7 HU.out (CV.out.below (CZ7.out.below _ (Nat.le_refl _) (fun _ _ e => e)))).mono ?_
  rintro e Z8 ⟨rfl, hb2⟩
  rw [H2.out]
  have CZ8 : Hid (Chg (fun _ => False) w7 Z8) := CZ7.out.then hb2
  clear hb2 CZ7
  clear hHeld
  refine hK.out _ _ CZ8.out (fun hHeld => ?_)
  clear hK K
  try simp only [Act.put, List.setIfInBounds_toArray, List.set_cons_zero, List.set_cons_succ]
  refine wpAnyH_take (i := 25) (oi := { dst := some 40, op := Op.unOp UnOp.not 4 (Operand.tmp 39), type := 4, pos := "law.go:34", after := #[{ on := 24, ground := Ground.data }, { on := 22, ground := Ground.guard }], guard := some (22, true) }) (v := ?_) rfl (by kernel_rfl) (by kernel_rfl) (by kernel_rfl) (fun _ _ _ h => h) (Or.inl ⟨by rfl, ?_⟩) (by assumption) ?_
  rotate_left
  · intro w hSw
    clear hSw
    go_simp
    all_goals with_reducible rfl
  simp only [Act.put, List.setIfInBounds_toArray, List.set_cons_zero, List.set_cons_succ]
  refine wpAnyH_take (i := 26) (oi := { dst := some 41, op := Op.pick (Operand.tmp 37) (Operand.tmp 40) (Operand.const (Value.bool false)), type := 4, pos := "law.go:34", after := #[{ on := 22, ground := Ground.data }, { on := 25, ground := Ground.data }], guard := none }) (v := ?_) rfl (by kernel_rfl) (by kernel_rfl) (by kernel_rfl) (fun _ _ _ h => h) (Or.inl ⟨by rfl, ?_⟩) (by assumption) ?_
  rotate_left
  · intro w hSw
    clear hSw
    go_simp
    all_goals with_reducible rfl
  simp only [Act.put, List.setIfInBounds_toArray, List.set_cons_zero, List.set_cons_succ]
  refine wpAnyH_take (i := 27) (oi := { dst := some 0, op := Op.assign (Operand.tmp 41), type := 4, pos := "law.go:34", after := #[{ on := 26, ground := Ground.data }, { on := 24, ground := Ground.chain }, { on := 0, ground := Ground.phase }, { on := 1, ground := Ground.phase }, { on := 2, ground := Ground.phase }, { on := 3, ground := Ground.phase }, { on := 4, ground := Ground.phase }, { on := 5, ground := Ground.phase }, { on := 6, ground := Ground.phase }, { on := 7, ground := Ground.phase }, { on := 8, ground := Ground.phase }, { on := 9, ground := Ground.phase }, { on := 10, ground := Ground.phase }, { on := 11, ground := Ground.phase }, { on := 12, ground := Ground.phase }, { on := 13, ground := Ground.phase }, { on := 14, ground := Ground.phase }, { on := 15, ground := Ground.phase }, { on := 16, ground := Ground.phase }, { on := 17, ground := Ground.phase }, { on := 18, ground := Ground.phase }, { on := 19, ground := Ground.phase }, { on := 20, ground := Ground.phase }, { on := 21, ground := Ground.phase }, { on := 22, ground := Ground.phase }, { on := 23, ground := Ground.phase }, { on := 24, ground := Ground.phase }, { on := 25, ground := Ground.phase }, { on := 26, ground := Ground.phase }], guard := none }) (v := ?_) rfl (by kernel_rfl) (by kernel_rfl) (by kernel_rfl) (fun _ _ _ h => h) (Or.inl ⟨by rfl, ?_⟩) (by assumption) ?_
  rotate_left
  · intro w hSw
    clear hSw
    go_simp
    all_goals with_reducible rfl
  simp only [Act.put, List.setIfInBounds_toArray, List.set_cons_zero]
  refine wpAnyH_done (by kernel_rfl) ?_ _
  refine NoPanic.normal ?_
  clear hHeld
  have BF := hide (B7.out.trans (CZ8.out.below w.heap.size B7.out.size (fun k hk e => by omega)))
  generalize Z8 = Y at BF ⊢
  go_wp2_with fail
  go_ret
  exact ⟨rfl, BF.out⟩
theorem eq_part3 (x : S.Cv) (w : World) : (part 3 (encC x).toArray 0).run Tryd.prog w = .ok (.int .i64 x.k) w := by simp [part, encC]
theorem eq_part22 (x : S.Cv) (w : World) : (part 22 (encC x).toArray 1).run Tryd.prog w = .ok (.int .u32 (x.n : Int)) w := by simp [part, encC]
def eqBody (d : Nat) (xs ys : Array Value) (f : Field) (_ : Option Bool × Unit) : Sem (ForInStep (Option Bool × Unit)) :=
  if f.name ≠ "_" then do
    let a ← part f.type xs f.offset
    let b ← part f.type ys f.offset
    let r ← Op.equalIn d f.type a b
    if (!r) = true then pure (ForInStep.done (some false, ())) else pure (ForInStep.yield (none, ()))
  else pure (ForInStep.yield (none, ()))
theorem eq_step {d : Nat} {xs ys : Array Value} {f : Field} {fs : List Field} {a b : Value} {r : Bool} {w : World} (hn : f.name ≠ "_") (pa : (part f.type xs f.offset).run Tryd.prog w = .ok a w) (pb : (part f.type ys f.offset).run Tryd.prog w = .ok b w) (e : (Op.equalIn d f.type a b).run Tryd.prog w = .ok r w) :
    (forIn (f :: fs) ((none, ()) : Option Bool × Unit) (eqBody d xs ys)).run Tryd.prog w = if r = true then (forIn fs ((none, ()) : Option Bool × Unit) (eqBody d xs ys)).run Tryd.prog w else .ok (some false, ()) w := by
  have h : (eqBody d xs ys f (none, ())).run Tryd.prog w = if r = true then .ok (ForInStep.yield (none, ())) w else .ok (ForInStep.done (some false, ())) w := by
    rw [eqBody, if_pos hn]
    simp only [Sem.run_bind, pa, pb, e, Result.andThen_ok]
    cases r <;> rfl
  rw [List.forIn_cons, Sem.run_bind, h]
  cases r <;> rfl
theorem eq_all {d t : Nat} {fs : Array Field} {xs ys : Array Value} {r : Bool} {w : World} (hu : Tryd.prog.underlying t = some (.struct fs)) (hp : Tryd.prog.stoodInHeld t = false)
    (h : (forIn fs.toList ((none, ()) : Option Bool × Unit) (eqBody d xs ys)).run Tryd.prog w = .ok (if r = true then none else some false, ()) w) : (Op.equalIn (d + 1) t (.agg xs) (.agg ys)).run Tryd.prog w = .ok r w := by
  rw [Op.equalIn]
  simp only [Sem.run_bind, run_underlying hu, Result.andThen_ok, run_program, hp, Bool.false_eq_true, if_false]
  rw [← Array.forIn_toList]
  unfold eqBody at h
  rw [h]
  cases r <;> rfl
set_option maxRecDepth 100000 in
theorem equal_cd (a b : S.Cv) (r : Bool) (hr : decide (a = b) = r) (d : Nat) (w : World) : (Op.equalIn (d + 2) 42 (.agg (encC a).toArray) (.agg (encC b).toArray)).run Tryd.prog w = .ok r w := by
  have hp : Tryd.prog.stoodInHeld 42 = false := by kernel_rfl
  have f0 : (Op.equalIn (d + 1) 3 (.int .i64 a.k) (.int .i64 b.k)).run Tryd.prog w = .ok (a.k == b.k) w := run_equalIn_int w d 3 .i64 .i64 _ _ Tryd.underlying3
  have f1 : (Op.equalIn (d + 1) 22 (.int .u32 (a.n : Int)) (.int .u32 (b.n : Int))).run Tryd.prog w = .ok ((a.n : Int) == (b.n : Int)) w := run_equalIn_int w d 22 .u32 .u32 _ _ Tryd.underlying22
  have e : r = ((a.k == b.k) && ((a.n : Int) == (b.n : Int))) := by
    rw [← hr, Bool.eq_iff_iff]
    obtain ⟨a1, a2⟩ := a
    obtain ⟨b1, b2⟩ := b
    simp
    intro _
    omega
  rw [e]
  refine eq_all Tryd.underlying42 hp ?_
  refine (eq_step (by decide) (eq_part3 a w) (eq_part3 b w) f0).trans ?_
  cases h0 : (a.k == b.k)
  · rfl
  refine (eq_step (by decide) (eq_part22 a w) (eq_part22 b w) f1).trans ?_
  cases h1 : ((a.n : Int) == (b.n : Int))
  · rfl
  · rfl
theorem equal_c (a b : S.Cv) (r : Bool) (hr : decide (a = b) = r) (w : World) : (Op.equalIn 10000 42 (.agg (encC a).toArray) (.agg (encC b).toArray)).run Tryd.prog w = .ok r w := equal_cd a b r hr 9998 w
end Go.Proofs.YtlcilclhaahopaaDoor
