/- Pages on a disk that may stop; nothing is in flight. -/
import Derived.Test.YthjlhngjpbmieaaGreatDoorJb
import Derived.Test.YthjlhngjpbmieaaGreatDoorJc
namespace Go.Proofs.YthjlhngjpbmieaaGreatDoor
open Go.RowKit

/-- Pages on a disk that may stop; nothing is in flight. -/
structure Pn (w0 w : World) (o : Ow) (d : S.Dk) (p t : Nat) (pg : Nat → List UInt8) : Prop where
  dk : Dsk w o d
  pend : d.pend = []
  len : 7680 ≤ d.safe.length
  mark : d.safe.getD 0 [] = S.pmark
  log : S.Good d.safe 1 4 p t []
  home : ∀ n, n < 512 → S.pageAt d.safe (5 + n * 8) = pg n
  ob : ∀ k, o.has k → w0.heap.size ≤ k
  below : Below w0.heap.size w0 w
  pos : 0 < w0.heap.size
theorem Pg.n {w0 w : World} {o : Ow} {d : S.Dk} {p t : Nat} {pg : Nat → List UInt8} (h : Pg w0 w o d p t pg) : Pn w0 w o d p t pg := ⟨h.dk, h.pend, h.len, h.mark, h.log, h.home, h.ob, h.below, h.pos⟩
theorem Pn.then {w0 w W : World} {o : Ow} {d : S.Dk} {p t : Nat} {pg : Nat → List UInt8} (h : Pn w0 w o d p t pg) (hb : Below w.heap.size w W) : Pn w0 W o d p t pg :=
  ⟨h.dk.below hb, h.pend, h.len, h.mark, h.log, h.home, h.ob, h.below.trans (hb.mono h.below.size), h.pos⟩
theorem Pn.seen {w0 w : World} {o : Ow} {d : S.Dk} {p t : Nat} {pg : Nat → List UInt8} (h : Pn w0 w o d p t pg) : d.seen = d.safe := S.Dk.seen_flushed d h.pend
theorem Pg.chgd {q : Nat → Prop} {w0 w W : World} {o : Ow} {d : S.Dk} {p t : Nat} {pg : Nat → List UInt8} (h : Pg w0 w o d p t pg) (hc : Chg q w W) (hq : ∀ k, (o.has k ∨ k < w0.heap.size) → ¬ q k) : Pg w0 W o d p t pg :=
  ⟨⟨h.dk.dk.chg hc (fun k hk => hq k (Or.inl hk)), h.dk.k.chg hc (hq 0 (Or.inr h.pos)), h.dk.no⟩, h.pend, h.left, h.len, h.mark, h.log, h.home, h.ob, h.below.trans (hc.below _ h.below.size (fun k hk => hq k (Or.inr hk))), h.pos⟩
set_option maxHeartbeats 4000000 in
set_option maxRecDepth 10000 in
theorem look_n (w0 w : World) (o : Ow) (d : S.Dk) (p t : Nat) (pg : Nat → List UInt8) (h : Pn w0 w o d p t pg) :
   Calls Tryz.prog 23 #[o.ptr] w fun e w' => ∃ g tv, e = .returned (.tuple #[.pointer (some ⟨g, 0, none⟩), .agg (S.v8 (S.zeros 64)), .int .i64 0]) ∧ Lo w0 w' o d g 1 4 p t [] tv ∧ w.heap.size ≤ g ∧ (∀ k, tv.ownBlock = some k → w.heap.size ≤ k) ∧ Below w.heap.size w w' := by
  have hal1 := alloc57 w
  obtain ⟨w1, hw1⟩ : ∃ w1, w1 = w.alloc (.cells (S.v8 (S.zeros 64)) 65) := ⟨_, rfl⟩
  have b1 : Below w.heap.size w w1 := by rw [hw1]; exact (Below.refl _ _).alloc (Nat.le_refl _) _
  have r1 : w1.heap[w.heap.size]? = some (.cells (S.v8 (S.zeros 64)) 65 (0, 0)) := by rw [hw1]; exact heap_alloc_new _ _
  rw [← hw1] at hal1
  obtain ⟨g3, hg3⟩ : ∃ g3, g3 = w.heap.size := ⟨_, rfl⟩
  rw [← hg3] at hal1 r1
  have R1 := hide r1
  have B1 := hide b1
  have P1 := hide (h.then b1)
  have HLT : Hid (∀ k, o.has k → k < g3) := fun k hk => by rw [hg3]; exact h.dk.dk.lt k hk
  have HG3 : Hid (w.heap.size ≤ g3) := by rw [hg3]; exact Nat.le_refl _
  have HG3e : Hid (g3 = w.heap.size) := hg3
  have HW0 : Hid (w0.heap.size ≤ w.heap.size) := h.below.size
  clear b1 r1 hw1 hg3 h
  go_enter Tryz.func23, Tryz.ntmps23
  go_wp2_with (with_reducible refine at_op { dst := some 3, op := Op.alloc 65, type := 0, pos := "place.go:70", after := #[], guard := none } ?_; refine wpList_alloc_known rfl 65 rfl (.pointer (some ⟨g3, 0, none⟩)) w1 hal1 ?_)
  clear hal1
  refine (read_yes o d 0 w1 P1.out.dk.dk (by have := P1.out.len; omega)).mono ?_
  rintro e w2 ⟨rfl, hr2, b2⟩
  rw [P1.out.seen, P1.out.mark] at hr2
  have cv := conv_slice (slice_row (n := 128) hr2 S.pmark_length.symm (by rw [S.pmark_length]; omega))
  have P2 := hide (P1.out.then b2)
  have R2 : Hid (w2.heap[g3]? = some (.cells (S.v8 (S.zeros 64)) 65 (0, 0))) := (b2.block g3 (block_lt_of_row R1.out)).trans R1.out
  have B2 := hide (B1.out.trans (b2.mono B1.out.size))
  have hq : S.pmark = [112, 97, 103, 101, 115, 32, 116, 104, 97, 116, 32, 97, 114, 101, 32, 112, 117, 116, 32, 116, 111, 103, 101, 116, 104, 101, 114, 32, 46, 46, 46, 32, 112, 97, 103, 101, 115, 32, 116, 104, 97, 116, 32, 97, 114, 101, 32, 112, 117, 116, 32, 116, 111, 103, 101, 116, 104, 101, 114, 32, 46, 46, 46, 32].append [112, 97, 103, 101, 115, 32, 116, 104, 97, 116, 32, 97, 114, 101, 32, 112, 117, 116, 32, 116, 111, 103, 101, 116, 104, 101, 114, 32, 46, 46, 46, 32, 112, 97, 103, 101, 115, 32, 116, 104, 97, 116, 32, 97, 114, 101, 32, 112, 117, 116, 32, 116, 111, 103, 101, 116, 104, 101, 114, 32, 46, 46, 46, 32] := rfl
  clear hr2 b2 R1 B1 P1
  go_wp2_with fail
  clear cv hq
  refine (open_go w0 w2 o d 1 4 p t [] P2.out.dk P2.out.pend P2.out.log P2.out.ob P2.out.below P2.out.pos).mono ?_
  rintro e w4 ⟨g, tv, rfl, hlo, hgb, htb, b4⟩
  have LO4 := hide hlo
  have G4 : Hid (g3 < g ∧ w.heap.size ≤ g ∧ (∀ k, tv.ownBlock = some k → g3 < k ∧ w.heap.size ≤ k)) := by
    have h1 := block_lt_of_row R2.out
    have h2 := HG3e.out
    exact ⟨by omega, by omega, fun k hk => by have := htb k hk; exact ⟨by omega, by omega⟩⟩
  have R4 : Hid (w4.heap[g3]? = some (.cells (S.v8 (S.zeros 64)) 65 (0, 0))) := (b4.block g3 (block_lt_of_row R2.out)).trans R2.out
  have B4 := hide (B2.out.trans (b4.mono B2.out.size))
  clear hlo hgb htb b4 R2 B2 P2
  go_wp2_with fail
  refine (records_go w0 w4 o d g 1 4 p t [] tv LO4.out (by simp)).mono ?_
  rintro e w5 ⟨lv, us, rfl, hrec, b5⟩
  obtain ⟨al, cl, hlv⟩ := hrec.lists.shape
  subst hlv
  have hul : us.length = 0 := hrec.copies.len
  rw [hul]
  have LO5 := hide (LO4.out.then b5)
  have R5 : Hid (w5.heap[g3]? = some (.cells (S.v8 (S.zeros 64)) 65 (0, 0))) := (b5.block g3 (block_lt_of_row R4.out)).trans R4.out
  have B5 := hide (B4.out.trans (b5.mono B4.out.size))
  clear hrec b5 hul LO4 R4 B4
  go_wp2_with fail
  refine (setIn_nil al cl w5).mono ?_
  rintro e w6 ⟨rfl, b6⟩
  have LO6 := hide (LO5.out.then b6)
  have R6 : Hid (w6.heap[g3]? = some (.cells (S.v8 (S.zeros 64)) 65 (0, 0))) := (b6.block g3 (block_lt_of_row R5.out)).trans R5.out
  have B6 := hide (B5.out.trans (b6.mono B5.out.size))
  clear b6 LO5 R5 B5
  have hal2 := alloc57 w6
  obtain ⟨w9, hst2, r9, b9⟩ := made57 w6 (S.zeros 64) (S.zeros_length _)
  have R9 := hide r9
  have LO9 := hide (LO6.out.then b9)
  have R39 : Hid (w9.heap[g3]? = some (.cells (S.v8 (S.zeros 64)) 65 (0, 0))) := (b9.block g3 (block_lt_of_row R6.out)).trans R6.out
  have B9 := hide (B6.out.trans (b9.mono B6.out.size))
  have h36 := block_lt_of_row R6.out
  have N93 : Hid (¬ w6.heap.size = g3) := fun e => by omega
  have NG3 : Hid (∀ k, (o.has k ∨ k = g ∨ tv.ownBlock = some k ∨ k < w0.heap.size) → ¬ k = g3) := fun k hk e => by
    subst e
    rcases hk with hk | hk | hk | hk
    · exact absurd (HLT.out _ hk) (Nat.lt_irrefl _)
    · have := G4.out.1; omega
    · have := (G4.out.2.2 _ hk).1; omega
    · have := HW0.out; have := HG3.out; omega
  obtain ⟨w7, hw7⟩ : ∃ w7, w7 = w6.alloc (.cells (S.v8 (S.zeros 64)) 65) := ⟨_, rfl⟩
  rw [← hw7] at hal2 hst2
  obtain ⟨g9, hg9⟩ : ∃ g9, g9 = w6.heap.size := ⟨_, rfl⟩
  rw [← hg9] at hal2 hst2 R9 N93
  clear r9 b9 h36 LO6 R6 B6 hg9 hw7
  go_upto_region 10 with (first | (with_reducible refine at_op { dst := some 9, op := Op.alloc 65, type := 0, pos := "place.go:78", after := #[], guard := none } ?_; refine wpList_alloc_known rfl 65 rfl (.pointer (some ⟨g9, 0, none⟩)) w7 hal2 ?_) | (with_reducible refine at_op { dst := none, op := Op.store 65 (Operand.tmp 9) (Operand.tmp 33), type := 0, pos := "place.go:78", after := #[⟨6, .data⟩, ⟨4, .data⟩, ⟨2, .chain⟩, ⟨0, .phase⟩, ⟨1, .phase⟩, ⟨2, .phase⟩, ⟨3, .phase⟩, ⟨4, .phase⟩, ⟨5, .textOnly .lateStores⟩, ⟨6, .phase⟩], guard := none } ?_; refine wpList_store_as rfl 65 (.tmp 9) (.tmp 33) rfl (.pointer (some ⟨g9, 0, none⟩)) (.agg (S.v8 (S.zeros 64))) rfl rfl w9 hst2 ?_))
  clear hal2 hst2
  refine wp_region_noPanic ?_
  refine wp_region_held_drew (S := (fun W => W.heap[g9]? = some (.cells (S.v8 (S.zeros 64)) 65 (0, 0)))) follows R9.out (fun hHeld => ?_)
  have LOd := hide (LO9.out.then (Below.refl w9.heap.size w9).drew)
  have B9d : Hid (Below w.heap.size w w9.drew) := B9.out.drew
  have R3d : Hid (w9.drew.heap[g3]? = some (.cells (S.v8 (S.zeros 64)) 65 (0, 0))) := R39.out
  clear LO9 B9 R9 R39
  generalize w9.drew = Z1 at LOd B9d R3d hHeld ⊢
  refine wpAnyH_take (i := 0) (oi := { dst := some 38, op := Op.move (Operand.tmp 7), type := 63, pos := "place.go:82", after := #[], guard := none }) (v := ?_) rfl (by kernel_rfl) (by kernel_rfl) (by kernel_rfl) (fun _ _ _ h => h) (Or.inl ⟨by rfl, ?_⟩) (by assumption) ?_
  rotate_left
  · intro w hSw
    clear hSw
    go_simp
    all_goals with_reducible rfl
  simp only [Act.put, List.setIfInBounds_toArray, List.set_cons_zero, List.set_cons_succ]
  refine wpAnyH_take (i := 1) (oi := { dst := some 39, op := Op.load 65 (Operand.tmp 9), type := 65, pos := "place.go:82", after := #[⟨2, .gcOnly .lateStores⟩], guard := none }) (v := .agg (S.v8 (S.zeros 64))) rfl (by kernel_rfl) (by kernel_rfl) (by kernel_rfl) (fun _ _ _ h => h) (yieldsIf_load57 (by kernel_rfl) (.tmp 9) rfl g9 rfl (S.zeros_length _) (fun W hW => hW)) (by assumption) ?_
  simp only [Act.put, List.setIfInBounds_toArray, List.set_cons_zero, List.set_cons_succ]
  refine wpAnyH_take (i := 2) (oi := { dst := some 2, op := Op.assign (Operand.tmp 38), type := 63, pos := "place.go:82", after := #[⟨0, .data⟩, ⟨0, .phase⟩, ⟨1, .textOnly .lateStores⟩], guard := none }) (v := ?_) rfl (by kernel_rfl) (by kernel_rfl) (by kernel_rfl) (fun _ _ _ h => h) (Or.inl ⟨by rfl, ?_⟩) (by assumption) ?_
  rotate_left
  · intro w hSw
    clear hSw
    go_simp
    all_goals with_reducible rfl
  simp only [Act.put, List.setIfInBounds_toArray, List.set_cons_zero, List.set_cons_succ]
  obtain ⟨Z2, hst, r3, c3⟩ := store57 (ys := S.zeros 64) R3d.out (S.zeros_length _) (S.zeros_length _)
  have R3 := hide r3
  have LO2 : Hid (Lo w0 Z2 o d g 1 4 p t [] tv) := LOd.out.chg c3 NG3.out
  have B2 : Hid (Below w.heap.size w Z2) := B9d.out.trans (c3.base B9d.out.size HG3.out)
  have a2 : Z2.heap[g9]? = some (.cells (S.v8 (S.zeros 64)) 65 (0, 0)) := c3.row hHeld N93.out
  refine wpAnyH_ready (rs := [3]) (by kernel_rfl) (by simp) ?_
  refine step_store (o := { dst := none, op := Op.store 65 (Operand.tmp 3) (Operand.tmp 39), type := 0, pos := "place.go:82", after := #[⟨1, .data⟩, ⟨2, .chain⟩, ⟨0, .phase⟩, ⟨1, .phase⟩, ⟨2, .phase⟩], guard := none }) rfl rfl 65 (.tmp 3) (.tmp 39) rfl Z2 hst AllReadyH.nil ⟨a2, fun hHeld => ?_⟩
  simp only [Act.put]
  clear hst r3 c3 LOd B9d R3d a2
  refine wpAnyH_take (i := 4) (oi := { dst := some 4, op := Op.assign (Operand.const (Value.int IntKind.i64 0)), type := 26, pos := "place.go:82", after := #[⟨3, .chain⟩, ⟨0, .phase⟩, ⟨1, .phase⟩, ⟨2, .phase⟩, ⟨3, .phase⟩], guard := none }) (v := ?_) rfl (by kernel_rfl) (by kernel_rfl) (by kernel_rfl) (fun _ _ _ h => h) (Or.inl ⟨by rfl, ?_⟩) (by assumption) ?_
  rotate_left
  · intro w hSw
    clear hSw
    go_simp
    all_goals with_reducible rfl
  simp only [Act.put, List.setIfInBounds_toArray, List.set_cons_zero, List.set_cons_succ]
  refine wpAnyH_done (by kernel_rfl) ?_ _
  refine NoPanic.normal ?_
  clear hHeld
  go_wp2_with fail
  refine bodyPost_ret (results_mid Tryz.results23 _ _ g3 (.agg (S.v8 (S.zeros 64))) rfl (loadVar57 R3.out (S.zeros_length _))) rfl ⟨g, tv, rfl, LO2.out, G4.out.2.1, fun k hk => (G4.out.2.2 k hk).2, B2.out⟩
set_option maxHeartbeats 4000000 in
set_option maxRecDepth 10000 in
theorem settled_n (w0 w : World) (o : Ow) (d : S.Dk) (p t gs : Nat) (pg : Nat → List UInt8) (h : Pn w0 w o d p t pg) (hs : StAt w gs o) :
   Calls Tryz.prog 31 #[.pointer (some ⟨gs, 0, none⟩)] w fun e w' => ∃ g tv, e = .returned (.tuple #[.pointer (some ⟨g, 0, none⟩), .int .i64 0]) ∧ Lo w0 w' o d g 1 4 p t [] tv ∧ w.heap.size ≤ g ∧ (∀ k, tv.ownBlock = some k → w.heap.size ≤ k) ∧ Pn w0 w' o d p t pg ∧ StAt w' gs o ∧ Below w.heap.size w w' := by
  have P0 := hide h
  have S0 := hide hs
  clear h hs
  have c0 := st_cell S0.out
  go_enter Tryz.func31, Tryz.ntmps31
  go_wp2_with fail
  have hptr : o.ptr = .pointer (some ⟨o.g, 0, none⟩) := rfl
  rw [← hptr]
  refine (settle_none o d w P0.out.dk.dk P0.out.pend).mono ?_
  rintro e w1 ⟨rfl, rfl⟩
  rw [hptr]
  go_wp2_with fail
  rw [← hptr]
  refine (look_n w0 w o d p t pg P0.out).mono ?_
  rintro e w1 ⟨g, tv, rfl, hlo, hgb, htb, b1⟩
  have LO1 := hide hlo
  have P1 := hide (P0.out.then b1)
  have B1 := hide b1
  have S1 : Hid (StAt w1 gs o) := (b1.block gs (block_lt_of_row S0.out)).trans S0.out
  have G1 : Hid (w.heap.size ≤ g ∧ ∀ k, tv.ownBlock = some k → w.heap.size ≤ k) := ⟨hgb, htb⟩
  clear hlo hgb htb b1 P0 S0 c0
  have hal := alloc57 w1
  obtain ⟨w3, hst, r3, b3⟩ := made57 w1 (S.zeros 64) (S.zeros_length _)
  have LO3 := hide (LO1.out.then b3)
  have P3 := hide (P1.out.then b3)
  have B3 := hide (B1.out.trans (b3.mono B1.out.size))
  have ST3 : Hid (StAt w3 gs o) := (b3.block gs (block_lt_of_row S1.out)).trans S1.out
  have R3 := hide r3
  obtain ⟨w2, hw2⟩ : ∃ w2, w2 = w1.alloc (.cells (S.v8 (S.zeros 64)) 65) := ⟨_, rfl⟩
  rw [← hw2] at hal hst
  obtain ⟨g6, hg6⟩ : ∃ g6, g6 = w1.heap.size := ⟨_, rfl⟩
  rw [← hg6] at hal hst R3
  rw [hptr]
  clear r3 b3 hw2 hg6 P1 B1 S1 LO1 hptr
  go_upto_region 7 with (first | (with_reducible refine at_op { dst := some 6, op := Op.alloc 65, type := 0, pos := "pages.go:98", after := #[], guard := none } ?_; refine wpList_alloc_known rfl 65 rfl (.pointer (some ⟨g6, 0, none⟩)) w2 hal ?_) | (with_reducible refine at_op { dst := none, op := Op.store 65 (Operand.tmp 6) (Operand.tmp 23), type := 0, pos := "pages.go:98", after := #[⟨9, .data⟩, ⟨7, .data⟩, ⟨10, .chain⟩, ⟨0, .phase⟩, ⟨1, .phase⟩, ⟨2, .phase⟩, ⟨3, .phase⟩, ⟨4, .phase⟩, ⟨5, .phase⟩, ⟨6, .phase⟩, ⟨7, .phase⟩, ⟨8, .textOnly .lateStores⟩, ⟨9, .phase⟩, ⟨10, .phase⟩], guard := none } ?_; refine wpList_store_as rfl 65 (.tmp 6) (.tmp 23) rfl (.pointer (some ⟨g6, 0, none⟩)) (.agg (S.v8 (S.zeros 64))) rfl rfl w3 hst ?_))
  clear hal hst
  refine wp_region_noPanic ?_
  refine wp_region_held_drew (S := (fun W => W.heap[gs]? = some (.cells #[.pointer (some ⟨o.g, 0, none⟩)] 69 (0, 0)) ∧ W.heap[g6]? = some (.cells (S.v8 (S.zeros 64)) 65 (0, 0)))) follows ⟨ST3.out, R3.out⟩ (fun hHeld => ?_)
  have LOd := hide (LO3.out.then (Below.refl w3.heap.size w3).drew)
  have P3d := hide (P3.out.then (Below.refl w3.heap.size w3).drew)
  have B3d : Hid (Below w.heap.size w w3.drew) := B3.out.drew
  clear LO3 P3 B3 ST3 R3
  generalize w3.drew = Z1 at LOd P3d B3d hHeld ⊢
  refine wpAnyH_take (i := 0) (oi := { dst := some 28, op := Op.move (Operand.tmp 5), type := 63, pos := "pages.go:102", after := #[], guard := none }) (v := ?_) rfl (by kernel_rfl) (by kernel_rfl) (by kernel_rfl) (fun _ _ _ h => h) (Or.inl ⟨by rfl, ?_⟩) (by assumption) ?_
  rotate_left
  · intro w hSw
    clear hSw
    go_simp
    all_goals with_reducible rfl
  simp only [Act.put, List.setIfInBounds_toArray, List.set_cons_zero, List.set_cons_succ]
  refine wpAnyH_take (i := 1) (oi := { dst := some 29, op := Op.move (Operand.tmp 0), type := 23, pos := "pages.go:102", after := #[], guard := none }) (v := ?_) rfl (by kernel_rfl) (by kernel_rfl) (by kernel_rfl) (fun _ _ _ h => h) (Or.inl ⟨by rfl, ?_⟩) (by assumption) ?_
  rotate_left
  · intro w hSw
    clear hSw
    go_simp
    all_goals with_reducible rfl
  simp only [Act.put, List.setIfInBounds_toArray, List.set_cons_zero, List.set_cons_succ]
  refine wpAnyH_take (i := 2) (oi := { dst := some 30, op := Op.nilCheck (Operand.tmp 29), type := 0, pos := "pages.go:102", after := #[⟨1, .data⟩], guard := none }) (v := ?_) rfl (by kernel_rfl) (by kernel_rfl) (by kernel_rfl) (fun _ _ _ h => h) (Or.inl ⟨by rfl, ?_⟩) (by assumption) ?_
  rotate_left
  · intro w hSw
    clear hSw
    go_simp
    all_goals with_reducible rfl
  simp only [Act.put, List.setIfInBounds_toArray, List.set_cons_zero, List.set_cons_succ]
  refine wpAnyH_take (i := 3) (oi := { dst := some 31, op := Op.fieldAddr 69 (Operand.tmp 30) 0, type := 0, pos := "pages.go:102", after := #[⟨2, .data⟩], guard := none }) (v := ?_) rfl (by kernel_rfl) (by kernel_rfl) (by kernel_rfl) (fun _ _ _ h => h) (Or.inl ⟨by rfl, ?_⟩) (by assumption) ?_
  rotate_left
  · intro w hSw
    clear hSw
    go_simp
    all_goals with_reducible rfl
  simp only [Act.put, List.setIfInBounds_toArray, List.set_cons_zero, List.set_cons_succ]
  refine wpAnyH_take (i := 4) (oi := { dst := some 32, op := Op.load 22 (Operand.tmp 31), type := 22, pos := "pages.go:102", after := #[⟨3, .data⟩], guard := none }) (v := ?_) rfl (by kernel_rfl) (by kernel_rfl) (by kernel_rfl) (fun _ _ _ h => h) (Or.inl ⟨by rfl, ?_⟩) (by assumption) ?_
  rotate_left
  · intro w hSw
    have c0 := st_cell hSw.1
    clear hSw
    go_simp
    all_goals with_reducible rfl
  simp only [Act.put, List.setIfInBounds_toArray, List.set_cons_zero, List.set_cons_succ]
  refine wpAnyH_take (i := 5) (oi := { dst := some 33, op := Op.move (Operand.tmp 5), type := 63, pos := "pages.go:102", after := #[], guard := none }) (v := ?_) rfl (by kernel_rfl) (by kernel_rfl) (by kernel_rfl) (fun _ _ _ h => h) (Or.inl ⟨by rfl, ?_⟩) (by assumption) ?_
  rotate_left
  · intro w hSw
    clear hSw
    go_simp
    all_goals with_reducible rfl
  simp only [Act.put, List.setIfInBounds_toArray, List.set_cons_zero, List.set_cons_succ]
  refine wpAnyH_take (i := 6) (oi := { dst := some 34, op := Op.load 65 (Operand.tmp 6), type := 65, pos := "pages.go:102", after := #[], guard := none }) (v := .agg (S.v8 (S.zeros 64))) rfl (by kernel_rfl) (by kernel_rfl) (by kernel_rfl) (fun _ _ _ h => h) (yieldsIf_load57 (by kernel_rfl) (.tmp 6) rfl g6 rfl (S.zeros_length _) (fun W hW => hW.2)) (by assumption) ?_
  simp only [Act.put, List.setIfInBounds_toArray, List.set_cons_zero, List.set_cons_succ]
  refine wpAnyH_ready (rs := [7]) (by kernel_rfl) (by simp) ?_
  refine AllReadyH.cons (o := { dst := some 35, op := Op.call { callee := Callee.value (Operand.func 35), args := #[Operand.tmp 32, Operand.tmp 33, Operand.tmp 34], argTypes := #[22, 63, 65] }, type := 26, pos := "pages.go:102", after := #[⟨4, .data⟩, ⟨5, .data⟩, ⟨6, .data⟩], guard := none }) rfl (fun K hK => ?_) AllReadyH.nil
  go_simp
  refine (bringHome_none (.pointer (some ⟨o.g, 0, none⟩)) (.pointer (some ⟨g, 0, none⟩)) Z1).mono ?_
  rintro e Z2 ⟨rfl, b2⟩
  have a2 : Z2.heap[gs]? = some (.cells #[.pointer (some ⟨o.g, 0, none⟩)] 69 (0, 0)) ∧ Z2.heap[g6]? = some (.cells (S.v8 (S.zeros 64)) 65 (0, 0)) := ⟨(b2.block gs (block_lt_of_row hHeld.1)).trans hHeld.1, (b2.block g6 (block_lt_of_row hHeld.2)).trans hHeld.2⟩
  have LO4 := hide (LOd.out.then b2)
  have P4 := hide (P3d.out.then b2)
  have B4 : Hid (Below w.heap.size w Z2) := B3d.out.trans (b2.mono B3d.out.size)
  have ST4 : Hid (StAt Z2 gs o) := a2.1
  clear b2 hHeld LOd P3d B3d
  refine hK.out _ _ a2 (fun hHeld => ?_)
  clear hK K
  try simp only [Act.put, List.setIfInBounds_toArray, List.set_cons_zero, List.set_cons_succ]
  clear a2
  refine wpAnyH_take (i := 8) (oi := { dst := some 2, op := Op.assign (Operand.tmp 28), type := 63, pos := "pages.go:102", after := #[⟨0, .data⟩, ⟨7, .chain⟩, ⟨0, .phase⟩, ⟨1, .textOnly .lateStores⟩, ⟨2, .textOnly .lateStores⟩, ⟨3, .textOnly .lateStores⟩, ⟨4, .textOnly .lateStores⟩, ⟨5, .textOnly .lateStores⟩, ⟨6, .textOnly .lateStores⟩, ⟨7, .textOnly .lateStoresUnsure⟩], guard := none }) (v := ?_) rfl (by kernel_rfl) (by kernel_rfl) (by kernel_rfl) (fun _ _ _ h => h) (Or.inl ⟨by rfl, ?_⟩) (by assumption) ?_
  rotate_left
  · intro w hSw
    clear hSw
    go_simp
    all_goals with_reducible rfl
  simp only [Act.put, List.setIfInBounds_toArray, List.set_cons_zero, List.set_cons_succ]
  refine wpAnyH_take (i := 9) (oi := { dst := some 3, op := Op.assign (Operand.tmp 35), type := 26, pos := "pages.go:102", after := #[⟨7, .data⟩, ⟨8, .chain⟩, ⟨0, .phase⟩, ⟨1, .phase⟩, ⟨2, .phase⟩, ⟨3, .phase⟩, ⟨4, .phase⟩, ⟨5, .phase⟩, ⟨6, .phase⟩, ⟨7, .phase⟩, ⟨8, .phase⟩], guard := none }) (v := ?_) rfl (by kernel_rfl) (by kernel_rfl) (by kernel_rfl) (fun _ _ _ h => h) (Or.inl ⟨by rfl, ?_⟩) (by assumption) ?_
  rotate_left
  · intro w hSw
    clear hSw
    go_simp
    all_goals with_reducible rfl
  simp only [Act.put, List.setIfInBounds_toArray, List.set_cons_zero, List.set_cons_succ]
  refine wpAnyH_done (by kernel_rfl) ?_ _
  refine NoPanic.normal ?_
  clear hHeld
  go_wp2_with fail
  go_ret2
  exact ⟨g, tv, rfl, LO4.out, G1.out.1, G1.out.2, P4.out, ST4.out, B4.out⟩
end Go.Proofs.YthjlhngjpbmieaaGreatDoor
