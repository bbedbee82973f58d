/- look: the log, and the pages whose sheets it tells of: none. -/
/- Open and Read of pages on a disk that does not stop. -/
import Derived.Test.YthjlhngjpbmieaaGreatDoorJa
import Derived.Test.YthjlhngjpbmieaaGreatDoorGw
namespace Go.Proofs.YthjlhngjpbmieaaGreatDoor
open Go.RowKit

namespace S
/-- What fills the sector that tells that there are pages. -/
def pmark : List UInt8 := [112, 97, 103, 101, 115, 32, 116, 104, 97, 116, 32, 97, 114, 101, 32, 112, 117, 116, 32, 116, 111, 103, 101, 116, 104, 101, 114, 32, 46, 46, 46, 32, 112, 97, 103, 101, 115, 32, 116, 104, 97, 116, 32, 97, 114, 101, 32, 112, 117, 116, 32, 116, 111, 103, 101, 116, 104, 101, 114, 32, 46, 46, 46, 32].append [112, 97, 103, 101, 115, 32, 116, 104, 97, 116, 32, 97, 114, 101, 32, 112, 117, 116, 32, 116, 111, 103, 101, 116, 104, 101, 114, 32, 46, 46, 46, 32, 112, 97, 103, 101, 115, 32, 116, 104, 97, 116, 32, 97, 114, 101, 32, 112, 117, 116, 32, 116, 111, 103, 101, 116, 104, 101, 114, 32, 46, 46, 46, 32]
set_option maxRecDepth 100000 in
theorem pmark_length : pmark.length = 128 := rfl
end S
theorem results_mid {fn : Func} {p u v : Tmp} {ty : TypeId} (h : fn.results = #[.tmp u, .cell p ty, .tmp v]) (tmps : Array Value) (w : World) (g : Nat) (x : Value)
    (hp : tmps.getD p undef = .pointer (some ⟨g, 0, none⟩)) (hl : (loadVar ty ⟨g, 0, none⟩).run Tryz.prog w = .ok x w) :
    (results fn tmps).run Tryz.prog w = .ok (.tuple #[tmps.getD u undef, x, tmps.getD v undef]) w := by
  have hp' : tmps[p]?.getD undef = .pointer (some ⟨g, 0, none⟩) := by simpa using hp
  simp [results, h, hp', asAddr, hl]
theorem yieldsIf_load57 {ops : Array Oper} {T : World → Prop} {op : Oper} {a : Act} (hw : Region.wanted op (yielded ops a.tmps) = true) (x : Operand) (ho : op.op = .load 65 x) (g : Nat) (hx : a.eval x = .pointer (some ⟨g, 0, none⟩)) {xs : List UInt8} (hl : xs.length = 64) (hS : ∀ w, T w → w.heap[g]? = some (.cells (S.v8 xs) 65 (0, 0))) : YieldsIf Tryz.prog ops T op (.agg (S.v8 xs)) a :=
  Or.inl ⟨hw, fun w hw' => by
    unfold execOp
    simp only [ho, Sem.run_bind, hx, load57 (hS w hw') hl, Result.andThen_ok, Sem.run_pure]⟩
/-- Pages on a disk that does not stop; nothing is in flight. -/
structure Pg (w0 w : World) (o : Ow) (d : S.Dk) (p t : Nat) (pg : Nat → List UInt8) : Prop where
  dk : Dsk w o d
  pend : d.pend = []
  left : d.left = none
  len : 7680 ≤ d.safe.length
  mark : d.safe.getD 0 [] = S.pmark
  log : S.Good d.safe 1 4 p t []
  home : ∀ n, n < 512 → S.pageAt d.safe (5 + n * 8) = pg n
  ob : ∀ k, o.has k → w0.heap.size ≤ k
  below : Below w0.heap.size w0 w
  pos : 0 < w0.heap.size
theorem Pg.then {w0 w W : World} {o : Ow} {d : S.Dk} {p t : Nat} {pg : Nat → List UInt8} (h : Pg w0 w o d p t pg) (hb : Below w.heap.size w W) : Pg w0 W o d p t pg :=
  ⟨h.dk.below hb, h.pend, h.left, h.len, h.mark, h.log, h.home, h.ob, h.below.trans (hb.mono h.below.size), h.pos⟩
theorem Pg.seen {w0 w : World} {o : Ow} {d : S.Dk} {p t : Nat} {pg : Nat → List UInt8} (h : Pg w0 w o d p t pg) : d.seen = d.safe := S.Dk.seen_flushed d h.pend
set_option maxHeartbeats 4000000 in
set_option maxRecDepth 10000 in
theorem look_go (w0 w : World) (o : Ow) (d : S.Dk) (p t : Nat) (pg : Nat → List UInt8) (h : Pg w0 w o d p t pg) :
   Calls Tryz.prog 23 #[o.ptr] w fun e w' => ∃ g tv, e = .returned (.tuple #[.pointer (some ⟨g, 0, none⟩), .agg (S.v8 (S.zeros 64)), .int .i64 0]) ∧ Lo w0 w' o d g 1 4 p t [] tv ∧ w.heap.size ≤ g ∧ (∀ k, tv.ownBlock = some k → w.heap.size ≤ k) ∧ Below w.heap.size w w' := by
  have hal1 := alloc57 w
  obtain ⟨w1, hw1⟩ : ∃ w1, w1 = w.alloc (.cells (S.v8 (S.zeros 64)) 65) := ⟨_, rfl⟩
  have b1 : Below w.heap.size w w1 := by rw [hw1]; exact (Below.refl _ _).alloc (Nat.le_refl _) _
  have r1 : w1.heap[w.heap.size]? = some (.cells (S.v8 (S.zeros 64)) 65 (0, 0)) := by rw [hw1]; exact heap_alloc_new _ _
  rw [← hw1] at hal1
  obtain ⟨g3, hg3⟩ : ∃ g3, g3 = w.heap.size := ⟨_, rfl⟩
  rw [← hg3] at hal1 r1
  have R1 := hide r1
  have B1 := hide b1
  have P1 := hide (h.then b1)
  have HLT : Hid (∀ k, o.has k → k < g3) := fun k hk => by rw [hg3]; exact h.dk.dk.lt k hk
  have HG3 : Hid (w.heap.size ≤ g3) := by rw [hg3]; exact Nat.le_refl _
  have HG3e : Hid (g3 = w.heap.size) := hg3
  have HW0 : Hid (w0.heap.size ≤ w.heap.size) := h.below.size
  clear b1 r1 hw1 hg3 h
  go_enter Tryz.func23, Tryz.ntmps23
  go_wp2_with (with_reducible refine at_op { dst := some 3, op := Op.alloc 65, type := 0, pos := "place.go:70", after := #[], guard := none } ?_; refine wpList_alloc_known rfl 65 rfl (.pointer (some ⟨g3, 0, none⟩)) w1 hal1 ?_)
  clear hal1
  refine (read_yes o d 0 w1 P1.out.dk.dk (by have := P1.out.len; omega)).mono ?_
  rintro e w2 ⟨rfl, hr2, b2⟩
  rw [P1.out.seen, P1.out.mark] at hr2
  have cv := conv_slice (slice_row (n := 128) hr2 S.pmark_length.symm (by rw [S.pmark_length]; omega))
  have P2 := hide (P1.out.then b2)
  have R2 : Hid (w2.heap[g3]? = some (.cells (S.v8 (S.zeros 64)) 65 (0, 0))) := (b2.block g3 (block_lt_of_row R1.out)).trans R1.out
  have B2 := hide (B1.out.trans (b2.mono B1.out.size))
  have hq : S.pmark = [112, 97, 103, 101, 115, 32, 116, 104, 97, 116, 32, 97, 114, 101, 32, 112, 117, 116, 32, 116, 111, 103, 101, 116, 104, 101, 114, 32, 46, 46, 46, 32, 112, 97, 103, 101, 115, 32, 116, 104, 97, 116, 32, 97, 114, 101, 32, 112, 117, 116, 32, 116, 111, 103, 101, 116, 104, 101, 114, 32, 46, 46, 46, 32].append [112, 97, 103, 101, 115, 32, 116, 104, 97, 116, 32, 97, 114, 101, 32, 112, 117, 116, 32, 116, 111, 103, 101, 116, 104, 101, 114, 32, 46, 46, 46, 32, 112, 97, 103, 101, 115, 32, 116, 104, 97, 116, 32, 97, 114, 101, 32, 112, 117, 116, 32, 116, 111, 103, 101, 116, 104, 101, 114, 32, 46, 46, 46, 32] := rfl
  clear hr2 b2 R1 B1 P1
  go_wp2_with fail
  clear cv hq
  refine (open_go w0 w2 o d 1 4 p t [] P2.out.dk P2.out.pend P2.out.log P2.out.ob P2.out.below P2.out.pos).mono ?_
  rintro e w4 ⟨g, tv, rfl, hlo, hgb, htb, b4⟩
  have LO4 := hide hlo
  have G4 : Hid (g3 < g ∧ w.heap.size ≤ g ∧ (∀ k, tv.ownBlock = some k → g3 < k ∧ w.heap.size ≤ k)) := by
    have h1 := block_lt_of_row R2.out
    have h2 := HG3e.out
    exact ⟨by omega, by omega, fun k hk => by have := htb k hk; exact ⟨by omega, by omega⟩⟩
  have R4 : Hid (w4.heap[g3]? = some (.cells (S.v8 (S.zeros 64)) 65 (0, 0))) := (b4.block g3 (block_lt_of_row R2.out)).trans R2.out
  have B4 := hide (B2.out.trans (b4.mono B2.out.size))
  clear hlo hgb htb b4 R2 B2 P2
  go_wp2_with fail
  refine (records_go w0 w4 o d g 1 4 p t [] tv LO4.out (by simp)).mono ?_
  rintro e w5 ⟨lv, us, rfl, hrec, b5⟩
  obtain ⟨al, cl, hlv⟩ := hrec.lists.shape
  subst hlv
  have hul : us.length = 0 := hrec.copies.len
  rw [hul]
  have LO5 := hide (LO4.out.then b5)
  have R5 : Hid (w5.heap[g3]? = some (.cells (S.v8 (S.zeros 64)) 65 (0, 0))) := (b5.block g3 (block_lt_of_row R4.out)).trans R4.out
  have B5 := hide (B4.out.trans (b5.mono B4.out.size))
  clear hrec b5 hul LO4 R4 B4
  go_wp2_with fail
  refine (setIn_nil al cl w5).mono ?_
  rintro e w6 ⟨rfl, b6⟩
  have LO6 := hide (LO5.out.then b6)
  have R6 : Hid (w6.heap[g3]? = some (.cells (S.v8 (S.zeros 64)) 65 (0, 0))) := (b6.block g3 (block_lt_of_row R5.out)).trans R5.out
  have B6 := hide (B5.out.trans (b6.mono B5.out.size))
  clear b6 LO5 R5 B5
  have hal2 := alloc57 w6
  obtain ⟨w9, hst2, r9, b9⟩ := made57 w6 (S.zeros 64) (S.zeros_length _)
  have R9 := hide r9
  have LO9 := hide (LO6.out.then b9)
  have R39 : Hid (w9.heap[g3]? = some (.cells (S.v8 (S.zeros 64)) 65 (0, 0))) := (b9.block g3 (block_lt_of_row R6.out)).trans R6.out
  have B9 := hide (B6.out.trans (b9.mono B6.out.size))
  have h36 := block_lt_of_row R6.out
  have N93 : Hid (¬ w6.heap.size = g3) := fun e => by omega
  have NG3 : Hid (∀ k, (o.has k ∨ k = g ∨ tv.ownBlock = some k ∨ k < w0.heap.size) → ¬ k = g3) := fun k hk e => by
    subst e
    rcases hk with hk | hk | hk | hk
    · exact absurd (HLT.out _ hk) (Nat.lt_irrefl _)
    · have := G4.out.1; omega
    · have := (G4.out.2.2 _ hk).1; omega
    · have := HW0.out; have := HG3.out; omega
  obtain ⟨w7, hw7⟩ : ∃ w7, w7 = w6.alloc (.cells (S.v8 (S.zeros 64)) 65) := ⟨_, rfl⟩
  rw [← hw7] at hal2 hst2
  obtain ⟨g9, hg9⟩ : ∃ g9, g9 = w6.heap.size := ⟨_, rfl⟩
  rw [← hg9] at hal2 hst2 R9 N93
  clear r9 b9 h36 LO6 R6 B6 hg9 hw7
  go_upto_region 10 with (first | (with_reducible refine at_op { dst := some 9, op := Op.alloc 65, type := 0, pos := "place.go:78", after := #[], guard := none } ?_; refine wpList_alloc_known rfl 65 rfl (.pointer (some ⟨g9, 0, none⟩)) w7 hal2 ?_) | (with_reducible refine at_op { dst := none, op := Op.store 65 (Operand.tmp 9) (Operand.tmp 33), type := 0, pos := "place.go:78", after := #[⟨6, .data⟩, ⟨4, .data⟩, ⟨2, .chain⟩, ⟨0, .phase⟩, ⟨1, .phase⟩, ⟨2, .phase⟩, ⟨3, .phase⟩, ⟨4, .phase⟩, ⟨5, .textOnly .lateStores⟩, ⟨6, .phase⟩], guard := none } ?_; refine wpList_store_as rfl 65 (.tmp 9) (.tmp 33) rfl (.pointer (some ⟨g9, 0, none⟩)) (.agg (S.v8 (S.zeros 64))) rfl rfl w9 hst2 ?_))
  clear hal2 hst2
  refine wp_region_noPanic ?_
  refine wp_region_held_drew (S := (fun W => W.heap[g9]? = some (.cells (S.v8 (S.zeros 64)) 65 (0, 0)))) follows R9.out (fun hHeld => ?_)
  have LOd := hide (LO9.out.then (Below.refl w9.heap.size w9).drew)
  have B9d : Hid (Below w.heap.size w w9.drew) := B9.out.drew
  have R3d : Hid (w9.drew.heap[g3]? = some (.cells (S.v8 (S.zeros 64)) 65 (0, 0))) := R39.out
  clear LO9 B9 R9 R39
  generalize w9.drew = Z1 at LOd B9d R3d hHeld ⊢
  refine wpAnyH_take (i := 0) (oi := { dst := some 38, op := Op.move (Operand.tmp 7), type := 63, pos := "place.go:82", after := #[], guard := none }) (v := ?_) rfl (by kernel_rfl) (by kernel_rfl) (by kernel_rfl) (fun _ _ _ h => h) (Or.inl ⟨by rfl, ?_⟩) (by assumption) ?_
  rotate_left
  · intro w hSw
    clear hSw
    go_simp
    all_goals with_reducible rfl
  simp only [Act.put, List.setIfInBounds_toArray, List.set_cons_zero, List.set_cons_succ]
  refine wpAnyH_take (i := 1) (oi := { dst := some 39, op := Op.load 65 (Operand.tmp 9), type := 65, pos := "place.go:82", after := #[⟨2, .gcOnly .lateStores⟩], guard := none }) (v := .agg (S.v8 (S.zeros 64))) rfl (by kernel_rfl) (by kernel_rfl) (by kernel_rfl) (fun _ _ _ h => h) (yieldsIf_load57 (by kernel_rfl) (.tmp 9) rfl g9 rfl (S.zeros_length _) (fun W hW => hW)) (by assumption) ?_
  simp only [Act.put, List.setIfInBounds_toArray, List.set_cons_zero, List.set_cons_succ]
  refine wpAnyH_take (i := 2) (oi := { dst := some 2, op := Op.assign (Operand.tmp 38), type := 63, pos := "place.go:82", after := #[⟨0, .data⟩, ⟨0, .phase⟩, ⟨1, .textOnly .lateStores⟩], guard := none }) (v := ?_) rfl (by kernel_rfl) (by kernel_rfl) (by kernel_rfl) (fun _ _ _ h => h) (Or.inl ⟨by rfl, ?_⟩) (by assumption) ?_
  rotate_left
  · intro w hSw
    clear hSw
    go_simp
    all_goals with_reducible rfl
  simp only [Act.put, List.setIfInBounds_toArray, List.set_cons_zero, List.set_cons_succ]
  obtain ⟨Z2, hst, r3, c3⟩ := store57 (ys := S.zeros 64) R3d.out (S.zeros_length _) (S.zeros_length _)
  have R3 := hide r3
  have LO2 : Hid (Lo w0 Z2 o d g 1 4 p t [] tv) := LOd.out.chg c3 NG3.out
  have B2 : Hid (Below w.heap.size w Z2) := B9d.out.trans (c3.base B9d.out.size HG3.out)
  have a2 : Z2.heap[g9]? = some (.cells (S.v8 (S.zeros 64)) 65 (0, 0)) := c3.row hHeld N93.out
  refine wpAnyH_ready (rs := [3]) (by kernel_rfl) (by simp) ?_
  refine step_store (o := { dst := none, op := Op.store 65 (Operand.tmp 3) (Operand.tmp 39), type := 0, pos := "place.go:82", after := #[⟨1, .data⟩, ⟨2, .chain⟩, ⟨0, .phase⟩, ⟨1, .phase⟩, ⟨2, .phase⟩], guard := none }) rfl rfl 65 (.tmp 3) (.tmp 39) rfl Z2 hst AllReadyH.nil ⟨a2, fun hHeld => ?_⟩
  simp only [Act.put]
  clear hst r3 c3 LOd B9d R3d a2
  refine wpAnyH_take (i := 4) (oi := { dst := some 4, op := Op.assign (Operand.const (Value.int IntKind.i64 0)), type := 26, pos := "place.go:82", after := #[⟨3, .chain⟩, ⟨0, .phase⟩, ⟨1, .phase⟩, ⟨2, .phase⟩, ⟨3, .phase⟩], guard := none }) (v := ?_) rfl (by kernel_rfl) (by kernel_rfl) (by kernel_rfl) (fun _ _ _ h => h) (Or.inl ⟨by rfl, ?_⟩) (by assumption) ?_
  rotate_left
  · intro w hSw
    clear hSw
    go_simp
    all_goals with_reducible rfl
  simp only [Act.put, List.setIfInBounds_toArray, List.set_cons_zero, List.set_cons_succ]
  refine wpAnyH_done (by kernel_rfl) ?_ _
  refine NoPanic.normal ?_
  clear hHeld
  go_wp2_with fail
  refine bodyPost_ret (results_mid Tryz.results23 _ _ g3 (.agg (S.v8 (S.zeros 64))) rfl (loadVar57 R3.out (S.zeros_length _))) rfl ⟨g, tv, rfl, LO2.out, G4.out.2.1, fun k hk => (G4.out.2.2 k hk).2, B2.out⟩
end Go.Proofs.YthjlhngjpbmieaaGreatDoor
namespace Go.Proofs.YthjlhngjpbmieaaGreatDoor
open Go.RowKit

/-- A Store in block gs. -/
def StAt (w : World) (gs : Nat) (o : Ow) : Prop := w.heap[gs]? = some (.cells #[.pointer (some ⟨o.g, 0, none⟩)] 69 (0, 0))
theorem st_cell {w : World} {gs : Nat} {v : Value} (h : w.heap[gs]? = some (.cells #[v] 69 (0, 0))) : w.cell? ⟨gs, 0, none⟩ = some v := by
  rw [cell_of_row w gs 0 _ 69 (0, 0) h]; rfl
namespace S
theorem bit_zeros (n : Nat) : bit (zeros 64) n = false := by
  rw [bit_iff]
  have : (zeros 64).getD (n / 8) 0 = 0 := by
    rw [List.getD_eq_getElem?_getD]
    unfold zeros
    rw [List.getElem?_replicate]
    split <;> rfl
  rw [this]
  simp
end S
set_option maxHeartbeats 4000000 in
set_option maxRecDepth 10000 in
theorem popen_go (w0 w : World) (o : Ow) (d : S.Dk) (p t : Nat) (pg : Nat → List UInt8) (h : Pg w0 w o d p t pg) :
   Calls Tryz.prog 10 #[o.ptr] w fun e w' => ∃ gs, e = .returned (.tuple #[.pointer (some ⟨gs, 0, none⟩), .int .i64 0]) ∧ StAt w' gs o ∧ w.heap.size ≤ gs ∧ Pg w0 w' o d p t pg ∧ Below w.heap.size w w' := by
  have P0 := hide h
  clear h
  go_enter Tryz.func10, Tryz.ntmps10
  go_wp2_with fail
  refine (fits_yes o d w P0.out.dk.dk P0.out.len).mono ?_
  rintro e w1 ⟨rfl, rfl⟩
  go_wp2_with fail
  refine (settle_none o d w P0.out.dk.dk P0.out.pend).mono ?_
  rintro e w1 ⟨rfl, rfl⟩
  go_wp2_with fail
  refine (look_go w0 w o d p t pg P0.out).mono ?_
  rintro e w1 ⟨g, tv, rfl, hlo, hgb, htb, b1⟩
  have P1 := hide (P0.out.then b1)
  have B1 := hide b1
  clear hlo hgb htb b1 P0
  have hal := alloc57 w1
  obtain ⟨w3, hst, r3, b3⟩ := made57 w1 (S.zeros 64) (S.zeros_length _)
  have P3 := hide (P1.out.then b3)
  have B3 := hide (B1.out.trans (b3.mono B1.out.size))
  obtain ⟨w2, hw2⟩ : ∃ w2, w2 = w1.alloc (.cells (S.v8 (S.zeros 64)) 65) := ⟨_, rfl⟩
  rw [← hw2] at hal hst
  obtain ⟨g2, hg2⟩ : ∃ g2, g2 = w1.heap.size := ⟨_, rfl⟩
  rw [← hg2] at hal hst
  obtain ⟨Z, hZ⟩ : ∃ Z, Z = S.v8 (S.zeros 64) := ⟨_, rfl⟩
  rw [← hZ] at hst ⊢
  have hptr : o.ptr = .pointer (some ⟨o.g, 0, none⟩) := rfl
  rw [hptr]
  obtain ⟨w4, hw4⟩ : ∃ w4, w4 = w3.alloc (.cells #[.pointer (some ⟨o.g, 0, none⟩)] 69) := ⟨_, rfl⟩
  have b4 : Below w3.heap.size w3 w4 := by rw [hw4]; exact (Below.refl _ _).alloc (Nat.le_refl _) _
  have R4 : Hid (StAt w4 w3.heap.size o) := by rw [hw4]; exact heap_alloc_new _ _
  have P4 := hide (P3.out.then b4)
  have B4 := hide (B3.out.trans (b4.mono B3.out.size))
  have HG : Hid (w.heap.size ≤ w3.heap.size) := B3.out.size
  clear r3 b3 b4 hw2 hg2 hZ P1 B1 P3 B3 hptr
  go_wp2_with (first | (with_reducible refine at_op { dst := some 6, op := Op.alloc 65, type := 0, pos := "pages.go:49", after := #[], guard := none } ?_; refine wpList_alloc_known rfl 65 rfl (.pointer (some ⟨g2, 0, none⟩)) w2 hal ?_) | (with_reducible refine at_op { dst := none, op := Op.store 65 (Operand.tmp 6) (Operand.tmp 20), type := 0, pos := "pages.go:49", after := #[⟨6, .data⟩, ⟨4, .data⟩, ⟨7, .chain⟩, ⟨0, .phase⟩, ⟨1, .phase⟩, ⟨2, .phase⟩, ⟨3, .phase⟩, ⟨4, .phase⟩, ⟨5, .textOnly .lateStores⟩, ⟨6, .phase⟩, ⟨7, .phase⟩], guard := none } ?_; refine wpList_store_as rfl 65 (.tmp 6) (.tmp 20) rfl (.pointer (some ⟨g2, 0, none⟩)) (.agg Z) rfl rfl w3 hst ?_))
  rw [← hw4]
  go_ret2
  exact ⟨w3.heap.size, rfl, R4.out, HG.out, P4.out, B4.out⟩
set_option maxHeartbeats 4000000 in
set_option maxRecDepth 10000 in
theorem pread_go (w0 w : World) (o : Ow) (d : S.Dk) (p t gs n : Nat) (pg : Nat → List UInt8) (h : Pg w0 w o d p t pg) (hs : StAt w gs o) (hn : n < 512) :
   Calls Tryz.prog 11 #[.pointer (some ⟨gs, 0, none⟩), .int .i64 (n : Int)] w fun e w' => ∃ gp, e = .returned (.tuple #[.slice (some ⟨gp, 0, none⟩) 1024 1024, .int .i64 0]) ∧ w.heap.size ≤ gp ∧ Room w' gp 1024 (pg n) ∧ Pg w0 w' o d p t pg ∧ StAt w' gs o ∧ Below w.heap.size w w' := by
  have P0 := hide h
  have S0 := hide hs
  clear h hs
  go_enter Tryz.func11, Tryz.ntmps11
  go_wp2_with fail
  refine (isPage_yes n hn w).mono ?_
  rintro e w1 ⟨rfl, rfl⟩
  have c0 := st_cell S0.out
  go_wp2_with fail
  have hptr : o.ptr = .pointer (some ⟨o.g, 0, none⟩) := rfl
  rw [← hptr]
  refine (look_go w0 w o d p t pg P0.out).mono ?_
  rintro e w1 ⟨g, tv, rfl, hlo, hgb, htb, b1⟩
  have P1 := hide (P0.out.then b1)
  have B1 := hide b1
  have S1 : Hid (StAt w1 gs o) := (b1.block gs (block_lt_of_row S0.out)).trans S0.out
  clear hlo hgb htb b1 P0 S0 c0
  have hal := alloc57 w1
  obtain ⟨w3, hst, r3, b3⟩ := made57 w1 (S.zeros 64) (S.zeros_length _)
  have P3 := hide (P1.out.then b3)
  have B3 := hide (B1.out.trans (b3.mono B1.out.size))
  have S3 : Hid (StAt w3 gs o) := (b3.block gs (block_lt_of_row S1.out)).trans S1.out
  obtain ⟨w2, hw2⟩ : ∃ w2, w2 = w1.alloc (.cells (S.v8 (S.zeros 64)) 65) := ⟨_, rfl⟩
  rw [← hw2] at hal hst
  have ld := load57 r3 (S.zeros_length _)
  obtain ⟨g2, hg2⟩ : ∃ g2, g2 = w1.heap.size := ⟨_, rfl⟩
  rw [← hg2] at hal hst ld
  obtain ⟨Z, hZ⟩ : ∃ Z, Z = S.v8 (S.zeros 64) := ⟨_, rfl⟩
  rw [← hZ] at hst ld ⊢
  have HZ := hide hZ
  clear r3 b3 hw2 hg2 hZ P1 B1 S1 hptr
  go_wp2_with (first | (with_reducible refine at_op { dst := some 7, op := Op.alloc 65, type := 0, pos := "pages.go:60", after := #[], guard := none } ?_; refine wpList_alloc_known rfl 65 rfl (.pointer (some ⟨g2, 0, none⟩)) w2 hal ?_) | (with_reducible refine at_op { dst := none, op := Op.store 65 (Operand.tmp 7) (Operand.tmp 19), type := 0, pos := "pages.go:60", after := #[⟨9, .data⟩, ⟨7, .data⟩, ⟨10, .chain⟩, ⟨0, .phase⟩, ⟨1, .phase⟩, ⟨2, .phase⟩, ⟨3, .phase⟩, ⟨4, .phase⟩, ⟨5, .phase⟩, ⟨6, .phase⟩, ⟨7, .phase⟩, ⟨8, .textOnly .lateStores⟩, ⟨9, .phase⟩, ⟨10, .phase⟩], guard := none } ?_; refine wpList_store_as rfl 65 (.tmp 7) (.tmp 19) rfl (.pointer (some ⟨g2, 0, none⟩)) (.agg Z) rfl rfl w3 hst ?_) | (with_reducible refine at_op { dst := some 24, op := Op.load 65 (Operand.tmp 7), type := 65, pos := "pages.go:64", after := #[], guard := none } ?_; refine wpList_load_as rfl 65 (.tmp 7) rfl (.pointer (some ⟨g2, 0, none⟩)) rfl (.agg Z) ld ?_))
  clear hal hst ld
  refine (bit_any Z (S.zeros 64) n w3 HZ.out (S.zeros_length _) hn).mono ?_
  rintro e w6 ⟨rfl, b6⟩
  rw [S.bit_zeros]
  have P6 := hide (P3.out.then b6)
  have B6 := hide (B3.out.trans (b6.mono B3.out.size))
  have ST6 : Hid (StAt w6 gs o) := (b6.block gs (block_lt_of_row S3.out)).trans S3.out
  clear b6 P3 B3 S3
  go_upto_region 8 with fail
  refine wp_region_noPanic ?_
  refine wp_region_held_drew (S := (fun W => W.heap[gs]? = some (.cells #[.pointer (some ⟨o.g, 0, none⟩)] 69 (0, 0)))) follows ST6.out (fun hHeld => ?_)
  have P6d := hide (P6.out.then (Below.refl w6.heap.size w6).drew)
  have B6d : Hid (Below w.heap.size w w6.drew) := B6.out.drew
  clear P6 B6 ST6
  generalize w6.drew = Z1 at P6d B6d hHeld ⊢
  refine wpAnyH_take (i := 0) (oi := { dst := some 36, op := Op.move (Operand.tmp 0), type := 23, pos := "pages.go:67", after := #[], guard := none }) (v := ?_) rfl (by kernel_rfl) (by kernel_rfl) (by kernel_rfl) (fun _ _ _ h => h) (Or.inl ⟨by rfl, ?_⟩) (by assumption) ?_
  rotate_left
  · intro w hSw
    clear hSw
    go_simp
    all_goals with_reducible rfl
  simp only [Act.put, List.setIfInBounds_toArray, List.set_cons_zero, List.set_cons_succ]
  refine wpAnyH_take (i := 1) (oi := { dst := some 37, op := Op.nilCheck (Operand.tmp 36), type := 0, pos := "pages.go:67", after := #[⟨0, .data⟩], guard := none }) (v := ?_) rfl (by kernel_rfl) (by kernel_rfl) (by kernel_rfl) (fun _ _ _ h => h) (Or.inl ⟨by rfl, ?_⟩) (by assumption) ?_
  rotate_left
  · intro w hSw
    clear hSw
    go_simp
    all_goals with_reducible rfl
  simp only [Act.put, List.setIfInBounds_toArray, List.set_cons_zero, List.set_cons_succ]
  refine wpAnyH_take (i := 2) (oi := { dst := some 38, op := Op.fieldAddr 69 (Operand.tmp 37) 0, type := 0, pos := "pages.go:67", after := #[⟨1, .data⟩], guard := none }) (v := ?_) rfl (by kernel_rfl) (by kernel_rfl) (by kernel_rfl) (fun _ _ _ h => h) (Or.inl ⟨by rfl, ?_⟩) (by assumption) ?_
  rotate_left
  · intro w hSw
    clear hSw
    go_simp
    all_goals with_reducible rfl
  simp only [Act.put, List.setIfInBounds_toArray, List.set_cons_zero, List.set_cons_succ]
  refine wpAnyH_take (i := 3) (oi := { dst := some 39, op := Op.load 22 (Operand.tmp 38), type := 22, pos := "pages.go:67", after := #[⟨2, .data⟩], guard := none }) (v := ?_) rfl (by kernel_rfl) (by kernel_rfl) (by kernel_rfl) (fun _ _ _ h => h) (Or.inl ⟨by rfl, ?_⟩) (by assumption) ?_
  rotate_left
  · intro w hSw
    have c0 := st_cell hSw
    clear hSw
    go_simp
    all_goals with_reducible rfl
  simp only [Act.put, List.setIfInBounds_toArray, List.set_cons_zero, List.set_cons_succ]
  refine wpAnyH_take (i := 4) (oi := { dst := some 40, op := Op.move (Operand.tmp 1), type := 3, pos := "pages.go:67", after := #[], guard := none }) (v := ?_) rfl (by kernel_rfl) (by kernel_rfl) (by kernel_rfl) (fun _ _ _ h => h) (Or.inl ⟨by rfl, ?_⟩) (by assumption) ?_
  rotate_left
  · intro w hSw
    clear hSw
    go_simp
    all_goals with_reducible rfl
  simp only [Act.put, List.setIfInBounds_toArray, List.set_cons_zero, List.set_cons_succ]
  refine wpAnyH_ready (rs := [5]) (by kernel_rfl) (by simp) ?_
  refine AllReadyH.cons (o := { dst := some 41, op := Op.call { callee := Callee.value (Operand.func 29), args := #[Operand.tmp 40], argTypes := #[3] }, type := 3, pos := "pages.go:67", after := #[⟨4, .data⟩], guard := none }) rfl (fun K hK => ?_) AllReadyH.nil
  go_simp
  refine (phome_any n (by omega) Z1).mono ?_
  rintro e Z2 ⟨rfl, rfl⟩
  refine hK.out _ _ hHeld (fun hHeld => ?_)
  clear hK K
  try simp only [Act.put, List.setIfInBounds_toArray, List.set_cons_zero, List.set_cons_succ]
  refine wpAnyH_ready (rs := [6]) (by kernel_rfl) (by simp) ?_
  refine AllReadyH.cons (o := { dst := some 42, op := Op.call { callee := Callee.value (Operand.func 26), args := #[Operand.tmp 39, Operand.tmp 41], argTypes := #[22, 3] }, type := 31, pos := "pages.go:67", after := #[⟨3, .data⟩, ⟨5, .data⟩, ⟨5, .chain⟩], guard := none }) rfl (fun K hK => ?_) AllReadyH.nil
  go_simp
  have RP := readPage_any o d (5 + n * 8) Z1 P6d.out.dk.dk (fun i hi => by rw [P6d.out.seen] at hi ⊢; exact P6d.out.dk.dk.ok.len i hi) (by have := P6d.out.len; omega)
  rw [P6d.out.seen, P6d.out.home n hn, show o.ptr = .pointer (some ⟨o.g, 0, none⟩) from rfl] at RP
  try rw [show ((5 + n * 8 : Nat) : Int) = 5 + (n : Int) * 8 by omega] at RP
  refine RP.mono ?_
  rintro e Z2 ⟨gp, rfl, hgp, hrm, b2⟩
  have a2 : Z2.heap[gs]? = some (.cells #[.pointer (some ⟨o.g, 0, none⟩)] 69 (0, 0)) := (b2.block gs (block_lt_of_row hHeld)).trans hHeld
  have P7 := hide (P6d.out.then b2)
  have RM := hide hrm
  have GP : Hid (w.heap.size ≤ gp) := Nat.le_trans B6d.out.size hgp
  have ST7 := hide a2
  have B7 : Hid (Below w.heap.size w Z2) := B6d.out.trans (b2.mono B6d.out.size)
  clear RP hgp hrm b2 hHeld P6d B6d
  refine hK.out _ _ a2 (fun hHeld => ?_)
  clear hK K
  try simp only [Act.put, List.setIfInBounds_toArray, List.set_cons_zero, List.set_cons_succ]
  clear a2
  refine wpAnyH_take (i := 7) (oi := { dst := some 4, op := Op.assign (Operand.tmp 42), type := 31, pos := "pages.go:67", after := #[⟨6, .data⟩, ⟨6, .chain⟩, ⟨0, .phase⟩, ⟨1, .phase⟩, ⟨2, .phase⟩, ⟨3, .phase⟩, ⟨4, .phase⟩, ⟨5, .phase⟩, ⟨6, .phase⟩], guard := none }) (v := ?_) rfl (by kernel_rfl) (by kernel_rfl) (by kernel_rfl) (fun _ _ _ h => h) (Or.inl ⟨by rfl, ?_⟩) (by assumption) ?_
  rotate_left
  · intro w hSw
    clear hSw
    go_simp
    all_goals with_reducible rfl
  simp only [Act.put, List.setIfInBounds_toArray, List.set_cons_zero, List.set_cons_succ]
  refine wpAnyH_take (i := 8) (oi := { dst := some 5, op := Op.assign (Operand.const (Value.int IntKind.i64 0)), type := 26, pos := "pages.go:67", after := #[⟨7, .chain⟩, ⟨0, .phase⟩, ⟨1, .phase⟩, ⟨2, .phase⟩, ⟨3, .phase⟩, ⟨4, .phase⟩, ⟨5, .phase⟩, ⟨6, .phase⟩, ⟨7, .phase⟩], guard := none }) (v := ?_) rfl (by kernel_rfl) (by kernel_rfl) (by kernel_rfl) (fun _ _ _ h => h) (Or.inl ⟨by rfl, ?_⟩) (by assumption) ?_
  rotate_left
  · intro w hSw
    clear hSw
    go_simp
    all_goals with_reducible rfl
  simp only [Act.put, List.setIfInBounds_toArray, List.set_cons_zero, List.set_cons_succ]
  refine wpAnyH_done (by kernel_rfl) ?_ _
  refine NoPanic.normal ?_
  clear hHeld
  go_wp2_with fail
  go_ret2
  exact ⟨gp, rfl, GP.out, RM.out, P7.out, ST7.out, B7.out⟩
end Go.Proofs.YthjlhngjpbmieaaGreatDoor
