/- Open and Read where the log tells of sheets. -/
import Derived.Test.YteealihknndclaaGreatDoorUe
import Derived.Test.YteealihknndclaaGreatDoorJa
import Derived.Test.YteealihknndclaaGreatDoorUb
import Derived.Test.YteealihknndclaaGreatDoorJc
namespace Go.Proofs.YteealihknndclaaGreatDoor
open Go.RowKit

theorem Recs.one {w0 w : World} {lv : Value} {us : List Value} {z : List UInt8} (h : Recs w0 w lv us [z]) (hz : z.length = 64) : ∃ gl off c gz cz, lv = .slice (some ⟨gl, off, none⟩) 1 c ∧ w.cell? ⟨gl, off, none⟩ = some (.slice (some ⟨gz, 0, none⟩) 64 cz) ∧ SliceAt w (.slice (some ⟨gz, 0, none⟩) 64 cz) z := by
 have hl : us.length = 1 := h.copies.len
 obtain ⟨gz, cz, e, hr, _⟩ := h.copies.new 0 (by simp)
 have e' : us.getD 0 default = .slice (some ⟨gz, 0, none⟩) 64 cz := by rw [e]; show Value.slice _ z.length cz = _; rw [hz]
 rcases h.lists with ⟨_, h2⟩ | ⟨g, off, c, cur, h1, h2, h3, h4, h5⟩
 ·rw [h2] at hl; simp at hl
 ·refine ⟨g, off, c, gz, cz, by rw [h1, hl], ?_, ?_⟩
  ·have h0 : us[0]? = some (.slice (some ⟨gz, 0, none⟩) 64 cz) := by
    rw [List.getElem?_eq_getElem (by omega), ← e', List.getD_eq_getElem?_getD, List.getElem?_eq_getElem (by omega)]
    rfl
   rw [cell_of_row w g off _ 32 _ h2]
   have := h5 0 _ h0
   rw [Nat.add_zero] at this
   exact this
  ·have h6 := hr.sliceAt (by show z.length ≤ _; omega)
   have e6 : ([z].getD 0 []).length = 64 := hz
   rw [e6] at h6
   exact h6
structure Pm (w0 w : World) (o : Ow) (d : S.Dk) (p t : Nat) (ns : List Nat) (xs : List (List UInt8)) (pg : Nat → List UInt8) : Prop where
 dk : Dsk w o d
 pend : d.pend = []
 len : 7680 ≤ d.safe.length
 mark : d.safe.getD 0 [] = S.pmark
 log : S.Good d.safe 1 4 p t [S.setL ns]
 spare : ∀ i, i < ns.length → S.pageAt d.safe (4101 + i * 8) = xs.getD i []
 home : ∀ n, n < 512 → n ∉ ns → S.pageAt d.safe (5 + n * 8) = pg n
 ob : ∀ k, o.has k → w0.heap.size ≤ k
 below : Below w0.heap.size w0 w
 pos : 1 < w0.heap.size
 nb : ∀ n ∈ ns, n < 512
 up : ns.Pairwise (· < ·)
 ne : ns ≠ []
 le : ns.length ≤ 256
theorem Pm.then {w0 w W : World} {o : Ow} {d : S.Dk} {p t : Nat} {ns : List Nat} {xs : List (List UInt8)} {pg : Nat → List UInt8} (h : Pm w0 w o d p t ns xs pg) (hb : Below w.heap.size w W) : Pm w0 W o d p t ns xs pg :=
 ⟨h.dk.below hb, h.pend, h.len, h.mark, h.log, h.spare, h.home, h.ob, h.below.trans (hb.mono h.below.size), h.pos, h.nb, h.up, h.ne, h.le⟩
theorem Pm.seen {w0 w : World} {o : Ow} {d : S.Dk} {p t : Nat} {ns : List Nat} {xs : List (List UInt8)} {pg : Nat → List UInt8} (h : Pm w0 w o d p t ns xs pg) : d.seen = d.safe := S.Dk.seen_flushed d h.pend
set_option maxHeartbeats 4000000 in
set_option maxRecDepth 10000 in
theorem look_mid (w0 w : World) (o : Ow) (d : S.Dk) (p t : Nat) (ns : List Nat) (xs : List (List UInt8)) (pg : Nat → List UInt8) (h : Pm w0 w o d p t ns xs pg) :
  Calls Tryz.prog 71 #[o.ptr] w fun e w' => ∃ g tv, e = .returned (.tuple #[.pointer (some ⟨g, 0, none⟩), .agg (S.v8 (S.setL ns)), .int .i64 0]) ∧ Lo w0 w' o d g 1 4 p t [S.setL ns] tv ∧ w.heap.size ≤ g ∧ (∀ k, tv.ownBlock = some k → w.heap.size ≤ k) ∧ Below w.heap.size w w' := by
 have hal1 := alloc57 w
 obtain ⟨w1, hw1⟩ : ∃ w1, w1 = w.alloc (.cells (S.v8 (S.zeros 64)) 149) := ⟨_, rfl⟩
 have b1 : Below w.heap.size w w1 := by rw [hw1]; exact (Below.refl _ _).alloc (Nat.le_refl _) _
 have r1 : w1.heap[w.heap.size]? = some (.cells (S.v8 (S.zeros 64)) 149 (0, 0)) := by rw [hw1]; exact heap_alloc_new _ _
 rw [← hw1] at hal1
 obtain ⟨g3, hg3⟩ : ∃ g3, g3 = w.heap.size := ⟨_, rfl⟩
 rw [← hg3] at hal1 r1
 have R1 := hide r1
 have B1 := hide b1
 have P1 := hide (h.then b1)
 have HLT : Hid (∀ k, o.has k → k < g3) := fun k hk => by rw [hg3]; exact h.dk.dk.lt k hk
 have HG3 : Hid (w.heap.size ≤ g3) := by rw [hg3]; exact Nat.le_refl _
 have HG3e : Hid (g3 = w.heap.size) := hg3
 have HNE : Hid (∀ r ∈ [S.setL ns], r ≠ []) := fun r hr e => by simp at hr; rw [hr] at e; have := S.setL_length ns; rw [e] at this; simp at this
 have CN : Hid (0 < S.cnt (S.setL ns) ∧ S.cnt (S.setL ns) ≤ 256) := by
  rw [S.cnt_setL ns h.nb h.up]
  exact ⟨List.length_pos_iff.2 h.ne, h.le⟩
 have HW0 : Hid (w0.heap.size ≤ w.heap.size) := h.below.size
 clear b1 r1 hw1 hg3 h
 go_enter Tryz.func71, Tryz.ntmps71
 go_wp2_with (with_reducible refine at_op ⟨some 3, .alloc 149, 0, "place.go:70", #[], none⟩ ?_; refine wpList_alloc_known rfl 149 rfl (.pointer (some ⟨g3, 0, none⟩)) w1 hal1 ?_)
 clear hal1
 refine (read_yes o d 0 w1 P1.out.dk.dk (by have := P1.out.len; omega)).mono ?_
 rintro e w2 ⟨rfl, hr2, b2⟩
 rw [P1.out.seen, P1.out.mark] at hr2
 have cv := conv_slice (slice_row (n := 128) hr2 S.pmark_length.symm (by rw [S.pmark_length]; omega))
 have P2 := hide (P1.out.then b2)
 have R2 : Hid (w2.heap[g3]? = some (.cells (S.v8 (S.zeros 64)) 149 (0, 0))) := (b2.block g3 (block_lt_of_row R1.out)).trans R1.out
 have B2 := hide (B1.out.trans (b2.mono B1.out.size))
 have hq : S.pmark = [112, 97, 103, 101, 115, 32, 116, 104, 97, 116, 32, 97, 114, 101, 32, 112, 117, 116, 32, 116, 111, 103, 101, 116, 104, 101, 114, 32, 46, 46, 46, 32, 112, 97, 103, 101, 115, 32, 116, 104, 97, 116, 32, 97, 114, 101, 32, 112, 117, 116, 32, 116, 111, 103, 101, 116, 104, 101, 114, 32, 46, 46, 46, 32].append [112, 97, 103, 101, 115, 32, 116, 104, 97, 116, 32, 97, 114, 101, 32, 112, 117, 116, 32, 116, 111, 103, 101, 116, 104, 101, 114, 32, 46, 46, 46, 32, 112, 97, 103, 101, 115, 32, 116, 104, 97, 116, 32, 97, 114, 101, 32, 112, 117, 116, 32, 116, 111, 103, 101, 116, 104, 101, 114, 32, 46, 46, 46, 32] := rfl
 clear hr2 b2 R1 B1 P1
 go_wp2_with fail
 clear cv hq
 refine (open_go w0 w2 o d 1 4 p t [S.setL ns] P2.out.dk P2.out.pend P2.out.log P2.out.ob P2.out.below P2.out.pos).mono ?_
 rintro e w4 ⟨g, tv, rfl, hlo, hgb, htb, b4⟩
 have LO4 := hide hlo
 have G4 : Hid (g3 < g ∧ w.heap.size ≤ g ∧ (∀ k, tv.ownBlock = some k → g3 < k ∧ w.heap.size ≤ k)) := by
  have h1 := block_lt_of_row R2.out
  have h2 := HG3e.out
  exact ⟨by omega, by omega, fun k hk => by have := htb k hk; exact ⟨by omega, by omega⟩⟩
 have R4 : Hid (w4.heap[g3]? = some (.cells (S.v8 (S.zeros 64)) 149 (0, 0))) := (b4.block g3 (block_lt_of_row R2.out)).trans R2.out
 have B4 := hide (B2.out.trans (b4.mono B2.out.size))
 clear hlo hgb htb b4 R2 B2 P2
 go_wp2_with fail
 refine (records_go w0 w4 o d g 1 4 p t [S.setL ns] tv LO4.out HNE.out).mono ?_
 rintro e w5 ⟨lv, us, rfl, hrec, b5⟩
 obtain ⟨gl, ofl, cl, gz, cz, rfl, hcell, hsl⟩ := hrec.one (S.setL_length ns)
 have CE := hide hcell
 have SL := hide hsl
 have LO5 := hide (LO4.out.then b5)
 have R5 : Hid (w5.heap[g3]? = some (.cells (S.v8 (S.zeros 64)) 149 (0, 0))) := (b5.block g3 (block_lt_of_row R4.out)).trans R4.out
 have B5 := hide (B4.out.trans (b5.mono B4.out.size))
 clear hrec b5 hcell hsl LO4 R4 B4
 go_wp2_with fail
 refine (setIn_one gl ofl cl gz 0 cz (S.setL ns) w5 CE.out SL.out CN.out.1 CN.out.2).mono ?_
 rintro e w6 ⟨rfl, b6⟩
 have LO6 := hide (LO5.out.then b6)
 have R6 : Hid (w6.heap[g3]? = some (.cells (S.v8 (S.zeros 64)) 149 (0, 0))) := (b6.block g3 (block_lt_of_row R5.out)).trans R5.out
 have B6 := hide (B5.out.trans (b6.mono B5.out.size))
 clear b6 LO5 R5 B5
 have hal2 := alloc57 w6
 obtain ⟨w9, hst2, r9, b9⟩ := made57 w6 (S.setL ns) (S.setL_length ns)
 have R9 := hide r9
 have LO9 := hide (LO6.out.then b9)
 have R39 : Hid (w9.heap[g3]? = some (.cells (S.v8 (S.zeros 64)) 149 (0, 0))) := (b9.block g3 (block_lt_of_row R6.out)).trans R6.out
 have B9 := hide (B6.out.trans (b9.mono B6.out.size))
 have h36 := block_lt_of_row R6.out
 have N93 : Hid (¬ w6.heap.size = g3) := fun e => by omega
 have NG3 : Hid (∀ k, (o.has k ∨ k = g ∨ tv.ownBlock = some k ∨ k < w0.heap.size) → ¬ k = g3) := fun k hk e => by
  subst e
  rcases hk with hk | hk | hk | hk
  ·exact absurd (HLT.out _ hk) (Nat.lt_irrefl _)
  ·have := G4.out.1; omega
  ·have := (G4.out.2.2 _ hk).1; omega
  ·have := HW0.out; have := HG3.out; omega
 obtain ⟨w7, hw7⟩ : ∃ w7, w7 = w6.alloc (.cells (S.v8 (S.zeros 64)) 149) := ⟨_, rfl⟩
 rw [← hw7] at hal2 hst2
 obtain ⟨g9, hg9⟩ : ∃ g9, g9 = w6.heap.size := ⟨_, rfl⟩
 rw [← hg9] at hal2 hst2 R9 N93
 clear r9 b9 h36 LO6 R6 B6 hg9 hw7
 go_upto_region 10 with (first | (with_reducible refine at_op ⟨some 9, .alloc 149, 0, "place.go:78", #[], none⟩ ?_; refine wpList_alloc_known rfl 149 rfl (.pointer (some ⟨g9, 0, none⟩)) w7 hal2 ?_) | (with_reducible refine at_op ⟨none, .store 149 (.tmp 9) (.tmp 33), 0, "place.go:78", #[{ on := 6, ground := Ground.data }, { on := 4, ground := Ground.data }, { on := 2, ground := Ground.chain }, { on := 0, ground := Ground.phase }, { on := 1, ground := Ground.phase }, { on := 2, ground := Ground.phase }, { on := 3, ground := Ground.phase }, { on := 4, ground := Ground.phase }, { on := 5, ground := Ground.textOnly Departure.lateStores }, { on := 6, ground := Ground.phase }], none⟩ ?_; refine wpList_store_as rfl 149 (.tmp 9) (.tmp 33) rfl (.pointer (some ⟨g9, 0, none⟩)) (.agg (S.v8 (S.setL ns))) rfl rfl w9 hst2 ?_))
 clear hal2 hst2
 refine wp_region_noPanic ?_
 refine wp_region_held_drew (S := (fun W => W.heap[g9]? = some (.cells (S.v8 (S.setL ns)) 149 (0, 0)))) follows R9.out (fun hHeld => ?_)
 have LOd := hide (LO9.out.then (Below.refl w9.heap.size w9).drew)
 have B9d : Hid (Below w.heap.size w w9.drew) := B9.out.drew
 have R3d : Hid (w9.drew.heap[g3]? = some (.cells (S.v8 (S.zeros 64)) 149 (0, 0))) := R39.out
 clear LO9 B9 R9 R39
 generalize w9.drew = Z1 at LOd B9d R3d hHeld ⊢
 refine tq 0 ?_
 simp only [Act.put, uB, uC, uD]
 refine wpAnyH_take (i := 1) (oi := ⟨_, _, _, _, _, _⟩) (v := .agg (S.v8 (S.setL ns))) rfl (by kernel_rfl) (by kernel_rfl) (by kernel_rfl) (fun _ _ _ h => h) (yieldsIf_load57 (by kernel_rfl) (.tmp 9) rfl g9 rfl (S.setL_length ns) (fun W hW => hW)) (by assumption) ?_
 simp only [Act.put, uB, uC, uD]
 refine tq 2 ?_
 simp only [Act.put, uB, uC, uD]
 obtain ⟨Z2, hst, r3, c3⟩ := store57 (ys := S.setL ns) R3d.out (S.zeros_length _) (S.setL_length ns)
 have R3 := hide r3
 have LO2 : Hid (Lo w0 Z2 o d g 1 4 p t [S.setL ns] tv) := LOd.out.chg c3 NG3.out
 have B2 : Hid (Below w.heap.size w Z2) := B9d.out.trans (c3.base B9d.out.size HG3.out)
 have a2 : Z2.heap[g9]? = some (.cells (S.v8 (S.setL ns)) 149 (0, 0)) := c3.row hHeld N93.out
 refine rdy [3] ?_
 refine step_store (o := ⟨_, _, _, _, _, _⟩) rfl rfl 149 (.tmp 3) (.tmp 39) rfl Z2 hst AllReadyH.nil ⟨a2, fun hHeld => ?_⟩
 simp only [Act.put]
 clear hst r3 c3 LOd B9d R3d a2
 refine tq 4 ?_
 simp only [Act.put, uB, uC, uD]
 refine wpAnyH_done (by kernel_rfl) ?_ _
 refine NoPanic.normal ?_
 clear hHeld
 go_wp2_with fail
 refine bodyPost_ret (results_mid Tryz.results71 _ _ g3 (.agg (S.v8 (S.setL ns))) rfl (loadVar57 R3.out (S.setL_length ns))) rfl ⟨g, tv, rfl, LO2.out, G4.out.2.1, fun k hk => (G4.out.2.2 k hk).2, B2.out⟩
set_option maxHeartbeats 1000000 in
set_option maxRecDepth 10000 in
theorem index_any (ns : List Nat) (n g c : Nat) (cur : Array Value) (w : World) (hr : w.heap[g]? = some (.cells cur 3 (0, 0))) (hc : ∀ j, j < ns.length → cur[j]? = some (.int .i64 ((ns.getD j 0 : Nat) : Int))) (hin : n ∈ ns) (hl : ns.length ≤ 1000) :
  Calls Tryz.prog 208 #[.slice (some ⟨g, 0, none⟩) ns.length c, .int .i64 (n : Int)] w fun e w' => e = .returned (.int .i64 (ns.idxOf n : Int)) ∧ w = w' := by
 have HR := hide hr
 have HC := hide hc
 have HX : Hid (ns.idxOf n < ns.length) := List.idxOf_lt_length_of_mem hin
 have HL := hide hl
 have HAT : Hid (ns.getD (ns.idxOf n) 0 = n) := by
  show ns.getD (ns.idxOf n) 0 = n
  rw [List.getD_eq_getElem?_getD, List.getElem?_eq_getElem HX.out, Option.getD_some]
  exact List.getElem_idxOf HX.out
 have HNO : Hid (∀ j, j < ns.idxOf n → ns.getD j 0 ≠ n) := fun j hj e => by
  have hjl : j < ns.length := Nat.lt_trans hj HX.out
  rw [List.getD_eq_getElem?_getD, List.getElem?_eq_getElem hjl, Option.getD_some] at e
  have h := List.not_of_lt_findIdx (p := (· == n)) (xs := ns) hj
  simp [e] at h
 clear hr hc hl
 go_enter Tryz.func208, Tryz.ntmps208
 go_wp2_with fail
 go_loopw [8] (fun i wr => ∃ k : Nat, k ≤ ns.idxOf n ∧ i = .int .i64 (k : Int) ∧ w = wr) (fun i _ => ns.length - (intOf i).toNat)
 case atStart => exact ⟨0, Nat.zero_le _, rfl, rfl⟩
 case round =>
 obtain ⟨k, hk, rfl, rfl⟩ := hrel
 have hkl : k < ns.length := Nat.lt_of_le_of_lt hk HX.out
 have q1 : (k : Int) < (ns.length : Int) := by omega
 have q0 : (0 : Int) ≤ (k : Int) := by omega
 have q2 : IntKind.i64.wrap ((k : Int) + 1) = (k : Int) + 1 := by have := HL.out; rw [IntKind.wrap_i64]; omega
 obtain ⟨m, hm⟩ : ∃ m : Nat, m = ns.getD k 0 := ⟨_, rfl⟩
 have c1 : w.cell? ⟨g, k, none⟩ = some (.int .i64 (m : Int)) := by rw [cell_of_row w g k _ 3 _ HR.out, hm]; exact HC.out k hkl
 have KK := hide hkl
 by_cases hkx : k = ns.idxOf n
 ·have q3 : (n : Int) = (m : Int) := by rw [hm, hkx, HAT.out]
  have q4 : ((n : Int) == (m : Int)) = true := by rw [q3]; exact beq_self_eq_true _
  have EK := hide hkx
  clear hm hk hkl hkx
  go_wp2_with fail
  go_ret
  exact ⟨by rw [← EK.out]; rfl, rfl⟩
 ·have hne : m ≠ n := by rw [hm]; exact HNO.out k (by omega)
  have q3 : ¬ ((n : Int) = (m : Int)) := by omega
  have q4 : ((n : Int) == (m : Int)) = false := beq_false_of_ne q3
  have KN : Hid (k + 1 ≤ ns.idxOf n) := by show k + 1 ≤ ns.idxOf n; omega
  clear hm hk hkl hkx hne
  go_wp2_with fail
  go_roundw
  case rel => exact ⟨k + 1, KN.out, by go_num, trivial⟩
  case measure => have := KK.out; simp [intOf]; omega
set_option maxRecDepth 10000 in
theorem rank_any (ns : List Nat) (n : Nat) (w : World) (hn : ∀ n ∈ ns, n < 512) (hpw : ns.Pairwise (· < ·)) (hin : n ∈ ns) : Calls Tryz.prog 178 #[.agg (S.v8 (S.setL ns)), .int .i64 (n : Int)] w fun e w' => e = .returned (.int .i64 (ns.idxOf n : Int)) ∧ Below w.heap.size w w' := by
 obtain ⟨Z, hZ⟩ : ∃ Z, Z = S.v8 (S.setL ns) := ⟨_, rfl⟩
 obtain ⟨w1, hw1⟩ : ∃ w1, w1 = w.alloc (.cells Z 149) := ⟨_, rfl⟩
 have B1 : Hid (Below w.heap.size w w1) := by rw [hw1]; exact (Below.refl _ _).alloc (Nat.le_refl _) _
 have r1 : w1.heap[w.heap.size]? = some (.cells (S.v8 (S.setL ns)) 149 (0, 0)) := by rw [hw1, hZ]; exact heap_alloc_new _ _
 have ld := load57 r1 (S.setL_length ns)
 rw [← hZ] at ld ⊢
 have HZ := hide hZ
 have HW := hide hw1
 obtain ⟨g1, hg1⟩ : ∃ g1, g1 = w.heap.size := ⟨_, rfl⟩
 rw [← hg1] at ld
 have HG := hide hg1
 have HLN : Hid (ns.length ≤ 512) := by
  have h1 := S.inSet_setL ns hn hpw
  have h2 := S.inSet_length (S.setL ns) 512
  rw [h1] at h2
  exact h2
 clear r1 hZ hw1 hg1
 go_enter Tryz.func178, Tryz.ntmps178
 go_wp2_with (rw [← HW.out, ← HG.out]; with_reducible refine at_op ⟨some 5, .load 149 (.tmp 2), 149, "set.go:58", #[], none⟩ ?_; refine wpList_load_as rfl 149 (.tmp 2) rfl (.pointer (some ⟨g1, 0, none⟩)) rfl (.agg Z) ld ?_)
 clear ld
 rw [HZ.out]
 refine (pages_any (S.setL ns) w1 (S.setL_length ns)).mono ?_
 rintro e w3 ⟨v, rfl, hv, b3⟩
 rw [S.inSet_setL ns hn hpw] at hv
 obtain ⟨gl, cl, cur, rfl, hgl, hrow, hcur⟩ := ints_row hv (fun e => by rw [e] at hin; simp at hin)
 have B3 := hide (B1.out.trans (b3.mono B1.out.size))
 have RR := hide hrow
 have CC := hide hcur
 clear hv hgl hrow hcur b3
 go_wp2_with fail
 refine (index_any ns n gl cl cur w3 RR.out CC.out hin (by have := HLN.out; omega)).mono ?_
 rintro e w4 ⟨rfl, rfl⟩
 go_wp2_with fail
 go_ret
 exact ⟨rfl, B3.out⟩
set_option maxHeartbeats 4000000 in
set_option maxRecDepth 10000 in
theorem pread_mid (w0 w : World) (o : Ow) (d : S.Dk) (p t gs n : Nat) (ns : List Nat) (xs : List (List UInt8)) (pg : Nat → List UInt8) (h : Pm w0 w o d p t ns xs pg) (hs : StAt w gs o) (hn : n < 512) :
  Calls Tryz.prog 140 #[.pointer (some ⟨gs, 0, none⟩), .int .i64 (n : Int)] w fun e w' => ∃ gp, e = .returned (.tuple #[.slice (some ⟨gp, 0, none⟩) 1024 1024, .int .i64 0]) ∧ w.heap.size ≤ gp ∧ Room w' gp 1024 (if n ∈ ns then xs.getD (ns.idxOf n) [] else pg n) ∧ Pm w0 w' o d p t ns xs pg ∧ StAt w' gs o ∧ Below w.heap.size w w' := by
 have P0 := hide h
 have S0 := hide hs
 clear h hs
 go_enter Tryz.func140, Tryz.ntmps140
 go_wp2_with fail
 refine (isPage_yes n hn w).mono ?_
 rintro e w1 ⟨rfl, rfl⟩
 have c0 := st_cell S0.out
 go_wp2_with fail
 have hptr : o.ptr = .pointer (some ⟨o.g, 0, none⟩) := rfl
 rw [← hptr]
 refine (look_mid w0 w o d p t ns xs pg P0.out).mono ?_
 rintro e w1 ⟨g, tv, rfl, hlo, hgb, htb, b1⟩
 have P1 := hide (P0.out.then b1)
 have B1 := hide b1
 have S1 : Hid (StAt w1 gs o) := (b1.block gs (block_lt_of_row S0.out)).trans S0.out
 clear hlo hgb htb b1 P0 S0 c0
 have hal := alloc57 w1
 obtain ⟨w3, hst, r3, b3⟩ := made57 w1 (S.setL ns) (S.setL_length ns)
 have P3 := hide (P1.out.then b3)
 have B3 := hide (B1.out.trans (b3.mono B1.out.size))
 have S3 : Hid (StAt w3 gs o) := (b3.block gs (block_lt_of_row S1.out)).trans S1.out
 obtain ⟨w2, hw2⟩ : ∃ w2, w2 = w1.alloc (.cells (S.v8 (S.zeros 64)) 149) := ⟨_, rfl⟩
 rw [← hw2] at hal hst
 have ld := load57 r3 (S.setL_length ns)
 obtain ⟨g2, hg2⟩ : ∃ g2, g2 = w1.heap.size := ⟨_, rfl⟩
 rw [← hg2] at hal hst ld
 obtain ⟨Z, hZ⟩ : ∃ Z, Z = S.v8 (S.setL ns) := ⟨_, rfl⟩
 rw [← hZ] at hst ld ⊢
 have HZ := hide hZ
 have RSK : Hid (w3.heap[g2]? = some (.cells (S.v8 (S.setL ns)) 149 (0, 0))) := by rw [hg2]; exact r3
 clear r3 b3 hw2 hg2 hZ P1 B1 S1 hptr
 go_wp2_with (first | (with_reducible refine at_op ⟨some 7, .alloc 149, 0, "pages.go:60", #[], none⟩ ?_; refine wpList_alloc_known rfl 149 rfl (.pointer (some ⟨g2, 0, none⟩)) w2 hal ?_) | (with_reducible refine at_op ⟨none, .store 149 (.tmp 7) (.tmp 19), 0, "pages.go:60", #[{ on := 9, ground := Ground.data }, { on := 7, ground := Ground.data }, { on := 10, ground := Ground.chain }, { on := 0, ground := Ground.phase }, { on := 1, ground := Ground.phase }, { on := 2, ground := Ground.phase }, { on := 3, ground := Ground.phase }, { on := 4, ground := Ground.phase }, { on := 5, ground := Ground.phase }, { on := 6, ground := Ground.phase }, { on := 7, ground := Ground.phase }, { on := 8, ground := Ground.textOnly Departure.lateStores }, { on := 9, ground := Ground.phase }, { on := 10, ground := Ground.phase }], none⟩ ?_; refine wpList_store_as rfl 149 (.tmp 7) (.tmp 19) rfl (.pointer (some ⟨g2, 0, none⟩)) (.agg Z) rfl rfl w3 hst ?_) | (with_reducible refine at_op ⟨some 24, .load 149 (.tmp 7), 149, "pages.go:64", #[], none⟩ ?_; refine wpList_load_as rfl 149 (.tmp 7) rfl (.pointer (some ⟨g2, 0, none⟩)) rfl (.agg Z) ld ?_))
 clear hal hst ld
 have RS3 : Hid (w3.heap[g2]? = some (.cells (S.v8 (S.setL ns)) 149 (0, 0))) := RSK.out
 have NB : Hid (∀ n ∈ ns, n < 512) := P3.out.nb
 have UP : Hid (ns.Pairwise (· < ·)) := P3.out.up
 have LE : Hid (ns.length ≤ 256) := P3.out.le
 refine (bit_any Z (S.setL ns) n w3 HZ.out (S.setL_length ns) hn).mono ?_
 rintro e w6 ⟨rfl, b6⟩
 rw [S.bit_setL ns P3.out.nb]
 have P6 := hide (P3.out.then b6)
 have B6 := hide (B3.out.trans (b6.mono B3.out.size))
 have ST6 : Hid (StAt w6 gs o) := (b6.block gs (block_lt_of_row S3.out)).trans S3.out
 have RS6 : Hid (w6.heap[g2]? = some (.cells (S.v8 (S.setL ns)) 149 (0, 0))) := (b6.block g2 (block_lt_of_row RS3.out)).trans RS3.out
 clear b6 P3 B3 S3 RS3 RSK
 by_cases hin : n ∈ ns
 ·rw [decide_eq_true hin]
  have IX : Hid (ns.idxOf n < ns.length) := List.idxOf_lt_length_of_mem hin
  go_upto_region 7 with fail
  refine wp_region_noPanic ?_
  refine wp_region_held_drew (S := (fun W => W.heap[gs]? = some (.cells #[.pointer (some ⟨o.g, 0, none⟩)] 153 (0, 0)) ∧ W.heap[g2]? = some (.cells (S.v8 (S.setL ns)) 149 (0, 0)))) follows ⟨ST6.out, RS6.out⟩ (fun hHeld => ?_)
  have P6d := hide (P6.out.then (Below.refl w6.heap.size w6).drew)
  have B6d : Hid (Below w.heap.size w w6.drew) := B6.out.drew
  clear P6 B6 ST6 RS6
  generalize w6.drew = Z1 at P6d B6d hHeld ⊢
  refine tq 0 ?_
  simp only [Act.put, uB, uC, uD]
  refine tq 1 ?_
  simp only [Act.put, uB, uC, uD]
  refine tq 2 ?_
  simp only [Act.put, uB, uC, uD]
  refine tk 3 ?_ rfl (Or.inl ⟨by rfl, ?_⟩) ?_
  rotate_left
  ·intro w hSw
   have c0 := st_cell hSw.1
   clear hSw
   go_simp
   all_goals with_reducible rfl
  simp only [Act.put, uB, uC, uD]
  refine wpAnyH_take (i := 4) (oi := ⟨_, _, _, _, _, _⟩) (v := .agg (S.v8 (S.setL ns))) rfl (by kernel_rfl) (by kernel_rfl) (by kernel_rfl) (fun _ _ _ h => h) (yieldsIf_load57 (by kernel_rfl) (.tmp 7) rfl g2 rfl (S.setL_length ns) (fun W hW => hW.2)) (by assumption) ?_
  simp only [Act.put, uB, uC, uD]
  refine tq 5 ?_
  simp only [Act.put, uB, uC, uD]
  refine r1 6 fun K hK => ?_
  go_simp
  refine (rank_any ns n Z1 NB.out UP.out hin).mono ?_
  rintro e Z2 ⟨rfl, b2⟩
  have a2 : Z2.heap[gs]? = some (.cells #[.pointer (some ⟨o.g, 0, none⟩)] 153 (0, 0)) ∧ Z2.heap[g2]? = some (.cells (S.v8 (S.setL ns)) 149 (0, 0)) := ⟨(b2.block gs (block_lt_of_row hHeld.1)).trans hHeld.1, (b2.block g2 (block_lt_of_row hHeld.2)).trans hHeld.2⟩
  have P7 := hide (P6d.out.then b2)
  have B7 : Hid (Below w.heap.size w Z2) := B6d.out.trans (b2.mono B6d.out.size)
  clear hHeld b2 P6d B6d
  refine hK.out _ _ a2 (fun hHeld => ?_)
  clear hK K
  try simp only [Act.put, uB, uC, uD]
  clear a2
  refine r1 7 fun K hK => ?_
  go_simp
  refine (pspare_any (ns.idxOf n) (by have := LE.out; have := IX.out; omega) Z2).mono ?_
  rintro e Z3 ⟨rfl, rfl⟩
  refine hK.out _ _ hHeld (fun hHeld => ?_)
  clear hK K
  try simp only [Act.put, uB, uC, uD]
  refine r1 8 fun K hK => ?_
  go_simp
  have RP := readPage_any o d (4101 + ns.idxOf n * 8) Z2 P7.out.dk.dk (fun i hi => by rw [P7.out.seen] at hi ⊢; exact P7.out.dk.dk.ok.len i hi) (by have := P7.out.len; have := LE.out; have := IX.out; omega)
  rw [P7.out.seen, P7.out.spare _ IX.out, show o.ptr = .pointer (some ⟨o.g, 0, none⟩) from rfl] at RP
  try rw [show ((4101 + ns.idxOf n * 8 : Nat) : Int) = 4101 + (ns.idxOf n : Int) * 8 by omega] at RP
  refine RP.mono ?_
  rintro e Z3 ⟨gp, rfl, hgp, hrm, b2⟩
  have a2 : Z3.heap[gs]? = some (.cells #[.pointer (some ⟨o.g, 0, none⟩)] 153 (0, 0)) ∧ Z3.heap[g2]? = some (.cells (S.v8 (S.setL ns)) 149 (0, 0)) := ⟨(b2.block gs (block_lt_of_row hHeld.1)).trans hHeld.1, (b2.block g2 (block_lt_of_row hHeld.2)).trans hHeld.2⟩
  have P8 := hide (P7.out.then b2)
  have RM : Hid (Room Z3 gp 1024 (if n ∈ ns then xs.getD (ns.idxOf n) [] else pg n)) := by show Room Z3 gp 1024 (if n ∈ ns then xs.getD (ns.idxOf n) [] else pg n); rw [if_pos hin]; exact hrm
  have GP : Hid (w.heap.size ≤ gp) := Nat.le_trans B7.out.size hgp
  have ST8 := hide a2.1
  have B8 : Hid (Below w.heap.size w Z3) := B7.out.trans (b2.mono B7.out.size)
  clear RP hgp hrm b2 hHeld P7 B7
  refine hK.out _ _ a2 (fun hHeld => ?_)
  clear hK K
  try simp only [Act.put, uB, uC, uD]
  clear a2
  refine tq 9 ?_
  simp only [Act.put, uB, uC, uD]
  refine tq 10 ?_
  simp only [Act.put, uB, uC, uD]
  refine wpAnyH_done (by kernel_rfl) ?_ _
  refine NoPanic.normal ?_
  clear hHeld
  go_wp2_with fail
  go_ret2
  exact ⟨gp, rfl, GP.out, by have h := RM.out; rw [if_pos hin, List.getD_eq_getElem?_getD] at h; exact h, P8.out, ST8.out, B8.out⟩
 ·rw [decide_eq_false hin]
  clear RS6
  go_upto_region 8 with fail
  refine wp_region_noPanic ?_
  refine wp_region_held_drew (S := (fun W => W.heap[gs]? = some (.cells #[.pointer (some ⟨o.g, 0, none⟩)] 153 (0, 0)))) follows ST6.out (fun hHeld => ?_)
  have P6d := hide (P6.out.then (Below.refl w6.heap.size w6).drew)
  have B6d : Hid (Below w.heap.size w w6.drew) := B6.out.drew
  clear P6 B6 ST6
  generalize w6.drew = Z1 at P6d B6d hHeld ⊢
  refine tq 0 ?_
  simp only [Act.put, uB, uC, uD]
  refine tq 1 ?_
  simp only [Act.put, uB, uC, uD]
  refine tq 2 ?_
  simp only [Act.put, uB, uC, uD]
  refine tk 3 ?_ rfl (Or.inl ⟨by rfl, ?_⟩) ?_
  rotate_left
  ·intro w hSw
   have c0 := st_cell hSw
   clear hSw
   go_simp
   all_goals with_reducible rfl
  simp only [Act.put, uB, uC, uD]
  refine tq 4 ?_
  simp only [Act.put, uB, uC, uD]
  refine r1 5 fun K hK => ?_
  go_simp
  refine (phome_any n (by omega) Z1).mono ?_
  rintro e Z2 ⟨rfl, rfl⟩
  refine hK.out _ _ hHeld (fun hHeld => ?_)
  clear hK K
  try simp only [Act.put, uB, uC, uD]
  refine r1 6 fun K hK => ?_
  go_simp
  have RP := readPage_any o d (5 + n * 8) Z1 P6d.out.dk.dk (fun i hi => by rw [P6d.out.seen] at hi ⊢; exact P6d.out.dk.dk.ok.len i hi) (by have := P6d.out.len; omega)
  rw [P6d.out.seen, P6d.out.home n hn hin, show o.ptr = .pointer (some ⟨o.g, 0, none⟩) from rfl] at RP
  try rw [show ((5 + n * 8 : Nat) : Int) = 5 + (n : Int) * 8 by omega] at RP
  refine RP.mono ?_
  rintro e Z2 ⟨gp, rfl, hgp, hrm, b2⟩
  have a2 : Z2.heap[gs]? = some (.cells #[.pointer (some ⟨o.g, 0, none⟩)] 153 (0, 0)) := (b2.block gs (block_lt_of_row hHeld)).trans hHeld
  have P7 := hide (P6d.out.then b2)
  have RM : Hid (Room Z2 gp 1024 (if n ∈ ns then xs.getD (ns.idxOf n) [] else pg n)) := by show Room Z2 gp 1024 (if n ∈ ns then xs.getD (ns.idxOf n) [] else pg n); rw [if_neg hin]; exact hrm
  have GP : Hid (w.heap.size ≤ gp) := Nat.le_trans B6d.out.size hgp
  have ST7 := hide a2
  have B7 : Hid (Below w.heap.size w Z2) := B6d.out.trans (b2.mono B6d.out.size)
  clear RP hgp hrm b2 hHeld P6d B6d
  refine hK.out _ _ a2 (fun hHeld => ?_)
  clear hK K
  try simp only [Act.put, uB, uC, uD]
  clear a2
  refine tq 7 ?_
  simp only [Act.put, uB, uC, uD]
  refine tq 8 ?_
  simp only [Act.put, uB, uC, uD]
  refine wpAnyH_done (by kernel_rfl) ?_ _
  refine NoPanic.normal ?_
  clear hHeld
  go_wp2_with fail
  go_ret2
  exact ⟨gp, rfl, GP.out, by have h := RM.out; rw [if_neg hin] at h; exact h, P7.out, ST7.out, B7.out⟩
structure Pw (w0 w : World) (o : Ow) (d : S.Dk) (p t : Nat) (ns : List Nat) (pg : Nat → List UInt8) : Prop where
 dk : Dsk w o d
 pend : d.pend = []
 has : S.Pgs d.safe p t ns pg
 ob : ∀ k, o.has k → w0.heap.size ≤ k
 below : Below w0.heap.size w0 w
 pos : 1 < w0.heap.size
theorem Pw.then {w0 w W : World} {o : Ow} {d : S.Dk} {p t : Nat} {ns : List Nat} {pg : Nat → List UInt8} (h : Pw w0 w o d p t ns pg) (hb : Below w.heap.size w W) : Pw w0 W o d p t ns pg :=
 ⟨h.dk.below hb, h.pend, h.has, h.ob, h.below.trans (hb.mono h.below.size), h.pos⟩
theorem Pw.n {w0 w : World} {o : Ow} {d : S.Dk} {p t : Nat} {pg : Nat → List UInt8} (h : Pw w0 w o d p t [] pg) : Pn w0 w o d p t pg := ⟨h.dk, h.pend, h.has.len, h.has.mark, h.has.log, fun n hn => h.has.home n hn (by simp), h.ob, h.below, h.pos⟩
theorem Pw.m {w0 w : World} {o : Ow} {d : S.Dk} {p t : Nat} {ns : List Nat} {pg : Nat → List UInt8} (h : Pw w0 w o d p t ns pg) (hne : ns ≠ []) : Pm w0 w o d p t ns (ns.map pg) pg :=
 ⟨h.dk, h.pend, h.has.len, h.has.mark, by have := h.has.log; rw [S.recs_ne hne] at this; exact this, fun i hi => by rw [S.map_getD pg ns i hi]; exact h.has.spare i hi, h.has.home, h.ob, h.below, h.pos, h.has.nb, h.has.up, hne, h.has.le⟩
theorem S.map_at (X : Nat → List UInt8) (ns : List Nat) (n : Nat) (h : n ∈ ns) : (ns.map X).getD (ns.idxOf n) [] = X n := by
 have hi := List.idxOf_lt_length_of_mem h
 rw [S.map_getD X ns _ hi, List.getD_eq_getElem?_getD, List.getElem?_eq_getElem hi, Option.getD_some, List.getElem_idxOf hi]
theorem pread_all (w0 w : World) (o : Ow) (d : S.Dk) (p t gs n : Nat) (ns : List Nat) (pg : Nat → List UInt8) (h : Pw w0 w o d p t ns pg) (hs : StAt w gs o) (hn : n < 512) :
  Calls Tryz.prog 140 #[.pointer (some ⟨gs, 0, none⟩), .int .i64 (n : Int)] w fun e w' => ∃ gp, e = .returned (.tuple #[.slice (some ⟨gp, 0, none⟩) 1024 1024, .int .i64 0]) ∧ w.heap.size ≤ gp ∧ Room w' gp 1024 (pg n) ∧ Pw w0 w' o d p t ns pg ∧ StAt w' gs o ∧ Below w.heap.size w w' := by
 by_cases e : ns = []
 ·subst e
  refine (pread_n w0 w o d p t gs n pg h.n hs hn).mono ?_
  rintro e w' ⟨gp, rfl, h1, h2, _, h4, h5⟩
  exact ⟨gp, rfl, h1, h2, h.then h5, h4, h5⟩
 ·refine (pread_mid w0 w o d p t gs n ns (ns.map pg) pg (h.m e) hs hn).mono ?_
  rintro e w' ⟨gp, rfl, h1, h2, _, h4, h5⟩
  refine ⟨gp, rfl, h1, ?_, h.then h5, h4, h5⟩
  by_cases hin : n ∈ ns
  ·rw [if_pos hin, S.map_at pg ns n hin] at h2
   exact h2
  ·rw [if_neg hin] at h2
   exact h2
namespace S
end S
theorem Pw.chgd {q : Nat → Prop} {w0 w W : World} {o : Ow} {d : S.Dk} {p t : Nat} {ns : List Nat} {pg : Nat → List UInt8} (h : Pw w0 w o d p t ns pg) (hc : Chg q w W) (hq : ∀ k, (o.has k ∨ k < w0.heap.size) → ¬ q k) : Pw w0 W o d p t ns pg :=
 ⟨⟨h.dk.dk.chg hc (fun k hk => hq k (Or.inl hk)), h.dk.k.chg hc (hq 1 (Or.inr h.pos)), h.dk.no⟩, h.pend, h.has, h.ob, h.below.trans (hc.below _ h.below.size (fun k hk => hq k (Or.inr hk))), h.pos⟩
structure Rds (B : Nat) (w : World) (gs : Nat) (pg : Nat → List UInt8) : Prop where
 is : ∃ w0 o d p t ns, Pw w0 w o d p t ns pg ∧ StAt w gs o ∧ (∀ k, o.has k → k < B) ∧ gs < B ∧ w0.heap.size ≤ B
 base : B ≤ w.heap.size
theorem Rds.chg {q : Nat → Prop} {B : Nat} {w W : World} {gs : Nat} {pg : Nat → List UInt8} (h : Rds B w gs pg) (hc : Chg q w W) (hq : ∀ k, k < B → ¬ q k) : Rds B W gs pg := by
 obtain ⟨w0, o, d, p, t, ns, h1, h2, h3, h4, h5⟩ := h.is
 exact ⟨⟨w0, o, d, p, t, ns, h1.chgd hc (fun k hk => hq k (by rcases hk with e | e; exact h3 k e; omega)), hc.row h2 (hq gs h4), h3, h4, h5⟩, Nat.le_trans h.base hc.size⟩
theorem Rds.below {B : Nat} {w W : World} {gs : Nat} {pg : Nat → List UInt8} (h : Rds B w gs pg) (hb : Below w.heap.size w W) : Rds B W gs pg := h.chg (q := fun _ => False) (Chg.ofBelow' hb) (fun _ _ e => e)
theorem rds_read (B gs n : Nat) (pg : Nat → List UInt8) (w : World) (h : Rds B w gs pg) (hn : n < 512) :
  Calls Tryz.prog 140 #[.pointer (some ⟨gs, 0, none⟩), .int .i64 (n : Int)] w fun e w' => ∃ gp, e = .returned (.tuple #[.slice (some ⟨gp, 0, none⟩) 1024 1024, .int .i64 0]) ∧ w.heap.size ≤ gp ∧ Room w' gp 1024 (pg n) ∧ Below w.heap.size w w' := by
 obtain ⟨w0, o, d, p, t, ns, h1, h2, _⟩ := h.is
 refine (pread_all w0 w o d p t gs n ns pg h1 h2 hn).mono ?_
 rintro e w1 ⟨gp, rfl, g1, r1, _, _, b1⟩
 exact ⟨gp, rfl, g1, r1, b1⟩
set_option maxHeartbeats 1000000 in
set_option maxRecDepth 10000 in
theorem readSheet_any (B gs n : Nat) (pg : Nat → List UInt8) (t : List UInt8) (w : World) (h : Rds B w gs pg) (hn : n < 512) (hp : pg n = S.sheetB t) (ht : t.length ≤ 1022) :
  Calls Tryz.prog 87 #[.pointer (some ⟨gs, 0, none⟩), .int .i64 (n : Int)] w fun e w' => ∃ g x, e = .returned (.tuple #[.pointer (some ⟨g, 0, none⟩), .int .i64 0]) ∧ w.heap.size ≤ g ∧ w.heap.size ≤ x ∧ RdIs w' g x ⟨t, 0, 0, 0⟩ ∧ Below w.heap.size w w' := by
 have H := hide h
 have HN := hide hn
 have HP := hide hp
 have HT := hide ht
 clear h hn hp ht
 go_enter Tryz.func87, Tryz.ntmps87
 go_wp2_with fail
 refine (rds_read B gs n pg w H.out HN.out).mono ?_
 rintro e w1 ⟨gp, rfl, g1, r1, b1⟩
 have sl : (S.sheetB t).length = 1024 := S.sheetB_length t HT.out
 have S1 : Hid (SliceAt w1 (.slice (some ⟨gp, 0, none⟩) 1024 1024) (S.sheetB t)) := by
  have := room_row r1 (by rw [HP.out, sl])
  rw [HP.out] at this
  exact slice_row this sl.symm (by omega)
 have SL := hide sl
 have B1 := hide b1
 clear g1 r1 b1 sl
 go_wp2_with fail
 refine (newReader_any _ (S.sheetB t) w1 S1.out (by have := SL.out; omega)).mono ?_
 rintro e w2 ⟨gd, gx, rfl, g2, x2, r2, b2⟩
 have R2 := hide r2
 have B2 := hide (B1.out.trans (b2.mono B1.out.size))
 have G2 : Hid (w.heap.size ≤ gd) := Nat.le_trans B1.out.size g2
 clear g2 x2 r2 b2
 go_wp2_with fail
 have E := S.sheet_text t HT.out
 refine (rbytes_any gd gx ⟨S.sheetB t, 0, 0, 0⟩ 1024 w2 R2.out).mono ?_
 rw [E]
 rintro e w3 ⟨q, rfl, g3, r3, d3, c3⟩
 have B3 : Hid (Below w.heap.size w w3) := B2.out.trans (c3.base B2.out.size G2.out)
 have S3 : Hid (SliceAt w3 (.slice (some ⟨q, 0, none⟩) t.length t.length) t) := slice_row r3 rfl (by have := HT.out; omega)
 clear g3 r3 d3 c3 E
 obtain ⟨tn, htn⟩ : ∃ tn, tn = t.length := ⟨_, rfl⟩
 simp only
 rw [← htn] at S3 ⊢
 clear htn
 go_wp2_with fail
 refine (newReader_any _ t w3 S3.out (by have := HT.out; omega)).mono ?_
 rintro e w4 ⟨ge, gy, rfl, g4, x4, r4, b4⟩
 have R4 := hide r4
 have B4 := hide (B3.out.trans (b4.mono B3.out.size))
 have G4 : Hid (w.heap.size ≤ ge ∧ w.heap.size ≤ gy) := ⟨Nat.le_trans B3.out.size g4, Nat.le_trans B3.out.size x4⟩
 clear g4 x4 r4 b4
 go_wp2_with fail
 go_ret2
 exact ⟨ge, gy, rfl, G4.out.1, G4.out.2, R4.out, B4.out⟩
theorem rbytes_is {r r' : S.Rd} {most : Int} {xs : List UInt8} (g t : Nat) (w : World) (h : r.bytes most = (r', xs)) (hr : RdIs w g t r) :
  Calls Tryz.prog 88 #[.pointer (some ⟨g, 0, none⟩), .int .i64 most] w fun e w' => ∃ q, e = .returned (.slice (some ⟨q, 0, none⟩) xs.length xs.length) ∧ w.heap.size ≤ q ∧ w'.heap[q]? = some (.cells (S.v8 xs) 5 (0, 0)) ∧ RdIs w' g t r' ∧ Chg (fun k => k = g) w w' := by
 have := rbytes_any g t r most w hr
 rw [h] at this
 exact this
theorem rend_no {r : S.Rd} {a : Int} (g t : Nat) (w : World) (h : r.fin = (a, 0)) (hr : RdIs w g t r) :
  Calls Tryz.prog 90 #[.pointer (some ⟨g, 0, none⟩)] w fun e w' => e = .returned .nilIface ∧ Below w.heap.size w w' := by
 refine (rend_any g t r w hr).mono ?_
 rintro e w' ⟨h1 | h1, b⟩
 ·exact ⟨h1.2, b⟩
 ·rw [h] at h1; exact absurd rfl h1.1
theorem hh_splice (n r l : Nat) (u : List UInt8) (hu : u.length = 64) : splice (S.hhc ⟨n, r, l, S.zeros 64⟩) 3 (S.v8l u) = S.hhc ⟨n, r, l, u⟩ := by
 unfold splice S.hhc
 have e : (S.v8l (S.zeros 64)).length = 64 := by rw [S.v8l_length, S.zeros_length]
 simp [S.v8l_length, hu, e]
set_option maxHeartbeats 4000000 in
set_option maxRecDepth 10000 in
theorem readHead_any (B gs : Nat) (pg : Nat → List UInt8) (h : S.Hh) (w : World) (hr : Rds B w gs pg) (ho : h.Ok) (hp : pg 0 = S.sheetB (S.headB h.cnt h.root h.lv h.used)) :
  Calls Tryz.prog 46 #[.pointer (some ⟨gs, 0, none⟩)] w fun e w' => e = .returned (.tuple #[hhv h, .int .i64 0]) ∧ Below w.heap.size w w' := by
 have H := hide hr
 have HO := hide ho
 have HP := hide hp
 have q1 := ho.cnt
 have q2 := ho.root.1
 have q3 := ho.root.2
 have q4 := ho.lv
 have ul := ho.used
 have e1 := S.head_1 h.cnt h.root h.lv h.used
 have e2 := S.head_2 h.cnt h.root h.lv h.used q1
 have e3 := S.head_3 h.cnt h.root h.lv h.used q3
 have e4 := S.head_4 h.cnt h.root h.lv h.used q4
 have e5 := S.head_5 h.cnt h.root h.lv h.used ul
 have e6 := S.head_fin h.cnt h.root h.lv h.used ul
 have tl := S.headB_length h.cnt h.root h.lv h.used ul
 obtain ⟨T, hT⟩ : ∃ T, T = S.headB h.cnt h.root h.lv h.used := ⟨_, rfl⟩
 rw [← hT] at e1 e2 e3 e4 e5 e6 tl HP
 have E1 := hide e1
 have E2 := hide e2
 have E3 := hide e3
 have E4 := hide e4
 have E5 := hide e5
 have E6 := hide e6
 have TL := hide tl
 have UL := hide ul
 obtain ⟨N, R, L, U⟩ := h
 simp only at q1 q2 q3 q4 UL
 clear e1 e2 e3 e4 e5 e6 tl hT hr ho hp ul
 have hal := alloc105 w
 obtain ⟨HC0, hHC0⟩ : ∃ X, X = (S.hhc S.Hh.none).toArray := ⟨_, rfl⟩
 obtain ⟨w1, hw1⟩ : ∃ w1, w1 = w.alloc (.cells (S.hhc S.Hh.none).toArray 105) := ⟨_, rfl⟩
 have A1 : Hid (HhAt w1 w.heap.size S.Hh.none) := by show w1.heap[w.heap.size]? = _; rw [hw1]; exact heap_alloc_new _ _
 have b1 : Below w.heap.size w w1 := by rw [hw1]; exact (Below.refl _ _).alloc (Nat.le_refl _) _
 rw [← hw1] at hal
 obtain ⟨gr, hgr⟩ : ∃ gr, gr = w.heap.size := ⟨_, rfl⟩
 rw [← hgr] at hal A1
 have HGR := hide hgr
 have B1 := hide b1
 have H1 := hide (H.out.below b1)
 clear hw1 hgr b1 H
 go_enter Tryz.func46, Tryz.ntmps46
 go_wp2_with (with_reducible refine at_op ⟨some 2, .alloc 105, 0, "head.go:43", #[], none⟩ ?_; refine wpList_alloc_known rfl 105 rfl (.pointer (some ⟨gr, 0, none⟩)) w1 hal ?_)
 clear hal
 refine (readSheet_any B gs 0 pg T w1 H1.out (by omega) HP.out (by have := TL.out; omega)).mono ?_
 rintro e w2 ⟨gd, gx, rfl, g2, x2, r2, b2⟩
 have R2 := hide r2
 have B2 := hide b2
 have GD : Hid (w1.heap.size ≤ gd ∧ w1.heap.size ≤ gx) := ⟨g2, x2⟩
 clear g2 x2 r2 b2 H1
 go_wp2_with fail
 refine (rbytes_is gd gx w2 E1.out R2.out).mono ?_
 rintro e w3 ⟨q, rfl, g3, r3, d3, c3⟩
 have B3 : Hid (Below w1.heap.size w1 w3) := B2.out.trans (c3.base B2.out.size GD.out.1)
 have cv := conv_slice (slice_row (n := 13) r3 rfl (by decide))
 have R3 := hide d3
 clear g3 r3 c3 d3 R2 B2
 have ehm : S.hmark.length = 13 := rfl
 rw [ehm]
 have eqm : (ByteArray.mk S.hmark.toArray) = ByteArray.mk #[107, 101, 121, 115, 32, 105, 110, 32, 111, 114, 100, 101, 114] := rfl
 rw [eqm] at cv
 clear eqm ehm
 go_wp2_with fail
 clear cv
 refine (rnumber_is gd gx w3 E2.out R3.out).mono ?_
 rintro e w4 ⟨rfl, d4, c4⟩
 have B4 : Hid (Below w1.heap.size w1 w4) := B3.out.trans (c4.base B3.out.size GD.out.1)
 have R4 := hide d4
 have k1 : IntKind.i64.wrap (N : Int) = (N : Int) := by rw [IntKind.wrap_i64]; omega
 have k2 : IntKind.i64.wrap (R : Int) = (R : Int) := by rw [IntKind.wrap_i64]; omega
 have k3 : IntKind.i64.wrap (L : Int) = (L : Int) := by rw [IntKind.wrap_i64]; omega
 clear d4 c4 R3 B3
 go_wp2_with fail
 refine (rnumber_is gd gx w4 E3.out R4.out).mono ?_
 rintro e w5 ⟨rfl, d5, c5⟩
 have B5 : Hid (Below w1.heap.size w1 w5) := B4.out.trans (c5.base B4.out.size GD.out.1)
 have R5 := hide d5
 clear d5 c5 R4 B4
 go_wp2_with fail
 refine (rnumber_is gd gx w5 E4.out R5.out).mono ?_
 rintro e w6 ⟨rfl, d6, c6⟩
 have B6 : Hid (Below w1.heap.size w1 w6) := B5.out.trans (c6.base B5.out.size GD.out.1)
 have R6 := hide d6
 clear d6 c6 R5 B5
 have hbd := build105t N R L w6
 have hal := alloc105 w6
 obtain ⟨w7, hst, a7, b7⟩ := made105 w6 ⟨N, R, L, S.zeros 64⟩ (S.zeros_length _)
 obtain ⟨gh, hgh⟩ : ∃ gh, gh = w6.heap.size := ⟨_, rfl⟩
 rw [← hgh] at hal hst a7
 have A7 := hide a7
 have B7 : Hid (Below w1.heap.size w1 w7) := B6.out.trans (b7.mono B6.out.size)
 have R7 := hide (R6.out.below b7)
 have GH : Hid (w1.heap.size ≤ gh ∧ gd < gh ∧ gx < gh) := ⟨by rw [hgh]; exact B6.out.size, by rw [hgh]; exact R6.out.lt, by rw [hgh]; exact R6.out.tlt⟩
 obtain ⟨HV, hHV⟩ : ∃ X, X = hhv ⟨N, R, L, S.zeros 64⟩ := ⟨_, rfl⟩
 rw [← hHV] at hbd hst
 rw [← hHC0] at hal hst
 clear a7 b7 hgh hHV R6 B6
 go_wp2_with (first | (with_reducible refine at_op ⟨some 30, .build 105 #[(0, .tmp 23), (1, .tmp 26), (2, .tmp 29)], 105, "head.go:49", #[{ on := 2, ground := Ground.data }, { on := 5, ground := Ground.data }, { on := 8, ground := Ground.data }], none⟩ ?_; refine wpList_build_as rfl 105 [(0, .tmp 23), (1, .tmp 26), (2, .tmp 29)] rfl [(0, .int .i64 (N : Int)), (1, .int .i64 (R : Int)), (2, .int .i64 (L : Int))] rfl HV hbd ?_) | (with_reducible refine at_op ⟨some 7, .alloc 105, 0, "head.go:49", #[], none⟩ ?_; refine wpList_alloc_known rfl 105 rfl (.pointer (some ⟨gh, 0, none⟩)) (w6.alloc (.cells HC0 105)) hal ?_) | (with_reducible refine at_op ⟨none, .store 105 (.tmp 7) (.tmp 30), 0, "head.go:49", #[{ on := 10, ground := Ground.data }, { on := 9, ground := Ground.data }, { on := 7, ground := Ground.chain }, { on := 0, ground := Ground.phase }, { on := 1, ground := Ground.phase }, { on := 2, ground := Ground.phase }, { on := 3, ground := Ground.phase }, { on := 4, ground := Ground.phase }, { on := 5, ground := Ground.phase }, { on := 6, ground := Ground.phase }, { on := 7, ground := Ground.phase }, { on := 8, ground := Ground.phase }, { on := 9, ground := Ground.phase }, { on := 10, ground := Ground.phase }], none⟩ ?_; refine wpList_store_as rfl 105 (.tmp 7) (.tmp 30) rfl (.pointer (some ⟨gh, 0, none⟩)) HV rfl rfl w7 hst ?_))
 clear hbd hal hst
 refine wp_region_noPanic ?_
 refine wp_region_held_drew (S := (fun _ => True)) follows trivial (fun hHeld => ?_)
 have A7d : Hid (HhAt w7.drew gh ⟨N, R, L, S.zeros 64⟩) := A7.out
 have B7d : Hid (Below w1.heap.size w1 w7.drew) := B7.out.drew
 have R7d : Hid (RdIs w7.drew gd gx ⟨T, 22, 0, 0⟩) := R7.out.drewN 1
 clear A7 B7 R7
 generalize w7.drew = Z1 at A7d B7d R7d hHeld ⊢
 refine tq 0 ?_
 simp only [Act.put, uB, uC, uD]
 refine tq 1 ?_
 simp only [Act.put, uB, uC, uD]
 refine tq 2 ?_
 simp only [Act.put, uB, uC, uD]
 refine r1 3 fun K hK => ?_
 go_simp
 refine (rbytes_is gd gx Z1 E5.out R7d.out).mono ?_
 rintro e Z2 ⟨q2, rfl, g8, r8, d8, c8⟩
 have B8 : Hid (Below w1.heap.size w1 Z2) := B7d.out.trans (c8.base B7d.out.size GD.out.1)
 have A8 : Hid (HhAt Z2 gh ⟨N, R, L, S.zeros 64⟩) := c8.row A7d.out (by have := GH.out; omega)
 have R8 := hide d8
 have HST : Hid (Src Z2 (some ⟨q2, 0, none⟩) U) := fun _ => ⟨q2, 0, rfl, block_lt_of_row r8, fun j hj => by rw [Nat.zero_add]; exact v8_cell r8 j hj⟩
 clear g8 r8 d8 c8 A7d B7d R7d
 refine hK.out _ _ trivial (fun hHeld => ?_)
 clear hK K
 try simp only [Act.put, uB, uC, uD]
 rw [UL.out]
 have HN : Hid ((S.v8l U).length = Nat.min 64 64) := by show (S.v8l U).length = Nat.min 64 64; rw [S.v8l_length, UL.out]; rfl
 have HF : Hid (3 + (S.v8l U).length ≤ (S.hhc ⟨N, R, L, S.zeros 64⟩).length) := by show 3 + (S.v8l U).length ≤ (S.hhc ⟨N, R, L, S.zeros 64⟩).length; rw [S.v8l_length, S.hhc_length (S.zeros_length _), UL.out]; omega
 have HCP : Hid (0 < (S.v8l U).length → some (⟨gh, 3, none⟩ : Addr) = some ⟨gh, 3, none⟩ ∧ ∃ ad, some (⟨q2, 0, none⟩ : Addr) = some ad ∧ ∀ j v, (S.v8l U)[j]? = some v → Z2.cell? (ad.add j) = some v) := fun hp => ⟨rfl, (copy_src gh HST.out (Below.refl _ _) hp).2⟩
 refine r1 4 fun K hK => ?_
 refine step_copy_splice rfl (.tmp 32) (.tmp 34) 32 32 rfl 5 Tryz.underlying32 size5 _ _ _ _ _ _ rfl rfl gh 3 (S.hhc ⟨N, R, L, S.zeros 64⟩) 105 A8.out (S.v8l U) HN.out HCP.out HF.out (S.v8l_one _) gh Z2 (Below.refl _ _) (Nat.le_refl _) ?_
 intro Z3 HG9 hB9
 have A9 : Hid (HhAt Z3 gh ⟨N, R, L, U⟩) := by show Z3.heap[gh]? = _; rw [← hh_splice N R L U UL.out]; exact HG9.out
 have B9 : Hid (Below w1.heap.size w1 Z3) := B8.out.trans (hB9.mono GH.out.1)
 have R9 : Hid (RdIs Z3 gd gx ⟨T, 88, 0, 0⟩) := R8.out.chg (p := fun k => gh ≤ k) (Chg.ofBelow hB9 (fun k _ e => e)) (by have := GH.out; omega) (by have := GH.out; omega)
 clear HG9 hB9 A8 R8 B8 HST HN HF HCP
 refine hK.out _ _ trivial (fun hHeld => ?_)
 clear hK K
 try simp only [Act.put, uB, uC, uD]
 refine wpAnyH_done (by kernel_rfl) ?_ _
 refine NoPanic.normal ?_
 clear hHeld
 go_wp2_with fail
 refine (rend_no gd gx Z3 E6.out R9.out).mono ?_
 rintro e Z4 ⟨rfl, b10⟩
 have A10 : HhAt Z4 gh ⟨N, R, L, U⟩ := A9.out.below b10
 have B10 := B9.out.trans (b10.mono B9.out.size)
 have r10 : HhAt Z4 gr S.Hh.none := (B10.block gr (block_lt_of_row A1.out)).trans A1.out
 have hld := A10.load UL.out
 have c1 := A10.root
 have qr : ¬ (R : Int) = 0 := by omega
 have qr2 : ((R : Int) == 0) = false := beq_false_of_ne qr
 obtain ⟨w9, hst, a9, c9⟩ := store105 (h := ⟨N, R, L, U⟩) r10 (S.zeros_length _) UL.out
 have A11 := hide a9
 have BF : Hid (Below w.heap.size w w9) := by
  have b := B1.out.trans (B10.mono B1.out.size)
  exact b.trans (c9.base b.size (by have := HGR.out; omega))
 obtain ⟨HV2, hHV2⟩ : ∃ X, X = hhv ⟨N, R, L, U⟩ := ⟨_, rfl⟩
 rw [← hHV2] at hld hst
 have HHV := hide hHV2
 clear a9 c9 hHV2 A10 B10 r10 b10 A9 B9 R9
 go_wp2_with (first | (with_reducible refine at_op ⟨some 49, .load 105 (.tmp 7), 105, "head.go:54", #[], none⟩ ?_; refine wpList_load_as rfl 105 (.tmp 7) rfl (.pointer (some ⟨gh, 0, none⟩)) rfl HV2 hld ?_) | (with_reducible refine at_op ⟨none, .store 105 (.tmp 2) (.tmp 49), 0, "head.go:54", #[{ on := 0, ground := Ground.data }, { on := 0, ground := Ground.phase }], none⟩ ?_; refine wpList_store_as rfl 105 (.tmp 2) (.tmp 49) rfl (.pointer (some ⟨gr, 0, none⟩)) HV2 rfl rfl w9 hst ?_))
 exact bodyPost_ret (results_row_tmp Tryz.results46 _ _ gr _ rfl (A11.out.loadVar UL.out)) rfl ⟨rfl, BF.out⟩
end Go.Proofs.YteealihknndclaaGreatDoor
