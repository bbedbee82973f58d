/- Format of a new disk. -/
/- bringHome of no pages; settled. -/
import Derived.Test.YteealihknndclaaGreatDoorJa
import Derived.Great.BuildSlice
import Derived.Test.YteealihknndclaaGreatDoorGm
import Derived.Shelf.SlSortCmp.WholeK
import Derived.Shelf.SlicesG.Cmp
import Derived.Shelf.Lay
import Derived.Ground.SlsfProg
import Derived.Ground.SlgcProg
import Derived.Test.YteealihknndclaaGreatDoorProg
namespace Go.Proofs.YteealihknndclaaGreatDoor
open Go.RowKit

set_option maxHeartbeats 4000000 in
set_option maxRecDepth 10000 in
theorem clearHomes_none (o : Ow) (d : S.Dk) (w : World) (hd : DkIs w o d) (hl : 7680 ≤ d.safe.length) (hp : d.pend = []) (hz : ∀ j, 5 ≤ j → j < 4101 → d.seen.getD j [] = S.zeros 128) :
  Calls Tryz.prog 102 #[o.ptr] w fun e w' => e = .returned (.int .i64 0) ∧ DkIs w' o d ∧ Below w.heap.size w w' := by
 have hmk : ∀ w : World, (Instr.makeSlice 32 (.int .i64 128) (.int .i64 128)).run Tryz.prog w = .ok (.slice (some ⟨w.heap.size, 0, none⟩) 128 128) (w.alloc (.cells (S.v8 (S.zeros 128)) 5)) := fun w => make_bytes_big 128 (by omega) w
 obtain ⟨w1, hw1⟩ : ∃ w1, w1 = w.alloc (.cells (S.v8 (S.zeros 128)) 5) := ⟨_, rfl⟩
 have b1 : Below w.heap.size w w1 := by rw [hw1]; exact (Below.refl _ _).alloc (Nat.le_refl _) _
 have R1 : Hid (w1.heap[w.heap.size]? = some (.cells (S.v8 (S.zeros 128)) 5 (0, 0))) := by rw [hw1]; exact heap_alloc_new _ _
 have B1 := hide b1
 have D1 := hide (hd.below b1)
 have HL : Hid (7680 ≤ d.safe.length) := hl
 have HP := hide hp
 have HZ := hide hz
 obtain ⟨gz, hgz⟩ : ∃ gz, gz = w.heap.size := ⟨_, rfl⟩
 rw [← hgz] at R1
 clear b1 hd hl hp hz
 go_enter Tryz.func102, Tryz.ntmps102
 go_upto_region 3 with fail
 rw [← hw1, ← hgz]
 clear hw1 hgz hmk
 go_loopw [4] (fun i wr => ∃ k : Nat, 5 ≤ k ∧ k ≤ 4101 ∧ i = .int .i64 (k : Int) ∧ DkIs wr o d ∧ wr.heap[gz]? = some (.cells (S.v8 (S.zeros 128)) 5 (0, 0)) ∧ Below w.heap.size w wr) (fun i _ => 4101 - (intOf i).toNat)
 case atStart => exact ⟨5, by omega, by omega, rfl, D1.out, R1.out, B1.out⟩
 case round =>
 obtain ⟨k, hk5, hk, rfl, hdk, hr, hb⟩ := hrel
 have DD := hide hdk
 have RR := hide hr
 have BB := hide hb
 clear hdk hr hb D1 R1 B1
 by_cases hlt : k < 4101
 ·have q1 : (k : Int) < 4101 := by omega
  have q2 : IntKind.i64.wrap ((k : Int) + 1) = (k : Int) + 1 := by rw [IntKind.wrap_i64]; omega
  go_wp2_with fail
  refine (read_yes o d k wr DD.out (by have := HL.out; omega)).mono ?_
  rintro e w2 ⟨rfl, hr2, b2⟩
  rw [HZ.out k hk5 hlt] at hr2
  have S2 : Hid (SliceAt w2 (.slice (some ⟨wr.heap.size, 0, none⟩) 128 128) (S.zeros 128)) := slice_row hr2 (S.zeros_length _).symm (by rw [S.zeros_length]; omega)
  have R2 : Hid (w2.heap[gz]? = some (.cells (S.v8 (S.zeros 128)) 5 (0, 0))) := (b2.block gz (block_lt_of_row RR.out)).trans RR.out
  have T2 : Hid (SliceAt w2 (.slice (some ⟨gz, 0, none⟩) 128 128) (S.zeros 128)) := slice_row R2.out (S.zeros_length _).symm (by rw [S.zeros_length]; omega)
  have D2 := hide (DD.out.below b2)
  have B2 := hide (BB.out.trans (b2.mono BB.out.size))
  clear hr2 b2 DD RR BB
  go_wp2_with fail
  refine (equal_any _ _ _ _ w2 S2.out T2.out).mono ?_
  rintro e w3 ⟨rfl, rfl⟩
  rw [decide_eq_true rfl]
  go_wp2_with fail
  go_roundw
  case rel => exact ⟨k + 1, by omega, by omega, by go_num, D2.out, R2.out, B2.out⟩
  case measure => simp [intOf]; omega
 ·obtain rfl : k = 4101 := by omega
  go_wp2_with fail
  refine (settle_none o d wr DD.out HP.out).mono ?_
  rintro e w2 ⟨rfl, rfl⟩
  go_wp2_with fail
  go_ret
  exact ⟨rfl, DD.out, BB.out⟩
namespace S
def madeDk (n : Nat) : Dk := { safe := (formed (List.replicate n (zeros 128)) 1 4).set 0 pmark, pend := [], left := none }
theorem new_seen (n : Nat) : (Dk.new n).seen = List.replicate n (zeros 128) := rfl
theorem new_getD (n k : Nat) (h : k < n) : (List.replicate n (zeros 128)).getD k [] = zeros 128 := by
 rw [List.getD_eq_getElem?_getD, List.getElem?_replicate, if_pos h]
 rfl
theorem secs_zeros {ss : List (List UInt8)} {f i : Nat} (h : ∀ j, f ≤ j → j < f + i → ss.getD j [] = zeros 128) : secs ss f i = zeros (i * 128) := by
 induction i with
 | zero => rfl
 | succ i ih =>
  rw [secs, ih (fun j h1 h2 => h j h1 (by omega)), h (f + i) (by omega) (by omega)]
  unfold zeros
  rw [List.replicate_append_replicate]
  congr 1
  omega
theorem made_facts (n : Nat) (h : 7680 ≤ n) : (madeDk n).safe.length = n ∧ (madeDk n).safe.getD 0 [] = pmark ∧ Good (madeDk n).safe 1 4 0 0 [] ∧ ∀ k, k < 512 → pageAt (madeDk n).safe (5 + k * 8) = zeros 1024 := by
 have hf := formed_at (ss := List.replicate n (zeros 128)) (f := 1) (c := 4) (by simp; omega) (by omega)
 have hl : (formed (List.replicate n (zeros 128)) 1 4).length = n := by rw [hf.1]; simp
 have hg : Good (formed (List.replicate n (zeros 128)) 1 4) 1 4 0 0 [] := formed_good (by simp; omega) (by omega) (by omega) (fun k h1 h2 => new_getD n (1 + k) (by omega))
 have hs : ∀ j, j ≠ 0 → (madeDk n).safe.getD j [] = (formed (List.replicate n (zeros 128)) 1 4).getD j [] := fun j hj => by
  show ((formed (List.replicate n (zeros 128)) 1 4).set 0 pmark).getD j [] = _
  rw [List.getD_eq_getElem?_getD, List.getElem?_set_ne (by omega), ← List.getD_eq_getElem?_getD]
 refine ⟨by show ((formed (List.replicate n (zeros 128)) 1 4).set 0 pmark).length = n; rw [List.length_set, hl], ?_, hg.stay (by show ((formed (List.replicate n (zeros 128)) 1 4).set 0 pmark).length = _; rw [List.length_set]) (fun j h1 h2 => hs j (by omega)), fun k hk => ?_⟩
 ·show ((formed (List.replicate n (zeros 128)) 1 4).set 0 pmark).getD 0 [] = pmark
  rw [List.getD_eq_getElem?_getD, List.getElem?_set_self (by omega)]
  rfl
 ·unfold pageAt
  rw [secs_zeros (fun j h1 h2 => by rw [hs j (by omega), hf.2.2.2 j (by omega) (by omega)]; exact new_getD n j (by omega))]
end S
theorem slice_mark {w : World} {g : Nat} {xs : List UInt8} {fr : Nat × Nat} (h : w.heap[g]? = some (.cells (S.v8 xs) 5 fr)) (hl : xs.length ≤ 140737488355328) : SliceAt w (.slice (some ⟨g, 0, none⟩) xs.length xs.length) xs :=
 Or.inr (Or.inr ⟨g, 0, xs.length, rfl, Nat.le_refl _, hl, block_lt_of_row h, fun j hj => by
  rw [Nat.zero_add, cell_of_row w g j _ 5 fr h]
  simp [S.v8, hj]⟩)
set_option maxHeartbeats 8000000 in
set_option maxRecDepth 20000 in
theorem pformat_new (w0 w : World) (o : Ow) (n : Nat) (hn : 7680 ≤ n) (hd : Dsk w o (S.Dk.new n)) (ho : ∀ k, o.has k → w0.heap.size ≤ k) (hb : Below w0.heap.size w0 w) (h0 : 1 < w0.heap.size) :
  Calls Tryz.prog 65 #[o.ptr] w fun e w' => e = .returned (.int .i64 0) ∧ ∃ o', o'.g = o.g ∧ Pg w0 w' o' (S.madeDk n) 0 0 (fun _ => S.zeros 1024) := by
 have HD := hide hd
 have HO := hide ho
 have HB := hide hb
 have HL : Hid ((S.Dk.new n).safe.length = n) := by show (List.replicate n (S.zeros 128)).length = n; simp
 clear hd ho hb
 have hmk : ∀ w : World, (Instr.makeSlice 32 (.int .i64 128) (.int .i64 128)).run Tryz.prog w = .ok (.slice (some ⟨w.heap.size, 0, none⟩) 128 128) (w.alloc (.cells (S.v8 (S.zeros 128)) 5)) := fun w => make_bytes_big 128 (by omega) w
 go_enter Tryz.func65, Tryz.ntmps65
 go_wp2_with fail
 refine (fits_yes o (S.Dk.new n) w HD.out.dk (by rw [HL.out]; exact hn)).mono ?_
 rintro e w1 ⟨rfl, rfl⟩
 obtain ⟨w1, hw1⟩ : ∃ w1, w1 = w.alloc (.cells (S.v8 (S.zeros 128)) 5) := ⟨_, rfl⟩
 have b1 : Below w.heap.size w w1 := by rw [hw1]; exact (Below.refl _ _).alloc (Nat.le_refl _) _
 have r1 : w1.heap[w.heap.size]? = some (.cells (S.v8 (S.zeros 128)) 5 (0, 0)) := by rw [hw1]; exact heap_alloc_new _ _
 have D1 := hide (HD.out.below b1)
 have B1 : Hid (Below w0.heap.size w0 w1) := HB.out.trans (b1.mono HB.out.size)
 have SV1 : Hid (∀ W, Chg (fun k => k = o.g) w1 W → SliceAt W (.slice (some ⟨w.heap.size, 0, none⟩) 128 128) (S.zeros 128)) := fun W hW => slice_row (hW.row r1 (fun e => by have := HD.out.dk.lt o.g (Or.inl rfl); omega)) (S.zeros_length _).symm (by rw [S.zeros_length]; omega)
 obtain ⟨gz, hgz⟩ : ∃ gz, gz = w.heap.size := ⟨_, rfl⟩
 rw [← hgz] at SV1
 clear b1 r1
 go_wp2_with fail
 rw [← hw1, ← hgz]
 clear hw1 hgz hmk
 refine (pkeep_do o (S.Dk.new n) 0 (some ⟨gz, 0, none⟩) 128 (S.zeros 128) w1 D1.out.dk (by rw [HL.out]; omega) (S.zeros_length _) (by show 0 ≤ 999999; omega) SV1.out).mono ?_
 intro e w2 hdo
 obtain ⟨h1, o2, h2, h3⟩ := hdo
 have pg1 := S.Dk.plan_goes [.write 0 (S.zeros 128), .flush] (S.Dk.new n) rfl
 have pa1 : (S.Dk.new n).acts [.write 0 (S.zeros 128), .flush] = S.Dk.new n := by
  show ({ safe := (List.replicate n (S.zeros 128)).set 0 (S.zeros 128), pend := [], left := none } : S.Dk) = { safe := List.replicate n (S.zeros 128), pend := [], left := none }
  rw [List.set_replicate_self]
 rw [pg1.2, pa1] at h2
 rw [pg1.1] at h1
 subst h1
 have D2 := hide (D1.out.to h2 h3)
 have B2 : Hid (Below w0.heap.size w0 w2) := B1.out.trans (h3.chg.below _ B1.out.size (fun k hk e => by have := HO.out k e; omega))
 have O2 : Hid (∀ k, o2.has k → w0.heap.size ≤ k) := fun k e => by
  rcases h3.own k e with e | e
  ·exact HO.out k e
  ·exact Nat.le_trans B1.out.size e
 have PT2 : Hid (o2.g = o.g) := h3.g
 have hp2 : o2.ptr = o.ptr := by unfold Ow.ptr; rw [h3.g]
 rw [← hp2]
 clear h2 h3 pg1 pa1 D1 B1 SV1 HD HO HB hp2
 have E0 : S.why true = 0 := rfl
 rw [E0]
 go_wp2_with fail
 refine (clearHomes_none o2 (S.Dk.new n) w2 D2.out.dk (by rw [HL.out]; exact hn) rfl (fun j h1 h2 => S.new_getD n j (by omega))).mono ?_
 rintro e w3 ⟨rfl, hd3, b3⟩
 have D3 := hide (D2.out.below b3)
 have B3 : Hid (Below w0.heap.size w0 w3) := B2.out.trans (b3.mono B2.out.size)
 clear hd3 b3 D2 B2
 go_wp2_with fail
 refine (format_yes o2 (S.Dk.new n) 1 4 w3 D3.out (by rw [HL.out]; omega) (by omega) (Nat.zero_le _) (fun k h1 h2 => S.new_getD n (1 + k) (by omega))).mono ?_
 intro e w4 hdo
 obtain ⟨h1, o4, h2, h3⟩ := hdo
 have pg1 := S.Dk.plan_goes (S.fmtActs 1 4) (S.Dk.new n) rfl
 obtain ⟨d4, hd4⟩ : ∃ d4 : S.Dk, d4 = { safe := S.formed (List.replicate n (S.zeros 128)) 1 4, pend := [], left := none } := ⟨_, rfl⟩
 have pa1 : (S.Dk.new n).acts (S.fmtActs 1 4) = d4 := by rw [S.fmt_acts, S.new_seen, hd4]; rfl
 rw [pg1.2, pa1] at h2
 rw [pg1.1] at h1
 subst h1
 have D4 := hide (D3.out.to h2 h3)
 have B4 : Hid (Below w0.heap.size w0 w4) := B3.out.trans (h3.chg.below _ B3.out.size (fun k hk e => by have := O2.out k e; omega))
 have O4 : Hid (∀ k, o4.has k → w0.heap.size ≤ k) := fun k e => by
  rcases h3.own k e with e | e
  ·exact O2.out k e
  ·exact Nat.le_trans B3.out.size e
 have PT4 : Hid (o4.g = o.g) := h3.g.trans PT2.out
 have HD4 := hide hd4
 have L4 : Hid (d4.safe.length = n) := by rw [hd4]; show (S.formed (List.replicate n (S.zeros 128)) 1 4).length = n; rw [(S.formed_at (f := 1) (c := 4) (by simp; omega) (by omega)).1]; simp
 have hp4 : o4.ptr = o2.ptr := by unfold Ow.ptr; rw [h3.g]
 rw [← hp4]
 clear h2 h3 pg1 pa1 D3 B3 O2 PT2 hp4 hd4
 rw [E0]
 obtain ⟨C, hC⟩ : ∃ C, C = ((S.pmark.map fun x => (x.toNat : Int)).map (Value.int .u8)).toArray := ⟨_, rfl⟩
 have ev : C = S.v8 S.pmark := by rw [hC, List.map_map]; rfl
 obtain ⟨w5a, hw5a⟩ : ∃ w5a, w5a = w4.alloc (.cells C 5) := ⟨_, rfl⟩
 obtain ⟨w5, hw5⟩ : ∃ w5, w5 = w4.alloc (.cells C 5 (C.size, C.size + 1)) := ⟨_, rfl⟩
 have hcv := Lib.run_convert_bytes_const (P := Tryz.prog) w4 32 5 C 128 128 Tryz.underlying32 Tryz.underlying5
 rw [← hw5a, ← hw5] at hcv
 have b5 : Below w4.heap.size w4 w5 := by rw [hw5]; exact (Below.refl _ _).alloc (Nat.le_refl _) _
 have r5 : w5.heap[w4.heap.size]? = some (.cells (S.v8 S.pmark) 5 (C.size, C.size + 1)) := by rw [hw5, ← ev]; exact heap_alloc_new _ _
 have D5 := hide (D4.out.below b5)
 have B5 : Hid (Below w0.heap.size w0 w5) := B4.out.trans (b5.mono B4.out.size)
 have SV5 : Hid (∀ W, Chg (fun k => k = o4.g) w5 W → SliceAt W (.slice (some ⟨w4.heap.size, 0, none⟩) 128 128) S.pmark) := fun W hW => by
  have := slice_mark (hW.row r5 (fun e => by have := D4.out.dk.lt o4.g (Or.inl rfl); omega)) (by rw [S.pmark_length]; omega)
  rw [S.pmark_length] at this
  exact this
 have HW5 := hide hw5a
 have HC := hide hC
 clear b5 r5 ev hw5 hw5a hC
 go_wp2_with (with_reducible refine at_op ⟨some 26, .buildSlice 32 128 ([(0, .const (Value.int IntKind.u8 112)), (1, .const (Value.int IntKind.u8 97)), (2, .const (Value.int IntKind.u8 103)), (3, .const (Value.int IntKind.u8 101)), (4, .const (Value.int IntKind.u8 115)), (5, .const (Value.int IntKind.u8 32)), (6, .const (Value.int IntKind.u8 116)), (7, .const (Value.int IntKind.u8 104)), (8, .const (Value.int IntKind.u8 97)), (9, .const (Value.int IntKind.u8 116)), (10, .const (Value.int IntKind.u8 32)), (11, .const (Value.int IntKind.u8 97)), (12, .const (Value.int IntKind.u8 114)), (13, .const (Value.int IntKind.u8 101)), (14, .const (Value.int IntKind.u8 32)), (15, .const (Value.int IntKind.u8 112)), (16, .const (Value.int IntKind.u8 117)), (17, .const (Value.int IntKind.u8 116)), (18, .const (Value.int IntKind.u8 32)), (19, .const (Value.int IntKind.u8 116)), (20, .const (Value.int IntKind.u8 111)), (21, .const (Value.int IntKind.u8 103)), (22, .const (Value.int IntKind.u8 101)), (23, .const (Value.int IntKind.u8 116)), (24, .const (Value.int IntKind.u8 104)), (25, .const (Value.int IntKind.u8 101)), (26, .const (Value.int IntKind.u8 114)), (27, .const (Value.int IntKind.u8 32)), (28, .const (Value.int IntKind.u8 46)), (29, .const (Value.int IntKind.u8 46)), (30, .const (Value.int IntKind.u8 46)), (31, .const (Value.int IntKind.u8 32)), (32, .const (Value.int IntKind.u8 112)), (33, .const (Value.int IntKind.u8 97)), (34, .const (Value.int IntKind.u8 103)), (35, .const (Value.int IntKind.u8 101)), (36, .const (Value.int IntKind.u8 115)), (37, .const (Value.int IntKind.u8 32)), (38, .const (Value.int IntKind.u8 116)), (39, .const (Value.int IntKind.u8 104)), (40, .const (Value.int IntKind.u8 97)), (41, .const (Value.int IntKind.u8 116)), (42, .const (Value.int IntKind.u8 32)), (43, .const (Value.int IntKind.u8 97)), (44, .const (Value.int IntKind.u8 114)), (45, .const (Value.int IntKind.u8 101)), (46, .const (Value.int IntKind.u8 32)), (47, .const (Value.int IntKind.u8 112)), (48, .const (Value.int IntKind.u8 117)), (49, .const (Value.int IntKind.u8 116)), (50, .const (Value.int IntKind.u8 32)), (51, .const (Value.int IntKind.u8 116)), (52, .const (Value.int IntKind.u8 111)), (53, .const (Value.int IntKind.u8 103)), (54, .const (Value.int IntKind.u8 101)), (55, .const (Value.int IntKind.u8 116)), (56, .const (Value.int IntKind.u8 104)), (57, .const (Value.int IntKind.u8 101)), (58, .const (Value.int IntKind.u8 114)), (59, .const (Value.int IntKind.u8 32)), (60, .const (Value.int IntKind.u8 46)), (61, .const (Value.int IntKind.u8 46)), (62, .const (Value.int IntKind.u8 46)), (63, .const (Value.int IntKind.u8 32))].append [(64, .const (Value.int IntKind.u8 112)), (65, .const (Value.int IntKind.u8 97)), (66, .const (Value.int IntKind.u8 103)), (67, .const (Value.int IntKind.u8 101)), (68, .const (Value.int IntKind.u8 115)), (69, .const (Value.int IntKind.u8 32)), (70, .const (Value.int IntKind.u8 116)), (71, .const (Value.int IntKind.u8 104)), (72, .const (Value.int IntKind.u8 97)), (73, .const (Value.int IntKind.u8 116)), (74, .const (Value.int IntKind.u8 32)), (75, .const (Value.int IntKind.u8 97)), (76, .const (Value.int IntKind.u8 114)), (77, .const (Value.int IntKind.u8 101)), (78, .const (Value.int IntKind.u8 32)), (79, .const (Value.int IntKind.u8 112)), (80, .const (Value.int IntKind.u8 117)), (81, .const (Value.int IntKind.u8 116)), (82, .const (Value.int IntKind.u8 32)), (83, .const (Value.int IntKind.u8 116)), (84, .const (Value.int IntKind.u8 111)), (85, .const (Value.int IntKind.u8 103)), (86, .const (Value.int IntKind.u8 101)), (87, .const (Value.int IntKind.u8 116)), (88, .const (Value.int IntKind.u8 104)), (89, .const (Value.int IntKind.u8 101)), (90, .const (Value.int IntKind.u8 114)), (91, .const (Value.int IntKind.u8 32)), (92, .const (Value.int IntKind.u8 46)), (93, .const (Value.int IntKind.u8 46)), (94, .const (Value.int IntKind.u8 46)), (95, .const (Value.int IntKind.u8 32)), (96, .const (Value.int IntKind.u8 112)), (97, .const (Value.int IntKind.u8 97)), (98, .const (Value.int IntKind.u8 103)), (99, .const (Value.int IntKind.u8 101)), (100, .const (Value.int IntKind.u8 115)), (101, .const (Value.int IntKind.u8 32)), (102, .const (Value.int IntKind.u8 116)), (103, .const (Value.int IntKind.u8 104)), (104, .const (Value.int IntKind.u8 97)), (105, .const (Value.int IntKind.u8 116)), (106, .const (Value.int IntKind.u8 32)), (107, .const (Value.int IntKind.u8 97)), (108, .const (Value.int IntKind.u8 114)), (109, .const (Value.int IntKind.u8 101)), (110, .const (Value.int IntKind.u8 32)), (111, .const (Value.int IntKind.u8 112)), (112, .const (Value.int IntKind.u8 117)), (113, .const (Value.int IntKind.u8 116)), (114, .const (Value.int IntKind.u8 32)), (115, .const (Value.int IntKind.u8 116)), (116, .const (Value.int IntKind.u8 111)), (117, .const (Value.int IntKind.u8 103)), (118, .const (Value.int IntKind.u8 101)), (119, .const (Value.int IntKind.u8 116)), (120, .const (Value.int IntKind.u8 104)), (121, .const (Value.int IntKind.u8 101)), (122, .const (Value.int IntKind.u8 114)), (123, .const (Value.int IntKind.u8 32)), (124, .const (Value.int IntKind.u8 46)), (125, .const (Value.int IntKind.u8 46)), (126, .const (Value.int IntKind.u8 46)), (127, .const (Value.int IntKind.u8 32))]).toArray, 32, "pages.go:33", #[], none⟩ ?_; refine wpList_buildFlat rfl 32 5 128 _ rfl .u8 (S.pmark.map fun x => (x.toNat : Int)) Tryz.underlying32 (by kernel_rfl) (by kernel_rfl) (by kernel_rfl) (by omega) (by omega) (by kernel_rfl) ?_; rw [← HC.out, ← HW5.out])
 clear hcv
 refine (pkeep_do o4 d4 0 (some ⟨w4.heap.size, 0, none⟩) 128 S.pmark w5 D5.out.dk (by rw [L4.out]; omega) S.pmark_length (by rw [HD4.out]; show 0 ≤ 999999; omega) SV5.out).mono ?_
 intro e w6 hdo
 obtain ⟨h1, o6, h2, h3⟩ := hdo
 have pg1 := S.Dk.plan_goes [.write 0 S.pmark, .flush] d4 (by rw [HD4.out])
 have pa1 : d4.acts [.write 0 S.pmark, .flush] = S.madeDk n := by rw [HD4.out]; rfl
 rw [pg1.2, pa1] at h2
 rw [pg1.1] at h1
 subst h1
 have mf := S.made_facts n hn
 have PF : Hid (Pg w0 w6 o6 (S.madeDk n) 0 0 (fun _ => S.zeros 1024)) := ⟨D5.out.to h2 h3, rfl, rfl, by rw [mf.1]; exact hn, mf.2.1, mf.2.2.1, mf.2.2.2, (fun k e => by
  rcases h3.own k e with e | e
  ·exact O4.out k e
  ·exact Nat.le_trans B5.out.size e), B5.out.trans (h3.chg.below _ B5.out.size (fun k hk e => by have := O4.out k e; omega)), h0⟩
 have PT6 : Hid (o6.g = o.g) := h3.g.trans PT4.out
 clear h2 h3 pg1 pa1 mf
 rw [E0]
 go_wp2_with fail
 go_ret
 exact ⟨rfl, o6, PT6.out, PF.out⟩
end Go.Proofs.YteealihknndclaaGreatDoor
namespace Go.Proofs.YteealihknndclaaGreatDoor
open Go.RowKit

theorem equal57 (xs ys : List UInt8) (hx : xs.length = 64) (hy : ys.length = 64) (w : World) : (Op.equalIn 10000 149 (.agg (S.v8 xs)) (.agg (S.v8 ys))).run Tryz.prog w = .ok (xs == ys) w :=
 run_equalIn_bytes (P := Tryz.prog) w 9998 149 5 64 Tryz.underlying149 Tryz.underlying5 (fun _ => by kernel_rfl) xs ys hx hy
theorem build57 (w : World) : (Instr.build 149 #[]).run Tryz.prog w = .ok (.agg (S.v8 (S.zeros 64))) w := run_build w 149 _ _ (by kernel_rfl)
theorem wpList_eql_arr {w : World} {ops : Array Oper} {rest : List Oper} {o : Oper} {a : Act} {Q : Exit → Act → World → Prop} (hgd : o.guard = none) (x y : Operand) (ho : o.op = .binOp .eql 149 x y 149) (xs ys : List UInt8) (C D : Array Value) (hC : C = S.v8 xs) (hD : D = S.v8 ys) (hx : a.eval x = .agg C) (hy : a.eval y = .agg D) (hxl : xs.length = 64) (hyl : ys.length = 64) (b : Bool) (hb : (xs == ys) = b)
  (h : wpList Tryz.prog ops Q rest (a.put o.dst (.bool b)) w) : wpList Tryz.prog ops Q (o :: rest) a w := by
 subst hC hD hb
 have hm : Tryz.prog.eqGuardType Tryz.prog.depth 149 = false := by kernel_rfl
 have hr := equal57 xs ys hxl hyl w
 refine wpList_step fun _ hK => ?_
 rw [if_pos (by simp [Region.wanted, hgd])]
 unfold Oper.wp execOp
 simp only [ho, hx, hy, Sem.run_bind, run_eqGuard_agg w _ _ _ _ _ _ hm, run_eql_struct, hr, Result.andThen_ok]
 exact hK _ _ h
set_option maxHeartbeats 4000000 in
set_option maxRecDepth 10000 in
theorem bringHome_none (dv lv : Value) (w : World) :
  Calls Tryz.prog 86 #[dv, lv, .agg (S.v8 (S.zeros 64))] w fun e w' => e = .returned (.int .i64 0) ∧ Below w.heap.size w w' := by
 obtain ⟨Z, hZ⟩ : ∃ Z, Z = S.v8 (S.zeros 64) := ⟨_, rfl⟩
 obtain ⟨w1, hw1⟩ : ∃ w1, w1 = w.alloc (.cells Z 149) := ⟨_, rfl⟩
 have b1 : Below w.heap.size w w1 := by rw [hw1]; exact (Below.refl _ _).alloc (Nat.le_refl _) _
 have r1 : w1.heap[w.heap.size]? = some (.cells (S.v8 (S.zeros 64)) 149 (0, 0)) := by rw [hw1, hZ]; exact heap_alloc_new _ _
 have ld := load57 r1 (S.zeros_length _)
 have hbd := build57 w1
 rw [← hZ] at ld hbd ⊢
 have HZ := hide hZ
 have B1 := hide b1
 have HW := hide hw1
 clear b1 r1 hZ hw1
 go_enter Tryz.func86, Tryz.ntmps86
 go_wp2_with (first | (rw [← HW.out]; with_reducible refine at_op ⟨some 11, .load 149 (.tmp 5), 149, "place.go:97", #[], none⟩ ?_; refine wpList_load_as rfl 149 (.tmp 5) rfl (.pointer (some ⟨w.heap.size, 0, none⟩)) rfl (.agg Z) ld ?_) | (with_reducible refine at_op ⟨some 12, .build 149 #[], 149, "place.go:97", #[], none⟩ ?_; refine wpList_build_as rfl 149 [] rfl [] rfl (.agg Z) hbd ?_) | (with_reducible refine at_op ⟨some 13, .binOp BinOp.eql 149 (.tmp 11) (.tmp 12) 149, 4, "place.go:97", #[{ on := 0, ground := Ground.data }, { on := 1, ground := Ground.data }], none⟩ ?_; refine wpList_eql_arr rfl (.tmp 11) (.tmp 12) rfl (S.zeros 64) (S.zeros 64) Z Z HZ.out HZ.out rfl rfl (S.zeros_length _) (S.zeros_length _) true (beq_self_eq_true _) ?_))
 go_ret
 exact ⟨rfl, B1.out⟩
structure Wi (B : Nat) (w : World) (g : Nat) (bs : List UInt8) : Prop where
 is : ∃ v, WrIs w g v bs ∧ ∀ k, v.ownBlock = some k → B ≤ k
 at_ : B ≤ g
 base : B ≤ w.heap.size
theorem wi_new (w : World) : Calls Tryz.prog 104 #[] w fun e w' => ∃ g, e = .returned (.pointer (some ⟨g, 0, none⟩)) ∧ Wi w.heap.size w' g [] ∧ Below w.heap.size w w' := by
 refine (newWriter_any w).mono ?_
 rintro e w1 ⟨rfl, h1, h2⟩
 exact ⟨_, rfl, ⟨⟨_, h1, nil_base _⟩, Nat.le_refl _, h2.size⟩, h2⟩
theorem wi_num (B g n : Nat) (k : Int) (bs : List UInt8) (w : World) (h : Wi B w g bs) (hb : bs.length ≤ 1000000) :
  Calls Tryz.prog 106 #[.pointer (some ⟨g, 0, none⟩), .int .u64 (n : Int), .int .i64 k] w fun e w' => e = .returned (.tuple #[]) ∧ Wi B w' g (bs ++ S.num n (S.size k)) ∧ Below B w w' := by
 obtain ⟨v, h1, h2⟩ := h.is
 refine (wnumber_any g v bs n k w h1 (by omega)).mono ?_
 rintro e w1 ⟨rfl, v', h3, h4⟩
 obtain ⟨b1, b2⟩ := h4.base h.base h.at_ h2
 exact ⟨rfl, ⟨⟨v', h3, b2⟩, h.at_, Nat.le_trans h.base b1.size⟩, b1⟩
theorem wi_bytes (B g : Nat) (u : Value) (bs xs : List UInt8) (w : World) (h : Wi B w g bs) (hu : ∀ W, Below B w W → SliceAt W u xs) (hb : bs.length ≤ 1000000) :
  Calls Tryz.prog 105 #[.pointer (some ⟨g, 0, none⟩), u] w fun e w' => e = .returned (.tuple #[]) ∧ Wi B w' g (bs ++ S.text xs) ∧ Below B w w' := by
 obtain ⟨v, h1, h2⟩ := h.is
 refine (wbytes_any g v u bs xs w h1 (fun W hW => hu W (hW.below B h.base (fun k hk e => by
  rcases e with e | e
  ·have := h.at_; omega
  ·have := h2 k e; omega))) (by omega)).mono ?_
 rintro e w1 ⟨rfl, v', h3, h4⟩
 obtain ⟨b1, b2⟩ := h4.base h.base h.at_ h2
 exact ⟨rfl, ⟨⟨v', h3, b2⟩, h.at_, Nat.le_trans h.base b1.size⟩, b1⟩
theorem wi_bytes2 (B g : Nat) (u : Value) (bs xs : List UInt8) (w0 w : World) (h : Wi B w0 g bs) (hb0 : Below w0.heap.size w0 w) (hu : ∀ p W, Chg p w W → (∀ k, w0.heap.size ≤ k → ¬ p k) → SliceAt W u xs) (hb : bs.length ≤ 1000000) :
  Calls Tryz.prog 105 #[.pointer (some ⟨g, 0, none⟩), u] w fun e w' => e = .returned (.tuple #[]) ∧ Wi B w' g (bs ++ S.text xs) ∧ Below B w w' := by
 obtain ⟨v, h1, h2⟩ := h.is
 have hl : ∀ k, v.ownBlock = some k → k < w0.heap.size := fun k hk => h1.text.lt hk
 have hg := h1.lt
 refine (wbytes_any g v u bs xs w (h1.below hb0) (fun W hW => hu _ W hW (fun k hk e => by
  rcases e with e | e
  ·omega
  ·have := hl k e; omega)) (by omega)).mono ?_
 rintro e w1 ⟨rfl, v', h3, h4⟩
 have hB : B ≤ w.heap.size := Nat.le_trans h.base hb0.size
 obtain ⟨b1, b2⟩ := h4.base hB h.at_ h2
 exact ⟨rfl, ⟨⟨v', h3, b2⟩, h.at_, Nat.le_trans hB b1.size⟩, b1⟩
theorem wi_done (B g : Nat) (bs : List UInt8) (w : World) (h : Wi B w g bs) (hb : bs.length ≤ 1000000) :
  Calls Tryz.prog 108 #[.pointer (some ⟨g, 0, none⟩)] w fun e w' => ∃ t, e = .returned (.slice (some ⟨t, 0, none⟩) bs.length bs.length) ∧ w.heap.size ≤ t ∧ w'.heap[t]? = some (.cells (S.v8 bs) 5 (0, 0)) ∧ Below w.heap.size w w' := by
 obtain ⟨v, h1, h2⟩ := h.is
 refine (done_any g v bs w h1 (by omega)).mono ?_
 rintro e w1 ⟨rfl, h3, h4⟩
 exact ⟨_, rfl, Nat.le_refl _, h3, h4⟩
theorem Wi.below {B : Nat} {w W : World} {g : Nat} {bs : List UInt8} (h : Wi B w g bs) (hb : Below w.heap.size w W) : Wi B W g bs := by
 obtain ⟨v, h1, h2⟩ := h.is
 exact ⟨⟨v, h1.below hb, h2⟩, h.at_, Nat.le_trans h.base hb.size⟩
theorem size144 : (Tryz.prog.info? 144).map (·.size) = some 2 := by kernel_rfl
theorem loadVar144 {w : World} {g : Nat} {a b : Value} (h : w.heap[g]? = some (.cells #[a, b] 144 (0, 0))) : (loadVar 144 ⟨g, 0, none⟩).run Tryz.prog w = .ok (.agg #[a, b]) w :=
 run_loadVar_mid (P := Tryz.prog) w g 0 144 [a, b] _ (rangeAt_row h) Tryz.underlying144 rfl (by rw [size144]; rfl)
theorem set2 {w : World} {g : Nat} {a b : Value} {t : TypeId} (a' b' : Value) (h : w.heap[g]? = some (.cells #[a, b] t (0, 0))) : ((w.setCell ⟨g, 0, none⟩ a').setCell ⟨g, 1, none⟩ b').heap[g]? = some (.cells #[a', b'] t (0, 0)) := by
 have h1 := heap_setCell_same w g 0 _ _ a' h
 rw [heap_setCell_same _ g 1 _ _ b' h1]
 rfl
theorem chg2 (w : World) (g : Nat) (a b : Value) : Chg (fun k => k = g) w ((w.setCell ⟨g, 0, none⟩ a).setCell ⟨g, 1, none⟩ b) := ((Chg.refl (fun k => k = g) _).setCell g 0 a (fun _ => rfl)).setCell g 1 b (fun _ => rfl)
set_option maxHeartbeats 1000000 in
set_option maxRecDepth 10000 in
theorem sheetOf_any (v : Value) (n : Nat) (xs : List UInt8) (w : World) (hv : SliceAt w v xs) (hx : xs.length ≤ 1022) :
  Calls Tryz.prog 107 #[.int .i64 (n : Int), v] w fun e w' => ∃ g, e = .returned (.agg #[.int .i64 (n : Int), .slice (some ⟨g, 0, none⟩) 1024 1024]) ∧ w.heap.size ≤ g ∧ w'.heap[g]? = some (.cells (S.v8 (S.sheetB xs)) 5 (0, 0)) ∧ Below w.heap.size w w' := by
 have HV := hide hv
 have HX := hide hx
 obtain ⟨ao, l1, c1, rfl, z1, z2⟩ := hv.form
 clear hv z1 z2 hx
 go_enter Tryz.func107, Tryz.ntmps107
 go_wp2_with fail
 obtain ⟨w1, hw1⟩ : ∃ w1, w1 = w.alloc (.cells #[.int .i64 0, .slice none 0 0] 144) := ⟨_, rfl⟩
 rw [← hw1]
 have b1 : Below w.heap.size w w1 := by rw [hw1]; exact (Below.refl _ _).alloc (Nat.le_refl _) _
 have r1 : w1.heap[w.heap.size]? = some (.cells #[.int .i64 0, .slice none 0 0] 144 (0, 0)) := by rw [hw1]; exact heap_alloc_new _ _
 obtain ⟨gr, hgr⟩ : ∃ gr, gr = w.heap.size := ⟨_, rfl⟩
 rw [← hgr] at r1 ⊢
 have HGR : Hid (gr = w.heap.size) := hgr
 have B1 := hide b1
 have R1 := hide r1
 have V1 := hide (HV.out.below b1 (Nat.le_refl _))
 clear b1 r1 hw1 hgr
 refine (wi_new w1).mono ?_
 rintro e w2 ⟨gw, rfl, i2, b2⟩
 have I2 := hide i2
 have B2 := hide b2
 clear i2 b2
 go_wp2_with fail
 refine (wi_bytes w1.heap.size gw _ [] xs w2 I2.out (fun W hW => V1.out.below (B2.out.trans hW) (Nat.le_refl _)) (by simp)).mono ?_
 rintro e w3 ⟨rfl, i3, b3⟩
 have I3 := hide i3
 have B3 : Hid (Below w1.heap.size w1 w3) := B2.out.trans b3
 clear i3 b3 I2 B2
 have hmk : ∀ w : World, (Instr.makeSlice 32 (.int .i64 1024) (.int .i64 1024)).run Tryz.prog w = .ok (.slice (some ⟨w.heap.size, 0, none⟩) 1024 1024) (w.alloc (.cells (S.v8 (S.zeros 1024)) 5)) := fun w => make_bytes_big 1024 (by omega) w
 go_wp2_with fail
 clear hmk
 obtain ⟨w4, hw4⟩ : ∃ w4, w4 = w3.alloc (.cells (S.v8 (S.zeros 1024)) 5) := ⟨_, rfl⟩
 rw [← hw4]
 have b4 : Below w3.heap.size w3 w4 := by rw [hw4]; exact (Below.refl _ _).alloc (Nat.le_refl _) _
 have r4 : w4.heap[w3.heap.size]? = some (.cells (S.v8 (S.zeros 1024)) 5 (0, 0)) := by rw [hw4]; exact heap_alloc_new _ _
 obtain ⟨gb, hgb⟩ : ∃ gb, gb = w3.heap.size := ⟨_, rfl⟩
 rw [← hgb] at r4 ⊢
 have LG : Hid (w1.heap.size ≤ gb) := by rw [hgb]; exact B3.out.size
 have R4 := hide r4
 have B4 : Hid (Below w1.heap.size w1 w4) := B3.out.trans (b4.mono B3.out.size)
 have I4 := hide (I3.out.below b4)
 clear b4 r4 hw4 hgb I3 B3
 have tl : ([] ++ S.text xs).length = 2 + xs.length := by rw [List.nil_append, S.text_length, Nat.mod_eq_of_lt (by have := HX.out; omega)]
 obtain ⟨T, hT⟩ : ∃ T, T = [] ++ S.text xs := ⟨_, rfl⟩
 rw [← hT] at tl I4
 have HT : Hid (T = S.text xs) := hT
 have HTL : Hid (T.length ≤ 1024) := by have := HX.out; show T.length ≤ 1024; omega
 have HTE := hide tl
 clear hT tl
 refine (wi_done w1.heap.size gw T w4 I4.out (by have := HTL.out; omega)).mono ?_
 rintro e w5 ⟨gt, rfl, g5, r5, b5⟩
 have R5 : Hid (w5.heap[gb]? = some (.cells (S.v8l (S.zeros 1024)).toArray 5 (0, 0))) := (b5.block gb (block_lt_of_row R4.out)).trans R4.out
 have B5 : Hid (Below w1.heap.size w1 w5) := B4.out.trans (b5.mono B4.out.size)
 have HST : Hid (Src w5 (some ⟨gt, 0, none⟩) T) := fun _ => ⟨gt, 0, rfl, block_lt_of_row r5, fun j hj => by rw [Nat.zero_add]; exact v8_cell r5 j hj⟩
 obtain ⟨tn, htn⟩ : ∃ tn, tn = T.length := ⟨_, rfl⟩
 rw [← htn]
 have HN : Hid ((S.v8l T).length = Nat.min tn 1024) := by show (S.v8l T).length = min tn 1024; rw [S.v8l_length, ← htn]; have := HTL.out; omega
 have HF : Hid (0 + (S.v8l T).length ≤ (S.v8l (S.zeros 1024)).length) := by show 0 + (S.v8l T).length ≤ (S.v8l (S.zeros 1024)).length; rw [S.v8l_length, S.v8l_length, S.zeros_length]; have := HTL.out; omega
 clear g5 r5 b5 htn R4 B4 I4
 go_wp2_with (first | (
   refine wpList_copy_splice rfl (.tmp 12) (.tmp 14) 32 32 rfl 5 Tryz.underlying32 size5 _ _ _ _ _ _ rfl rfl gb 0 (S.v8l (S.zeros 1024)) 5 R5.out (S.v8l T) HN.out (copy_src gb HST.out (Below.refl _ _)) HF.out (S.v8l_one _) w1.heap.size w1 B5.out LG.out ?_
   intro w6 HG2 hB2
   have R6 := hide (spl_rowT HG2)
   have B6 := hide hB2
   have R61 : Hid (w6.heap[gr]? = some (.cells #[.int .i64 0, .slice none 0 0] 144 (0, 0))) := (hB2.block gr (block_lt_of_row R1.out)).trans R1.out
   obtain ⟨c0, c1⟩ := cells2 R61.out
   have f0 := frozen_of_row _ _ 0 _ _ R61.out
   have f1 := frozen_of_row _ _ 1 _ _ R61.out
   clear HG2 hB2))
 have hr7 := set2 (Value.int .i64 (n : Int)) (.slice (some ⟨gb, 0, none⟩) 1024 1024) R61.out
 have hc7 := chg2 w6 gr (Value.int .i64 (n : Int)) (.slice (some ⟨gb, 0, none⟩) 1024 1024)
 refine bodyPost_ret (results_row_one Tryz.results107 _ _ gr _ rfl (loadVar144 hr7)) rfl ?_
 have e : S.sheetB xs = splice (S.zeros 1024) 0 T := by
  rw [splice_front, HTE.out, HT.out]
  unfold S.sheetB
  rw [show 1024 - (2 + xs.length) = 1022 - xs.length by omega]
 have hw6 : Below w.heap.size w w6 := B1.out.trans (B6.out.mono B1.out.size)
 have hne : ¬ gb = gr := by have := LG.out; have := HGR.out; have := block_lt_of_row R1.out; omega
 refine ⟨gb, rfl, by have := LG.out; have := B1.out.size; omega, ?_, hw6.trans (hc7.base hw6.size (by have := HGR.out; omega))⟩
 rw [e]
 exact hc7.row R6.out hne
theorem HhAt.slice {w : World} {b : Nat} {h : S.Hh} (a : HhAt w b h) (hl : h.used.length = 64) : SliceAt w (.slice (some ⟨b, 3, none⟩) 64 64) h.used :=
 Or.inr (Or.inr ⟨b, 3, 64, by rw [hl], by omega, by omega, block_lt_of_row a, fun j hj => a.byte j hj⟩)
theorem HhAt.below {w W : World} {b : Nat} {h : S.Hh} (a : HhAt w b h) (hb : Below w.heap.size w W) : HhAt W b h := (hb.block b (block_lt_of_row a)).trans a
theorem hmark_row {w : World} {g : Nat} {p : Nat × Nat} (h : w.heap[g]? = some (.cells (S.v8 S.hmark) 5 p)) : SliceAt w (.slice (some ⟨g, 0, none⟩) 13 13) S.hmark := by
 have := slice_mark h (by decide)
 exact this
set_option maxHeartbeats 1000000 in
set_option maxRecDepth 10000 in
theorem hsheet_any (h : S.Hh) (w : World) (ho : h.Ok) :
  Calls Tryz.prog 67 #[hhv h] w fun e w' => ∃ g, e = .returned (.agg #[.int .i64 0, .slice (some ⟨g, 0, none⟩) 1024 1024]) ∧ w.heap.size ≤ g ∧ w'.heap[g]? = some (.cells (S.v8 (S.sheetB (S.headB h.cnt h.root h.lv h.used))) 5 (0, 0)) ∧ Below w.heap.size w w' := by
 have HO := hide ho
 have q1 := ho.cnt
 have q2 := ho.root.2
 have q3 := ho.lv
 obtain ⟨C, hC⟩ : ∃ C, C = (S.hhc h).toArray := ⟨_, rfl⟩
 obtain ⟨w1, hw1⟩ : ∃ w1, w1 = w.alloc (.cells C 105) := ⟨_, rfl⟩
 have A1 : Hid (HhAt w1 w.heap.size h) := by show w1.heap[w.heap.size]? = _; rw [hw1, hC]; exact heap_alloc_new _ _
 have b1 : Below w.heap.size w w1 := by rw [hw1]; exact (Below.refl _ _).alloc (Nat.le_refl _) _
 obtain ⟨w2, hw2⟩ : ∃ w2, w2 = w1.alloc (.cells #[.int .i64 0, .slice none 0 0] 144) := ⟨_, rfl⟩
 have b2 : Below w1.heap.size w1 w2 := by rw [hw2]; exact (Below.refl _ _).alloc (Nat.le_refl _) _
 have R2 : Hid (w2.heap[w1.heap.size]? = some (.cells #[.int .i64 0, .slice none 0 0] 144 (0, 0))) := by rw [hw2]; exact heap_alloc_new _ _
 have A2 := hide (A1.out.below b2)
 have B2 : Hid (Below w.heap.size w w2) := b1.trans (b2.mono b1.size)
 have z1 : w1.heap.size = w.heap.size + 1 := by rw [hw1]; simp
 obtain ⟨gh, hgh⟩ : ∃ gh, gh = w.heap.size := ⟨_, rfl⟩
 obtain ⟨gr, hgr⟩ : ∃ gr, gr = w.heap.size + 1 := ⟨_, rfl⟩
 rw [← hgh] at A1 A2
 rw [z1, ← hgr] at R2
 have HG : Hid (gh = w.heap.size ∧ gr = w.heap.size + 1) := ⟨hgh, hgr⟩
 rw [hw1] at hw2
 unfold hhv
 rw [← hC]
 clear ho hC b1 b2 A1 hw1 z1
 go_enter Tryz.func67, Tryz.ntmps67
 go_wp2_with fail
 rw [← hw2, ← hgr, ← hgh]
 clear hw2 hgh hgr
 refine (wi_new w2).mono ?_
 rintro e w3 ⟨gw, rfl, i3, b3⟩
 have I3 := hide i3
 have B3 := hide b3
 clear i3 b3
 have hcv := fun W C n c => Lib.run_convert_bytes_const (P := Tryz.prog) W 32 5 C n c Tryz.underlying32 Tryz.underlying5
 go_wp2_with fail
 clear hcv
 obtain ⟨w4, hw4⟩ : ∃ w4, w4 = w3.alloc (.cells (S.v8 S.hmark) 5 (13, 14)) := ⟨_, rfl⟩
 have e4 : w3.alloc (.cells #[Value.int .u8 107, Value.int .u8 101, Value.int .u8 121, Value.int .u8 115, Value.int .u8 32, Value.int .u8 105, Value.int .u8 110, Value.int .u8 32, Value.int .u8 111, Value.int .u8 114, Value.int .u8 100, Value.int .u8 101, Value.int .u8 114] 5 (13, 14)) = w4 := hw4.symm
 rw [e4]
 have b4 : Below w3.heap.size w3 w4 := by rw [hw4]; exact (Below.refl _ _).alloc (Nat.le_refl _) _
 have R4 : Hid (w4.heap[w3.heap.size]? = some (.cells (S.v8 S.hmark) 5 (13, 14))) := by rw [hw4]; exact heap_alloc_new _ _
 have I4 := hide (I3.out.below b4)
 have B4 := hide (B3.out.trans (b4.mono B3.out.size))
 have B34 := hide b4
 have RG : Hid (¬ w3.heap.size < w2.heap.size) := by show ¬ w3.heap.size < w2.heap.size; have := B3.out.size; omega
 obtain ⟨gm, hgm⟩ : ∃ gm, gm = w3.heap.size := ⟨_, rfl⟩
 rw [← hgm] at R4 ⊢
 have HGM := hide hgm
 clear hw4 e4 b4 B3 hgm
 refine (wi_bytes2 w2.heap.size gw _ [] S.hmark w3 w4 I3.out B34.out (fun p W hc hp => hmark_row (hc.row R4.out (hp gm (Nat.le_of_eq HGM.out.symm)))) (by simp)).mono ?_
 rintro e w5 ⟨rfl, i5, b5⟩
 have I5 := hide i5
 have B5 := hide (B4.out.trans b5)
 clear i5 b5 I4 B4 R4 I3
 have A5 : HhAt w5 gh h := (B5.out.block gh (block_lt_of_row A2.out)).trans A2.out
 have c5 := A5.cnt
 have k1 : IntKind.u64.wrap (h.cnt : Int) = (h.cnt : Int) := by rw [IntKind.wrap_u64]; omega
 have k2 : IntKind.u64.wrap (h.root : Int) = (h.root : Int) := by rw [IntKind.wrap_u64]; omega
 have k3 : IntKind.u64.wrap (h.lv : Int) = (h.lv : Int) := by rw [IntKind.wrap_u64]; omega
 have m1 : (h.cnt : Int) % 18446744073709551616 = (h.cnt : Int) := by omega
 have m2 : (h.root : Int) % 18446744073709551616 = (h.root : Int) := by omega
 have m3 : (h.lv : Int) % 18446744073709551616 = (h.lv : Int) := by omega
 clear A5
 go_wp2_with fail
 refine (wi_num w2.heap.size gw h.cnt 4 _ w5 I5.out (by simp [S.text_length, S.hmark_length])).mono ?_
 rintro e w6 ⟨rfl, i6, b6⟩
 have I6 := hide i6
 have B6 := hide (B5.out.trans b6)
 clear i6 b6 I5 B5 c5
 have A6 : HhAt w6 gh h := (B6.out.block gh (block_lt_of_row A2.out)).trans A2.out
 have c6 := A6.root
 clear A6
 go_wp2_with fail
 refine (wi_num w2.heap.size gw h.root 2 _ w6 I6.out (by simp [S.text_length, S.num_length, S.hmark_length]; decide)).mono ?_
 rintro e w7 ⟨rfl, i7, b7⟩
 have I7 := hide i7
 have B7 := hide (B6.out.trans b7)
 clear i7 b7 I6 B6 c6
 have A7 : HhAt w7 gh h := (B7.out.block gh (block_lt_of_row A2.out)).trans A2.out
 have c7 := A7.lv
 clear A7
 go_wp2_with fail
 refine (wi_num w2.heap.size gw h.lv 1 _ w7 I7.out (by simp [S.text_length, S.num_length, S.hmark_length]; decide)).mono ?_
 rintro e w8 ⟨rfl, i8, b8⟩
 have I8 := hide i8
 have B8 := hide (B7.out.trans b8)
 clear i8 b8 I7 B7 c7
 go_wp2_with fail
 refine (wi_bytes w2.heap.size gw _ _ h.used w8 I8.out (fun W hW => HhAt.slice ((hW.block gh (block_lt_of_row A2.out)).trans ((B8.out.block gh (block_lt_of_row A2.out)).trans A2.out)) HO.out.used) (by simp [S.text_length, S.num_length, S.hmark_length]; decide)).mono ?_
 rintro e w9 ⟨rfl, i9, b9⟩
 obtain ⟨T, hT⟩ : ∃ T, T = S.headB h.cnt h.root h.lv h.used := ⟨_, rfl⟩
 have eT : ((((([] : List UInt8) ++ S.text S.hmark) ++ S.num h.cnt (S.size 4)) ++ S.num h.root (S.size 2)) ++ S.num h.lv (S.size 1)) ++ S.text h.used = T := by
  rw [hT]
  unfold S.headB
  rw [show S.size 4 = 4 from by decide, show S.size 2 = 2 from by decide, show S.size 1 = 1 from by decide]
  simp only [List.nil_append, List.append_assoc]
 rw [eT] at i9
 have tl : T.length = 88 := by rw [hT]; exact S.headB_length _ _ _ _ HO.out.used
 have HT := hide hT
 have I9 := hide i9
 have B9 := hide (B8.out.trans b9)
 have HTL := hide tl
 clear i9 b9 I8 B8 eT hT tl k1 k2 k3 m1 m2 m3 q1 q2 q3
 go_wp2_with fail
 refine (wi_done w2.heap.size gw T w9 I9.out (by have := HTL.out; omega)).mono ?_
 rintro e w10 ⟨gt, rfl, g10, r10, b10⟩
 have SL : Hid (SliceAt w10 (.slice (some ⟨gt, 0, none⟩) T.length T.length) T) := slice_row r10 rfl (by have := HTL.out; omega)
 have B10 := hide (B9.out.trans (b10.mono B9.out.size))
 clear r10 b10 g10 I9 B9
 obtain ⟨tn, htn⟩ : ∃ tn, tn = T.length := ⟨_, rfl⟩
 rw [← htn] at SL ⊢
 clear htn
 go_wp2_with fail
 refine (sheetOf_any _ 0 T w10 SL.out (by have := HTL.out; omega)).mono ?_
 rintro e w11 ⟨gb, rfl, g11, r11, b11⟩
 have R11 := hide r11
 have B11 := hide (B10.out.trans (b11.mono B10.out.size))
 have hr : w11.heap[gr]? = some (.cells #[.int .i64 0, .slice none 0 0] 144 (0, 0)) := (B11.out.block gr (block_lt_of_row R2.out)).trans R2.out
 have HRR := hide hr
 have GB : Hid (w2.heap.size ≤ gb) := Nat.le_trans B10.out.size g11
 obtain ⟨c0, c1⟩ := cells2 hr
 have f0 := frozen_of_row _ _ 0 _ _ hr
 have f1 := frozen_of_row _ _ 1 _ _ hr
 clear r11 b11 g11 SL B10 hr
 go_wp2_with fail
 have hr7 := set2 (Value.int .i64 ((0 : Nat) : Int)) (.slice (some ⟨gb, 0, none⟩) 1024 1024) HRR.out
 have hc7 := chg2 w11 gr (Value.int .i64 ((0 : Nat) : Int)) (.slice (some ⟨gb, 0, none⟩) 1024 1024)
 refine bodyPost_ret (results_row_one Tryz.results67 _ _ gr _ rfl (loadVar144 hr7)) rfl ?_
 have hb : Below w.heap.size w w11 := B2.out.trans (B11.out.mono B2.out.size)
 refine ⟨gb, rfl, by have := GB.out; have := B2.out.size; omega, by rw [← HT.out]; exact hc7.row R11.out (by have := GB.out; have := block_lt_of_row R2.out; omega), hb.trans (hc7.base hb.size (by have := HG.out; omega))⟩
theorem info37 : (Tryz.prog.info? 144).map (fun i => (i.zero, i.size, i.bytes)) = some (some (.agg #[.int .i64 0, .slice none 0 0]), 2, 32) := by kernel_rfl
theorem eql_nil38 (a : Addr) (n cap : Nat) (W : World) : (binOp .eql 97 (.slice (some a) n cap) (.slice none 0 0)).run Tryz.prog W = .ok (.bool false) W :=
 by
  have h : ∀ d : Nat, (Op.equalIn (d + 1) 97 (.slice (some a) n cap) (.slice none 0 0)).run Tryz.prog W = .ok false W := fun d => by
   simp [Op.equalIn, run_underlying Tryz.underlying97]
  simp only [binOp]
  simp [Op.equal, Op.maxDepth, h 9999]
end Go.Proofs.YteealihknndclaaGreatDoor
namespace Go.Proofs.YteealihknndclaaGreatDoor
open Go.RowKit

theorem sh_cells {w : World} {g : Nat} {x y : Value} (h : w.heap[g]? = some (.cells #[x, y] 144 (0, 0))) : w.cell? ⟨g, 0, none⟩ = some x ∧ w.cell? ⟨g, 1, none⟩ = some y :=
 ⟨by rw [cell_of_row w g 0 _ 144 _ h]; rfl, by rw [cell_of_row w g 1 _ 144 _ h]; rfl⟩
end Go.Proofs.YteealihknndclaaGreatDoor
namespace Go.Proofs.YteealihknndclaaGreatDoor
open Go.RowKit

end Go.Proofs.YteealihknndclaaGreatDoor
namespace Go.Proofs
open Go.Shelf Go.RowKit Go.Lib Go.Sort
shelf_lay_g SlLaysF0.n6 Slsf 6 at Tryz 125 as Tryz.sortSheets
shelf_lay_g SlLaysC2.n5 Slgc 5 at Tryz 127 as Tryz.cmpInt
end Go.Proofs
namespace Go.Proofs.YteealihknndclaaGreatDoor
open Go.Shelf Go.RowKit Go.Lib Go.Sort

abbrev ShV := Int × Option Addr × Nat × Nat
def ShV.list (x : ShV) : Value := .slice x.2.1 x.2.2.1 x.2.2.2
def encSh (x : ShV) : List Value := [.int .i64 x.1, x.list]
def cmpSh (x y : ShV) : Int := Lib.compareInt x.1 y.1
theorem ltSh (x y : ShV) : ltOf cmpSh x y = decide (x.1 < y.1) := by
 unfold ltOf cmpSh Lib.compareInt
 by_cases h1 : x.1 < y.1
 ·simp [h1]
 ·by_cases h2 : y.1 < x.1 <;> simp [h1, h2]
theorem swoSh : SWO (ltOf cmpSh) where
 irrefl x := by rw [ltSh]; simp
 trans x y z h1 h2 := by rw [ltSh] at *; simp at *; omega
 ntrans x y z h1 h2 := by rw [ltSh] at *; simp at *; omega

set_option maxHeartbeats 1000000 in
theorem byPage_any (n m : Int) (v u : Value) (W : World) : Calls Tryz.prog 126 #[.agg #[.int .i64 n, v], .agg #[.int .i64 m, u]] W fun e w' => e = .returned (.int .i64 (Lib.compareInt n m)) ∧ ∃ q os', w' = grow (W.drewN q) os' := by
 have hcon := fun W' => AnyG.cmp_Compare_int Tryz.cmpInt n m W'
 change ∀ W', Calls Tryz.prog 127 _ _ _ at hcon
 generalize Lib.compareInt n m = r at hcon ⊢
 go_enter Tryz.func126, Tryz.ntmps126
 go_wp2_with (go_at_call 127; refine (hcon _).mono ?_; rintro e w' ⟨rfl, rfl⟩)
 go_ret
 exact ⟨rfl, 0, _, by rw [alloc_eq_grow, alloc_eq_grow, grow_grow]; rfl⟩

theorem isAgg37 (w : World) : (isAgg 144).run Tryz.prog w = .ok true w := by kernel_rfl
theorem sizeOf37 (w : World) : (Go.sizeOf 144).run Tryz.prog w = .ok 2 w := by kernel_rfl

theorem sort_any (blk off cap : Nat) (d : Array ShV) (w : World) (hH : HoldsK encSh 2 w blk off d) (hblk : blk < w.heap.size) (hsz : d.size < 4611686018427387904) :
  Calls Tryz.prog 125 #[.slice (some ⟨blk, off, none⟩) d.size cap, .func (.func 126) #[] #[]] w fun e w' => e = .returned (.tuple #[]) ∧ ∃ d' n os, PermIn 0 d.size d d' ∧ SortedIn (ltOf cmpSh) 0 d.size d' ∧ w' = sortWorldK encSh 2 w blk off n d' os := by
 have eg : ∀ args w, (callFunc 126 args).run Tryz.prog w = .ok (.enter 126 args) w := enters_of Tryz.func126 (by kernel_rfl) rfl
 exact AnyQ.slices_SortFunc Tryz.sortSheets 2 isAgg37 sizeOf37 encSh (fun _ => rfl) (fun x v hv => by simp [encSh, ShV.list] at hv; rcases hv with rfl | rfl <;> rfl) cmpSh swoSh 126 #[] blk off cap d w eg (fun _ _ _ _ x y => byPage_any x.1 y.1 x.list y.list _) hH hblk hsz
end Go.Proofs.YteealihknndclaaGreatDoor
namespace Go.Proofs.YteealihknndclaaGreatDoor
open Go.RowKit

theorem flatSh_length (d : List ShV) : (d.flatMap encSh).length = d.length * 2 := by
 induction d with
 | nil => rfl
 | cons x r ih => rw [List.flatMap_cons, List.length_append, ih]; simp [encSh]; omega
theorem flatSh_get (d : List ShV) (i : Nat) (x : ShV) (h : d[i]? = some x) : (d.flatMap encSh)[i * 2]? = some (.int .i64 x.1) ∧ (d.flatMap encSh)[i * 2 + 1]? = some x.list := by
 induction d generalizing i with
 | nil => simp at h
 | cons y r ih =>
  rw [List.flatMap_cons]
  match i, h with
  | 0, h => simp at h; subst h; exact ⟨rfl, rfl⟩
  | i + 1, h =>
   have := ih i (by simpa using h)
   have e : (i + 1) * 2 = i * 2 + 2 := by omega
   rw [e]
   exact this
theorem flatSh_one (d : List ShV) : ∀ v ∈ d.flatMap encSh, v.oneCell' = true := by
 intro v hv
 rw [List.mem_flatMap] at hv
 obtain ⟨x, _, hv⟩ := hv
 simp [encSh, ShV.list] at hv
 rcases hv with rfl | rfl <;> rfl
structure ShR (w : World) (g : Nat) (d : List ShV) : Prop where
 row : ∃ cur, w.heap[g]? = some (.cells cur 144 (0, 0)) ∧ cur.toList.take (d.length * 2) = d.flatMap encSh
theorem ShR.cells {w : World} {g : Nat} {d : List ShV} (h : ShR w g d) (i : Nat) (x : ShV) (hx : d[i]? = some x) : w.cell? ⟨g, i * 2, none⟩ = some (.int .i64 x.1) ∧ w.cell? ⟨g, i * 2 + 1, none⟩ = some x.list := by
 obtain ⟨cur, h1, h2⟩ := h.row
 have hl : i < d.length := (List.getElem?_eq_some_iff.1 hx).1
 obtain ⟨e0, e1⟩ := flatSh_get d i x hx
 rw [← h2, List.getElem?_take, if_pos (by omega)] at e0 e1
 exact ⟨by rw [cell_of_row w g _ _ 144 _ h1]; simpa using e0, by rw [cell_of_row w g _ _ 144 _ h1]; simpa using e1⟩
theorem ShR.lt {w : World} {g : Nat} {d : List ShV} (h : ShR w g d) : g < w.heap.size := by obtain ⟨cur, h1, _⟩ := h.row; exact block_lt_of_row h1
theorem ShR.below {w W : World} {g : Nat} {d : List ShV} (h : ShR w g d) (hb : Below w.heap.size w W) : ShR W g d := by
 obtain ⟨cur, h1, h2⟩ := h.row
 exact ⟨cur, (hb.block g (block_lt_of_row h1)).trans h1, h2⟩
set_option maxHeartbeats 4000000 in
set_option maxRecDepth 10000 in
theorem pclone_any (b off cap : Nat) (d : List ShV) (w : World) (h0 : ∀ j u, (d.flatMap encSh)[j]? = some u → w.cell? ⟨b, off + j, none⟩ = some u) (hd : d ≠ []) (hl : d.length ≤ 100000) :
  Calls Tryz.prog 124 #[.slice (some ⟨b, off, none⟩) d.length cap] w fun e w' => ∃ g c, e = .returned (.slice (some ⟨g, 0, none⟩) d.length c) ∧ w.heap.size ≤ g ∧ ShR w' g d ∧ Below w.heap.size w w' := by
 have hnil := eql_nil38 ⟨b, off, none⟩ d.length cap
 obtain ⟨i, hi, hz0, hz1, hz2⟩ := info_parts info37
 obtain ⟨w1, hw1⟩ : ∃ w1, w1 = w.alloc (.cells #[] 144) := ⟨_, rfl⟩
 have b1 : Below w.heap.size w w1 := by rw [hw1]; exact (Below.refl _ _).alloc (Nat.le_refl _) _
 have r1 : w1.heap[w.heap.size]? = some (.cells #[] 144 (0, 0)) := by rw [hw1]; exact heap_alloc_new _ _
 have hown : w1.ownsRow w.heap.size 144 2 (.slice (some ⟨w.heap.size, 0, none⟩) 0 0) 0 [] := ⟨rfl, Or.inr ⟨w.heap.size, 0, #[], rfl, Nat.le_refl _, r1, Nat.le_refl _, by simp [maxLen], rfl, rfl⟩⟩
 have hdl : 0 < d.length := List.length_pos_iff.2 hd
 have hb0 : b < w.heap.size := by
  obtain ⟨x, r, rfl⟩ := List.exists_cons_of_ne_nil hd
  exact World.block_lt_of_cell? w _ (h0 0 (.int .i64 x.1) rfl)
 have APP := hide (run_append_own (P := Tryz.prog) w1 w.heap.size 97 97 144 i (.agg #[.int .i64 0, .slice none 0 0]) 2 32 Tryz.underlying97 hi hz0 hz1 hz2 rfl (by omega) (.slice (some ⟨w.heap.size, 0, none⟩) 0 0) 0 [] hown ⟨b, off, none⟩ d.length cap (d.flatMap encSh) (flatSh_length d) (fun j u hu => by
  rw [Addr.add_lit]
  exact (b1.cell (p := ⟨b, off + j, none⟩) hb0).trans (h0 j u hu)) (flatSh_one d) (by simp [maxLen]; omega) (by omega) b1.size)
 have HB := hide b1
 have HW := hide hw1
 have HD : Hid (0 < d.length) := hdl
 generalize hdn : d.length = dn at hnil APP HD ⊢
 have HN : Hid (d.length = dn) := hdn
 clear b1 r1 hw1 hown h0 hi hz0 hz1 hz2 hb0 hdn hl hd hdl
 clear i
 go_enter Tryz.func124, Tryz.ntmps124
 go_wp2_with (at_builtin; (rw [← HW.out]; refine wpList_append_known rfl (.tmp 5) (.tmp 6) 97 97 rfl _ _ rfl rfl (by obtain ⟨v', w', h1, h2⟩ := APP.out; exact ⟨v', w', h1, h2⟩) ?_; rintro v2 w2 ⟨ho, hg, hn⟩; have OW := hide ho; have GR := hide hg; clear ho hg hn))
 rcases OW.out.2 with ⟨e, e2⟩ | ⟨g, c, cur, e, hge, h1, h2, h3, h4, h5⟩
 ·exact absurd e2 (by have := HD.out; simp; omega)
 ·subst e
  have S2 : Hid (ShR w2 g d) := ⟨cur, h1, by rw [HN.out]; simpa using h5⟩
  have B2 : Hid (Below w.heap.size w w2) := HB.out.trans (((Chg.refl (fun k => w.heap.size ≤ k) w1).grown GR.out (fun k _ e => by simp only [Value.ownBlock, Option.some.injEq] at e; omega)).below _ HB.out.size (fun k hk e => by omega))
  have GE : Hid (w.heap.size ≤ g) := hge
  clear h1 h2 h3 h4 h5 hge OW GR HB HW APP hnil HD HN
  go_wp2_with fail
  go_ret
  exact ⟨g, c, by simp, GE.out, S2.out, B2.out⟩
open Go.Sort (flatK size_flatK get_flatK HoldsK)

theorem flatK_sh (d : List ShV) : (flatK encSh 2 d.toArray).toList = d.flatMap encSh := by
 apply List.ext_getElem?
 intro t
 by_cases ht : t < d.length * 2
 ·obtain ⟨i, r, hr, rfl⟩ : ∃ i r, r < 2 ∧ t = i * 2 + r := ⟨t / 2, t % 2, by omega, by omega⟩
  have hi : i < d.length := by omega
  obtain ⟨e0, e1⟩ := flatSh_get d i d[i] (List.getElem?_eq_getElem hi)
  have hz : i * 2 + r < (flatK encSh 2 d.toArray).size := by simpa using ht
  have e := get_flatK encSh 2 d.toArray (i * 2 + r) (by simpa using ht)
  rw [show (i * 2 + r) / 2 = i by omega, show (i * 2 + r) % 2 = r by omega, getElem!_pos d.toArray i (by simpa using hi), List.getElem_toArray] at e
  have e3 : (flatK encSh 2 d.toArray).toList[i * 2 + r]? = some ((encSh d[i])[r]!) := by
   rw [Array.getElem?_toList, Array.getElem?_eq_getElem hz, ← getElem!_pos (flatK encSh 2 d.toArray) (i * 2 + r) hz, e]
  rw [e3]
  match r, hr with
  | 0, _ => exact e0.symm
  | 1, _ => exact e1.symm
 ·rw [List.getElem?_eq_none (by simp; omega), List.getElem?_eq_none (by rw [flatSh_length]; omega)]

theorem sort_rows (g c : Nat) (d : List ShV) (w : World) (h : ShR w g d) (hl : d.length ≤ 100000) :
  Calls Tryz.prog 125 #[.slice (some ⟨g, 0, none⟩) d.length c, .func (.func 126) #[] #[]] w fun e w' => e = .returned (.tuple #[]) ∧ ∃ d' : List ShV, d'.Perm d ∧ d'.Pairwise (fun x y => x.1 ≤ y.1) ∧ ShR w' g d' ∧ ∀ B, B ≤ g → Below B w w' := by
 obtain ⟨cur, h1, h2⟩ := h.row
 have hgs := block_lt_of_row h1
 have hcs : d.length * 2 ≤ cur.size := by
  have := congrArg List.length h2
  rw [flatSh_length, List.length_take] at this
  have e : cur.toList.length = cur.size := Array.length_toList
  omega
 have hH : HoldsK encSh 2 w g 0 d.toArray := by
  intro j hj
  have hj2 := hj
  rw [size_flatK, List.size_toArray] at hj
  refine ⟨?_, frozen_of_row w g _ cur 144 h1⟩
  rw [cell_of_row w g _ _ 144 _ h1, Nat.zero_add]
  have e : (cur.toList.take (d.length * 2))[j]? = (flatK encSh 2 d.toArray).toList[j]? := by rw [h2, flatK_sh]
  rw [List.getElem?_take_of_lt hj, Array.getElem?_toList, Array.getElem?_toList] at e
  rw [e, Array.getElem?_eq_getElem hj2, getElem!_pos _ j hj2]
  rfl
 have hs := sort_any g 0 c d.toArray w hH hgs (by rw [List.size_toArray]; omega)
 rw [List.size_toArray] at hs
 refine hs.mono ?_
 rintro e w' ⟨rfl, d', n, os, ⟨hp1, _, hp2⟩, hso, rfl⟩
 have hp1 : d'.size = d.length := hp1
 have hp3 : d'.toList.length = d.length := hp1
 have hd' : d' = d'.toList.toArray := by simp
 refine ⟨rfl, d'.toList, ?_, ?_, ?_, ?_⟩
 ·rw [← hp1] at hp2
  simp only [Array.extract_size] at hp2
  have e2 : d.toArray.extract 0 d'.size = d.toArray := by rw [hp1]; simp
  rw [e2] at hp2
  simpa using hp2
 ·rw [List.pairwise_iff_getElem]
  intro i j hi hj hij
  have hj' : j < d'.size := by simpa using hj
  have hi' : i < d'.size := by omega
  have := hso i j (Nat.zero_le _) hij (by omega)
  rw [ltSh, getElem!_pos d' j hj', getElem!_pos d' i hi', decide_eq_false_iff_not] at this
  simp only [Array.getElem_toList]
  omega
 ·refine ⟨Sort.putCells id 0 (flatK encSh 2 d') cur, ?_, ?_⟩
  ·rw [show sortWorldK encSh 2 w g 0 n d' os = Sort.grow (Sort.putRow id (Sort.ahead w n) g 0 (flatK encSh 2 d')) os from rfl, Sort.heap_grow_old _ _ (by simpa using hgs)]
   simp [Sort.putRow, Sort.mapBlock, Sort.ahead, Array.getElem?_modify, h1, Sort.onCells]
  ·rw [← flatK_sh, ← hd']
   apply List.ext_getElem?
   intro j
   have hz : (flatK encSh 2 d').size = d.length * 2 := by rw [size_flatK, hp1]
   by_cases hj : j < d'.toList.length * 2
   ·have hj1 : j < d.length * 2 := by rw [hp3] at hj; exact hj
    rw [List.getElem?_take_of_lt hj, Array.getElem?_toList, Array.getElem?_toList]
    have hq : j < (flatK encSh 2 d').size := by omega
    rw [Array.getElem?_eq_getElem hq]
    simp only [Sort.putCells, Array.getElem?_mapIdx, Array.getElem?_eq_getElem (show j < cur.size by omega), Option.map_some]
    rw [if_pos ⟨Nat.zero_le _, by omega⟩, Nat.sub_zero, getElem!_pos _ j hq]
    rfl
   ·rw [hp3] at hj
    have e : (flatK encSh 2 d').toList.length = (flatK encSh 2 d').size := Array.length_toList
    rw [List.getElem?_take_eq_none (by rw [hp3]; omega), List.getElem?_eq_none (by omega)]
 ·intro B hB
  refine ⟨rfl, rfl, rfl, by simp [sortWorldK, Sort.putRowK, Sort.ahead], fun k hk => ?_⟩
  rw [show sortWorldK encSh 2 w g 0 n d' os = Sort.grow (Sort.putRow id (Sort.ahead w n) g 0 (flatK encSh 2 d')) os from rfl]
  have hks : k < w.heap.size := by omega
  rw [Sort.heap_grow_old _ _ (by simpa using hks)]
  have : g ≠ k := by omega
  simp [Sort.putRow, Sort.mapBlock, Sort.ahead, Array.getElem?_modify, this]
end Go.Proofs.YteealihknndclaaGreatDoor
