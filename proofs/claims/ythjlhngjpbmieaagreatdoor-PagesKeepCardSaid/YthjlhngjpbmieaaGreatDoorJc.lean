/- Format of a new disk. -/
/- bringHome of no pages; settled. -/
import Derived.Test.YthjlhngjpbmieaaGreatDoorJa
import Derived.Great.BuildSlice
namespace Go.Proofs.YthjlhngjpbmieaaGreatDoor
open Go.RowKit

set_option maxHeartbeats 4000000 in
set_option maxRecDepth 10000 in
theorem clearHomes_none (o : Ow) (d : S.Dk) (w : World) (hd : DkIs w o d) (hl : 7680 ≤ d.safe.length) (hp : d.pend = []) (hz : ∀ j, 5 ≤ j → j < 4101 → d.seen.getD j [] = S.zeros 128) :
   Calls Tryz.prog 37 #[o.ptr] w fun e w' => e = .returned (.int .i64 0) ∧ DkIs w' o d ∧ Below w.heap.size w w' := by
  have hmk : ∀ w : World, (Instr.makeSlice 31 (.int .i64 128) (.int .i64 128)).run Tryz.prog w = .ok (.slice (some ⟨w.heap.size, 0, none⟩) 128 128) (w.alloc (.cells (S.v8 (S.zeros 128)) 5)) := fun w => make_bytes_big 128 (by omega) w
  obtain ⟨w1, hw1⟩ : ∃ w1, w1 = w.alloc (.cells (S.v8 (S.zeros 128)) 5) := ⟨_, rfl⟩
  have b1 : Below w.heap.size w w1 := by rw [hw1]; exact (Below.refl _ _).alloc (Nat.le_refl _) _
  have R1 : Hid (w1.heap[w.heap.size]? = some (.cells (S.v8 (S.zeros 128)) 5 (0, 0))) := by rw [hw1]; exact heap_alloc_new _ _
  have B1 := hide b1
  have D1 := hide (hd.below b1)
  have HL : Hid (7680 ≤ d.safe.length) := hl
  have HP := hide hp
  have HZ := hide hz
  obtain ⟨gz, hgz⟩ : ∃ gz, gz = w.heap.size := ⟨_, rfl⟩
  rw [← hgz] at R1
  clear b1 hd hl hp hz
  go_enter Tryz.func37, Tryz.ntmps37
  go_upto_region 3 with fail
  rw [← hw1, ← hgz]
  clear hw1 hgz hmk
  go_loopw [4] (fun i wr => ∃ k : Nat, 5 ≤ k ∧ k ≤ 4101 ∧ i = .int .i64 (k : Int) ∧ DkIs wr o d ∧ wr.heap[gz]? = some (.cells (S.v8 (S.zeros 128)) 5 (0, 0)) ∧ Below w.heap.size w wr) (fun i _ => 4101 - (intOf i).toNat)
  case atStart => exact ⟨5, by omega, by omega, rfl, D1.out, R1.out, B1.out⟩
  case round =>
  obtain ⟨k, hk5, hk, rfl, hdk, hr, hb⟩ := hrel
  have DD := hide hdk
  have RR := hide hr
  have BB := hide hb
  clear hdk hr hb D1 R1 B1
  by_cases hlt : k < 4101
  · have q1 : (k : Int) < 4101 := by omega
    have q2 : IntKind.i64.wrap ((k : Int) + 1) = (k : Int) + 1 := by rw [IntKind.wrap_i64]; omega
    go_wp2_with fail
    refine (read_yes o d k wr DD.out (by have := HL.out; omega)).mono ?_
    rintro e w2 ⟨rfl, hr2, b2⟩
    rw [HZ.out k hk5 hlt] at hr2
    have S2 : Hid (SliceAt w2 (.slice (some ⟨wr.heap.size, 0, none⟩) 128 128) (S.zeros 128)) := slice_row hr2 (S.zeros_length _).symm (by rw [S.zeros_length]; omega)
    have R2 : Hid (w2.heap[gz]? = some (.cells (S.v8 (S.zeros 128)) 5 (0, 0))) := (b2.block gz (block_lt_of_row RR.out)).trans RR.out
    have T2 : Hid (SliceAt w2 (.slice (some ⟨gz, 0, none⟩) 128 128) (S.zeros 128)) := slice_row R2.out (S.zeros_length _).symm (by rw [S.zeros_length]; omega)
    have D2 := hide (DD.out.below b2)
    have B2 := hide (BB.out.trans (b2.mono BB.out.size))
    clear hr2 b2 DD RR BB
    go_wp2_with fail
    refine (equal_any _ _ _ _ w2 S2.out T2.out).mono ?_
    rintro e w3 ⟨rfl, rfl⟩
    rw [decide_eq_true rfl]
    go_wp2_with fail
    go_roundw
    case rel => exact ⟨k + 1, by omega, by omega, by go_num, D2.out, R2.out, B2.out⟩
    case measure => simp [intOf]; omega
  · obtain rfl : k = 4101 := by omega
    go_wp2_with fail
    refine (settle_none o d wr DD.out HP.out).mono ?_
    rintro e w2 ⟨rfl, rfl⟩
    go_wp2_with fail
    go_ret
    exact ⟨rfl, DD.out, BB.out⟩
namespace S
/-- A disk that was formatted. -/
def madeDk (n : Nat) : Dk := { safe := (formed (List.replicate n (zeros 128)) 1 4).set 0 pmark, pend := [], left := none }
theorem new_seen (n : Nat) : (Dk.new n).seen = List.replicate n (zeros 128) := rfl
theorem new_getD (n k : Nat) (h : k < n) : (List.replicate n (zeros 128)).getD k [] = zeros 128 := by
  rw [List.getD_eq_getElem?_getD, List.getElem?_replicate, if_pos h]
  rfl
theorem secs_zeros {ss : List (List UInt8)} {f i : Nat} (h : ∀ j, f ≤ j → j < f + i → ss.getD j [] = zeros 128) : secs ss f i = zeros (i * 128) := by
  induction i with
  | zero => rfl
  | succ i ih =>
    rw [secs, ih (fun j h1 h2 => h j h1 (by omega)), h (f + i) (by omega) (by omega)]
    unfold zeros
    rw [List.replicate_append_replicate]
    congr 1
    omega
theorem made_facts (n : Nat) (h : 7680 ≤ n) : (madeDk n).safe.length = n ∧ (madeDk n).safe.getD 0 [] = pmark ∧ Good (madeDk n).safe 1 4 0 0 [] ∧ ∀ k, k < 512 → pageAt (madeDk n).safe (5 + k * 8) = zeros 1024 := by
  have hf := formed_at (ss := List.replicate n (zeros 128)) (f := 1) (c := 4) (by simp; omega) (by omega)
  have hl : (formed (List.replicate n (zeros 128)) 1 4).length = n := by rw [hf.1]; simp
  have hg : Good (formed (List.replicate n (zeros 128)) 1 4) 1 4 0 0 [] := formed_good (by simp; omega) (by omega) (by omega) (fun k h1 h2 => new_getD n (1 + k) (by omega))
  have hs : ∀ j, j ≠ 0 → (madeDk n).safe.getD j [] = (formed (List.replicate n (zeros 128)) 1 4).getD j [] := fun j hj => by
    show ((formed (List.replicate n (zeros 128)) 1 4).set 0 pmark).getD j [] = _
    rw [List.getD_eq_getElem?_getD, List.getElem?_set_ne (by omega), ← List.getD_eq_getElem?_getD]
  refine ⟨by show ((formed (List.replicate n (zeros 128)) 1 4).set 0 pmark).length = n; rw [List.length_set, hl], ?_, hg.stay (by show ((formed (List.replicate n (zeros 128)) 1 4).set 0 pmark).length = _; rw [List.length_set]) (fun j h1 h2 => hs j (by omega)), fun k hk => ?_⟩
  · show ((formed (List.replicate n (zeros 128)) 1 4).set 0 pmark).getD 0 [] = pmark
    rw [List.getD_eq_getElem?_getD, List.getElem?_set_self (by omega)]
    rfl
  · unfold pageAt
    rw [secs_zeros (fun j h1 h2 => by rw [hs j (by omega), hf.2.2.2 j (by omega) (by omega)]; exact new_getD n j (by omega))]
end S
theorem slice_mark {w : World} {g : Nat} {xs : List UInt8} {fr : Nat × Nat} (h : w.heap[g]? = some (.cells (S.v8 xs) 5 fr)) (hl : xs.length ≤ 140737488355328) : SliceAt w (.slice (some ⟨g, 0, none⟩) xs.length xs.length) xs :=
  Or.inr (Or.inr ⟨g, 0, xs.length, rfl, Nat.le_refl _, hl, block_lt_of_row h, fun j hj => by
    rw [Nat.zero_add, cell_of_row w g j _ 5 fr h]
    simp [S.v8, hj]⟩)
set_option maxHeartbeats 8000000 in
set_option maxRecDepth 20000 in
theorem pformat_new (w0 w : World) (o : Ow) (n : Nat) (hn : 7680 ≤ n) (hd : Dsk w o (S.Dk.new n)) (ho : ∀ k, o.has k → w0.heap.size ≤ k) (hb : Below w0.heap.size w0 w) (h0 : 0 < w0.heap.size) :
   Calls Tryz.prog 14 #[o.ptr] w fun e w' => e = .returned (.int .i64 0) ∧ ∃ o', o'.g = o.g ∧ Pg w0 w' o' (S.madeDk n) 0 0 (fun _ => S.zeros 1024) := by
  have HD := hide hd
  have HO := hide ho
  have HB := hide hb
  have HL : Hid ((S.Dk.new n).safe.length = n) := by show (List.replicate n (S.zeros 128)).length = n; simp
  clear hd ho hb
  have hmk : ∀ w : World, (Instr.makeSlice 31 (.int .i64 128) (.int .i64 128)).run Tryz.prog w = .ok (.slice (some ⟨w.heap.size, 0, none⟩) 128 128) (w.alloc (.cells (S.v8 (S.zeros 128)) 5)) := fun w => make_bytes_big 128 (by omega) w
  go_enter Tryz.func14, Tryz.ntmps14
  go_wp2_with fail
  refine (fits_yes o (S.Dk.new n) w HD.out.dk (by rw [HL.out]; exact hn)).mono ?_
  rintro e w1 ⟨rfl, rfl⟩
  obtain ⟨w1, hw1⟩ : ∃ w1, w1 = w.alloc (.cells (S.v8 (S.zeros 128)) 5) := ⟨_, rfl⟩
  have b1 : Below w.heap.size w w1 := by rw [hw1]; exact (Below.refl _ _).alloc (Nat.le_refl _) _
  have r1 : w1.heap[w.heap.size]? = some (.cells (S.v8 (S.zeros 128)) 5 (0, 0)) := by rw [hw1]; exact heap_alloc_new _ _
  have D1 := hide (HD.out.below b1)
  have B1 : Hid (Below w0.heap.size w0 w1) := HB.out.trans (b1.mono HB.out.size)
  have SV1 : Hid (∀ W, Chg (fun k => k = o.g) w1 W → SliceAt W (.slice (some ⟨w.heap.size, 0, none⟩) 128 128) (S.zeros 128)) := fun W hW => slice_row (hW.row r1 (fun e => by have := HD.out.dk.lt o.g (Or.inl rfl); omega)) (S.zeros_length _).symm (by rw [S.zeros_length]; omega)
  obtain ⟨gz, hgz⟩ : ∃ gz, gz = w.heap.size := ⟨_, rfl⟩
  rw [← hgz] at SV1
  clear b1 r1
  go_wp2_with fail
  rw [← hw1, ← hgz]
  clear hw1 hgz hmk
  refine (pkeep_do o (S.Dk.new n) 0 (some ⟨gz, 0, none⟩) 128 (S.zeros 128) w1 D1.out.dk (by rw [HL.out]; omega) (S.zeros_length _) (by show 0 ≤ 999999; omega) SV1.out).mono ?_
  intro e w2 hdo
  obtain ⟨h1, o2, h2, h3⟩ := hdo
  have pg1 := S.Dk.plan_goes [.write 0 (S.zeros 128), .flush] (S.Dk.new n) rfl
  have pa1 : (S.Dk.new n).acts [.write 0 (S.zeros 128), .flush] = S.Dk.new n := by
    show ({ safe := (List.replicate n (S.zeros 128)).set 0 (S.zeros 128), pend := [], left := none } : S.Dk) = { safe := List.replicate n (S.zeros 128), pend := [], left := none }
    rw [List.set_replicate_self]
  rw [pg1.2, pa1] at h2
  rw [pg1.1] at h1
  subst h1
  have D2 := hide (D1.out.to h2 h3)
  have B2 : Hid (Below w0.heap.size w0 w2) := B1.out.trans (h3.chg.below _ B1.out.size (fun k hk e => by have := HO.out k e; omega))
  have O2 : Hid (∀ k, o2.has k → w0.heap.size ≤ k) := fun k e => by
    rcases h3.own k e with e | e
    · exact HO.out k e
    · exact Nat.le_trans B1.out.size e
  have PT2 : Hid (o2.g = o.g) := h3.g
  have hp2 : o2.ptr = o.ptr := by unfold Ow.ptr; rw [h3.g]
  rw [← hp2]
  clear h2 h3 pg1 pa1 D1 B1 SV1 HD HO HB hp2
  have E0 : S.why true = 0 := rfl
  rw [E0]
  go_wp2_with fail
  refine (clearHomes_none o2 (S.Dk.new n) w2 D2.out.dk (by rw [HL.out]; exact hn) rfl (fun j h1 h2 => S.new_getD n j (by omega))).mono ?_
  rintro e w3 ⟨rfl, hd3, b3⟩
  have D3 := hide (D2.out.below b3)
  have B3 : Hid (Below w0.heap.size w0 w3) := B2.out.trans (b3.mono B2.out.size)
  clear hd3 b3 D2 B2
  go_wp2_with fail
  refine (format_yes o2 (S.Dk.new n) 1 4 w3 D3.out (by rw [HL.out]; omega) (by omega) (Nat.zero_le _) (fun k h1 h2 => S.new_getD n (1 + k) (by omega))).mono ?_
  intro e w4 hdo
  obtain ⟨h1, o4, h2, h3⟩ := hdo
  have pg1 := S.Dk.plan_goes (S.fmtActs 1 4) (S.Dk.new n) rfl
  obtain ⟨d4, hd4⟩ : ∃ d4 : S.Dk, d4 = { safe := S.formed (List.replicate n (S.zeros 128)) 1 4, pend := [], left := none } := ⟨_, rfl⟩
  have pa1 : (S.Dk.new n).acts (S.fmtActs 1 4) = d4 := by rw [S.fmt_acts, S.new_seen, hd4]; rfl
  rw [pg1.2, pa1] at h2
  rw [pg1.1] at h1
  subst h1
  have D4 := hide (D3.out.to h2 h3)
  have B4 : Hid (Below w0.heap.size w0 w4) := B3.out.trans (h3.chg.below _ B3.out.size (fun k hk e => by have := O2.out k e; omega))
  have O4 : Hid (∀ k, o4.has k → w0.heap.size ≤ k) := fun k e => by
    rcases h3.own k e with e | e
    · exact O2.out k e
    · exact Nat.le_trans B3.out.size e
  have PT4 : Hid (o4.g = o.g) := h3.g.trans PT2.out
  have HD4 := hide hd4
  have L4 : Hid (d4.safe.length = n) := by rw [hd4]; show (S.formed (List.replicate n (S.zeros 128)) 1 4).length = n; rw [(S.formed_at (f := 1) (c := 4) (by simp; omega) (by omega)).1]; simp
  have hp4 : o4.ptr = o2.ptr := by unfold Ow.ptr; rw [h3.g]
  rw [← hp4]
  clear h2 h3 pg1 pa1 D3 B3 O2 PT2 hp4 hd4
  rw [E0]
  obtain ⟨C, hC⟩ : ∃ C, C = ((S.pmark.map fun x => (x.toNat : Int)).map (Value.int .u8)).toArray := ⟨_, rfl⟩
  have ev : C = S.v8 S.pmark := by rw [hC, List.map_map]; rfl
  obtain ⟨w5a, hw5a⟩ : ∃ w5a, w5a = w4.alloc (.cells C 5) := ⟨_, rfl⟩
  obtain ⟨w5, hw5⟩ : ∃ w5, w5 = w4.alloc (.cells C 5 (C.size, C.size + 1)) := ⟨_, rfl⟩
  have hcv := Lib.run_convert_bytes_const (P := Tryz.prog) w4 31 5 C 128 128 Tryz.underlying31 Tryz.underlying5
  rw [← hw5a, ← hw5] at hcv
  have b5 : Below w4.heap.size w4 w5 := by rw [hw5]; exact (Below.refl _ _).alloc (Nat.le_refl _) _
  have r5 : w5.heap[w4.heap.size]? = some (.cells (S.v8 S.pmark) 5 (C.size, C.size + 1)) := by rw [hw5, ← ev]; exact heap_alloc_new _ _
  have D5 := hide (D4.out.below b5)
  have B5 : Hid (Below w0.heap.size w0 w5) := B4.out.trans (b5.mono B4.out.size)
  have SV5 : Hid (∀ W, Chg (fun k => k = o4.g) w5 W → SliceAt W (.slice (some ⟨w4.heap.size, 0, none⟩) 128 128) S.pmark) := fun W hW => by
    have := slice_mark (hW.row r5 (fun e => by have := D4.out.dk.lt o4.g (Or.inl rfl); omega)) (by rw [S.pmark_length]; omega)
    rw [S.pmark_length] at this
    exact this
  have HW5 := hide hw5a
  have HC := hide hC
  clear b5 r5 ev hw5 hw5a hC
  go_wp2_with (with_reducible refine at_op ⟨some 26, .buildSlice 31 128 ([(0, .const (Value.int IntKind.u8 112)), (1, .const (Value.int IntKind.u8 97)), (2, .const (Value.int IntKind.u8 103)), (3, .const (Value.int IntKind.u8 101)), (4, .const (Value.int IntKind.u8 115)), (5, .const (Value.int IntKind.u8 32)), (6, .const (Value.int IntKind.u8 116)), (7, .const (Value.int IntKind.u8 104)), (8, .const (Value.int IntKind.u8 97)), (9, .const (Value.int IntKind.u8 116)), (10, .const (Value.int IntKind.u8 32)), (11, .const (Value.int IntKind.u8 97)), (12, .const (Value.int IntKind.u8 114)), (13, .const (Value.int IntKind.u8 101)), (14, .const (Value.int IntKind.u8 32)), (15, .const (Value.int IntKind.u8 112)), (16, .const (Value.int IntKind.u8 117)), (17, .const (Value.int IntKind.u8 116)), (18, .const (Value.int IntKind.u8 32)), (19, .const (Value.int IntKind.u8 116)), (20, .const (Value.int IntKind.u8 111)), (21, .const (Value.int IntKind.u8 103)), (22, .const (Value.int IntKind.u8 101)), (23, .const (Value.int IntKind.u8 116)), (24, .const (Value.int IntKind.u8 104)), (25, .const (Value.int IntKind.u8 101)), (26, .const (Value.int IntKind.u8 114)), (27, .const (Value.int IntKind.u8 32)), (28, .const (Value.int IntKind.u8 46)), (29, .const (Value.int IntKind.u8 46)), (30, .const (Value.int IntKind.u8 46)), (31, .const (Value.int IntKind.u8 32)), (32, .const (Value.int IntKind.u8 112)), (33, .const (Value.int IntKind.u8 97)), (34, .const (Value.int IntKind.u8 103)), (35, .const (Value.int IntKind.u8 101)), (36, .const (Value.int IntKind.u8 115)), (37, .const (Value.int IntKind.u8 32)), (38, .const (Value.int IntKind.u8 116)), (39, .const (Value.int IntKind.u8 104)), (40, .const (Value.int IntKind.u8 97)), (41, .const (Value.int IntKind.u8 116)), (42, .const (Value.int IntKind.u8 32)), (43, .const (Value.int IntKind.u8 97)), (44, .const (Value.int IntKind.u8 114)), (45, .const (Value.int IntKind.u8 101)), (46, .const (Value.int IntKind.u8 32)), (47, .const (Value.int IntKind.u8 112)), (48, .const (Value.int IntKind.u8 117)), (49, .const (Value.int IntKind.u8 116)), (50, .const (Value.int IntKind.u8 32)), (51, .const (Value.int IntKind.u8 116)), (52, .const (Value.int IntKind.u8 111)), (53, .const (Value.int IntKind.u8 103)), (54, .const (Value.int IntKind.u8 101)), (55, .const (Value.int IntKind.u8 116)), (56, .const (Value.int IntKind.u8 104)), (57, .const (Value.int IntKind.u8 101)), (58, .const (Value.int IntKind.u8 114)), (59, .const (Value.int IntKind.u8 32)), (60, .const (Value.int IntKind.u8 46)), (61, .const (Value.int IntKind.u8 46)), (62, .const (Value.int IntKind.u8 46)), (63, .const (Value.int IntKind.u8 32))].append [(64, .const (Value.int IntKind.u8 112)), (65, .const (Value.int IntKind.u8 97)), (66, .const (Value.int IntKind.u8 103)), (67, .const (Value.int IntKind.u8 101)), (68, .const (Value.int IntKind.u8 115)), (69, .const (Value.int IntKind.u8 32)), (70, .const (Value.int IntKind.u8 116)), (71, .const (Value.int IntKind.u8 104)), (72, .const (Value.int IntKind.u8 97)), (73, .const (Value.int IntKind.u8 116)), (74, .const (Value.int IntKind.u8 32)), (75, .const (Value.int IntKind.u8 97)), (76, .const (Value.int IntKind.u8 114)), (77, .const (Value.int IntKind.u8 101)), (78, .const (Value.int IntKind.u8 32)), (79, .const (Value.int IntKind.u8 112)), (80, .const (Value.int IntKind.u8 117)), (81, .const (Value.int IntKind.u8 116)), (82, .const (Value.int IntKind.u8 32)), (83, .const (Value.int IntKind.u8 116)), (84, .const (Value.int IntKind.u8 111)), (85, .const (Value.int IntKind.u8 103)), (86, .const (Value.int IntKind.u8 101)), (87, .const (Value.int IntKind.u8 116)), (88, .const (Value.int IntKind.u8 104)), (89, .const (Value.int IntKind.u8 101)), (90, .const (Value.int IntKind.u8 114)), (91, .const (Value.int IntKind.u8 32)), (92, .const (Value.int IntKind.u8 46)), (93, .const (Value.int IntKind.u8 46)), (94, .const (Value.int IntKind.u8 46)), (95, .const (Value.int IntKind.u8 32)), (96, .const (Value.int IntKind.u8 112)), (97, .const (Value.int IntKind.u8 97)), (98, .const (Value.int IntKind.u8 103)), (99, .const (Value.int IntKind.u8 101)), (100, .const (Value.int IntKind.u8 115)), (101, .const (Value.int IntKind.u8 32)), (102, .const (Value.int IntKind.u8 116)), (103, .const (Value.int IntKind.u8 104)), (104, .const (Value.int IntKind.u8 97)), (105, .const (Value.int IntKind.u8 116)), (106, .const (Value.int IntKind.u8 32)), (107, .const (Value.int IntKind.u8 97)), (108, .const (Value.int IntKind.u8 114)), (109, .const (Value.int IntKind.u8 101)), (110, .const (Value.int IntKind.u8 32)), (111, .const (Value.int IntKind.u8 112)), (112, .const (Value.int IntKind.u8 117)), (113, .const (Value.int IntKind.u8 116)), (114, .const (Value.int IntKind.u8 32)), (115, .const (Value.int IntKind.u8 116)), (116, .const (Value.int IntKind.u8 111)), (117, .const (Value.int IntKind.u8 103)), (118, .const (Value.int IntKind.u8 101)), (119, .const (Value.int IntKind.u8 116)), (120, .const (Value.int IntKind.u8 104)), (121, .const (Value.int IntKind.u8 101)), (122, .const (Value.int IntKind.u8 114)), (123, .const (Value.int IntKind.u8 32)), (124, .const (Value.int IntKind.u8 46)), (125, .const (Value.int IntKind.u8 46)), (126, .const (Value.int IntKind.u8 46)), (127, .const (Value.int IntKind.u8 32))]).toArray, 31, "pages.go:33", #[], none⟩ ?_; refine wpList_buildFlat rfl 31 5 128 _ rfl .u8 (S.pmark.map fun x => (x.toNat : Int)) Tryz.underlying31 (by kernel_rfl) (by kernel_rfl) (by kernel_rfl) (by omega) (by omega) (by kernel_rfl) ?_; rw [← HC.out, ← HW5.out])
  clear hcv
  refine (pkeep_do o4 d4 0 (some ⟨w4.heap.size, 0, none⟩) 128 S.pmark w5 D5.out.dk (by rw [L4.out]; omega) S.pmark_length (by rw [HD4.out]; show 0 ≤ 999999; omega) SV5.out).mono ?_
  intro e w6 hdo
  obtain ⟨h1, o6, h2, h3⟩ := hdo
  have pg1 := S.Dk.plan_goes [.write 0 S.pmark, .flush] d4 (by rw [HD4.out])
  have pa1 : d4.acts [.write 0 S.pmark, .flush] = S.madeDk n := by rw [HD4.out]; rfl
  rw [pg1.2, pa1] at h2
  rw [pg1.1] at h1
  subst h1
  have mf := S.made_facts n hn
  have PF : Hid (Pg w0 w6 o6 (S.madeDk n) 0 0 (fun _ => S.zeros 1024)) := ⟨D5.out.to h2 h3, rfl, rfl, by rw [mf.1]; exact hn, mf.2.1, mf.2.2.1, mf.2.2.2, (fun k e => by
    rcases h3.own k e with e | e
    · exact O4.out k e
    · exact Nat.le_trans B5.out.size e), B5.out.trans (h3.chg.below _ B5.out.size (fun k hk e => by have := O4.out k e; omega)), h0⟩
  have PT6 : Hid (o6.g = o.g) := h3.g.trans PT4.out
  clear h2 h3 pg1 pa1 mf
  rw [E0]
  go_wp2_with fail
  go_ret
  exact ⟨rfl, o6, PT6.out, PF.out⟩
end Go.Proofs.YthjlhngjpbmieaaGreatDoor
namespace Go.Proofs.YthjlhngjpbmieaaGreatDoor
open Go.RowKit

theorem equal57 (xs ys : List UInt8) (hx : xs.length = 64) (hy : ys.length = 64) (w : World) : (Op.equalIn 10000 65 (.agg (S.v8 xs)) (.agg (S.v8 ys))).run Tryz.prog w = .ok (xs == ys) w :=
  run_equalIn_bytes (P := Tryz.prog) w 9998 65 5 64 Tryz.underlying65 Tryz.underlying5 (fun _ => by kernel_rfl) xs ys hx hy
theorem build57 (w : World) : (Instr.build 65 #[]).run Tryz.prog w = .ok (.agg (S.v8 (S.zeros 64))) w := run_build w 65 _ _ (by kernel_rfl)
theorem wpList_eql_arr {w : World} {ops : Array Oper} {rest : List Oper} {o : Oper} {a : Act} {Q : Exit → Act → World → Prop} (hgd : o.guard = none) (x y : Operand) (ho : o.op = .binOp .eql 65 x y 65) (xs ys : List UInt8) (C D : Array Value) (hC : C = S.v8 xs) (hD : D = S.v8 ys) (hx : a.eval x = .agg C) (hy : a.eval y = .agg D) (hxl : xs.length = 64) (hyl : ys.length = 64) (b : Bool) (hb : (xs == ys) = b)
    (h : wpList Tryz.prog ops Q rest (a.put o.dst (.bool b)) w) : wpList Tryz.prog ops Q (o :: rest) a w := by
  subst hC hD hb
  have hm : Tryz.prog.eqGuardType Tryz.prog.depth 65 = false := by kernel_rfl
  have hr := equal57 xs ys hxl hyl w
  refine wpList_step fun _ hK => ?_
  rw [if_pos (by simp [Region.wanted, hgd])]
  unfold Oper.wp execOp
  simp only [ho, hx, hy, Sem.run_bind, run_eqGuard_agg w _ _ _ _ _ _ hm, run_eql_struct, hr, Result.andThen_ok]
  exact hK _ _ h
set_option maxHeartbeats 4000000 in
set_option maxRecDepth 10000 in
theorem bringHome_none (dv lv : Value) (w : World) :
   Calls Tryz.prog 35 #[dv, lv, .agg (S.v8 (S.zeros 64))] w fun e w' => e = .returned (.int .i64 0) ∧ Below w.heap.size w w' := by
  obtain ⟨Z, hZ⟩ : ∃ Z, Z = S.v8 (S.zeros 64) := ⟨_, rfl⟩
  obtain ⟨w1, hw1⟩ : ∃ w1, w1 = w.alloc (.cells Z 65) := ⟨_, rfl⟩
  have b1 : Below w.heap.size w w1 := by rw [hw1]; exact (Below.refl _ _).alloc (Nat.le_refl _) _
  have r1 : w1.heap[w.heap.size]? = some (.cells (S.v8 (S.zeros 64)) 65 (0, 0)) := by rw [hw1, hZ]; exact heap_alloc_new _ _
  have ld := load57 r1 (S.zeros_length _)
  have hbd := build57 w1
  rw [← hZ] at ld hbd ⊢
  have HZ := hide hZ
  have B1 := hide b1
  have HW := hide hw1
  clear b1 r1 hZ hw1
  go_enter Tryz.func35, Tryz.ntmps35
  go_wp2_with (first | (rw [← HW.out]; with_reducible refine at_op ⟨some 11, .load 65 (.tmp 5), 65, "place.go:97", #[], none⟩ ?_; refine wpList_load_as rfl 65 (.tmp 5) rfl (.pointer (some ⟨w.heap.size, 0, none⟩)) rfl (.agg Z) ld ?_) | (with_reducible refine at_op ⟨some 12, .build 65 #[], 65, "place.go:97", #[], none⟩ ?_; refine wpList_build_as rfl 65 [] rfl [] rfl (.agg Z) hbd ?_) | (with_reducible refine at_op ⟨some 13, .binOp BinOp.eql 65 (.tmp 11) (.tmp 12) 65, 4, "place.go:97", #[⟨0, .data⟩, ⟨1, .data⟩], none⟩ ?_; refine wpList_eql_arr rfl (.tmp 11) (.tmp 12) rfl (S.zeros 64) (S.zeros 64) Z Z HZ.out HZ.out rfl rfl (S.zeros_length _) (S.zeros_length _) true (beq_self_eq_true _) ?_))
  go_ret
  exact ⟨rfl, B1.out⟩
end Go.Proofs.YthjlhngjpbmieaaGreatDoor
namespace Go.Proofs.YthjlhngjpbmieaaGreatDoor
open Go.RowKit

theorem info37 : (Tryz.prog.info? 37).map (fun i => (i.zero, i.size, i.bytes)) = some (some (.agg #[.int .i64 0, .slice none 0 0]), 2, 32) := by kernel_rfl
theorem eql_nil38 (a : Addr) (n cap : Nat) (W : World) : (binOp .eql 38 (.slice (some a) n cap) (.slice none 0 0)).run Tryz.prog W = .ok (.bool false) W :=
  by
    have h : ∀ d : Nat, (Op.equalIn (d + 1) 38 (.slice (some a) n cap) (.slice none 0 0)).run Tryz.prog W = .ok false W := fun d => by
      simp [Op.equalIn, run_underlying Tryz.underlying38]
    simp only [binOp]
    simp [Op.equal, Op.maxDepth, h 9999]
end Go.Proofs.YthjlhngjpbmieaaGreatDoor
namespace Go.Proofs.YthjlhngjpbmieaaGreatDoor
open Go.RowKit

theorem sh_cells {w : World} {g : Nat} {x y : Value} (h : w.heap[g]? = some (.cells #[x, y] 37 (0, 0))) : w.cell? ⟨g, 0, none⟩ = some x ∧ w.cell? ⟨g, 1, none⟩ = some y :=
  ⟨by rw [cell_of_row w g 0 _ 37 _ h]; rfl, by rw [cell_of_row w g 1 _ 37 _ h]; rfl⟩
end Go.Proofs.YthjlhngjpbmieaaGreatDoor
namespace Go.Proofs.YthjlhngjpbmieaaGreatDoor
open Go.RowKit

end Go.Proofs.YthjlhngjpbmieaaGreatDoor
