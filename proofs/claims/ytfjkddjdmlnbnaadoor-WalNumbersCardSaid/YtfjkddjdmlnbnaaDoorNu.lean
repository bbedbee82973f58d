/- WalNumbers: chapter 4's runs. -/
import Derived.Test.YtfjkddjdmlnbnaaDoorSt
namespace Go.Proofs.YtfjkddjdmlnbnaaDoor
open Go.RowKit

structure NuSt (w0 w : World) (o : Ow) (d : S.Dk) (g : Nat) (tv lv : Value) (n : Ow) : Prop where
  lo : Lo w0 w o d g 0 64 1 1 [[97]] tv
  ls : LsAt w lv [[97]]
  nd : Dsk w n (S.Dk.new 8)
  nb : ∀ k, n.has k → w0.heap.size ≤ k
theorem NuSt.then {w0 w W : World} {o : Ow} {d : S.Dk} {g : Nat} {tv lv : Value} {n : Ow} (h : NuSt w0 w o d g tv lv n) (hb : Below w.heap.size w W) : NuSt w0 W o d g tv lv n := ⟨h.lo.then hb, h.ls.below hb, h.nd.below hb, h.nb⟩
set_option maxHeartbeats 16000000 in
set_option maxRecDepth 10000 in
theorem walNumbers_walk (w : World) (hK : KAt w) : Calls Tryd.prog 3 #[] w fun e w' => e = .returned (.bool true) ∧ Below w.heap.size w w' := by
  have HK := hide hK
  have HP : Hid (0 < w.heap.size) := hK.pos
  have kc := fun (w : World) (C : Array Value) (n c : Nat) => Lib.run_convert_bytes_const (P := Tryd.prog) w 29 5 C n c Tryd.underlying29 Tryd.underlying5
  obtain ⟨Z, hZ⟩ : ∃ Z, Z = S.v8 (S.zeros 7438) := ⟨_, rfl⟩
  have hmk : ∀ w : World, (Instr.makeSlice 29 (.int .i64 7438) (.int .i64 7438)).run Tryd.prog w = .ok (.slice (some ⟨w.heap.size, 0, none⟩) 7438 7438) (w.alloc (.cells Z 5)) := fun w => by rw [hZ]; exact make_bytes_big 7438 (by omega) w
  clear hK hZ
  go_enter Tryd.func3, Tryd.ntmps3
  go_wp2_with fail
  refine (begun_any 64 0 64 w w (by omega) (by omega) (by omega) (Below.refl _ _) HP.out HK.out).mono ?_
  rintro e w1 ⟨o, g, tv, rfl, hlo, hob, hgb, htb, b1⟩
  have LO1 := hide hlo
  clear hlo hob hgb htb b1
  have hrr : S.room 64 - (S.hdOf 0 []).used - 3 = 7437 := rfl
  have hr2 : ((7437 : Nat) : Int) = 7437 := rfl
  go_wp2_with fail
  refine (room_log o 0 64 g (S.hdOf 0 []) tv true w1 LO1.out.log.lg.row LO1.out.log.good.hd (by omega) (by omega)).mono ?_
  rintro e w2 ⟨he, b2⟩
  rw [hrr, hr2] at he
  subst he
  have LO2 := hide (LO1.out.then b2)
  clear b2 LO1
  go_wp2_with fail
  refine (room_log o 0 64 g (S.hdOf 0 []) tv true w2 LO2.out.log.lg.row LO2.out.log.good.hd (by omega) (by omega)).mono ?_
  rintro e w3 ⟨he, b3⟩
  rw [hrr, hr2] at he
  subst he
  have LO3 := hide (LO2.out.then b3)
  obtain ⟨w4, hw4⟩ : ∃ w4, w4 = w3.alloc (.cells Z 5) := ⟨_, rfl⟩
  have b4 : Below w3.heap.size w3 w4 := by rw [hw4]; exact (Below.refl _ _).alloc (Nat.le_refl _) _
  have LO4 := hide (LO3.out.then b4)
  clear b3 b4 LO2 LO3
  go_wp2_with fail
  rw [← hw4]
  refine (commit_full o 0 64 g _ tv true _ 7438 7438 w4 LO4.out.log.lg.row LO4.out.log.good.hd (by omega) (by omega) (by rw [hrr]; omega)).mono ?_
  rintro e w5 ⟨rfl, b5⟩
  have LO5 := hide (LO4.out.then b5)
  clear b5 LO4 hw4 hmk hrr hr2
  obtain ⟨w6, hw6⟩ : ∃ w6, w6 = w5.alloc (.cells #[.int .u8 97] 5 (1, 2)) := ⟨_, rfl⟩
  have b6 : Below w5.heap.size w5 w6 := by rw [hw6]; exact (Below.refl _ _).alloc (Nat.le_refl _) _
  have r6 : w6.heap[w5.heap.size]? = some (.cells (S.v8 [97]) 5 (1, 2)) := by rw [hw6]; exact heap_alloc_new _ _
  have hgl : g < w5.heap.size := block_lt_of_row LO5.out.log.lg.row
  have htl : ∀ k, tv.ownBlock = some k → k < w5.heap.size := fun k hk => LO5.out.log.lg.text.lt hk
  have LO6 := hide (LO5.out.then b6)
  have KP6 := hide (keeps_row (g := g) (tv := tv) r6 (by omega) (fun e => by have := htl _ e; omega) (by simp))
  obtain ⟨gx, hgx⟩ : ∃ gx, gx = w5.heap.size := ⟨_, rfl⟩
  rw [← hgx] at KP6
  clear b6 r6 hgl htl
  go_wp2_with fail
  rw [← hw6, ← hgx]
  clear hw6 hgx LO5
  refine (commit_go w w6 o _ g 0 64 0 0 [] tv (some ⟨gx, 0, none⟩) 1 1 [97] LO6.out rfl (by omega) KP6.out (by simp) (by decide)).mono ?_
  rintro e w7 ⟨rfl, o7, tv7, wt⟩
  obtain ⟨D, hDl, hlo⟩ : ∃ D : S.Dk, D.left = none ∧ Lo w w7 o7 D g 0 64 1 1 [[97]] tv7 := ⟨_, rfl, wt.lo⟩
  have LO7 := hide hlo
  have hpt : o7.ptr = o.ptr := by unfold Ow.ptr; rw [wt.moved.ptr]
  rw [← hpt]
  clear wt hpt hlo hDl LO6 KP6
  go_wp2_with fail
  refine (stop_lo w w7 o7 D g 0 64 1 1 [[97]] tv7 0 (by omega) LO7.out).mono ?_
  rintro e w8 ⟨rfl, o8, hp8, hlo⟩
  obtain ⟨D8, hDl, hlo⟩ : ∃ D : S.Dk, D.left = some 0 ∧ Lo w w8 o8 D g 0 64 1 1 [[97]] tv7 := ⟨_, rfl, hlo⟩
  have LO8 := hide hlo
  have HDL := hide hDl
  have hpt : o8.ptr = o7.ptr := by unfold Ow.ptr; rw [hp8]
  rw [← hpt]
  clear hp8 hlo hDl hpt LO7
  obtain ⟨w9, hw9⟩ : ∃ w9, w9 = w8.alloc (.cells #[.int .u8 98] 5 (1, 2)) := ⟨_, rfl⟩
  have b9 : Below w8.heap.size w8 w9 := by rw [hw9]; exact (Below.refl _ _).alloc (Nat.le_refl _) _
  have r9 : w9.heap[w8.heap.size]? = some (.cells (S.v8 [98]) 5 (1, 2)) := by rw [hw9]; exact heap_alloc_new _ _
  have hgl : g < w8.heap.size := block_lt_of_row LO8.out.log.lg.row
  have htl : ∀ k, tv7.ownBlock = some k → k < w8.heap.size := fun k hk => LO8.out.log.lg.text.lt hk
  have LO9 := hide (LO8.out.then b9)
  have KP9 := hide (keeps_row (g := g) (tv := tv7) r9 (by omega) (fun e => by have := htl _ e; omega) (by simp))
  obtain ⟨gz, hgx⟩ : ∃ gx, gx = w8.heap.size := ⟨_, rfl⟩
  rw [← hgx] at KP9
  clear b9 r9 hgl htl
  go_wp2_with fail
  rw [← hw9, ← hgx]
  clear hw9 hgx LO8
  refine (commit_stopped w w9 o8 D8 g 0 64 1 1 [[97]] tv7 (some ⟨gz, 0, none⟩) 1 1 [98] LO9.out HDL.out (by omega) KP9.out (by simp) (by decide)).mono ?_
  rintro e w10 ⟨rfl, o10, tv10, sh⟩
  have SH := hide sh
  have hpt : o10.ptr = o8.ptr := by unfold Ow.ptr; rw [sh.ptr]
  rw [← hpt]
  have GD := hide LO9.out.log.good
  have PD := hide LO9.out.log.pend
  clear sh hpt KP9 LO9
  go_wp2_with fail
  refine (records_any o8.ptr 0 64 1 g [[97]] tv10 false w10 SH.out.has GD.out.hd (by decide) (by simp)).mono ?_
  rintro e w11 ⟨lv, us, rfl, hrec, b11⟩
  obtain ⟨al, cl, hlv⟩ := hrec.lists.shape
  subst hlv
  have HU1 : us.length = 1 := hrec.copies.len
  rw [HU1] at hrec ⊢
  have REC := hide hrec
  have DK11 := hide (SH.out.dk.below b11)
  have BL11 := hide (SH.out.below.trans (b11.mono SH.out.below.size))
  have FAR : Hid (∀ k, w10.heap.size ≤ k → ¬ o10.has k) := fun k hk e => by have := SH.out.dk.dk.lt k e; omega
  clear hrec b11 HU1
  go_wp2_with fail
  refine (crash_none o10 D8 w11 DK11.out PD.out).mono ?_
  rintro e w12 ⟨rfl, o12, hd12, h12⟩
  have LSA := hide (REC.out.far (by decide) h12.chg FAR.out)
  have GE : Hid (S.Good (D8.crash ⟨[], -1, 0⟩).safe 0 64 1 1 [[97]]) := by show S.Good _ _ _ _ _ _; rw [S.Dk.crash_flushed _ PD.out]; exact GD.out
  have DK12 := hide hd12
  have OB12 : Hid (∀ k, o12.has k → w.heap.size ≤ k) := fun k hk => by
    rcases h12.own k hk with e | e
    · exact SH.out.ob k e
    · exact Nat.le_trans BL11.out.size e
  have BL12 := hide (BL11.out.trans (h12.chg.below _ BL11.out.size (fun k hk e => by have := SH.out.ob k e; omega)))
  have hpt : o12.ptr = o10.ptr := by unfold Ow.ptr; rw [h12.g]
  rw [← hpt]
  clear hd12 h12 hpt REC DK11 FAR
  go_wp2_with fail
  refine (open_go w w12 o12 _ 0 64 1 1 [[97]] DK12.out rfl GE.out OB12.out BL12.out HP.out).mono ?_
  rintro e w13 ⟨g13, tv13, rfl, hlo, hg13, ht13, b13⟩
  have LO13 := hide hlo
  have LSA13 := hide (LSA.out.below b13)
  clear hlo hg13 ht13 b13 LSA
  go_wp2_with fail
  refine (new_any 8 w13 (by omega) (by omega)).mono ?_
  rintro e w14 ⟨n, rfl, hd, ho, b14⟩
  have NS : Hid (NuSt w w14 o12 (D8.crash ⟨[], -1, 0⟩) g13 tv13 (.slice al 1 cl) n) := ⟨LO13.out.then b14, LSA13.out.below b14, ⟨hd, LO13.out.log.dk.k.below b14 LO13.out.log.dk.k.pos, fun e => by have := ho 0 e; have := LO13.out.below.size; have := HP.out; omega⟩, fun k hk => Nat.le_trans LO13.out.below.size (ho k hk)⟩
  clear hd ho b14 LO13 LSA13
  go_wp2_with fail
  refine (open_no n (S.Dk.new 8) 0 8 w14 NS.out.nd (by omega) (by show 0 + 8 ≤ (List.replicate 8 (S.zeros 128)).length; simp) (by rw [S.new_at 8 (0 + 0) (by omega), S.new_at 8 (0 + 1) (by omega)]; exact S.cur_zero 0 8)).mono ?_
  rintro e w15 ⟨rfl, b15⟩
  have NS15 := hide (NS.out.then b15)
  clear b15 NS
  go_wp2_with fail
  refine (open_arg n.ptr 0 9 w15 (areaOf_no n (S.Dk.new 8) 0 9 w15 NS15.out.nd.dk (by omega) (Or.inr (Or.inr (by show ((List.replicate 8 (S.zeros 128)).length : Int) - 9 < 0; simp)))) ⟨_, rfl⟩).mono ?_
  rintro e w16 ⟨rfl, b16⟩
  have NS16 := hide (NS15.out.then b16)
  clear b16 NS15
  go_wp2_with fail
  refine (open_arg (.pointer none) 0 4 w16 (areaOf_nil 0 4 w16) ⟨_, rfl⟩).mono ?_
  rintro e w17 ⟨rfl, b17⟩
  have NS17 := hide (NS16.out.then b17)
  clear b17 NS16
  obtain ⟨w18, hwa⟩ : ∃ x, x = w17.alloc (.cells #[.int .u8 97] 5 (1, 2)) := ⟨_, rfl⟩
  have ba : Below w17.heap.size w17 w18 := by rw [hwa]; exact (Below.refl _ _).alloc (Nat.le_refl _) _
  have ra : w18.heap[w17.heap.size]? = some (.cells (S.v8 [97]) 5 (1, 2)) := by rw [hwa]; exact heap_alloc_new _ _
  have za : w18.heap.size = w17.heap.size + 1 := by rw [hwa]; simp
  obtain ⟨w18b, hwb⟩ : ∃ x, x = w18.alloc (.cells #[.slice (some ⟨w17.heap.size, 0, none⟩) 1 1] 29) := ⟨_, rfl⟩
  have bb : Below w18.heap.size w18 w18b := by rw [hwb]; exact (Below.refl _ _).alloc (Nat.le_refl _) _
  have rb : w18b.heap[w18.heap.size]? = some (.cells #[.slice (some ⟨w17.heap.size, 0, none⟩) 1 1] 29 (0, 0)) := by rw [hwb]; exact heap_alloc_new _ _
  have bab := ba.trans (bb.mono ba.size)
  have LSB : Hid (LsAt w18b (.slice (some ⟨w17.heap.size + 1, 0, none⟩) 1 1) [[97]]) := by rw [← za]; exact one_ls rb (slice_mark ((bb.block _ (block_lt_of_row ra)).trans ra) (by simp))
  have NS18 := hide (NS17.out.then bab)
  rw [hwa] at hwb
  clear ba ra za bb rb bab hwa NS17
  go_wp2_with fail
  rw [← hwb]
  clear hwb
  refine (sameL_any _ _ _ _ w18b NS18.out.ls LSB.out (by simp)).mono ?_
  rintro e w19 ⟨rfl, st⟩
  have NS19 := hide (NS18.out.then (st.below _))
  have E1 : decide ([[97]] = [[(97 : UInt8)]]) = true := by decide
  rw [E1]
  clear st LSB NS18 E1
  go_wp2_with fail
  refine (records_go w w19 o12 _ g13 0 64 1 1 [[97]] tv13 NS19.out.lo (by simp)).mono ?_
  rintro e w20 ⟨lv, us2, rfl, hrec, b20⟩
  obtain ⟨al2, cl2, hlv⟩ := hrec.lists.shape
  subst hlv
  have HU1 : us2.length = 1 := hrec.copies.len
  rw [HU1] at hrec ⊢
  have LS20 := hide (hrec.ls (by decide))
  have NS20 := hide (NS19.out.then b20)
  clear hrec b20 HU1 NS19
  obtain ⟨w21, hwa⟩ : ∃ x, x = w20.alloc (.cells #[.int .u8 97] 5 (1, 2)) := ⟨_, rfl⟩
  have ba : Below w20.heap.size w20 w21 := by rw [hwa]; exact (Below.refl _ _).alloc (Nat.le_refl _) _
  have ra : w21.heap[w20.heap.size]? = some (.cells (S.v8 [97]) 5 (1, 2)) := by rw [hwa]; exact heap_alloc_new _ _
  have za : w21.heap.size = w20.heap.size + 1 := by rw [hwa]; simp
  obtain ⟨w21b, hwb⟩ : ∃ x, x = w21.alloc (.cells #[.slice (some ⟨w20.heap.size, 0, none⟩) 1 1] 29) := ⟨_, rfl⟩
  have bb : Below w21.heap.size w21 w21b := by rw [hwb]; exact (Below.refl _ _).alloc (Nat.le_refl _) _
  have rb : w21b.heap[w21.heap.size]? = some (.cells #[.slice (some ⟨w20.heap.size, 0, none⟩) 1 1] 29 (0, 0)) := by rw [hwb]; exact heap_alloc_new _ _
  have bab := ba.trans (bb.mono ba.size)
  have LSB : Hid (LsAt w21b (.slice (some ⟨w20.heap.size + 1, 0, none⟩) 1 1) [[97]]) := by rw [← za]; exact one_ls rb (slice_mark ((bb.block _ (block_lt_of_row ra)).trans ra) (by simp))
  have NS21 := hide (NS20.out.then bab)
  rw [hwa] at hwb
  have LSC := hide (LS20.out.below bab)
  clear ba ra za bb rb bab hwa NS20 LS20
  go_wp2_with fail
  rw [← hwb]
  clear hwb
  refine (sameL_any _ _ _ _ w21b LSC.out LSB.out (by simp)).mono ?_
  rintro e w22 ⟨rfl, st⟩
  have NS22 := hide (NS21.out.then (st.below _))
  have E1 : decide ([[97]] = [[(97 : UInt8)]]) = true := by decide
  rw [E1]
  clear st LSB LSC NS21 E1
  go_wp2_with fail
  refine (format_no n.ptr 0 3 w22 (areaOf_no n (S.Dk.new 8) 0 3 w22 NS22.out.nd.dk (by omega) (Or.inr (Or.inl (by omega)))) ⟨_, rfl⟩).mono ?_
  rintro e w23 ⟨rfl, b23⟩
  have NS23 := hide (NS22.out.then b23)
  clear b23 NS22
  go_wp2_with fail
  refine (format_no n.ptr (-1) 4 w23 (areaOf_no n (S.Dk.new 8) (-1) 4 w23 NS23.out.nd.dk (by omega) (Or.inl (by omega))) ⟨_, rfl⟩).mono ?_
  rintro e w24 ⟨rfl, b24⟩
  have NS24 := hide (NS23.out.then b24)
  clear b24 NS23
  go_wp2_with fail
  refine (format_yes n (S.Dk.new 8) 4 4 w24 NS24.out.nd (by show 4 + 4 ≤ (List.replicate 8 (S.zeros 128)).length; simp) (by omega) (Nat.zero_le _) (fun k h1 h2 => S.new_at 8 (4 + k) (by omega))).mono ?_
  rintro e w25 ⟨rfl, n2, h2, h3⟩
  rw [(S.Dk.plan_goes (S.fmtActs 4 4) (S.Dk.new 8) rfl).1]
  have e0 : S.why true = 0 := rfl
  rw [e0]
  have KF := hide (NS24.out.nd.to h2 h3).k
  have BF := hide (NS24.out.lo.below.trans (h3.chg.below _ NS24.out.lo.below.size (fun k hk e => by have := NS24.out.nb k e; omega)))
  clear h2 h3 e0 NS24
  go_wp2_with fail
  refine (known_any w25 KF.out).mono ?_
  rintro e w26 ⟨rfl, b26⟩
  have BG := hide (BF.out.trans (b26.mono BF.out.size))
  clear b26
  go_wp2_with fail
  go_ret
  exact ⟨rfl, BG.out⟩
end Go.Proofs.YtfjkddjdmlnbnaaDoor
