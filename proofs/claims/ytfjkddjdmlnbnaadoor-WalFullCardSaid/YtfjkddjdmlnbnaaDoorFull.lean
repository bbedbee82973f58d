/- WalFull: records are taken as long as there is room; none is lost; cleared, there is room as in an empty log. -/
import Derived.Test.YtfjkddjdmlnbnaaDoorGw
import Derived.Test.YtfjkddjdmlnbnaaDoorGa
namespace Go.Proofs.YtfjkddjdmlnbnaaDoor
open Go.RowKit

namespace S
/-- The records of WalFull. -/
def fills (s k : Nat) : List (List UInt8) := (List.range k).map fun i => rec s (UInt8.ofNat i)
theorem fills_length (s k : Nat) : (fills s k).length = k := by simp [fills]
theorem fills_succ (s k : Nat) : fills s (k + 1) = fills s k ++ [rec s (UInt8.ofNat k)] := by simp [fills, List.range_succ]
theorem fills_ne (s k : Nat) (h : 0 < s) : ∀ r ∈ fills s k, r ≠ [] := fun r hr => by
  simp only [fills, List.mem_map] at hr
  obtain ⟨i, _, rfl⟩ := hr
  exact rec_ne s _ h
theorem fills_at (s k j : Nat) (h : j < k) : (fills s k).getD j [] = rec s (UInt8.ofNat j) := by
  simp [fills, List.getD_eq_getElem?_getD, h]
theorem fills_enc (s k : Nat) : (enc (fills s k)).length = k * (3 + s) := by
  induction k with
  | zero => simp [fills, enc]
  | succ k ih => rw [fills_succ, enc_snoc_length, ih, rec_length, Nat.add_mul]; omega
end S
set_option maxHeartbeats 16000000 in
set_option maxRecDepth 10000 in
theorem walFull_walk (a b : Int) (w : World) (ha1 : -9223372036854775808 ≤ a) (ha2 : a ≤ 9223372036854775807) (hb1 : -9223372036854775808 ≤ b) (hb2 : b ≤ 9223372036854775807) (hK : KAt w) :
   Calls Tryd.prog 8 #[.int .i64 a, .int .i64 b] w fun e w' => e = .returned (.bool true) ∧ Below w.heap.size w w' := by
  have HK := hide hK
  have HP : Hid (0 < w.heap.size) := hK.pos
  clear hK
  go_enter Tryd.func8, Tryd.ntmps8
  go_wp2_with fail
  refine (within_any b 30 w hb1 hb2 (by omega) (by omega)).mono ?_
  rintro e w1 ⟨rfl, rfl⟩
  have hle := S.within_le b 30 (by omega)
  obtain ⟨c, hc⟩ : ∃ c : Nat, c = S.within b 30 + 4 := ⟨_, rfl⟩
  have q0 : ((S.within b 30 : Nat) : Int) + 4 = (c : Int) := by omega
  have hc4 : 4 ≤ c := by omega
  have hc34 : c ≤ 34 := by omega
  clear hc hle
  go_wp2_with fail
  refine (begun_any c 0 c w w (by omega) (by omega) (by omega) (Below.refl _ _) HP.out HK.out).mono ?_
  rintro e w1 ⟨o, g, tv, rfl, hlo, hob, hgb, htb, b1⟩
  have LO1 := hide hlo
  clear hlo hob hgb htb b1 q0
  go_wp2_with fail
  refine (room_log o 0 c g _ tv true w1 LO1.out.log.lg.row LO1.out.log.good.hd (by omega) (by omega)).mono ?_
  rintro e w2 ⟨rfl, b2⟩
  have LO2 := hide (LO1.out.then b2)
  have hrr : S.room c - (S.hdOf 0 []).used - 3 = (c - 2) * 120 - 3 := rfl
  rw [hrr]
  obtain ⟨R0, hR0⟩ : ∃ R0, R0 = (c - 2) * 120 - 3 := ⟨_, rfl⟩
  rw [← hR0]
  have qr : ¬ ((R0 : Int) < ((c : Int) - 3) * 128 / 2) := by omega
  clear b2 hrr hR0 LO1
  go_wp2_with fail
  refine (within_any a 300 w2 ha1 ha2 (by omega) (by omega)).mono ?_
  rintro e w3 ⟨rfl, rfl⟩
  have hle := S.within_le a 300 (by omega)
  obtain ⟨s, hs⟩ : ∃ s : Nat, s = S.within a 300 + 1 := ⟨_, rfl⟩
  have q0 : ((S.within a 300 : Nat) : Int) + 1 = (s : Int) := by omega
  have hs0 : 0 < s := by omega
  have hs3 : s ≤ 301 := by omega
  clear hs hle qr
  go_wp2_with fail
  go_loopw [8, 9] (fun n i wr => ∃ (k : Nat) (o1 : Ow) (d1 : S.Dk) (p1 t1 : Nat) (tv1 : Value), k ≤ 400 ∧ n = .int .i64 (k : Int) ∧ i = .int .i64 (k : Int) ∧ Hid (t1 = k) ∧ o1.g = o.g ∧ d1.left = none ∧ Lo w wr o1 d1 g 0 c p1 t1 (S.fills s k) tv1) (fun _ i _ => 400 - (intOf i).toNat)
  case atStart => exact ⟨0, o, _, 0, 0, tv, by omega, rfl, rfl, rfl, rfl, rfl, LO2.out⟩
  case round =>
    obtain ⟨k, o1, d1, p1, t1, tv1, hk, rfl, rfl, htk, hpg, hlf, hlo⟩ := hrel
    have LO := hide hlo
    have PG := hide hpg
    have LF := hide hlf
    have ht1 : t1 ≤ 400 := by have := htk.out; omega
    clear hlo hpg hlf LO2
    by_cases hk4 : k < 400
    · have q1 : (k : Int) < 400 := by omega
      go_wp2_with fail
      refine (room_log o1 0 c g _ tv1 true wr LO.out.log.lg.row LO.out.log.good.hd (by omega) (by omega)).mono ?_
      rintro e w3 ⟨rfl, b3⟩
      have LO3 := hide (LO.out.then b3)
      have hrr : S.room c - (S.hdOf t1 (S.fills s k)).used - 3 = S.room c - (S.enc (S.fills s k)).length - 3 := rfl
      rw [hrr]
      obtain ⟨R, hR⟩ : ∃ R, R = S.room c - (S.enc (S.fills s k)).length - 3 := ⟨_, rfl⟩
      rw [← hR]
      have HR := hide hR
      have hRb : R ≤ 982800 := by rw [hR]; have := S.room_le (c := c) (by omega); omega
      obtain ⟨C, hC⟩ : ∃ C, C = UInt8.ofNat k := ⟨_, rfl⟩
      have q4 : (k : Int) % 256 = (C.toNat : Int) := by rw [hC]; exact byte_cast k
      have HC := hide hC
      clear b3 hrr hR hC LO
      go_wp2_with fail
      refine (record_any s C w3 (by omega)).mono ?_
      rintro e w4 ⟨gr, rfl, hgr, hrr, b4⟩
      have LO4 := hide (LO3.out.then b4)
      have hgl : g < w3.heap.size := block_lt_of_row LO3.out.log.lg.row
      have htl : ∀ x, tv1.ownBlock = some x → x < w3.heap.size := fun x hx => LO3.out.log.lg.text.lt hx
      have KP := hide (keeps_row (g := g) (tv := tv1) hrr (by omega) (fun e => by have := htl _ e; omega) (by rw [S.rec_length]; omega))
      rw [S.rec_length] at KP
      clear hgr hrr b4 hgl htl LO3
      by_cases hfit : s ≤ R
      · have qf : (s : Int) ≤ (R : Int) := by omega
        have qf2 : decide ((s : Int) ≤ (R : Int)) = true := decide_eq_true qf
        have HFIT : Hid ((S.rec s C).length ≤ S.room c - (S.enc (S.fills s k)).length - 3) := by show (S.rec s C).length ≤ _; rw [S.rec_length, ← HR.out]; exact hfit
        go_wp2_with fail
        refine (commit_go w w4 o1 d1 g 0 c p1 t1 (S.fills s k) tv1 (some ⟨gr, 0, none⟩) s s (S.rec s C) LO4.out LF.out (by omega) KP.out (S.rec_ne s C hs0) HFIT.out).mono ?_
        rintro e w5 ⟨rfl, o5, tv5, wt⟩
        have LO5 := hide wt.lo
        have PG5 : Hid (o5.g = o.g) := wt.moved.ptr.trans PG.out
        have TK5 : Hid (t1 + 1 = k + 1) := by show t1 + 1 = k + 1; rw [htk.out]
        have q5 : IntKind.i64.wrap ((k : Int) + 1) = (k : Int) + 1 := by rw [IntKind.wrap_i64]; omega
        have EF : Hid (S.fills s k ++ [S.rec s C] = S.fills s (k + 1)) := by rw [HC.out]; exact (S.fills_succ s k).symm
        clear wt
        go_wp2_with fail
        go_roundw
        case rel => exact ⟨k + 1, o5, { d1 with safe := S.after d1.safe 0 c p1 t1 (S.fills s k) (S.fills s k ++ [S.rec s C]), pend := [] }, _, t1 + 1, tv5, by omega, by go_num, by go_num, TK5, PG5.out, LF.out, by rw [← EF.out]; exact LO5.out⟩
        case measure => simp [intOf]; omega
      · have qf : ¬ (s : Int) ≤ (R : Int) := by omega
        have qf2 : decide ((s : Int) ≤ (R : Int)) = false := decide_eq_false qf
        go_wp2_with fail
        refine (commit_full o1 0 c g _ tv1 true (some ⟨gr, 0, none⟩) s s w4 LO4.out.log.lg.row LO4.out.log.good.hd (by omega) (by omega) (by show S.room c - (S.enc (S.fills s k)).length - 3 < s; rw [← HR.out]; omega)).mono ?_
        rintro e w5 ⟨rfl, b5⟩
        have LO := hide (LO4.out.then b5)
        clear b5 LO4 KP
        obtain ⟨wr, hwr⟩ : ∃ x : World, x = w5 := ⟨_, rfl⟩
        rw [← hwr] at LO ⊢
        clear hwr
        have HPT := hide (show o1.ptr = o.ptr by unfold Ow.ptr; rw [PG.out])
        rw [← HPT.out]
        go_wp2_with fail
        refine (open_go w wr o1 d1 0 c p1 t1 (S.fills s k) LO.out.log.dk LO.out.log.pend LO.out.log.good LO.out.ob LO.out.below HP.out).mono ?_
        rintro e w4 ⟨g4, tv4, rfl, hlo4, hg4, ht4, b4⟩
        have LO4 := hide hlo4
        clear hlo4 hg4 ht4 b4
        go_wp2_with fail
        refine (records_go w w4 o1 d1 g4 0 c p1 t1 _ tv4 LO4.out (S.fills_ne s k hs0)).mono ?_
        rintro e w5 ⟨lv, us, rfl, hrec, b5⟩
        obtain ⟨al, cl, hlv⟩ := hrec.lists.shape
        subst hlv
        have hul : us.length = k := by rw [hrec.copies.len, S.fills_length]
        rw [hul]
        have LO5 := hide (LO4.out.then b5)
        clear hrec b5 hul
        go_wp2_with fail
        refine (records_go w w5 o1 d1 g4 0 c p1 t1 _ tv4 LO5.out (S.fills_ne s k hs0)).mono ?_
        rintro e w6 ⟨lv2, us2, rfl, hrec, b6⟩
        obtain ⟨al2, cl2, hlv⟩ := hrec.lists.shape
        subst hlv
        have hul : us2.length = k := by rw [hrec.copies.len, S.fills_length]
        have LO6 := hide (LO5.out.then b6)
        have LS6 := hide (hrec.ls (by have := LO5.out.log.good.room; have := S.room_le LO5.out.log.good.most; omega))
        rw [hul] at LS6 ⊢
        clear hrec b6 hul
        go_wp2_with fail
        go_loopw [92] (fun i wq => ∃ j : Nat, j ≤ k ∧ i = .int .i64 (j : Int) ∧ Below w6.heap.size w6 wq) (fun i _ => k - (intOf i).toNat)
        case atStart => exact ⟨0, Nat.zero_le _, rfl, Below.refl _ _⟩
        case round =>
          obtain ⟨j, hj, rfl, hbq⟩ := hrel
          by_cases hjk : j < k
          · have LSq := LS6.out.below hbq
            obtain ⟨vs, hLv, hRv⟩ := LSq
            have hvl : vs.length = k := by rw [hRv.1, S.fills_length]
            obtain ⟨gl, off, cc, hlv, hcap, hcell⟩ := hLv.at j (by omega)
            simp only [Value.slice.injEq] at hlv
            obtain ⟨rfl, hz0, rfl⟩ := hlv
            have hsv := hRv.2 j (by rw [S.fills_length]; exact hjk)
            rw [S.fills_at s k j hjk] at hsv
            obtain ⟨ax, nx, cx, hx, hz1, hz2⟩ := hsv.form
            rw [hx] at hsv hcell
            have HSV := hide hsv
            have BQ := hide hbq
            obtain ⟨C, hC⟩ : ∃ C, C = UInt8.ofNat j := ⟨_, rfl⟩
            rw [← hC] at HSV
            have q1 : (0 : Int) ≤ (j : Int) := by omega
            have q2 : (j : Int) < (k : Int) := by omega
            have q3 : IntKind.i64.wrap ((j : Int) + 1) = (j : Int) + 1 := by rw [IntKind.wrap_i64]; omega
            have q4 : IntKind.u8.wrap (j : Int) = (C.toNat : Int) := by rw [IntKind.wrap_u8, hC]; exact byte_cast j
            obtain ⟨X, hX⟩ : ∃ X, X = S.rec s C := ⟨_, rfl⟩
            rw [← hX] at HSV
            have HX := hide hX
            clear hLv hRv hvl hcap hz0 hz1 hz2 hx hsv hbq hC hX
            go_upto_region 22 with fail
            clear hcell
            refine wp_region_noPanic ?_
            refine wp_region_held_drew (S := (fun W => SliceAt W (.slice ax nx cx) X)) follows (HSV.out.below (Below.refl wr.heap.size wr).drew (Nat.le_refl _)) (fun hHeld => ?_)
            have B8 : Hid (Below w6.heap.size w6 wr.drew) := BQ.out.drew
            clear BQ HSV
            generalize wr.drew = Z1 at B8 hHeld ⊢
            refine wpAnyH_take (i := 0) (oi := { dst := some 97, op := Op.move (Operand.tmp 15), type := 29, pos := "law.go:294", after := #[], guard := none }) (v := ?_) rfl (by kernel_rfl) (by kernel_rfl) (by kernel_rfl) (fun _ _ _ h => h) (Or.inl ⟨by rfl, ?_⟩) (by assumption) ?_
            rotate_left
            · intro w hSw
              clear hSw
              go_simp
              all_goals with_reducible rfl
            simp only [Act.put, List.setIfInBounds_toArray, List.set_cons_zero, List.set_cons_succ]
            refine wpAnyH_take (i := 1) (oi := { dst := some 98, op := Op.convert 29 9 (Operand.tmp 97), type := 9, pos := "law.go:294", after := #[{ on := 0, ground := Ground.data }], guard := none }) (v := .string ⟨(X).toArray⟩) rfl (by kernel_rfl) (by kernel_rfl) (by kernel_rfl) (fun _ _ _ h => h) (yieldsIf_conv (by kernel_rfl) (.tmp 97) rfl (.slice ax nx cx) rfl (X) (fun W hW => hW)) (by assumption) ?_
            simp only [Act.put, List.setIfInBounds_toArray, List.set_cons_zero, List.set_cons_succ]
            refine wpAnyH_take (i := 2) (oi := { dst := some 99, op := Op.move (Operand.tmp 0), type := 3, pos := "law.go:294", after := #[], guard := none }) (v := ?_) rfl (by kernel_rfl) (by kernel_rfl) (by kernel_rfl) (fun _ _ _ h => h) (Or.inl ⟨by rfl, ?_⟩) (by assumption) ?_
            rotate_left
            · intro w hSw
              clear hSw
              go_simp
              all_goals with_reducible rfl
            simp only [Act.put, List.setIfInBounds_toArray, List.set_cons_zero, List.set_cons_succ]
            refine wpAnyH_take (i := 3) (oi := { dst := some 100, op := Op.move (Operand.tmp 14), type := 3, pos := "law.go:294", after := #[], guard := none }) (v := ?_) rfl (by kernel_rfl) (by kernel_rfl) (by kernel_rfl) (fun _ _ _ h => h) (Or.inl ⟨by rfl, ?_⟩) (by assumption) ?_
            rotate_left
            · intro w hSw
              clear hSw
              go_simp
              all_goals with_reducible rfl
            simp only [Act.put, List.setIfInBounds_toArray, List.set_cons_zero, List.set_cons_succ]
            refine wpAnyH_take (i := 4) (oi := { dst := some 101, op := Op.convert 3 5 (Operand.tmp 100), type := 5, pos := "law.go:294", after := #[{ on := 3, ground := Ground.data }], guard := none }) (v := ?_) rfl (by kernel_rfl) (by kernel_rfl) (by kernel_rfl) (fun _ _ _ h => h) (Or.inl ⟨by rfl, ?_⟩) (by assumption) ?_
            rotate_left
            · intro w hSw
              clear hSw
              go_simp
              all_goals with_reducible rfl
            simp only [Act.put, List.setIfInBounds_toArray, List.set_cons_zero, List.set_cons_succ]
            refine wpAnyH_ready (rs := [5]) (by kernel_rfl) (by simp) ?_
            refine AllReadyH.cons (o := { dst := some 102, op := Op.call { callee := Callee.value (Operand.func 20), args := #[Operand.tmp 99, Operand.tmp 101], argTypes := #[3, 5] }, type := 29, pos := "law.go:294", after := #[{ on := 2, ground := Ground.data }, { on := 4, ground := Ground.data }], guard := none }) rfl (fun K hK => ?_) AllReadyH.nil
            go_simp
            refine (record_any s C Z1 (by omega)).mono ?_
            rintro e Z2 ⟨gr, rfl, hgr, hrr, b2⟩
            have a2 := SliceAt.below hHeld b2 (Nat.le_refl _)
            clear hHeld
            refine hK.out _ _ a2 (fun hHeld => ?_)
            clear hK K
            try simp only [Act.put, List.setIfInBounds_toArray, List.set_cons_zero, List.set_cons_succ]
            have RR := hide hrr
            have B9 := hide (B8.out.trans (b2.mono B8.out.size))
            have hsr : SliceAt Z2 (.slice (some ⟨gr, 0, none⟩) s s) (S.rec s C) := slice_row hrr (S.rec_length s C).symm (by rw [S.rec_length]; omega)
            rw [← HX.out] at hsr
            clear a2 hgr hrr b2 B8 RR
            have hcv := conv_slice hsr
            refine wpAnyH_ready (rs := [6]) (by kernel_rfl) (by simp) ?_
            refine AllReadyH.cons (o := { dst := some 103, op := Op.convert 29 9 (Operand.tmp 102), type := 9, pos := "law.go:294", after := #[{ on := 5, ground := Ground.data }], guard := none }) rfl (fun K hK => ?_) AllReadyH.nil
            go_simp
            clear hcv hsr
            refine hK.out _ _ hHeld (fun hHeld => ?_)
            clear hK K
            try simp only [Act.put, List.setIfInBounds_toArray, List.set_cons_zero, List.set_cons_succ]
            refine wpAnyH_take (i := 7) (oi := { dst := some 104, op := Op.binOp BinOp.neq 9 (Operand.tmp 98) (Operand.tmp 103) 9, type := 4, pos := "law.go:294", after := #[{ on := 1, ground := Ground.data }, { on := 6, ground := Ground.data }], guard := none }) (v := ?_) rfl (by kernel_rfl) (by kernel_rfl) (by kernel_rfl) (fun _ _ _ h => h) (Or.inl ⟨by rfl, ?_⟩) (by assumption) ?_
            rotate_left
            · intro w hSw
              clear hSw
              go_simp
              all_goals with_reducible rfl
            simp only [Act.put, List.setIfInBounds_toArray, List.set_cons_zero, List.set_cons_succ]
            refine wpAnyH_done (by kernel_rfl) ?_ _
            refine NoPanic.normal ?_
            clear hHeld
            go_wp2_with fail
            go_roundw
            case rel => exact ⟨j + 1, by omega, by go_num, B9.out⟩
            case measure => simp [intOf]; omega
          · have q2 : ¬ ((j : Int) < (k : Int)) := by omega
            have LOq := hide (LO6.out.then hbq)
            clear hbq
            go_wp2_with fail
            refine (clear_go w wr o1 d1 g4 0 c p1 t1 _ tv4 LOq.out LF.out (by omega)).mono ?_
            rintro e w7 ⟨rfl, o7, tv7, wt⟩
            have LO7 := hide wt.lo
            clear wt
            go_wp2_with fail
            refine (records_go w w7 o7 _ g4 0 c _ _ _ tv7 LO7.out (by simp)).mono ?_
            rintro e w8 ⟨lv8, us8, rfl, hrec, b8⟩
            obtain ⟨al8, cl8, hlv⟩ := hrec.lists.shape
            subst hlv
            have hul : us8.length = 0 := hrec.copies.len
            rw [hul]
            have LO8 := hide (LO7.out.then b8)
            clear hrec b8 hul
            go_wp2_with fail
            refine (room_log o7 0 c g4 _ tv7 true w8 LO8.out.log.lg.row LO8.out.log.good.hd (by omega) (by omega)).mono ?_
            rintro e w9 ⟨rfl, b9⟩
            have LO9 := hide (LO8.out.then b9)
            have hrr : S.room c - (S.hdOf (t1 + 1) []).used - 3 = (c - 2) * 120 - 3 := rfl
            rw [hrr]
            obtain ⟨RR, hRR⟩ : ∃ RR, RR = (c - 2) * 120 - 3 := ⟨_, rfl⟩
            rw [← hRR]
            have qr : ((c : Int) - 3) * 128 / 2 ≤ (RR : Int) := by omega
            have qr2 : decide (((c : Int) - 3) * 128 / 2 ≤ (RR : Int)) = true := decide_eq_true qr
            clear b9 hrr hRR
            go_wp2_with fail
            refine (known_any w9 LO9.out.log.dk.k).mono ?_
            rintro e w10 ⟨rfl, b10⟩
            have BF := hide (LO9.out.below.trans (b10.mono LO9.out.below.size))
            clear b10
            go_wp2_with fail
            go_ret
            exact ⟨rfl, BF.out⟩
    · have q1 : ¬ ((k : Int) < 400) := by omega
      have HPT := hide (show o1.ptr = o.ptr by unfold Ow.ptr; rw [PG.out])
      rw [← HPT.out]
      go_wp2_with fail
      refine (open_go w wr o1 d1 0 c p1 t1 (S.fills s k) LO.out.log.dk LO.out.log.pend LO.out.log.good LO.out.ob LO.out.below HP.out).mono ?_
      rintro e w4 ⟨g4, tv4, rfl, hlo4, hg4, ht4, b4⟩
      have LO4 := hide hlo4
      clear hlo4 hg4 ht4 b4
      go_wp2_with fail
      refine (records_go w w4 o1 d1 g4 0 c p1 t1 _ tv4 LO4.out (S.fills_ne s k hs0)).mono ?_
      rintro e w5 ⟨lv, us, rfl, hrec, b5⟩
      obtain ⟨al, cl, hlv⟩ := hrec.lists.shape
      subst hlv
      have hul : us.length = k := by rw [hrec.copies.len, S.fills_length]
      rw [hul]
      have LO5 := hide (LO4.out.then b5)
      clear hrec b5 hul
      go_wp2_with fail
      refine (records_go w w5 o1 d1 g4 0 c p1 t1 _ tv4 LO5.out (S.fills_ne s k hs0)).mono ?_
      rintro e w6 ⟨lv2, us2, rfl, hrec, b6⟩
      obtain ⟨al2, cl2, hlv⟩ := hrec.lists.shape
      subst hlv
      have hul : us2.length = k := by rw [hrec.copies.len, S.fills_length]
      have LO6 := hide (LO5.out.then b6)
      have LS6 := hide (hrec.ls (by have := LO5.out.log.good.room; have := S.room_le LO5.out.log.good.most; omega))
      rw [hul] at LS6 ⊢
      clear hrec b6 hul
      go_wp2_with fail
      go_loopw [92] (fun i wq => ∃ j : Nat, j ≤ k ∧ i = .int .i64 (j : Int) ∧ Below w6.heap.size w6 wq) (fun i _ => k - (intOf i).toNat)
      case atStart => exact ⟨0, Nat.zero_le _, rfl, Below.refl _ _⟩
      case round =>
        obtain ⟨j, hj, rfl, hbq⟩ := hrel
        by_cases hjk : j < k
        · have LSq := LS6.out.below hbq
          obtain ⟨vs, hLv, hRv⟩ := LSq
          have hvl : vs.length = k := by rw [hRv.1, S.fills_length]
          obtain ⟨gl, off, cc, hlv, hcap, hcell⟩ := hLv.at j (by omega)
          simp only [Value.slice.injEq] at hlv
          obtain ⟨rfl, hz0, rfl⟩ := hlv
          have hsv := hRv.2 j (by rw [S.fills_length]; exact hjk)
          rw [S.fills_at s k j hjk] at hsv
          obtain ⟨ax, nx, cx, hx, hz1, hz2⟩ := hsv.form
          rw [hx] at hsv hcell
          have HSV := hide hsv
          have BQ := hide hbq
          obtain ⟨C, hC⟩ : ∃ C, C = UInt8.ofNat j := ⟨_, rfl⟩
          rw [← hC] at HSV
          have q1 : (0 : Int) ≤ (j : Int) := by omega
          have q2 : (j : Int) < (k : Int) := by omega
          have q3 : IntKind.i64.wrap ((j : Int) + 1) = (j : Int) + 1 := by rw [IntKind.wrap_i64]; omega
          have q4 : IntKind.u8.wrap (j : Int) = (C.toNat : Int) := by rw [IntKind.wrap_u8, hC]; exact byte_cast j
          obtain ⟨X, hX⟩ : ∃ X, X = S.rec s C := ⟨_, rfl⟩
          rw [← hX] at HSV
          have HX := hide hX
          clear hLv hRv hvl hcap hz0 hz1 hz2 hx hsv hbq hC hX
          go_upto_region 22 with fail
          clear hcell
          refine wp_region_noPanic ?_
          refine wp_region_held_drew (S := (fun W => SliceAt W (.slice ax nx cx) X)) follows (HSV.out.below (Below.refl wr.heap.size wr).drew (Nat.le_refl _)) (fun hHeld => ?_)
          have B8 : Hid (Below w6.heap.size w6 wr.drew) := BQ.out.drew
          clear BQ HSV
          generalize wr.drew = Z1 at B8 hHeld ⊢
          refine wpAnyH_take (i := 0) (oi := { dst := some 97, op := Op.move (Operand.tmp 15), type := 29, pos := "law.go:294", after := #[], guard := none }) (v := ?_) rfl (by kernel_rfl) (by kernel_rfl) (by kernel_rfl) (fun _ _ _ h => h) (Or.inl ⟨by rfl, ?_⟩) (by assumption) ?_
          rotate_left
          · intro w hSw
            clear hSw
            go_simp
            all_goals with_reducible rfl
          simp only [Act.put, List.setIfInBounds_toArray, List.set_cons_zero, List.set_cons_succ]
          refine wpAnyH_take (i := 1) (oi := { dst := some 98, op := Op.convert 29 9 (Operand.tmp 97), type := 9, pos := "law.go:294", after := #[{ on := 0, ground := Ground.data }], guard := none }) (v := .string ⟨(X).toArray⟩) rfl (by kernel_rfl) (by kernel_rfl) (by kernel_rfl) (fun _ _ _ h => h) (yieldsIf_conv (by kernel_rfl) (.tmp 97) rfl (.slice ax nx cx) rfl (X) (fun W hW => hW)) (by assumption) ?_
          simp only [Act.put, List.setIfInBounds_toArray, List.set_cons_zero, List.set_cons_succ]
          refine wpAnyH_take (i := 2) (oi := { dst := some 99, op := Op.move (Operand.tmp 0), type := 3, pos := "law.go:294", after := #[], guard := none }) (v := ?_) rfl (by kernel_rfl) (by kernel_rfl) (by kernel_rfl) (fun _ _ _ h => h) (Or.inl ⟨by rfl, ?_⟩) (by assumption) ?_
          rotate_left
          · intro w hSw
            clear hSw
            go_simp
            all_goals with_reducible rfl
          simp only [Act.put, List.setIfInBounds_toArray, List.set_cons_zero, List.set_cons_succ]
          refine wpAnyH_take (i := 3) (oi := { dst := some 100, op := Op.move (Operand.tmp 14), type := 3, pos := "law.go:294", after := #[], guard := none }) (v := ?_) rfl (by kernel_rfl) (by kernel_rfl) (by kernel_rfl) (fun _ _ _ h => h) (Or.inl ⟨by rfl, ?_⟩) (by assumption) ?_
          rotate_left
          · intro w hSw
            clear hSw
            go_simp
            all_goals with_reducible rfl
          simp only [Act.put, List.setIfInBounds_toArray, List.set_cons_zero, List.set_cons_succ]
          refine wpAnyH_take (i := 4) (oi := { dst := some 101, op := Op.convert 3 5 (Operand.tmp 100), type := 5, pos := "law.go:294", after := #[{ on := 3, ground := Ground.data }], guard := none }) (v := ?_) rfl (by kernel_rfl) (by kernel_rfl) (by kernel_rfl) (fun _ _ _ h => h) (Or.inl ⟨by rfl, ?_⟩) (by assumption) ?_
          rotate_left
          · intro w hSw
            clear hSw
            go_simp
            all_goals with_reducible rfl
          simp only [Act.put, List.setIfInBounds_toArray, List.set_cons_zero, List.set_cons_succ]
          refine wpAnyH_ready (rs := [5]) (by kernel_rfl) (by simp) ?_
          refine AllReadyH.cons (o := { dst := some 102, op := Op.call { callee := Callee.value (Operand.func 20), args := #[Operand.tmp 99, Operand.tmp 101], argTypes := #[3, 5] }, type := 29, pos := "law.go:294", after := #[{ on := 2, ground := Ground.data }, { on := 4, ground := Ground.data }], guard := none }) rfl (fun K hK => ?_) AllReadyH.nil
          go_simp
          refine (record_any s C Z1 (by omega)).mono ?_
          rintro e Z2 ⟨gr, rfl, hgr, hrr, b2⟩
          have a2 := SliceAt.below hHeld b2 (Nat.le_refl _)
          clear hHeld
          refine hK.out _ _ a2 (fun hHeld => ?_)
          clear hK K
          try simp only [Act.put, List.setIfInBounds_toArray, List.set_cons_zero, List.set_cons_succ]
          have RR := hide hrr
          have B9 := hide (B8.out.trans (b2.mono B8.out.size))
          have hsr : SliceAt Z2 (.slice (some ⟨gr, 0, none⟩) s s) (S.rec s C) := slice_row hrr (S.rec_length s C).symm (by rw [S.rec_length]; omega)
          rw [← HX.out] at hsr
          clear a2 hgr hrr b2 B8 RR
          have hcv := conv_slice hsr
          refine wpAnyH_ready (rs := [6]) (by kernel_rfl) (by simp) ?_
          refine AllReadyH.cons (o := { dst := some 103, op := Op.convert 29 9 (Operand.tmp 102), type := 9, pos := "law.go:294", after := #[{ on := 5, ground := Ground.data }], guard := none }) rfl (fun K hK => ?_) AllReadyH.nil
          go_simp
          clear hcv hsr
          refine hK.out _ _ hHeld (fun hHeld => ?_)
          clear hK K
          try simp only [Act.put, List.setIfInBounds_toArray, List.set_cons_zero, List.set_cons_succ]
          refine wpAnyH_take (i := 7) (oi := { dst := some 104, op := Op.binOp BinOp.neq 9 (Operand.tmp 98) (Operand.tmp 103) 9, type := 4, pos := "law.go:294", after := #[{ on := 1, ground := Ground.data }, { on := 6, ground := Ground.data }], guard := none }) (v := ?_) rfl (by kernel_rfl) (by kernel_rfl) (by kernel_rfl) (fun _ _ _ h => h) (Or.inl ⟨by rfl, ?_⟩) (by assumption) ?_
          rotate_left
          · intro w hSw
            clear hSw
            go_simp
            all_goals with_reducible rfl
          simp only [Act.put, List.setIfInBounds_toArray, List.set_cons_zero, List.set_cons_succ]
          refine wpAnyH_done (by kernel_rfl) ?_ _
          refine NoPanic.normal ?_
          clear hHeld
          go_wp2_with fail
          go_roundw
          case rel => exact ⟨j + 1, by omega, by go_num, B9.out⟩
          case measure => simp [intOf]; omega
        · have q2 : ¬ ((j : Int) < (k : Int)) := by omega
          have LOq := hide (LO6.out.then hbq)
          clear hbq
          go_wp2_with fail
          refine (clear_go w wr o1 d1 g4 0 c p1 t1 _ tv4 LOq.out LF.out (by omega)).mono ?_
          rintro e w7 ⟨rfl, o7, tv7, wt⟩
          have LO7 := hide wt.lo
          clear wt
          go_wp2_with fail
          refine (records_go w w7 o7 _ g4 0 c _ _ _ tv7 LO7.out (by simp)).mono ?_
          rintro e w8 ⟨lv8, us8, rfl, hrec, b8⟩
          obtain ⟨al8, cl8, hlv⟩ := hrec.lists.shape
          subst hlv
          have hul : us8.length = 0 := hrec.copies.len
          rw [hul]
          have LO8 := hide (LO7.out.then b8)
          clear hrec b8 hul
          go_wp2_with fail
          refine (room_log o7 0 c g4 _ tv7 true w8 LO8.out.log.lg.row LO8.out.log.good.hd (by omega) (by omega)).mono ?_
          rintro e w9 ⟨rfl, b9⟩
          have LO9 := hide (LO8.out.then b9)
          have hrr : S.room c - (S.hdOf (t1 + 1) []).used - 3 = (c - 2) * 120 - 3 := rfl
          rw [hrr]
          obtain ⟨RR, hRR⟩ : ∃ RR, RR = (c - 2) * 120 - 3 := ⟨_, rfl⟩
          rw [← hRR]
          have qr : ((c : Int) - 3) * 128 / 2 ≤ (RR : Int) := by omega
          have qr2 : decide (((c : Int) - 3) * 128 / 2 ≤ (RR : Int)) = true := decide_eq_true qr
          clear b9 hrr hRR
          go_wp2_with fail
          refine (known_any w9 LO9.out.log.dk.k).mono ?_
          rintro e w10 ⟨rfl, b10⟩
          have BF := hide (LO9.out.below.trans (b10.mono LO9.out.below.size))
          clear b10
          go_wp2_with fail
          go_ret
          exact ⟨rfl, BF.out⟩
end Go.Proofs.YtfjkddjdmlnbnaaDoor
