/- The walk of CodecNumbers: chapter 2's runs come out as the document says; nothing that was there changes. -/
import Derived.Test.YtdhaeepaemneaaaDoorSay
namespace Go.Proofs.YtdhaeepaemneaaaDoor
open Go.RowKit
theorem lit_slice (w : World) (xs : List UInt8) (hl : xs.length ≤ 140737488355328) : SliceAt (w.alloc (.cells (S.v8 xs) 5)) (.slice (some ⟨w.heap.size, 0, none⟩) xs.length xs.length) xs := (stays_row (p := fun _ => False) (heap_alloc_new _ _) (fun e => e) hl).now
theorem num_a : (S.Rd.mk [1] 0 0 0).number 2 = (⟨[1], 0, 1, 10⟩, 0) := by rfl
theorem num_b : (S.Rd.mk [1, 2] 0 0 0).number 1 = (⟨[1, 2], 1, 0, 0⟩, 1) := by rfl
theorem num_d : (S.Rd.mk [1, 2, 3] 0 0 0).number 1 = (⟨[1, 2, 3], 1, 0, 0⟩, 1) := by rfl
theorem num_d1 : (S.Rd.mk [1, 2, 3] 1 0 0).fail 0 = ⟨[1, 2, 3], 1, 1, 0⟩ := by rfl
theorem num_d2 : (S.Rd.mk [1, 2, 3] 1 1 0).fail 12 = ⟨[1, 2, 3], 1, 1, 12⟩ := by rfl
theorem num_d3 : (S.Rd.mk [1, 2, 3] 1 1 12).fail 1 = ⟨[1, 2, 3], 1, 1, 12⟩ := by rfl
theorem num_d4 : (S.Rd.mk [1, 2, 3] 1 1 12).number 1 = (⟨[1, 2, 3], 1, 1, 12⟩, 0) := by rfl
theorem num_w : ([] : List UInt8) ++ S.num 5 (S.size 9) = [0, 0, 0, 0, 0, 0, 0, 5] := by decide
theorem fin_a : (S.Rd.mk [1] 0 1 10).fin = (1, 10) := by rfl
theorem fin_b : (S.Rd.mk [1, 2] 1 0 0).fin = (1, 11) := by rfl
theorem fin_c : (S.Rd.mk [] 0 0 0).fin = (0, 0) := by rfl
theorem fin_d : (S.Rd.mk [1, 2, 3] 1 1 12).fin = (1, 12) := by rfl
set_option maxHeartbeats 4000000 in
set_option maxRecDepth 100000 in
theorem codecNumbers_walk (w : World) (hP : PowAt w) :
   Calls Tryd.prog 3 #[] w fun e w' => e = .returned (.bool true) ∧ Below w.heap.size w w' := by
  have HP := hide hP
  clear hP
  go_enter Tryd.func3, Tryd.ntmps3
  go_wp2_with fail
  generalize hW : World.alloc w _ = w1
  have hb : Below w.heap.size w w1 := by rw [← hW]; exact (Below.refl _ _).alloc (Nat.le_refl _) _
  have SL : Hid (SliceAt w1 (.slice (some ⟨w.heap.size, 0, none⟩) 1 1) [1]) := by rw [← hW]; exact lit_slice w [1] (by decide)
  have B1 := hide (hb)
  have mz1 := hb.size
  clear hW hb 
  refine (newReader_any _ [1] w1 SL.out (by decide)).mono ?_
  rintro e w2 ⟨ga, ta, rfl, lga, lta, hr, hb⟩
  have Ra2 := hide hr
  have uga := hr.lt
  have uta := hr.tlt
  have sz2 := B1.out.size
  have B2 := hide (B1.out.trans (hb.mono B1.out.size))
  have mz2 := hb.size
  clear hr hb SL B1
  go_wp2_with fail
  generalize hW : World.alloc w2 _ = w3
  have hb : Below w2.heap.size w2 w3 := by rw [← hW]; exact (Below.refl _ _).alloc (Nat.le_refl _) _
  have SL : Hid (SliceAt w3 (.slice (some ⟨w2.heap.size, 0, none⟩) 2 2) [1, 2]) := by rw [← hW]; exact lit_slice w2 [1, 2] (by decide)
  have Ra3 := hide (Ra2.out.below hb)
  have B3 := hide (B2.out.trans (hb.mono B2.out.size))
  have mz3 := hb.size
  clear hW hb Ra2 B2
  refine (newReader_any _ [1, 2] w3 SL.out (by decide)).mono ?_
  rintro e w4 ⟨gb, tb, rfl, lgb, ltb, hr, hb⟩
  have Ra4 := hide (Ra3.out.below hb)
  have Rb4 := hide hr
  have ugb := hr.lt
  have utb := hr.tlt
  have sz4 := B3.out.size
  have B4 := hide (B3.out.trans (hb.mono B3.out.size))
  have mz4 := hb.size
  clear hr hb SL Ra3 B3
  go_wp2_with fail
  refine (newReader_any _ [] w4 (Or.inl ⟨rfl, rfl⟩) (by decide)).mono ?_
  rintro e w5 ⟨gc, tc, rfl, lgc, ltc, hr, hb⟩
  have Ra5 := hide (Ra4.out.below hb)
  have Rb5 := hide (Rb4.out.below hb)
  have Rc5 := hide hr
  have ugc := hr.lt
  have utc := hr.tlt
  have sz5 := B4.out.size
  have B5 := hide (B4.out.trans (hb.mono B4.out.size))
  have mz5 := hb.size
  clear hr hb Ra4 Rb4 B4
  go_wp2_with fail
  generalize hW : World.alloc w5 _ = w6
  have hb : Below w5.heap.size w5 w6 := by rw [← hW]; exact (Below.refl _ _).alloc (Nat.le_refl _) _
  have SL : Hid (SliceAt w6 (.slice (some ⟨w5.heap.size, 0, none⟩) 3 3) [1, 2, 3]) := by rw [← hW]; exact lit_slice w5 [1, 2, 3] (by decide)
  have Ra6 := hide (Ra5.out.below hb)
  have Rb6 := hide (Rb5.out.below hb)
  have Rc6 := hide (Rc5.out.below hb)
  have B6 := hide (B5.out.trans (hb.mono B5.out.size))
  have mz6 := hb.size
  clear hW hb Ra5 Rb5 Rc5 B5
  refine (newReader_any _ [1, 2, 3] w6 SL.out (by decide)).mono ?_
  rintro e w7 ⟨gd, td, rfl, lgd, ltd, hr, hb⟩
  have Ra7 := hide (Ra6.out.below hb)
  have Rb7 := hide (Rb6.out.below hb)
  have Rc7 := hide (Rc6.out.below hb)
  have Rd7 := hide hr
  have ugd := hr.lt
  have utd := hr.tlt
  have sz7 := B6.out.size
  have B7 := hide (B6.out.trans (hb.mono B6.out.size))
  have mz7 := hb.size
  clear hr hb SL Ra6 Rb6 Rc6 B6
  go_wp2_with fail
  refine (newWriter_any w7).mono ?_
  rintro e w8 ⟨rfl, hr, hb⟩
  have Ra8 := hide (Ra7.out.below hb)
  have Rb8 := hide (Rb7.out.below hb)
  have Rc8 := hide (Rc7.out.below hb)
  have Rd8 := hide (Rd7.out.below hb)
  have Ww8 := hide hr
  have B8 := hide (B7.out.trans (hb.mono B7.out.size))
  have mz8 := hb.size
  have szw := B8.out.size
  have OWw : Hid (∀ k, (Value.slice none 0 0).ownBlock = some k → w7.heap.size ≤ k) := nil_base _
  have uw := hr.lt
  clear hr hb Ra7 Rb7 Rc7 Rd7 B7
  go_wp2_with fail
  refine (rnumber_is ga ta w8 num_a Ra8.out).mono ?_
  rintro e w9 ⟨rfl, hr, hc⟩
  have Rb9 := hide (Rb8.out.chg hc (by omega) (by omega))
  have Rc9 := hide (Rc8.out.chg hc (by omega) (by omega))
  have Rd9 := hide (Rd8.out.chg hc (by omega) (by omega))
  have Ww9 := hide (Ww8.out.chg hc (by omega) (fun k hk => by have := OWw.out k hk; omega))
  have Ra9 := hide hr
  have B9 := hide (B8.out.trans (hc.base B8.out.size (by omega)))
  have mz9 := hc.size
  clear hr hc Rb8 Rc8 Rd8 Ww8 Ra8 B8
  go_wp2_with fail
  refine (rnumber_is gb tb w9 num_b Rb9.out).mono ?_
  rintro e w10 ⟨rfl, hr, hc⟩
  have Ra10 := hide (Ra9.out.chg hc (by omega) (by omega))
  have Rc10 := hide (Rc9.out.chg hc (by omega) (by omega))
  have Rd10 := hide (Rd9.out.chg hc (by omega) (by omega))
  have Ww10 := hide (Ww9.out.chg hc (by omega) (fun k hk => by have := OWw.out k hk; omega))
  have Rb10 := hide hr
  have B10 := hide (B9.out.trans (hc.base B9.out.size (by omega)))
  have mz10 := hc.size
  clear hr hc Ra9 Rc9 Rd9 Ww9 Rb9 B9
  go_wp2_with fail
  refine (rnumber_is gd td w10 num_d Rd10.out).mono ?_
  rintro e w11 ⟨rfl, hr, hc⟩
  have Ra11 := hide (Ra10.out.chg hc (by omega) (by omega))
  have Rb11 := hide (Rb10.out.chg hc (by omega) (by omega))
  have Rc11 := hide (Rc10.out.chg hc (by omega) (by omega))
  have Ww11 := hide (Ww10.out.chg hc (by omega) (fun k hk => by have := OWw.out k hk; omega))
  have Rd11 := hide hr
  have B11 := hide (B10.out.trans (hc.base B10.out.size (by omega)))
  have mz11 := hc.size
  clear hr hc Ra10 Rb10 Rc10 Ww10 Rd10 B10
  go_wp2_with fail
  refine (rfail_is gd td w11 num_d1 Rd11.out).mono ?_
  rintro e w12 ⟨rfl, hr, hc⟩
  have Ra12 := hide (Ra11.out.chg hc (by omega) (by omega))
  have Rb12 := hide (Rb11.out.chg hc (by omega) (by omega))
  have Rc12 := hide (Rc11.out.chg hc (by omega) (by omega))
  have Ww12 := hide (Ww11.out.chg hc (by omega) (fun k hk => by have := OWw.out k hk; omega))
  have Rd12 := hide hr
  have B12 := hide (B11.out.trans (hc.base B11.out.size (by omega)))
  have mz12 := hc.size
  clear hr hc Ra11 Rb11 Rc11 Ww11 Rd11 B11
  go_wp2_with fail
  refine (rfail_is gd td w12 num_d2 Rd12.out).mono ?_
  rintro e w13 ⟨rfl, hr, hc⟩
  have Ra13 := hide (Ra12.out.chg hc (by omega) (by omega))
  have Rb13 := hide (Rb12.out.chg hc (by omega) (by omega))
  have Rc13 := hide (Rc12.out.chg hc (by omega) (by omega))
  have Ww13 := hide (Ww12.out.chg hc (by omega) (fun k hk => by have := OWw.out k hk; omega))
  have Rd13 := hide hr
  have B13 := hide (B12.out.trans (hc.base B12.out.size (by omega)))
  have mz13 := hc.size
  clear hr hc Ra12 Rb12 Rc12 Ww12 Rd12 B12
  go_wp2_with fail
  refine (rfail_is gd td w13 num_d3 Rd13.out).mono ?_
  rintro e w14 ⟨rfl, hr, hc⟩
  have Ra14 := hide (Ra13.out.chg hc (by omega) (by omega))
  have Rb14 := hide (Rb13.out.chg hc (by omega) (by omega))
  have Rc14 := hide (Rc13.out.chg hc (by omega) (by omega))
  have Ww14 := hide (Ww13.out.chg hc (by omega) (fun k hk => by have := OWw.out k hk; omega))
  have Rd14 := hide hr
  have B14 := hide (B13.out.trans (hc.base B13.out.size (by omega)))
  have mz14 := hc.size
  clear hr hc Ra13 Rb13 Rc13 Ww13 Rd13 B13
  go_wp2_with fail
  refine (wnumber_is 5 _ _ w14 rfl num_w Ww14.out (by decide)).mono ?_
  rintro e w15 ⟨rfl, vw, hw, ht⟩
  have hc : Chg (fun k => k = w7.heap.size) w14 w15 := ht.chg.mono (fun k _ h => by rcases h with h | h; exact h; cases h)
  have OV : Hid (∀ k, vw.ownBlock = some k → w14.heap.size ≤ k) := fun k hk => by rcases ht.own k hk with h | h; cases h; exact h
  have Ra15 := hide (Ra14.out.chg hc (by omega) (by omega))
  have Rb15 := hide (Rb14.out.chg hc (by omega) (by omega))
  have Rc15 := hide (Rc14.out.chg hc (by omega) (by omega))
  have Rd15 := hide (Rd14.out.chg hc (by omega) (by omega))
  have Ww15 := hide hw
  have B15 := hide (B14.out.trans (hc.base B14.out.size (by omega)))
  clear hw ht hc OWw Ra14 Rb14 Rc14 Rd14 Ww14 B14
  go_wp2_with fail
  refine (rend_yes ga ta w15 fin_a (by decide) Ra15.out).mono ?_
  rintro e w16 ⟨qa, rfl, hf, hb⟩
  have FR := hide hf
  have Ra16 := hide (Ra15.out.below hb)
  have Rb16 := hide (Rb15.out.below hb)
  have Rc16 := hide (Rc15.out.below hb)
  have Rd16 := hide (Rd15.out.below hb)
  have Ww16 := hide (Ww15.out.chg (p := fun _ => False) (Chg.ofBelow' hb) (fun e => e) (fun _ _ e => e))
  have B16 := hide (B15.out.trans (hb.mono B15.out.size))
  clear hb hf Ra15 Rb15 Rc15 Rd15 Ww15 B15
  go_wp2_with fail
  refine (refused_yes qa 1 10 w16 FR.out (HP.out.below B16.out) (word_ok (by decide)) (word_ok (by decide)) (by decide)).mono ?_
  rintro e w17 ⟨rfl, hb⟩
  have Ra17 := hide (Ra16.out.below hb)
  have Rb17 := hide (Rb16.out.below hb)
  have Rc17 := hide (Rc16.out.below hb)
  have Rd17 := hide (Rd16.out.below hb)
  have Ww17 := hide (Ww16.out.chg (p := fun _ => False) (Chg.ofBelow' hb) (fun e => e) (fun _ _ e => e))
  have B17 := hide (B16.out.trans (hb.mono B16.out.size))
  clear hb FR Ra16 Rb16 Rc16 Rd16 Ww16 B16
  go_wp2_with fail
  refine (rend_yes gb tb w17 fin_b (by decide) Rb17.out).mono ?_
  rintro e w18 ⟨qb, rfl, hf, hb⟩
  have FR := hide hf
  have Ra18 := hide (Ra17.out.below hb)
  have Rb18 := hide (Rb17.out.below hb)
  have Rc18 := hide (Rc17.out.below hb)
  have Rd18 := hide (Rd17.out.below hb)
  have Ww18 := hide (Ww17.out.chg (p := fun _ => False) (Chg.ofBelow' hb) (fun e => e) (fun _ _ e => e))
  have B18 := hide (B17.out.trans (hb.mono B17.out.size))
  clear hb hf Ra17 Rb17 Rc17 Rd17 Ww17 B17
  go_wp2_with fail
  refine (refused_yes qb 1 11 w18 FR.out (HP.out.below B18.out) (word_ok (by decide)) (word_ok (by decide)) (by decide)).mono ?_
  rintro e w19 ⟨rfl, hb⟩
  have Ra19 := hide (Ra18.out.below hb)
  have Rb19 := hide (Rb18.out.below hb)
  have Rc19 := hide (Rc18.out.below hb)
  have Rd19 := hide (Rd18.out.below hb)
  have Ww19 := hide (Ww18.out.chg (p := fun _ => False) (Chg.ofBelow' hb) (fun e => e) (fun _ _ e => e))
  have B19 := hide (B18.out.trans (hb.mono B18.out.size))
  clear hb FR Ra18 Rb18 Rc18 Rd18 Ww18 B18
  go_wp2_with fail
  refine (rend_no gc tc w19 fin_c Rc19.out).mono ?_
  rintro e w20 ⟨rfl, hb⟩
  have Ra20 := hide (Ra19.out.below hb)
  have Rb20 := hide (Rb19.out.below hb)
  have Rc20 := hide (Rc19.out.below hb)
  have Rd20 := hide (Rd19.out.below hb)
  have Ww20 := hide (Ww19.out.chg (p := fun _ => False) (Chg.ofBelow' hb) (fun e => e) (fun _ _ e => e))
  have B20 := hide (B19.out.trans (hb.mono B19.out.size))
  clear hb  Ra19 Rb19 Rc19 Rd19 Ww19 B19
  go_wp2_with fail
  refine (rend_yes gd td w20 fin_d (by decide) Rd20.out).mono ?_
  rintro e w21 ⟨qd, rfl, hf, hb⟩
  have FR := hide hf
  have Ra21 := hide (Ra20.out.below hb)
  have Rb21 := hide (Rb20.out.below hb)
  have Rc21 := hide (Rc20.out.below hb)
  have Rd21 := hide (Rd20.out.below hb)
  have Ww21 := hide (Ww20.out.chg (p := fun _ => False) (Chg.ofBelow' hb) (fun e => e) (fun _ _ e => e))
  have B21 := hide (B20.out.trans (hb.mono B20.out.size))
  clear hb hf Ra20 Rb20 Rc20 Rd20 Ww20 B20
  go_wp2_with fail
  refine (refused_yes qd 1 12 w21 FR.out (HP.out.below B21.out) (word_ok (by decide)) (word_ok (by decide)) (by decide)).mono ?_
  rintro e w22 ⟨rfl, hb⟩
  have Ra22 := hide (Ra21.out.below hb)
  have Rb22 := hide (Rb21.out.below hb)
  have Rc22 := hide (Rc21.out.below hb)
  have Rd22 := hide (Rd21.out.below hb)
  have Ww22 := hide (Ww21.out.chg (p := fun _ => False) (Chg.ofBelow' hb) (fun e => e) (fun _ _ e => e))
  have B22 := hide (B21.out.trans (hb.mono B21.out.size))
  clear hb FR Ra21 Rb21 Rc21 Rd21 Ww21 B21
  go_wp2_with fail
  refine (rnumber_is gd td w22 num_d4 Rd22.out).mono ?_
  rintro e w23 ⟨rfl, hr, hc⟩
  have Ww23 := hide (Ww22.out.chg hc (by omega) (fun k hk => by have := OV.out k hk; omega))
  have B23 := hide (B22.out.trans (hc.base B22.out.size (by omega)))
  clear hr hc Rd22 Ww22 B22
  go_wp2_with fail
  refine (done_any _ _ _ w23 Ww23.out (by decide)).mono ?_
  rintro e w24 ⟨rfl, _, hb⟩
  have B24 := hide (B23.out.trans (hb.mono B23.out.size))
  clear hb Ww23 B23
  go_wp2_with fail
  refine (known_any w24 (HP.out.below B24.out)).mono ?_
  rintro e w25 ⟨rfl, hb⟩
  have Z := B24.out.trans (hb.mono B24.out.size)
  clear hb
  go_wp2_with fail
  go_ret
  exact ⟨rfl, Z⟩
end Go.Proofs.YtdhaeepaemneaaaDoor
