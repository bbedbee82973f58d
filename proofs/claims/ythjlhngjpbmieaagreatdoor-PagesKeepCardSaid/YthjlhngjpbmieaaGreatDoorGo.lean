/- headAt: what a sector of a head is met as. -/
import Derived.Test.YthjlhngjpbmieaaGreatDoorGn
namespace Go.Proofs.YthjlhngjpbmieaaGreatDoor
open Go.RowKit

/-- What headAt holds on to. -/
structure HaIs (w : World) (ga gr gb : Nat) (p : Value) (f c : Nat) (s : List UInt8) : Prop where
  ar : ArAt w ga p f c
  res : HdAt w gr S.Hd.none
  sec : w.heap[gb]? = some (.cells (S.v8 s) 5 (0, 0))
  k : KAt w
theorem HaIs.below {w W : World} {ga gr gb : Nat} {p : Value} {f c : Nat} {s : List UInt8} (h : HaIs w ga gr gb p f c s) (hb : Below w.heap.size w W) : HaIs W ga gr gb p f c s :=
  ⟨h.ar.below hb (block_lt_of_row h.ar), h.res.below hb (block_lt_of_row h.res), (hb.block gb (block_lt_of_row h.sec)).trans h.sec, h.k.below hb h.k.pos⟩
theorem u8_ne {x : UInt8} {n : Nat} (hn : n < 256) : x = UInt8.ofNat n ↔ (x.toNat : Int) = (n : Int) := by
  have := u8_eq x n hn
  rw [Bool.eq_iff_iff] at this
  simp only [decide_eq_true_eq, beq_iff_eq] at this
  exact this.symm
set_option maxHeartbeats 4000000 in
set_option maxRecDepth 10000 in
theorem headAt_any (o : Ow) (d : S.Dk) (f c k : Nat) (w : World) (hd : Dsk w o d) (h : f + k < d.safe.length) (hc : c ≤ 100000) (s : List UInt8) (hs : s = d.seen.getD (f + k) []) :
   Calls Tryz.prog 88 #[arv o.ptr f c, .int .i64 (k : Int)] w fun e w' => e = .returned (.tuple #[hdv (S.hdAt f c k s), .int .i64 (S.sight f c k s : Int)]) ∧ Below w.heap.size w w' := by
  have hn := hd.dk.n
  have hsl : s.length = 128 := by rw [hs]; exact hd.dk.ok.seen _ h
  have HO : Hid (f + k < d.safe.length) := h
  have hfk : f ≤ 100000 ∧ k ≤ 100000 := by omega
  have HFK := hide hfk
  have HSL := hide hsl
  obtain ⟨w0, hw0⟩ : ∃ w0, w0 = (w.alloc (.cells #[o.ptr, .int .i64 (f : Int), .int .i64 (c : Int)] 101)).alloc (.cells (S.hc S.Hd.none).toArray 106) := ⟨_, rfl⟩
  have HZ : Hid (w0.heap.size = w.heap.size + 2) := by show w0.heap.size = _; rw [hw0]; simp
  have HB : Hid (Below w.heap.size w w0) := by rw [hw0]; exact ((Below.refl _ _).alloc (Nat.le_refl _) _).alloc (by simp) _
  have HA : Hid (ArAt w0 w.heap.size o.ptr f c) := by
    show w0.heap[w.heap.size]? = _
    rw [hw0, heap_alloc_old _ _ (by simp)]
    exact heap_alloc_new _ _
  have HH : Hid (HdAt w0 (w.heap.size + 1) S.Hd.none) := by
    show w0.heap[w.heap.size + 1]? = _
    rw [hw0, show w.heap.size + 1 = (w.alloc (.cells #[o.ptr, .int .i64 (f : Int), .int .i64 (c : Int)] 101)).heap.size from by simp]
    exact heap_alloc_new _ _
  have HD := hide (hd.below HB.out)
  have hal := alloc73 (w.alloc (.cells #[o.ptr, .int .i64 (f : Int), .int .i64 (c : Int)] 101))
  rw [← hw0] at hal
  have hz1 : (w.alloc (.cells #[o.ptr, .int .i64 (f : Int), .int .i64 (c : Int)] 101)).heap.size = w.heap.size + 1 := by simp
  rw [hz1] at hal
  obtain ⟨ga, hga⟩ : ∃ ga, ga = w.heap.size := ⟨_, rfl⟩
  obtain ⟨gr, hgr⟩ : ∃ gr, gr = w.heap.size + 1 := ⟨_, rfl⟩
  rw [← hga] at HA
  rw [← hgr] at HH
  have HGA : Hid (ga = w.heap.size ∧ gr = w.heap.size + 1) := ⟨hga, hgr⟩
  have HS : Hid (s = d.seen.getD (f + k) []) := hs
  clear hs hsl hd h hz1 hfk
  obtain ⟨a0, a1, a2⟩ := HA.out.cells
  unfold arv
  go_enter Tryz.func88, Tryz.ntmps88
  go_wp2_with (refine wpList_alloc_known rfl 106 rfl _ _ hal ?_)
  rw [← hw0, ← hgr, ← hga]
  clear hga hgr hal hw0
  refine (read_ar o d f c k w0 HD.out.dk HO.out).mono ?_
  rintro e w1 ⟨gb, rfl, g1, r1, b1⟩
  rw [← HS.out] at r1
  have HI1 : Hid (HaIs w1 ga gr gb o.ptr f c s) := ⟨HA.out.below b1 (block_lt_of_row HA.out), HH.out.below b1 (block_lt_of_row HH.out), r1, HD.out.k.below b1 HD.out.k.pos⟩
  have B1 := hide (HB.out.trans (b1.mono HB.out.size))
  clear a0 a1 a2 g1 r1 b1 HA HH HD
  go_wp2_with fail
  obtain ⟨x8, hx8⟩ : ∃ x, x = s.getD 8 0 := ⟨_, rfl⟩
  obtain ⟨x127, hx127⟩ : ∃ x, x = s.getD 127 0 := ⟨_, rfl⟩
  have HX : Hid (x8 = s.getD 8 0 ∧ x127 = s.getD 127 0) := ⟨hx8, hx127⟩
  clear hx8 hx127
  refine wp_region_noPanic ?_
  refine wp_region_held_drew (S := (fun W => HaIs W ga gr gb o.ptr f c s)) follows (HI1.out.below (Below.refl _ _).drew) (fun hHeld => ?_)
  have B1d : Hid (Below w.heap.size w w1.drew) := B1.out.drew
  clear HI1 B1
  generalize w1.drew = wc at B1d hHeld ⊢
  refine tk 0 ?_ rfl (Or.inl ⟨by rfl, ?_⟩) ?_
  rotate_left
  · intro w hSw
    clear hSw
    go_simp
    all_goals with_reducible rfl
  simp only [Act.put, List.setIfInBounds_toArray, List.set_cons_zero, List.set_cons_succ]
  refine tk 1 ?_ rfl (Or.inl ⟨by rfl, ?_⟩) ?_
  rotate_left
  · intro w hSw
    clear hSw
    go_simp
    all_goals with_reducible rfl
  simp only [Act.put, List.setIfInBounds_toArray, List.set_cons_zero, List.set_cons_succ]
  refine tk 2 ?_ rfl (Or.inl ⟨by rfl, ?_⟩) ?_
  rotate_left
  · intro w hSw
    have c8 := v8_cell (HaIs.sec hSw) 8 (by rw [HSL.out]; omega)
    rw [← HX.out.1] at c8
    clear hSw
    go_simp
    all_goals with_reducible rfl
  simp only [Act.put, List.setIfInBounds_toArray, List.set_cons_zero, List.set_cons_succ]
  refine tk 3 ?_ rfl (Or.inl ⟨by rfl, ?_⟩) ?_
  rotate_left
  · intro w hSw
    clear hSw
    go_simp
    all_goals with_reducible rfl
  simp only [Act.put, List.setIfInBounds_toArray, List.set_cons_zero, List.set_cons_succ]
  refine tk 4 ?_ rfl (Or.inl ⟨by rfl, ?_⟩) ?_
  rotate_left
  · intro w hSw
    clear hSw
    go_simp
    all_goals with_reducible rfl
  simp only [Act.put, List.setIfInBounds_toArray, List.set_cons_zero, List.set_cons_succ]
  refine tk 5 ?_ rfl (Or.inl ⟨by rfl, ?_⟩) ?_
  rotate_left
  · intro w hSw
    have c127 := v8_cell (HaIs.sec hSw) 127 (by rw [HSL.out]; omega)
    rw [← HX.out.2] at c127
    clear hSw
    go_simp
    all_goals with_reducible rfl
  simp only [Act.put, List.setIfInBounds_toArray, List.set_cons_zero, List.set_cons_succ]
  refine tk 6 ?_ rfl (Or.inl ⟨by rfl, ?_⟩) ?_
  rotate_left
  · intro w hSw
    clear hSw
    go_simp
    all_goals with_reducible rfl
  simp only [Act.put, List.setIfInBounds_toArray, List.set_cons_zero, List.set_cons_succ]
  refine tk 7 ?_ rfl (Or.inl ⟨by rfl, ?_⟩) ?_
  rotate_left
  · intro w hSw
    clear hSw
    go_simp
    all_goals with_reducible rfl
  simp only [Act.put, List.setIfInBounds_toArray, List.set_cons_zero, List.set_cons_succ]
  refine wpAnyH_done (by kernel_rfl) ?_ _
  refine NoPanic.normal ?_
  have HI := hide hHeld
  have BC := hide B1d.out
  clear hHeld B1d
  have ESI : Hid (S.sight f c k s = if S.tag f c k <+: s ∧ S.isMark x8 = true ∧ S.isMark x127 = true then (if x8 = 15 ∨ x127 = 15 then 1 else if s = S.headSec f c k (S.hdIn s) then 2 else 0) else 0) := by rw [HX.out.1, HX.out.2]; rfl
  obtain ⟨a0, a1, a2⟩ := HI.out.ar.cells
  go_wp2_with fail
  refine (tag_any o.ptr f c k wc HFK.out.1 hc HFK.out.2).mono ?_
  rintro e wt ⟨gt, rfl, g2, r2, b2⟩
  have HI2 := hide (HI.out.below b2)
  have BC2 := hide (BC.out.trans (b2.mono BC.out.size))
  have HTG := hide (slice_row r2 (S.tag_length _ _ _).symm (by rw [S.tag_length]; omega))
  have HSB := hide (slice_row HI2.out.sec HSL.out.symm (by rw [HSL.out]; omega))
  clear a0 a1 a2 g2 r2 b2 HI BC
  go_wp2_with fail
  refine (prefix_any _ _ _ _ wt HSB.out HTG.out).mono ?_
  rintro e w9 ⟨rfl, rfl⟩
  by_cases ht : S.tag f c k <+: s
  · rw [decide_eq_true ht]
    go_wp2_with fail
    refine (isMark_any x8 wt).mono ?_
    rintro e w9 ⟨rfl, rfl⟩
    cases hm8 : S.isMark x8 with
    | false =>
      have HM8 := hide hm8
      clear hm8
      have HT := hide ht
      clear ht
      have hbd := build73e wt
      obtain ⟨wa, hst, hda, ca⟩ := store73 (h := S.Hd.none) HI2.out.res (S.zeros_length _) (S.zeros_length _)
      obtain ⟨HV0, hHV0⟩ : ∃ X, X = hdv S.Hd.none := ⟨_, rfl⟩
      rw [← hHV0] at hst hbd
      have HDA := hide hda
      have BF : Hid (Below w.heap.size w wa) := BC2.out.trans (ca.base BC2.out.size (by have := HGA.out; omega))
      clear hda ca hHV0
      go_wp2_with (first | (with_reducible refine at_op ⟨some 36, .build 106 #[], 106, "head.go:68", #[], none⟩ ?_; refine wpList_build_as rfl 106 [] rfl [] rfl HV0 hbd ?_) | (with_reducible refine at_op ⟨none, .store 106 (.tmp 4) (.tmp 36), 0, "head.go:68", #[⟨0, .data⟩, ⟨0, .phase⟩], none⟩ ?_; refine wpList_store_as rfl 106 (.tmp 4) (.tmp 36) rfl (.pointer (some ⟨gr, 0, none⟩)) HV0 rfl rfl wa hst ?_))
      refine bodyPost_ret (results_row_tmp Tryz.results88 _ _ gr (hdv S.Hd.none) rfl (HDA.out.loadVar (S.zeros_length _))) rfl ⟨?_, BF.out⟩
      have e3 : S.sight f c k s = 0 := by rw [ESI.out, if_neg (fun e => by have := e.2.1; rw [HM8.out] at this; cases this)]
      have e4 : S.hdAt f c k s = S.Hd.none := by unfold S.hdAt; rw [if_neg (by rw [e3]; decide)]
      rw [e4, e3]
      rfl
    | true =>
      go_wp2_with fail
      refine (isMark_any x127 wt).mono ?_
      rintro e w9 ⟨rfl, rfl⟩
      cases hm127 : S.isMark x127 with
      | false =>
        have HM := hide hm127
        clear hm127 hm8
        have HT := hide ht
        clear ht
        have hbd := build73e wt
        obtain ⟨wa, hst, hda, ca⟩ := store73 (h := S.Hd.none) HI2.out.res (S.zeros_length _) (S.zeros_length _)
        obtain ⟨HV0, hHV0⟩ : ∃ X, X = hdv S.Hd.none := ⟨_, rfl⟩
        rw [← hHV0] at hst hbd
        have HDA := hide hda
        have BF : Hid (Below w.heap.size w wa) := BC2.out.trans (ca.base BC2.out.size (by have := HGA.out; omega))
        clear hda ca hHV0
        go_wp2_with (first | (with_reducible refine at_op ⟨some 36, .build 106 #[], 106, "head.go:68", #[], none⟩ ?_; refine wpList_build_as rfl 106 [] rfl [] rfl HV0 hbd ?_) | (with_reducible refine at_op ⟨none, .store 106 (.tmp 4) (.tmp 36), 0, "head.go:68", #[⟨0, .data⟩, ⟨0, .phase⟩], none⟩ ?_; refine wpList_store_as rfl 106 (.tmp 4) (.tmp 36) rfl (.pointer (some ⟨gr, 0, none⟩)) HV0 rfl rfl wa hst ?_))
        refine bodyPost_ret (results_row_tmp Tryz.results88 _ _ gr (hdv S.Hd.none) rfl (HDA.out.loadVar (S.zeros_length _))) rfl ⟨?_, BF.out⟩
        have e3 : S.sight f c k s = 0 := by rw [ESI.out, if_neg (fun e => by have := e.2.2; rw [HM.out] at this; cases this)]
        have e4 : S.hdAt f c k s = S.Hd.none := by unfold S.hdAt; rw [if_neg (by rw [e3]; decide)]
        rw [e4, e3]
        rfl
      | true =>
        have ES2 : Hid (S.sight f c k s = (if x8 = 15 ∨ x127 = 15 then 1 else if s = S.headSec f c k (S.hdIn s) then 2 else 0)) := ESI.out.trans (if_pos ⟨ht, hm8, hm127⟩)
        clear ht hm8 hm127
        by_cases h8 : x8 = 15
        · have z8 : (x8.toNat : Int) = 15 := (u8_ne (n := 15) (by omega)).1 h8
          have H8 := hide h8
          clear h8
          have hbd := build73e wt
          obtain ⟨wa, hst, hda, ca⟩ := store73 (h := S.Hd.none) HI2.out.res (S.zeros_length _) (S.zeros_length _)
          obtain ⟨HV0, hHV0⟩ : ∃ X, X = hdv S.Hd.none := ⟨_, rfl⟩
          rw [← hHV0] at hst hbd
          have HDA := hide hda
          have BF : Hid (Below w.heap.size w wa) := BC2.out.trans (ca.base BC2.out.size (by have := HGA.out; omega))
          clear hda ca hHV0
          go_wp2_with (first | (with_reducible refine at_op ⟨some 44, .build 106 #[], 106, "head.go:70", #[], none⟩ ?_; refine wpList_build_as rfl 106 [] rfl [] rfl HV0 hbd ?_) | (with_reducible refine at_op ⟨none, .store 106 (.tmp 4) (.tmp 44), 0, "head.go:70", #[⟨0, .data⟩, ⟨0, .phase⟩], none⟩ ?_; refine wpList_store_as rfl 106 (.tmp 4) (.tmp 44) rfl (.pointer (some ⟨gr, 0, none⟩)) HV0 rfl rfl wa hst ?_))
          refine bodyPost_ret (results_row_tmp Tryz.results88 _ _ gr (hdv S.Hd.none) rfl (HDA.out.loadVar (S.zeros_length _))) rfl ⟨?_, BF.out⟩
          have e3 : S.sight f c k s = 1 := by rw [ES2.out, if_pos (Or.inl H8.out)]
          have e4 : S.hdAt f c k s = S.Hd.none := by unfold S.hdAt; rw [if_neg (by rw [e3]; decide)]
          rw [e4, e3]
          rfl
        · have z8 : ¬ (x8.toNat : Int) = 15 := fun e => h8 ((u8_ne (n := 15) (by omega)).2 e)
          have y8 : ((x8.toNat : Int) == 15) = false := beq_false_of_ne z8
          have H8 := hide h8
          clear h8
          by_cases h127 : x127 = 15
          · have z127 : (x127.toNat : Int) = 15 := (u8_ne (n := 15) (by omega)).1 h127
            have H127 := hide h127
            clear h127
            have hbd := build73e wt
            obtain ⟨wa, hst, hda, ca⟩ := store73 (h := S.Hd.none) HI2.out.res (S.zeros_length _) (S.zeros_length _)
            obtain ⟨HV0, hHV0⟩ : ∃ X, X = hdv S.Hd.none := ⟨_, rfl⟩
            rw [← hHV0] at hst hbd
            have HDA := hide hda
            have BF : Hid (Below w.heap.size w wa) := BC2.out.trans (ca.base BC2.out.size (by have := HGA.out; omega))
            clear hda ca hHV0
            go_wp2_with (first | (with_reducible refine at_op ⟨some 44, .build 106 #[], 106, "head.go:70", #[], none⟩ ?_; refine wpList_build_as rfl 106 [] rfl [] rfl HV0 hbd ?_) | (with_reducible refine at_op ⟨none, .store 106 (.tmp 4) (.tmp 44), 0, "head.go:70", #[⟨0, .data⟩, ⟨0, .phase⟩], none⟩ ?_; refine wpList_store_as rfl 106 (.tmp 4) (.tmp 44) rfl (.pointer (some ⟨gr, 0, none⟩)) HV0 rfl rfl wa hst ?_))
            refine bodyPost_ret (results_row_tmp Tryz.results88 _ _ gr (hdv S.Hd.none) rfl (HDA.out.loadVar (S.zeros_length _))) rfl ⟨?_, BF.out⟩
            have e3 : S.sight f c k s = 1 := by rw [ES2.out, if_pos (Or.inr H127.out)]
            have e4 : S.hdAt f c k s = S.Hd.none := by unfold S.hdAt; rw [if_neg (by rw [e3]; decide)]
            rw [e4, e3]
            rfl
          · have z127 : ¬ (x127.toNat : Int) = 15 := fun e => h127 ((u8_ne (n := 15) (by omega)).2 e)
            have y127 : ((x127.toNat : Int) == 15) = false := beq_false_of_ne z127
            have H127 := hide h127
            clear h127
            have ES3 : Hid (S.sight f c k s = (if s = S.headSec f c k (S.hdIn s) then 2 else 0)) := ES2.out.trans (if_neg (fun e => by rcases e with e | e; exact H8.out e; exact H127.out e))
            have hp9 := part_from HSB.out (by rw [HSL.out]) 9 (by omega)
            have e9 : (if 128 = 9 then (some (⟨gb, 0, none⟩ : Addr)) else Option.map (fun x => x.add 9) (some (⟨gb, 0, none⟩ : Addr))) = some ⟨gb, 9, none⟩ := by
              rw [if_neg (by omega), Option.map_some, Addr.add_lit]
            rw [e9] at hp9
            have HP9 : Hid (SliceAt wt (.slice (some ⟨gb, 9, none⟩) 119 119) (s.drop 9)) := hp9
            clear hp9 e9
            go_wp2_with fail
            refine (headIn_any _ _ wt HP9.out (by rw [List.length_drop, HSL.out]; omega)).mono ?_
            rintro e w3 ⟨rfl, b3⟩
            rw [S.hdOn_in]
            have hok := S.hdIn_ok s HSL.out
            obtain ⟨H, hH⟩ : ∃ H, H = S.hdIn s := ⟨_, rfl⟩
            rw [← hH] at hok ⊢
            have HHH : Hid (H = S.hdIn s) := hH
            have HOK := hide hok
            clear hH
            have HI3 := hide (HI2.out.below b3)
            have BC3 := hide (BC2.out.trans (b3.mono BC2.out.size))
            have hal := alloc73 w3
            have hd4 : HdAt (w3.alloc (.cells (S.hc S.Hd.none).toArray 106)) w3.heap.size S.Hd.none := heap_alloc_new _ _
            obtain ⟨w5, hst, hd5, c5⟩ := store73 (h := H) hd4 (S.zeros_length _) hok.sl
            have b34 : Below w3.heap.size w3 (w3.alloc (.cells (S.hc S.Hd.none).toArray 106)) := (Below.refl _ _).alloc (Nat.le_refl _) _
            have b5 : Below w3.heap.size w3 w5 := b34.trans (c5.base b34.size (Nat.le_refl _))
            have HI5 := hide (HI3.out.below b5)
            have BC5 := hide (BC3.out.trans (b5.mono BC3.out.size))
            obtain ⟨gh, hgh⟩ : ∃ gh, gh = w3.heap.size := ⟨_, rfl⟩
            rw [← hgh] at hd5 hal hst
            have hld := hd5.load hok.sl
            have HD5 := hide hd5
            obtain ⟨HV, hHV⟩ : ∃ X, X = hdv H := ⟨_, rfl⟩
            rw [← hHV] at hld hst ⊢
            have HHV : Hid (HV = hdv H) := hHV
            obtain ⟨HC0, hHC0⟩ : ∃ X, X = (S.hc S.Hd.none).toArray := ⟨_, rfl⟩
            rw [← hHC0] at hal hst
            obtain ⟨a0, a1, a2⟩ := HI5.out.ar.cells
            clear hd4 hd5 c5 b34 b5 b3 hgh hHV hHC0 hok HI3 BC3 HP9 HSB HTG
            go_wp2_with (first | (with_reducible refine at_op ⟨some 9, .alloc 106, 0, "head.go:72", #[], none⟩ ?_; refine wpList_alloc_known rfl 106 rfl (.pointer (some ⟨gh, 0, none⟩)) (w3.alloc (.cells HC0 106)) hal ?_) | (with_reducible refine at_op ⟨none, .store 106 (.tmp 9) (.tmp 47), 0, "head.go:72", #[⟨3, .data⟩, ⟨2, .data⟩, ⟨2, .chain⟩, ⟨0, .phase⟩, ⟨1, .phase⟩, ⟨2, .phase⟩, ⟨3, .phase⟩], none⟩ ?_; refine wpList_store_as rfl 106 (.tmp 9) (.tmp 47) rfl (.pointer (some ⟨gh, 0, none⟩)) HV rfl rfl w5 hst ?_) | (with_reducible refine at_op ⟨some 51, .load 106 (.tmp 9), 106, "head.go:73", #[], none⟩ ?_; refine wpList_load_as rfl 106 (.tmp 9) rfl (.pointer (some ⟨gh, 0, none⟩)) rfl HV hld ?_))
            rw [HHV.out]
            refine (headSector_any o.ptr f c k H w5 HFK.out.1 hc HFK.out.2 HOK.out HI5.out.k).mono ?_
            rintro e w6 ⟨gs, rfl, g6, r6, b6⟩
            rw [← HHV.out]
            have HI6 := hide (HI5.out.below b6)
            have BC6 := hide (BC5.out.trans (b6.mono BC5.out.size))
            have HD6 : Hid (HdAt w6 gh H) := HD5.out.below b6 (block_lt_of_row HD5.out)
            have HSB := hide (slice_row HI6.out.sec HSL.out.symm (by rw [HSL.out]; omega))
            have HSH := hide (slice_row r6 (S.headSec_length HOK.out).symm (by rw [S.headSec_length HOK.out]; omega))
            clear hal hst hld a0 a1 a2 g6 r6 b6 HI5 BC5 HD5
            go_wp2_with fail
            refine (equal_any _ _ _ _ w6 HSB.out HSH.out).mono ?_
            rintro e w9 ⟨rfl, rfl⟩
            rw [HHH.out]
            by_cases hq : s = S.headSec f c k (S.hdIn s)
            · rw [decide_eq_true hq]
              have HQ : Hid (S.sight f c k s = 2) := by rw [ES3.out, if_pos hq]; rfl
              clear hq
              have hld := HD6.out.load HOK.out.sl
              obtain ⟨wa, hst, hda, ca⟩ := store73 (h := H) HI6.out.res (S.zeros_length _) HOK.out.sl
              rw [← HHV.out] at hst hld
              have HDA := hide hda
              have BF : Hid (Below w.heap.size w wa) := BC6.out.trans (ca.base BC6.out.size (by have := HGA.out; omega))
              clear hda ca
              go_wp2_with (first | (with_reducible refine at_op ⟨some 56, .load 106 (.tmp 9), 106, "head.go:76", #[], none⟩ ?_; refine wpList_load_as rfl 106 (.tmp 9) rfl (.pointer (some ⟨gh, 0, none⟩)) rfl HV hld ?_) | (with_reducible refine at_op ⟨none, .store 106 (.tmp 4) (.tmp 56), 0, "head.go:76", #[⟨0, .data⟩, ⟨0, .phase⟩], none⟩ ?_; refine wpList_store_as rfl 106 (.tmp 4) (.tmp 56) rfl (.pointer (some ⟨gr, 0, none⟩)) HV rfl rfl wa hst ?_))
              refine bodyPost_ret (results_row_tmp Tryz.results88 _ _ gr (hdv H) rfl (HDA.out.loadVar HOK.out.sl)) rfl ⟨?_, BF.out⟩
              have e4 : S.hdAt f c k s = H := by unfold S.hdAt; rw [if_pos HQ.out, HHH.out]
              rw [e4, HQ.out]
              rfl
            · rw [decide_eq_false hq]
              have HQ := hide hq
              clear hq
              have hbd := build73e w6
              obtain ⟨wa, hst, hda, ca⟩ := store73 (h := S.Hd.none) HI6.out.res (S.zeros_length _) (S.zeros_length _)
              obtain ⟨HV0, hHV0⟩ : ∃ X, X = hdv S.Hd.none := ⟨_, rfl⟩
              rw [← hHV0] at hst hbd
              have HDA := hide hda
              have BF : Hid (Below w.heap.size w wa) := BC6.out.trans (ca.base BC6.out.size (by have := HGA.out; omega))
              clear hda ca hHV0
              go_wp2_with (first | (with_reducible refine at_op ⟨some 55, .build 106 #[], 106, "head.go:74", #[], none⟩ ?_; refine wpList_build_as rfl 106 [] rfl [] rfl HV0 hbd ?_) | (with_reducible refine at_op ⟨none, .store 106 (.tmp 4) (.tmp 55), 0, "head.go:74", #[⟨0, .data⟩, ⟨0, .phase⟩], none⟩ ?_; refine wpList_store_as rfl 106 (.tmp 4) (.tmp 55) rfl (.pointer (some ⟨gr, 0, none⟩)) HV0 rfl rfl wa hst ?_))
              refine bodyPost_ret (results_row_tmp Tryz.results88 _ _ gr (hdv S.Hd.none) rfl (HDA.out.loadVar (S.zeros_length _))) rfl ⟨?_, BF.out⟩
              have e3 : S.sight f c k s = 0 := by rw [ES3.out, if_neg HQ.out]
              have e4 : S.hdAt f c k s = S.Hd.none := by unfold S.hdAt; rw [if_neg (by rw [e3]; decide)]
              rw [e4, e3]
              rfl
  · rw [decide_eq_false ht]
    have HT := hide ht
    clear ht
    have hbd := build73e wt
    obtain ⟨wa, hst, hda, ca⟩ := store73 (h := S.Hd.none) HI2.out.res (S.zeros_length _) (S.zeros_length _)
    obtain ⟨HV0, hHV0⟩ : ∃ X, X = hdv S.Hd.none := ⟨_, rfl⟩
    rw [← hHV0] at hst hbd
    have HDA := hide hda
    have BF : Hid (Below w.heap.size w wa) := BC2.out.trans (ca.base BC2.out.size (by have := HGA.out; omega))
    clear hda ca hHV0
    go_wp2_with (first | (with_reducible refine at_op ⟨some 36, .build 106 #[], 106, "head.go:68", #[], none⟩ ?_; refine wpList_build_as rfl 106 [] rfl [] rfl HV0 hbd ?_) | (with_reducible refine at_op ⟨none, .store 106 (.tmp 4) (.tmp 36), 0, "head.go:68", #[⟨0, .data⟩, ⟨0, .phase⟩], none⟩ ?_; refine wpList_store_as rfl 106 (.tmp 4) (.tmp 36) rfl (.pointer (some ⟨gr, 0, none⟩)) HV0 rfl rfl wa hst ?_))
    refine bodyPost_ret (results_row_tmp Tryz.results88 _ _ gr (hdv S.Hd.none) rfl (HDA.out.loadVar (S.zeros_length _))) rfl ⟨?_, BF.out⟩
    have e3 : S.sight f c k s = 0 := by rw [ESI.out, if_neg (fun e => HT.out e.1)]
    have e4 : S.hdAt f c k s = S.Hd.none := by unfold S.hdAt; rw [if_neg (by rw [e3]; decide)]
    rw [e4, e3]
    rfl
end Go.Proofs.YthjlhngjpbmieaaGreatDoor
