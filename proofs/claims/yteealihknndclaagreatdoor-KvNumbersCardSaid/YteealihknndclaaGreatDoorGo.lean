/- headAt: what a sector of a head is met as. -/
import Derived.Test.YteealihknndclaaGreatDoorGm
namespace Go.Proofs.YteealihknndclaaGreatDoor
open Go.RowKit

structure yl (w : World) (ga gr gb : Nat) (p : Value) (f c : Nat) (s : List UInt8) : Prop where
 ar : fH w ga p f c
 res : cO w gr S.Hd.none
 sec : w.heap[gb]? = some (.cells (S.v8 s) 5 (0, 0))
 k : KAt w
theorem yl.below {w W : World} {ga gr gb : Nat} {p : Value} {f c : Nat} {s : List UInt8} (h : yl w ga gr gb p f c s) (hb : Below w.heap.size w W) : yl W ga gr gb p f c s :=
 ⟨h.ar.below hb (ae h.ar), h.res.below hb (ae h.res), (hb.block gb (ae h.sec)).trans h.sec, h.k.below hb h.k.pos⟩
theorem yB {x : UInt8} {n : Nat} (hn : n < 256) : x = UInt8.ofNat n ↔ (x.toNat : Int) = (n : Int) := by
 have := Bq x n hn
 rw [Bool.eq_iff_iff] at this
 simp only [decide_eq_true_eq, beq_iff_eq] at this
 exact this.symm
set_option maxHeartbeats 4000000 in
set_option maxRecDepth 10000 in
theorem qZ (o : Ow) (d : S.Dk) (f c k : Nat) (w : World) (hd : Dsk w o d) (h : f + k < d.safe.length) (hc : c <= 100000) (s : List UInt8) (hs : s = d.seen.getD (f + k) []) :
  Calls Tryz.prog 184 #[arv o.ptr f c, .int .i64 (k : Int)] w fun e w' => e = .returned (.tuple #[hdv (S.gV f c k s), .int .i64 (S.sight f c k s : Int)]) /\ Below w.heap.size w w' := by
 have hn := hd.dk.n
 have hsl : s.length = 128 := by rw [hs]; exact hd.dk.ok.seen _ h
 have HO : Hid (f + k < d.safe.length) := h
 have hfk : f <= 100000 /\ k <= 100000 := by omega
 have HFK := hide hfk
 have HSL := hide hsl
 obtain ⟨w0, hw0⟩ : ∃ w0, w0 = (w.alloc (.cells #[o.ptr, .int .i64 (f : Int), .int .i64 (c : Int)] 217)).alloc (.cells (S.hc S.Hd.none).toArray 221) := ⟨_, rfl⟩
 have HZ : Hid (w0.heap.size = w.heap.size + 2) := by show w0.heap.size = _; rw [hw0]; simp
 have HB : Hid (Below w.heap.size w w0) := by rw [hw0]; exact (ba ..).alloc (by simp) _
 have HA : Hid (fH w0 w.heap.size o.ptr f c) := by
  show w0.heap[w.heap.size]? = _
  rw [hw0, heap_alloc_old _ _ (by simp)]
  exact heap_alloc_new _ _
 have HH : Hid (cO w0 (w.heap.size + 1) S.Hd.none) := by
  show w0.heap[w.heap.size + 1]? = _
  rw [hw0, show w.heap.size + 1 = (w.alloc (.cells #[o.ptr, .int .i64 (f : Int), .int .i64 (c : Int)] 217)).heap.size from by simp]
  exact heap_alloc_new _ _
 have HD := hide (hd.below HB.out)
 have hal := jd (w.alloc (.cells #[o.ptr, .int .i64 (f : Int), .int .i64 (c : Int)] 217))
 rw [<- hw0] at hal
 have hz1 : (w.alloc (.cells #[o.ptr, .int .i64 (f : Int), .int .i64 (c : Int)] 217)).heap.size = w.heap.size + 1 := by simp
 rw [hz1] at hal
 obtain ⟨ga, hga⟩ : ∃ ga, ga = w.heap.size := ⟨_, rfl⟩
 obtain ⟨gr, hgr⟩ : ∃ gr, gr = w.heap.size + 1 := ⟨_, rfl⟩
 rw [<- hga] at HA
 rw [<- hgr] at HH
 have HGA : Hid (ga = w.heap.size /\ gr = w.heap.size + 1) := ⟨hga, hgr⟩
 have HS : Hid (s = d.seen.getD (f + k) []) := hs
 clear hs hsl hd h hz1 hfk
 obtain ⟨a0, a1, a2⟩ := HA.out.cells
 unfold arv
 go_enter Tryz.func184, Tryz.ntmps184
 go_wp2_with (refine aA rfl 221 rfl _ _ hal ?_)
 rw [<- hw0, <- hgr, <- hga]
 clear hga hgr hal hw0
 refine (qf o d f c k w0 HD.out.dk HO.out).mono ?_
 rintro e w1 ⟨gb, rfl, g1, r1, b1⟩
 rw [<- HS.out] at r1
 have HI1 : Hid (yl w1 ga gr gb o.ptr f c s) := ⟨HA.out.below b1 (ae HA.out), HH.out.below b1 (ae HH.out), r1, HD.out.k.below b1 HD.out.k.pos⟩
 have B1 := hide (HB.out.trans (b1.mono HB.out.size))
 clear a0 a1 a2 g1 r1 b1 HA HH HD
 go_wp2_with fail
 obtain ⟨x8, hx8⟩ : ∃ x, x = s.getD 8 0 := ⟨_, rfl⟩
 obtain ⟨rP, hx127⟩ : ∃ x, x = s.getD 127 0 := ⟨_, rfl⟩
 have HX : Hid (x8 = s.getD 8 0 /\ rP = s.getD 127 0) := ⟨hx8, hx127⟩
 clear hx8 hx127
 refine wp_region_noPanic ?_
 refine wp_region_held_drew (S := (fun W => yl W ga gr gb o.ptr f c s)) follows (HI1.out.below (Below.refl _ _).drew) (fun hHeld => ?_)
 have B1d : Hid (Below w.heap.size w w1.drew) := B1.out.drew
 clear HI1 B1
 generalize w1.drew = wc at B1d hHeld ⊢
 refine tq 0 ?_
 simp only [uA]
 refine tq 1 ?_
 simp only [uA]
 refine tk 2 ?_ rfl (Or.inl ⟨by rfl, ?_⟩) ?_
 rotate_left
 ·intro w hSw
  have c8 := dE (yl.sec hSw) 8 (by rw [HSL.out]; omega)
  rw [<- HX.out.1] at c8
  clear hSw
  go_simp
  all_goals with_reducible rfl
 simp only [uA]
 refine tq 3 ?_
 simp only [uA]
 refine tq 4 ?_
 simp only [uA]
 refine tk 5 ?_ rfl (Or.inl ⟨by rfl, ?_⟩) ?_
 rotate_left
 ·intro w hSw
  have c127 := dE (yl.sec hSw) 127 (by rw [HSL.out]; omega)
  rw [<- HX.out.2] at c127
  clear hSw
  go_simp
  all_goals with_reducible rfl
 simp only [uA]
 refine tq 6 ?_
 simp only [uA]
 refine tq 7 ?_
 simp only [uA]
 refine wpAnyH_done (by kernel_rfl) ?_ _
 refine NoPanic.normal ?_
 have HI := hide hHeld
 have BC := hide B1d.out
 clear hHeld B1d
 have ESI : Hid (S.sight f c k s = if S.tag f c k <+: s /\ S.fO x8 = true /\ S.fO rP = true then (if x8 = 15 \/ rP = 15 then 1 else if s = S.aF f c k (S.nu s) then 2 else 0) else 0) := by rw [HX.out.1, HX.out.2]; rfl
 obtain ⟨a0, a1, a2⟩ := HI.out.ar.cells
 go_wp2_with fail
 refine (qb o.ptr f c k wc HFK.out.1 hc HFK.out.2).mono ?_
 rintro e wt ⟨gt, rfl, g2, r2, b2⟩
 have HI2 := hide (HI.out.below b2)
 have BC2 := hide (BC.out.trans (b2.mono BC.out.size))
 have HTG := hide (aG r2 (S.bq _ _ _).symm (by rw [S.bq]; omega))
 have HSB := hide (aG HI2.out.sec HSL.out.symm (by rw [HSL.out]; omega))
 clear a0 a1 a2 g2 r2 b2 HI BC
 go_wp2_with fail
 refine (mh _ _ _ _ wt HSB.out HTG.out).mono ?_
 rintro e w9 ⟨rfl, rfl⟩
 by_cases ht : S.tag f c k <+: s
 ·rw [decide_eq_true ht]
  go_wp2_with fail
  refine (qV x8 wt).mono ?_
  rintro e w9 ⟨rfl, rfl⟩
  cases hm8 : S.fO x8 with
  | false =>
   have HM8 := hide hm8
   clear hm8
   have HT := hide ht
   clear ht
   have hbd := iQ wt
   obtain ⟨wa, hst, hda, ca⟩ := dI (h := S.Hd.none) HI2.out.res (S.zeros_length _) (S.zeros_length _)
   obtain ⟨HV0, jG⟩ : ∃ X, X = hdv S.Hd.none := ⟨_, rfl⟩
   rw [<- jG] at hst hbd
   have HDA := hide hda
   have BF : Hid (Below w.heap.size w wa) := BC2.out.trans (ca.base BC2.out.size (by have := HGA.out; omega))
   clear hda ca jG
   go_wp2_with (first | (with_reducible refine aD ⟨some 36, .build 221 #[], 221, "head.go:68", #[], none⟩ ?_; refine aW rfl 221 [] rfl [] rfl HV0 hbd ?_) | (with_reducible refine aD ⟨none, .store 221 (.tmp 4) (.tmp 36), 0, "head.go:68", #[{ on := 0, ground := Ground.data }, { on := 0, ground := Ground.phase }], none⟩ ?_; refine aB rfl 221 (.tmp 4) (.tmp 36) rfl (.pointer (some ⟨gr, 0, none⟩)) HV0 rfl rfl wa hst ?_))
   refine bodyPost_ret (bM Tryz.results184 _ _ gr (hdv S.Hd.none) rfl (HDA.out.loadVar (S.zeros_length _))) rfl ⟨?_, BF.out⟩
   have e3 : S.sight f c k s = 0 := by rw [ESI.out, if_neg (fun e => by have := e.2.1; rw [HM8.out] at this; cases this)]
   have e4 : S.gV f c k s = S.Hd.none := by unfold S.gV; rw [if_neg (by rw [e3]; decide)]
   rw [e4, e3]
   rfl
  | true =>
   go_wp2_with fail
   refine (qV rP wt).mono ?_
   rintro e w9 ⟨rfl, rfl⟩
   cases hm127 : S.fO rP with
   | false =>
    have HM := hide hm127
    clear hm127 hm8
    have HT := hide ht
    clear ht
    have hbd := iQ wt
    obtain ⟨wa, hst, hda, ca⟩ := dI (h := S.Hd.none) HI2.out.res (S.zeros_length _) (S.zeros_length _)
    obtain ⟨HV0, jG⟩ : ∃ X, X = hdv S.Hd.none := ⟨_, rfl⟩
    rw [<- jG] at hst hbd
    have HDA := hide hda
    have BF : Hid (Below w.heap.size w wa) := BC2.out.trans (ca.base BC2.out.size (by have := HGA.out; omega))
    clear hda ca jG
    go_wp2_with (first | (with_reducible refine aD ⟨some 36, .build 221 #[], 221, "head.go:68", #[], none⟩ ?_; refine aW rfl 221 [] rfl [] rfl HV0 hbd ?_) | (with_reducible refine aD ⟨none, .store 221 (.tmp 4) (.tmp 36), 0, "head.go:68", #[{ on := 0, ground := Ground.data }, { on := 0, ground := Ground.phase }], none⟩ ?_; refine aB rfl 221 (.tmp 4) (.tmp 36) rfl (.pointer (some ⟨gr, 0, none⟩)) HV0 rfl rfl wa hst ?_))
    refine bodyPost_ret (bM Tryz.results184 _ _ gr (hdv S.Hd.none) rfl (HDA.out.loadVar (S.zeros_length _))) rfl ⟨?_, BF.out⟩
    have e3 : S.sight f c k s = 0 := by rw [ESI.out, if_neg (fun e => by have := e.2.2; rw [HM.out] at this; cases this)]
    have e4 : S.gV f c k s = S.Hd.none := by unfold S.gV; rw [if_neg (by rw [e3]; decide)]
    rw [e4, e3]
    rfl
   | true =>
    have ES2 : Hid (S.sight f c k s = (if x8 = 15 \/ rP = 15 then 1 else if s = S.aF f c k (S.nu s) then 2 else 0)) := ESI.out.trans (if_pos ⟨ht, hm8, hm127⟩)
    clear ht hm8 hm127
    by_cases h8 : x8 = 15
    ·have z8 : (x8.toNat : Int) = 15 := (yB (n := 15) (by omega)).1 h8
     have H8 := hide h8
     clear h8
     have hbd := iQ wt
     obtain ⟨wa, hst, hda, ca⟩ := dI (h := S.Hd.none) HI2.out.res (S.zeros_length _) (S.zeros_length _)
     obtain ⟨HV0, jG⟩ : ∃ X, X = hdv S.Hd.none := ⟨_, rfl⟩
     rw [<- jG] at hst hbd
     have HDA := hide hda
     have BF : Hid (Below w.heap.size w wa) := BC2.out.trans (ca.base BC2.out.size (by have := HGA.out; omega))
     clear hda ca jG
     go_wp2_with (first | (with_reducible refine aD ⟨some 44, .build 221 #[], 221, "head.go:70", #[], none⟩ ?_; refine aW rfl 221 [] rfl [] rfl HV0 hbd ?_) | (with_reducible refine aD ⟨none, .store 221 (.tmp 4) (.tmp 44), 0, "head.go:70", #[{ on := 0, ground := Ground.data }, { on := 0, ground := Ground.phase }], none⟩ ?_; refine aB rfl 221 (.tmp 4) (.tmp 44) rfl (.pointer (some ⟨gr, 0, none⟩)) HV0 rfl rfl wa hst ?_))
     refine bodyPost_ret (bM Tryz.results184 _ _ gr (hdv S.Hd.none) rfl (HDA.out.loadVar (S.zeros_length _))) rfl ⟨?_, BF.out⟩
     have e3 : S.sight f c k s = 1 := by rw [ES2.out, if_pos (Or.inl H8.out)]
     have e4 : S.gV f c k s = S.Hd.none := by unfold S.gV; rw [if_neg (by rw [e3]; decide)]
     rw [e4, e3]
     rfl
    ·have z8 : ¬ (x8.toNat : Int) = 15 := fun e => h8 ((yB (n := 15) (by omega)).2 e)
     have y8 : ((x8.toNat : Int) == 15) = false := beq_false_of_ne z8
     have H8 := hide h8
     clear h8
     by_cases h127 : rP = 15
     ·have z127 : (rP.toNat : Int) = 15 := (yB (n := 15) (by omega)).1 h127
      have H127 := hide h127
      clear h127
      have hbd := iQ wt
      obtain ⟨wa, hst, hda, ca⟩ := dI (h := S.Hd.none) HI2.out.res (S.zeros_length _) (S.zeros_length _)
      obtain ⟨HV0, jG⟩ : ∃ X, X = hdv S.Hd.none := ⟨_, rfl⟩
      rw [<- jG] at hst hbd
      have HDA := hide hda
      have BF : Hid (Below w.heap.size w wa) := BC2.out.trans (ca.base BC2.out.size (by have := HGA.out; omega))
      clear hda ca jG
      go_wp2_with (first | (with_reducible refine aD ⟨some 44, .build 221 #[], 221, "head.go:70", #[], none⟩ ?_; refine aW rfl 221 [] rfl [] rfl HV0 hbd ?_) | (with_reducible refine aD ⟨none, .store 221 (.tmp 4) (.tmp 44), 0, "head.go:70", #[{ on := 0, ground := Ground.data }, { on := 0, ground := Ground.phase }], none⟩ ?_; refine aB rfl 221 (.tmp 4) (.tmp 44) rfl (.pointer (some ⟨gr, 0, none⟩)) HV0 rfl rfl wa hst ?_))
      refine bodyPost_ret (bM Tryz.results184 _ _ gr (hdv S.Hd.none) rfl (HDA.out.loadVar (S.zeros_length _))) rfl ⟨?_, BF.out⟩
      have e3 : S.sight f c k s = 1 := by rw [ES2.out, if_pos (Or.inr H127.out)]
      have e4 : S.gV f c k s = S.Hd.none := by unfold S.gV; rw [if_neg (by rw [e3]; decide)]
      rw [e4, e3]
      rfl
     ·have z127 : ¬ (rP.toNat : Int) = 15 := fun e => h127 ((yB (n := 15) (by omega)).2 e)
      have y127 : ((rP.toNat : Int) == 15) = false := beq_false_of_ne z127
      have H127 := hide h127
      clear h127
      have ES3 : Hid (S.sight f c k s = (if s = S.aF f c k (S.nu s) then 2 else 0)) := ES2.out.trans (if_neg (fun e => by rcases e with e | e; exact H8.out e; exact H127.out e))
      have hp9 := lJ HSB.out (by rw [HSL.out]) 9 (by omega)
      have e9 : (if 128 = 9 then (some (⟨gb, 0, none⟩ : Addr)) else Option.map (fun x => x.add 9) (some (⟨gb, 0, none⟩ : Addr))) = some ⟨gb, 9, none⟩ := by
       rw [if_neg (by omega), Option.map_some, Addr.add_lit]
      rw [e9] at hp9
      have HP9 : Hid (SliceAt wt (.slice (some ⟨gb, 9, none⟩) 119 119) (s.drop 9)) := hp9
      clear hp9 e9
      go_wp2_with fail
      refine (xJ _ _ wt HP9.out (by rw [List.length_drop, HSL.out]; omega)).mono ?_
      rintro e w3 ⟨rfl, b3⟩
      rw [S.ze]
      have hok := S.zf s HSL.out
      obtain ⟨H, hH⟩ : ∃ H, H = S.nu s := ⟨_, rfl⟩
      rw [<- hH] at hok ⊢
      have HHH : Hid (H = S.nu s) := hH
      have HOK := hide hok
      clear hH
      have HI3 := hide (HI2.out.below b3)
      have BC3 := hide (BC2.out.trans (b3.mono BC2.out.size))
      have hal := jd w3
      have hd4 : cO (w3.alloc (.cells (S.hc S.Hd.none).toArray 221)) w3.heap.size S.Hd.none := heap_alloc_new _ _
      obtain ⟨w5, hst, hd5, c5⟩ := dI (h := H) hd4 (S.zeros_length _) hok.sl
      have b34 : Below w3.heap.size w3 (w3.alloc (.cells (S.hc S.Hd.none).toArray 221)) := ba ..
      have b5 : Below w3.heap.size w3 w5 := b34.trans (c5.base b34.size (lr _))
      have HI5 := hide (HI3.out.below b5)
      have BC5 := hide (BC3.out.trans (b5.mono BC3.out.size))
      obtain ⟨gh, hgh⟩ : ∃ gh, gh = w3.heap.size := ⟨_, rfl⟩
      rw [<- hgh] at hd5 hal hst
      have hld := hd5.load hok.sl
      have HD5 := hide hd5
      obtain ⟨HV, hHV⟩ : ∃ X, X = hdv H := ⟨_, rfl⟩
      rw [<- hHV] at hld hst ⊢
      have HHV : Hid (HV = hdv H) := hHV
      obtain ⟨HC0, jq⟩ : ∃ X, X = (S.hc S.Hd.none).toArray := ⟨_, rfl⟩
      rw [<- jq] at hal hst
      obtain ⟨a0, a1, a2⟩ := HI5.out.ar.cells
      clear hd4 hd5 c5 b34 b5 b3 hgh hHV jq hok HI3 BC3 HP9 HSB HTG
      go_wp2_with (first | (with_reducible refine aD ⟨some 9, .alloc 221, 0, "head.go:72", #[], none⟩ ?_; refine aA rfl 221 rfl (.pointer (some ⟨gh, 0, none⟩)) (w3.alloc (.cells HC0 221)) hal ?_) | (with_reducible refine aD ⟨none, .store 221 (.tmp 9) (.tmp 47), 0, "head.go:72", #[{ on := 3, ground := Ground.data }, { on := 2, ground := Ground.data }, { on := 2, ground := Ground.chain }, { on := 0, ground := Ground.phase }, { on := 1, ground := Ground.phase }, { on := 2, ground := Ground.phase }, { on := 3, ground := Ground.phase }], none⟩ ?_; refine aB rfl 221 (.tmp 9) (.tmp 47) rfl (.pointer (some ⟨gh, 0, none⟩)) HV rfl rfl w5 hst ?_) | (with_reducible refine aD ⟨some 51, .load 221 (.tmp 9), 221, "head.go:73", #[], none⟩ ?_; refine aC rfl 221 (.tmp 9) rfl (.pointer (some ⟨gh, 0, none⟩)) rfl HV hld ?_))
      rw [HHV.out]
      refine (jm o.ptr f c k H w5 HFK.out.1 hc HFK.out.2 HOK.out HI5.out.k).mono ?_
      rintro e w6 ⟨gs, rfl, g6, r6, b6⟩
      rw [<- HHV.out]
      have HI6 := hide (HI5.out.below b6)
      have BC6 := hide (BC5.out.trans (b6.mono BC5.out.size))
      have HD6 : Hid (cO w6 gh H) := HD5.out.below b6 (ae HD5.out)
      have HSB := hide (aG HI6.out.sec HSL.out.symm (by rw [HSL.out]; omega))
      have HSH := hide (aG r6 (S.bg HOK.out).symm (by rw [S.bg HOK.out]; omega))
      clear hal hst hld a0 a1 a2 g6 r6 b6 HI5 BC5 HD5
      go_wp2_with fail
      refine (jU _ _ _ _ w6 HSB.out HSH.out).mono ?_
      rintro e w9 ⟨rfl, rfl⟩
      rw [HHH.out]
      by_cases hq : s = S.aF f c k (S.nu s)
      ·rw [decide_eq_true hq]
       have HQ : Hid (S.sight f c k s = 2) := by rw [ES3.out, if_pos hq]; rfl
       clear hq
       have hld := HD6.out.load HOK.out.sl
       obtain ⟨wa, hst, hda, ca⟩ := dI (h := H) HI6.out.res (S.zeros_length _) HOK.out.sl
       rw [<- HHV.out] at hst hld
       have HDA := hide hda
       have BF : Hid (Below w.heap.size w wa) := BC6.out.trans (ca.base BC6.out.size (by have := HGA.out; omega))
       clear hda ca
       go_wp2_with (first | (with_reducible refine aD ⟨some 56, .load 221 (.tmp 9), 221, "head.go:76", #[], none⟩ ?_; refine aC rfl 221 (.tmp 9) rfl (.pointer (some ⟨gh, 0, none⟩)) rfl HV hld ?_) | (with_reducible refine aD ⟨none, .store 221 (.tmp 4) (.tmp 56), 0, "head.go:76", #[{ on := 0, ground := Ground.data }, { on := 0, ground := Ground.phase }], none⟩ ?_; refine aB rfl 221 (.tmp 4) (.tmp 56) rfl (.pointer (some ⟨gr, 0, none⟩)) HV rfl rfl wa hst ?_))
       refine bodyPost_ret (bM Tryz.results184 _ _ gr (hdv H) rfl (HDA.out.loadVar HOK.out.sl)) rfl ⟨?_, BF.out⟩
       have e4 : S.gV f c k s = H := by unfold S.gV; rw [if_pos HQ.out, HHH.out]
       rw [e4, HQ.out]
       rfl
      ·rw [decide_eq_false hq]
       have HQ := hide hq
       clear hq
       have hbd := iQ w6
       obtain ⟨wa, hst, hda, ca⟩ := dI (h := S.Hd.none) HI6.out.res (S.zeros_length _) (S.zeros_length _)
       obtain ⟨HV0, jG⟩ : ∃ X, X = hdv S.Hd.none := ⟨_, rfl⟩
       rw [<- jG] at hst hbd
       have HDA := hide hda
       have BF : Hid (Below w.heap.size w wa) := BC6.out.trans (ca.base BC6.out.size (by have := HGA.out; omega))
       clear hda ca jG
       go_wp2_with (first | (with_reducible refine aD ⟨some 55, .build 221 #[], 221, "head.go:74", #[], none⟩ ?_; refine aW rfl 221 [] rfl [] rfl HV0 hbd ?_) | (with_reducible refine aD ⟨none, .store 221 (.tmp 4) (.tmp 55), 0, "head.go:74", #[{ on := 0, ground := Ground.data }, { on := 0, ground := Ground.phase }], none⟩ ?_; refine aB rfl 221 (.tmp 4) (.tmp 55) rfl (.pointer (some ⟨gr, 0, none⟩)) HV0 rfl rfl wa hst ?_))
       refine bodyPost_ret (bM Tryz.results184 _ _ gr (hdv S.Hd.none) rfl (HDA.out.loadVar (S.zeros_length _))) rfl ⟨?_, BF.out⟩
       have e3 : S.sight f c k s = 0 := by rw [ES3.out, if_neg HQ.out]
       have e4 : S.gV f c k s = S.Hd.none := by unfold S.gV; rw [if_neg (by rw [e3]; decide)]
       rw [e4, e3]
       rfl
 ·rw [decide_eq_false ht]
  have HT := hide ht
  clear ht
  have hbd := iQ wt
  obtain ⟨wa, hst, hda, ca⟩ := dI (h := S.Hd.none) HI2.out.res (S.zeros_length _) (S.zeros_length _)
  obtain ⟨HV0, jG⟩ : ∃ X, X = hdv S.Hd.none := ⟨_, rfl⟩
  rw [<- jG] at hst hbd
  have HDA := hide hda
  have BF : Hid (Below w.heap.size w wa) := BC2.out.trans (ca.base BC2.out.size (by have := HGA.out; omega))
  clear hda ca jG
  go_wp2_with (first | (with_reducible refine aD ⟨some 36, .build 221 #[], 221, "head.go:68", #[], none⟩ ?_; refine aW rfl 221 [] rfl [] rfl HV0 hbd ?_) | (with_reducible refine aD ⟨none, .store 221 (.tmp 4) (.tmp 36), 0, "head.go:68", #[{ on := 0, ground := Ground.data }, { on := 0, ground := Ground.phase }], none⟩ ?_; refine aB rfl 221 (.tmp 4) (.tmp 36) rfl (.pointer (some ⟨gr, 0, none⟩)) HV0 rfl rfl wa hst ?_))
  refine bodyPost_ret (bM Tryz.results184 _ _ gr (hdv S.Hd.none) rfl (HDA.out.loadVar (S.zeros_length _))) rfl ⟨?_, BF.out⟩
  have e3 : S.sight f c k s = 0 := by rw [ESI.out, if_neg (fun e => HT.out e.1)]
  have e4 : S.gV f c k s = S.Hd.none := by unfold S.gV; rw [if_neg (by rw [e3]; decide)]
  rw [e4, e3]
  rfl
def curv (r : Option (S.Hd × Nat)) : Value := match r with
 | some (h, p) => .tuple #[hdv h, .int .i64 (p : Int), .bool true]
 | none => .tuple #[hdv S.Hd.none, .int .i64 0, .bool false]
theorem Dsk.one {w W : World} {o : Ow} {d : S.Dk} {g : Nat} (h : Dsk w o d) (hc : Chg (fun k => k = g) w W) (hg : ¬ o.has g) (h0 : 1 < g) : Dsk W o d :=
 ⟨h.dk.chg hc (fun k hk e => by subst e; exact hg hk), h.k.chg hc (by omega), h.no⟩
structure CuIs (w : World) (ga gr gk : Nat) (p : Value) (f c : Nat) (h b : S.Hd) : Prop where
 ar : fH w ga p f c
 res : cO w gr h
 back : cO w gk b
theorem CuIs.below {w W : World} {ga gr gk : Nat} {p : Value} {f c : Nat} {h b : S.Hd} (x : CuIs w ga gr gk p f c h b) (hb : Below w.heap.size w W) : CuIs W ga gr gk p f c h b :=
 ⟨x.ar.below hb (ae x.ar), x.res.below hb (ae x.res), x.back.below hb (ae x.back)⟩
set_option maxHeartbeats 4000000 in
set_option maxRecDepth 10000 in
theorem pM (o : Ow) (d : S.Dk) (f c : Nat) (w : World) (hd : Dsk w o d) (h : f + 1 < d.safe.length) (hc : c <= 100000) (s0 s1 : List UInt8) (hs0 : s0 = d.seen.getD (f + 0) []) (hs1 : s1 = d.seen.getD (f + 1) []) :
  Calls Tryz.prog 156 #[arv o.ptr f c] w fun e w' => e = .returned (curv (S.cur f c s0 s1)) /\ Below w.heap.size w w' := by
 have hn := hd.dk.n
 have HL0 : Hid (s0.length = 128) := by show s0.length = 128; rw [hs0]; exact hd.dk.ok.seen _ (by omega)
 have HL1 : Hid (s1.length = 128) := by show s1.length = 128; rw [hs1]; exact hd.dk.ok.seen _ h
 have HO : Hid (f + 1 < d.safe.length) := h
 have HLT : Hid (∀ k, o.has k -> k < w.heap.size) := hd.dk.lt
 have HP : Hid (1 < w.heap.size) := hd.k.pos
 obtain ⟨w0, hw0⟩ : ∃ w0, w0 = (w.alloc (.cells #[o.ptr, .int .i64 (f : Int), .int .i64 (c : Int)] 217)).alloc (.cells (S.hc S.Hd.none).toArray 221) := ⟨_, rfl⟩
 have HZ : Hid (w0.heap.size = w.heap.size + 2) := by show w0.heap.size = _; rw [hw0]; simp
 have HB : Hid (Below w.heap.size w w0) := by rw [hw0]; exact (ba ..).alloc (by simp) _
 have HA : Hid (fH w0 w.heap.size o.ptr f c) := by
  show w0.heap[w.heap.size]? = _
  rw [hw0, heap_alloc_old _ _ (by simp)]
  exact heap_alloc_new _ _
 have HH : Hid (cO w0 (w.heap.size + 1) S.Hd.none) := by
  show w0.heap[w.heap.size + 1]? = _
  rw [hw0, show w.heap.size + 1 = (w.alloc (.cells #[o.ptr, .int .i64 (f : Int), .int .i64 (c : Int)] 217)).heap.size from by simp]
  exact heap_alloc_new _ _
 have HD := hide (hd.below HB.out)
 have hal := jd (w.alloc (.cells #[o.ptr, .int .i64 (f : Int), .int .i64 (c : Int)] 217))
 rw [<- hw0] at hal
 have hz1 : (w.alloc (.cells #[o.ptr, .int .i64 (f : Int), .int .i64 (c : Int)] 217)).heap.size = w.heap.size + 1 := by simp
 rw [hz1] at hal
 obtain ⟨ga, hga⟩ : ∃ ga, ga = w.heap.size := ⟨_, rfl⟩
 obtain ⟨gr, hgr⟩ : ∃ gr, gr = w.heap.size + 1 := ⟨_, rfl⟩
 rw [<- hga] at HA
 rw [<- hgr] at HH
 have HGA : Hid (ga = w.heap.size /\ gr = w.heap.size + 1) := ⟨hga, hgr⟩
 have HS : Hid (s0 = d.seen.getD (f + 0) [] /\ s1 = d.seen.getD (f + 1) []) := ⟨hs0, hs1⟩
 clear hs0 hs1 hd h hz1
 obtain ⟨a0, a1, a2⟩ := HA.out.cells
 unfold arv
 go_enter Tryz.func156, Tryz.ntmps156
 go_wp2_with (with_reducible refine aD ⟨some 2, .alloc 221, 0, "head.go:94", #[], none⟩ ?_; refine aA rfl 221 rfl _ _ hal ?_)
 rw [<- hw0, <- hgr, <- hga]
 clear hga hgr hal hw0
 refine (qZ o d f c 0 w0 HD.out (by have := HO.out; omega) hc s0 HS.out.1).mono ?_
 rintro e w1 ⟨rfl, b1⟩
 have hok0 := S.zg f c 0 s0 HL0.out
 obtain ⟨H0, hH0⟩ : ∃ H, H = S.gV f c 0 s0 := ⟨_, rfl⟩
 obtain ⟨M0, hM0⟩ : ∃ M, M = S.sight f c 0 s0 := ⟨_, rfl⟩
 rw [<- hH0] at hok0 ⊢
 rw [<- hM0]
 have HH0 : Hid (H0 = S.gV f c 0 s0 /\ M0 = S.sight f c 0 s0) := ⟨hH0, hM0⟩
 have HA1 := HA.out.below b1 (ae HA.out)
 have HR1 := HH.out.below b1 (ae HH.out)
 have HD1 := HD.out.below b1
 have B1 := HB.out.trans (b1.mono HB.out.size)
 obtain ⟨w2, hst, hr2, c2⟩ := dI (h := H0) HR1 (S.zeros_length _) hok0.sl
 have D2 := HD1.one c2 (fun e => by have := HLT.out _ e; have := HGA.out; omega) (by have := HGA.out; have := HP.out; omega)
 have A2 : fH w2 ga o.ptr f c := c2.row HA1 (by have := HGA.out; omega)
 have B2 : Below w.heap.size w w2 := B1.trans (c2.base B1.size (by have := HGA.out; omega))
 obtain ⟨HV0, jG⟩ : ∃ X, X = hdv H0 := ⟨_, rfl⟩
 rw [<- jG] at hst ⊢
 have yo : Hid (HV0 = hdv H0) := jG
 have sF := hide hok0
 have HD2 := hide D2
 have HA2 := hide A2
 have HR2 := hide hr2
 have HB2 := hide B2
 clear a0 a1 a2
 obtain ⟨a0, a1, a2⟩ := A2.cells
 clear HA1 HR1 HD1 B1 hr2 c2 D2 A2 B2 jG hok0 hH0 hM0 b1
 go_wp2_with (with_reducible refine aD ⟨none, .store 221 (.tmp 2) (.tmp 11), 0, "head.go:95", #[{ on := 3, ground := Ground.data }, { on := 1, ground := Ground.chain }, { on := 0, ground := Ground.phase }, { on := 1, ground := Ground.phase }, { on := 2, ground := Ground.phase }, { on := 3, ground := Ground.phase }, { on := 4, ground := Ground.textOnly Departure.lateStores }], none⟩ ?_; refine aB rfl 221 (.tmp 2) (.tmp 11) rfl (.pointer (some ⟨gr, 0, none⟩)) HV0 rfl rfl w2 hst ?_)
 refine (qZ o d f c 1 w2 HD2.out HO.out hc s1 HS.out.2).mono ?_
 rintro e w3 ⟨rfl, b3⟩
 have hok1 := S.zg f c 1 s1 HL1.out
 obtain ⟨H1, hH1⟩ : ∃ H, H = S.gV f c 1 s1 := ⟨_, rfl⟩
 obtain ⟨M1, hM1⟩ : ∃ M, M = S.sight f c 1 s1 := ⟨_, rfl⟩
 rw [<- hH1] at hok1 ⊢
 rw [<- hM1]
 have HH1 : Hid (H1 = S.gV f c 1 s1 /\ M1 = S.sight f c 1 s1) := ⟨hH1, hM1⟩
 have sD := hide hok1
 have A3 := HA2.out.below b3 (ae HA2.out)
 have R3 := HR2.out.below b3 (ae HR2.out)
 have B3 := HB2.out.trans (b3.mono HB2.out.size)
 have hal := jd w3
 have hd4 : cO (w3.alloc (.cells (S.hc S.Hd.none).toArray 221)) w3.heap.size S.Hd.none := heap_alloc_new _ _
 obtain ⟨w5, CF, hd5, c5⟩ := dI (h := H1) hd4 (S.zeros_length _) hok1.sl
 have b34 : Below w3.heap.size w3 (w3.alloc (.cells (S.hc S.Hd.none).toArray 221)) := ba ..
 have b5 : Below w3.heap.size w3 w5 := b34.trans (c5.base b34.size (lr _))
 have CU5 : Hid (CuIs w5 ga gr w3.heap.size o.ptr f c H0 H1) := ⟨A3.below b5 (ae A3), R3.below b5 (ae R3), hd5⟩
 have B5 : Hid (Below w.heap.size w w5) := B3.trans (b5.mono B3.size)
 have HGK : Hid (gr < w3.heap.size) := ae R3
 obtain ⟨gk, hgk⟩ : ∃ gk, gk = w3.heap.size := ⟨_, rfl⟩
 rw [<- hgk] at CU5 hal CF HGK
 obtain ⟨HV1, Ar⟩ : ∃ X, X = hdv H1 := ⟨_, rfl⟩
 rw [<- Ar] at CF ⊢
 have ym : Hid (HV1 = hdv H1) := Ar
 obtain ⟨HC0, jq⟩ : ∃ X, X = (S.hc S.Hd.none).toArray := ⟨_, rfl⟩
 rw [<- jq] at hal CF
 have l1 := CU5.out.back.load sD.out.sl
 have l0 := CU5.out.res.load sF.out.sl
 rw [<- ym.out] at l1
 rw [<- yo.out] at l0
 clear hst a0 a1 a2 A3 R3 B3 hd4 hd5 c5 b34 b5 hgk Ar jq hok1 hH1 hM1 b3 HD2 HA2 HR2 HB2
 go_wp2_with (first | (with_reducible refine aD ⟨some 6, .alloc 221, 0, "head.go:96", #[], none⟩ ?_; refine aA rfl 221 rfl (.pointer (some ⟨gk, 0, none⟩)) (w3.alloc (.cells HC0 221)) hal ?_) | (with_reducible refine aD ⟨none, .store 221 (.tmp 6) (.tmp 16), 0, "head.go:96", #[{ on := 5, ground := Ground.data }, { on := 3, ground := Ground.data }, { on := 1, ground := Ground.chain }, { on := 0, ground := Ground.phase }, { on := 1, ground := Ground.phase }, { on := 2, ground := Ground.phase }, { on := 3, ground := Ground.phase }, { on := 4, ground := Ground.textOnly Departure.lateStores }, { on := 5, ground := Ground.phase }], none⟩ ?_; refine aB rfl 221 (.tmp 6) (.tmp 16) rfl (.pointer (some ⟨gk, 0, none⟩)) HV1 rfl rfl w5 CF ?_) | (with_reducible refine aD ⟨some 19, .load 221 (.tmp 6), 221, "head.go:99", #[], none⟩ ?_; refine aC rfl 221 (.tmp 6) rfl (.pointer (some ⟨gk, 0, none⟩)) rfl HV1 l1 ?_) | (with_reducible refine aD ⟨some 21, .load 221 (.tmp 2), 221, "head.go:99", #[], none⟩ ?_; refine aC rfl 221 (.tmp 2) rfl (.pointer (some ⟨gr, 0, none⟩)) rfl HV0 l0 ?_))
 rw [yo.out, ym.out]
 refine (sW H1 H0 M1 M0 w5 sD.out sF.out).mono ?_
 rintro e w6 ⟨rfl, b6⟩
 rw [<- yo.out, <- ym.out]
 have CU6 := hide (CU5.out.below b6)
 have B6 := hide (B5.out.trans (b6.mono B5.out.size))
 clear hal CF l1 l0 b6 CU5 B5
 have ECU : Hid (S.cur f c s0 s1 = if S.holds H1 M1 H0 M0 = true then some (H1, 1) else if S.holds H0 M0 H1 M1 = true then some (H0, 0) else none) := by rw [HH0.out.1, HH0.out.2, HH1.out.1, HH1.out.2]; rfl
 cases hh1 : S.holds H1 M1 H0 M0 with
 | true =>
  have EC : Hid (S.cur f c s0 s1 = some (H1, 1)) := by rw [ECU.out, if_pos hh1]; rfl
  have l1 := CU6.out.back.load sD.out.sl
  obtain ⟨w7, hst7, r7, c7⟩ := dI (h := H1) CU6.out.res sF.out.sl sD.out.sl
  have l7 := r7.load sD.out.sl
  obtain ⟨w8, qX, r8, c8⟩ := dI (h := H1) r7 sD.out.sl sD.out.sl
  have R8 := hide r8
  have B8 : Hid (Below w.heap.size w w8) := by
   have b7 := B6.out.trans (c7.base B6.out.size (by have := HGA.out; omega))
   exact b7.trans (c8.base b7.size (by have := HGA.out; omega))
  rw [<- ym.out] at l1 hst7 l7 qX
  clear hh1 r7 r8 c7 c8
  go_wp2_with (first | (with_reducible refine aD ⟨some 30, .load 221 (.tmp 6), 221, "head.go:100", #[], none⟩ ?_; refine aC rfl 221 (.tmp 6) rfl (.pointer (some ⟨gk, 0, none⟩)) rfl HV1 l1 ?_) | (with_reducible refine aD ⟨none, .store 221 (.tmp 2) (.tmp 30), 0, "head.go:100", #[{ on := 0, ground := Ground.data }, { on := 0, ground := Ground.phase }], none⟩ ?_; refine aB rfl 221 (.tmp 2) (.tmp 30) rfl (.pointer (some ⟨gr, 0, none⟩)) HV1 rfl rfl w7 hst7 ?_) | (with_reducible refine aD ⟨some 31, .load 221 (.tmp 2), 221, "head.go:103", #[], none⟩ ?_; refine aC rfl 221 (.tmp 2) rfl (.pointer (some ⟨gr, 0, none⟩)) rfl HV1 l7 ?_) | (with_reducible refine aD ⟨none, .store 221 (.tmp 2) (.tmp 31), 0, "head.go:103", #[{ on := 0, ground := Ground.data }, { on := 0, ground := Ground.phase }, { on := 1, ground := Ground.textOnly Departure.lateStores }], none⟩ ?_; refine aB rfl 221 (.tmp 2) (.tmp 31) rfl (.pointer (some ⟨gr, 0, none⟩)) HV1 rfl rfl w8 qX ?_))
  refine bodyPost_ret (iD Tryz.results156 _ _ gr (hdv H1) rfl (R8.out.loadVar sD.out.sl)) rfl ⟨?_, B8.out⟩
  rw [EC.out]
  rfl
 | false =>
  have l1 := CU6.out.back.load sD.out.sl
  have l0 := CU6.out.res.load sF.out.sl
  rw [<- ym.out] at l1
  rw [<- yo.out] at l0
  have HH1F := hide hh1
  clear hh1
  go_wp2_with (first | (with_reducible refine aD ⟨some 25, .load 221 (.tmp 2), 221, "head.go:102", #[], none⟩ ?_; refine aC rfl 221 (.tmp 2) rfl (.pointer (some ⟨gr, 0, none⟩)) rfl HV0 l0 ?_) | (with_reducible refine aD ⟨some 27, .load 221 (.tmp 6), 221, "head.go:102", #[], none⟩ ?_; refine aC rfl 221 (.tmp 6) rfl (.pointer (some ⟨gk, 0, none⟩)) rfl HV1 l1 ?_))
  rw [yo.out, ym.out]
  refine (sW H0 H1 M0 M1 w6 sF.out sD.out).mono ?_
  rintro e w7 ⟨rfl, b7⟩
  rw [<- yo.out, <- ym.out]
  have CU7 := hide (CU6.out.below b7)
  have B7 := hide (B6.out.trans (b7.mono B6.out.size))
  clear l1 l0 b7
  cases hh0 : S.holds H0 M0 H1 M1 with
  | true =>
   have EC : Hid (S.cur f c s0 s1 = some (H0, 0)) := by rw [ECU.out, if_neg (by rw [HH1F.out]; decide), if_pos hh0]; rfl
   have l7 := CU7.out.res.load sF.out.sl
   obtain ⟨w8, qX, r8, c8⟩ := dI (h := H0) CU7.out.res sF.out.sl sF.out.sl
   have R8 := hide r8
   have B8 : Hid (Below w.heap.size w w8) := B7.out.trans (c8.base B7.out.size (by have := HGA.out; omega))
   rw [<- yo.out] at l7 qX
   clear hh0 r8 c8
   go_wp2_with (first | (with_reducible refine aD ⟨some 31, .load 221 (.tmp 2), 221, "head.go:103", #[], none⟩ ?_; refine aC rfl 221 (.tmp 2) rfl (.pointer (some ⟨gr, 0, none⟩)) rfl HV0 l7 ?_) | (with_reducible refine aD ⟨none, .store 221 (.tmp 2) (.tmp 31), 0, "head.go:103", #[{ on := 0, ground := Ground.data }, { on := 0, ground := Ground.phase }, { on := 1, ground := Ground.textOnly Departure.lateStores }], none⟩ ?_; refine aB rfl 221 (.tmp 2) (.tmp 31) rfl (.pointer (some ⟨gr, 0, none⟩)) HV0 rfl rfl w8 qX ?_))
   refine bodyPost_ret (iD Tryz.results156 _ _ gr (hdv H0) rfl (R8.out.loadVar sF.out.sl)) rfl ⟨?_, B8.out⟩
   rw [EC.out]
   rfl
  | false =>
   have EC : Hid (S.cur f c s0 s1 = none) := by rw [ECU.out, if_neg (by rw [HH1F.out]; decide), if_neg (by rw [hh0]; decide)]; rfl
   have hbd := iQ w7
   obtain ⟨w8, qX, r8, c8⟩ := dI (h := S.Hd.none) CU7.out.res sF.out.sl (S.zeros_length _)
   have R8 := hide r8
   have B8 : Hid (Below w.heap.size w w8) := B7.out.trans (c8.base B7.out.size (by have := HGA.out; omega))
   obtain ⟨HVN, hHVN⟩ : ∃ X, X = hdv S.Hd.none := ⟨_, rfl⟩
   rw [<- hHVN] at hbd qX
   clear hh0 r8 c8 hHVN
   go_wp2_with (first | (with_reducible refine aD ⟨some 33, .build 221 #[], 221, "head.go:105", #[], none⟩ ?_; refine aW rfl 221 [] rfl [] rfl HVN hbd ?_) | (with_reducible refine aD ⟨none, .store 221 (.tmp 2) (.tmp 33), 0, "head.go:105", #[{ on := 0, ground := Ground.data }, { on := 0, ground := Ground.phase }], none⟩ ?_; refine aB rfl 221 (.tmp 2) (.tmp 33) rfl (.pointer (some ⟨gr, 0, none⟩)) HVN rfl rfl w8 qX ?_))
   refine bodyPost_ret (iD Tryz.results156 _ _ gr (hdv S.Hd.none) rfl (R8.out.loadVar (S.zeros_length _))) rfl ⟨?_, B8.out⟩
   rw [EC.out]
   rfl
end Go.Proofs.YteealihknndclaaGreatDoor
namespace Go.Proofs.YteealihknndclaaGreatDoor
open Go.RowKit

theorem zq (w : World) : (Instr.alloc 219 true (.tuple #[])).run Tryz.prog w = .ok (.pointer (some ⟨w.heap.size, 0, none⟩)) (w.alloc (.cells (S.v8 (S.zeros 32)) 219)) := by
 have h1 : (Tryz.prog.info? 219).map (fun i => (i.size, i.bytes)) = some (32, 32) := by kernel_rfl
 have h2 : (Tryz.prog.info? 219).bind (·.zero) = some (.agg (S.v8 (S.zeros 32))) := by kernel_rfl
 obtain ⟨i, hi, hz, _, _⟩ := dW h1 h2
 simp [Instr.alloc, zeroValue, typeInfo, hi, hz, newVar, newRow, Value.cells]
theorem dig_row {w : World} {g : Nat} {xs : List UInt8} {t : TypeId} (h : w.heap[g]? = some (.cells (S.v8 xs) t (0, 0))) (hl : xs.length = 32) : SliceAt w (.slice (some ⟨g, 0, none⟩) 32 32) xs :=
 Or.inr (Or.inr ⟨g, 0, 32, by rw [hl], by omega, by omega, ae h, fun j hj => by rw [Nat.zero_add]; exact dE h j hj⟩)
set_option maxHeartbeats 1600000 in
set_option maxRecDepth 10000 in
theorem aX (sl : List UInt8) (v : Value) (bs : List UInt8) (w : World) (hl : sl.length = 32) (hv : SliceAt w v bs) (hb : bs.length <= 1000000000) (hK : KAt w) :
  Calls Tryz.prog 135 #[.agg (S.v8 sl), v] w fun e w' => e = .returned (.agg (S.v8 (S.sum (sl ++ bs)))) /\ Below w.heap.size w w' := by
 obtain ⟨C, hC⟩ : ∃ C, C = S.v8 sl := ⟨_, rfl⟩
 obtain ⟨w0, hw0⟩ : ∃ w0, w0 = (w.alloc (.cells C 219)).alloc (.cells (S.v8 (S.zeros 32)) 219) := ⟨_, rfl⟩
 have HZ : Hid (w0.heap.size = w.heap.size + 2) := by show w0.heap.size = _; rw [hw0]; simp
 have HB : Hid (Below w.heap.size w w0) := by rw [hw0]; exact (ba ..).alloc (by simp) _
 have r0 : w0.heap[w.heap.size]? = some (.cells (S.v8 sl) 219 (0, 0)) := by
  rw [hw0, heap_alloc_old _ _ (by simp), <- hC]
  exact heap_alloc_new _ _
 have r1 : w0.heap[w.heap.size + 1]? = some (.cells (S.v8 (S.zeros 32)) 219 (0, 0)) := by
  rw [hw0, show w.heap.size + 1 = (w.alloc (.cells C 219)).heap.size from by simp]
  exact heap_alloc_new _ _
 have hal := zq (w.alloc (.cells C 219))
 have hz1 : (w.alloc (.cells C 219)).heap.size = w.heap.size + 1 := by simp
 rw [<- hw0, hz1] at hal
 obtain ⟨ga, hga⟩ : ∃ ga, ga = w.heap.size := ⟨_, rfl⟩
 obtain ⟨gr, hgr⟩ : ∃ gr, gr = w.heap.size + 1 := ⟨_, rfl⟩
 rw [<- hga] at r0
 rw [<- hgr] at r1
 have HGA : Hid (ga = w.heap.size /\ gr = w.heap.size + 1) := ⟨hga, hgr⟩
 have R1 := hide r1
 have hv0 := hv.below HB.out (lr _)
 have hd0 := dig_row r0 hl
 have K0 := hide (hK.below HB.out hK.pos)
 obtain ⟨ao, ln, cp, rfl, hln, hmx⟩ := hv.form
 obtain ⟨w2, hw2⟩ : ∃ w2, w2 = w0.alloc (.cells #[.slice (some ⟨ga, 0, none⟩) 32 32, .slice ao ln cp] 32) := ⟨_, rfl⟩
 have L2 : Hid (oM w2 w0.heap.size [sl, bs]) := by rw [hw2]; exact Bt _ _ _ _ _ hd0 hv0
 have B02 : Hid (Below w0.heap.size w0 w2) := by rw [hw2]; exact ba ..
 have hfl : [sl, bs].flatten = sl ++ bs := by simp
 clear r0 r1 hv hv0 hd0 hK hz1 hln hmx
 rw [<- hC]
 clear hC
 have HSZ : Hid (w0.heap.size = w.heap.size + 2) := HZ.out
 go_enter Tryz.func135, Tryz.ntmps135
 go_upto_region 1 with (with_reducible refine aD ⟨some 4, .alloc 219, 0, "head.go:124", #[], none⟩ ?_; refine aA rfl 219 rfl _ _ hal ?_)
 try rw [<- hw0]
 rw [<- hgr, <- hga]
 clear hw0 hal hga hgr
 go_wp2_with fail
 rw [<- hw2]
 clear hw2
 refine (Cy w0.heap.size 2 2 _ w2 rfl (by omega) (by omega) L2.out (by rw [hfl, List.length_append, hl]; omega)).mono ?_
 rw [hfl]
 rintro e w3 ⟨gj, rfl, g3, r3, b3⟩
 have B3 : Hid (Below w.heap.size w w3) := HB.out.trans ((B02.out.trans (b3.mono B02.out.size)).mono (by have := HZ.out; omega))
 have B03 : Hid (Below w0.heap.size w0 w3) := B02.out.trans (b3.mono B02.out.size)
 have T3 := hide (aG (BU r3 rfl) rfl (by rw [List.length_append, hl]; omega))
 have K3 := hide (K0.out.below B03.out K0.out.pos)
 obtain ⟨N, hN⟩ : ∃ N, N = (sl ++ bs).length := ⟨_, rfl⟩
 rw [<- hN] at T3 ⊢
 clear r3 b3 g3 hN hfl
 go_wp2_with fail
 refine (zt _ _ w3 T3.out K3.out).mono ?_
 rintro e w4 ⟨rfl, b4⟩
 have B04 : Below w0.heap.size w0 w4 := B03.out.trans (b4.mono B03.out.size)
 have B4 : Hid (Below w.heap.size w w4) := B3.out.trans (b4.mono B3.out.size)
 have R4 : Hid (w4.heap[gr]? = some (.cells (S.v8 (S.zeros 32)) 219 (0, 0))) := (B04.block gr (ae R1.out)).trans R1.out
 obtain ⟨X, hX⟩ : ∃ X, X = sl ++ bs := ⟨_, rfl⟩
 rw [<- hX]
 have HX : Hid (X = sl ++ bs) := hX
 clear b4 B04 hX
 go_wp2_with (refine wpList_store_row rfl 219 _ _ rfl gr (S.v8 (S.sum X)) rfl rfl 219 _ R4.out (mK X) (sG X) (S.jW _) ?_)
 exact bodyPost_ret (v := .agg (S.v8 (S.sum X))) (results_cell_row (g := gr) (t := 219) (fr := (0, 0)) Tryz.results135 _ _ _ _ rfl (setRow_heap _ _ _ _ _ _ R4.out) Tryz.underlying219 rfl (mK X)) rfl ⟨by rw [HX.out], below_setRow B4.out (by have := HGA.out; omega) _⟩
set_option maxHeartbeats 1600000 in
set_option maxRecDepth 10000 in
theorem vR (h : S.Hd) (u : Nat) (sl : List UInt8) (w : World) (ht : h.turn + 1 < 18446744073709551616) (hl : sl.length = 32) :
  Calls Tryz.prog 134 #[hdv h, .int .i64 (u : Int), .agg (S.v8 sl)] w fun e w' => e = .returned (hdv ⟨h.turn + 1, u, sl⟩) /\ Below w.heap.size w w' := by
 obtain ⟨C, hC⟩ : ∃ C, C = (S.hc h).toArray := ⟨_, rfl⟩
 obtain ⟨D, hD⟩ : ∃ D, D = S.v8 sl := ⟨_, rfl⟩
 obtain ⟨w0, hw0⟩ : ∃ w0, w0 = ((w.alloc (.cells C 221)).alloc (.cells D 219)).alloc (.cells (S.hc S.Hd.none).toArray 221) := ⟨_, rfl⟩
 have HB : Hid (Below w.heap.size w w0) := by rw [hw0]; exact ((ba ..).alloc (by simp) _).alloc (by simp; omega) _
 have a0 : cO w0 w.heap.size h := by
  show w0.heap[w.heap.size]? = _
  rw [hw0, heap_alloc_old _ _ (by simp; omega), heap_alloc_old _ _ (by simp), <- hC]
  exact heap_alloc_new _ _
 have r1 : w0.heap[w.heap.size + 1]? = some (.cells (S.v8 sl) 219 (0, 0)) := by
  rw [hw0, heap_alloc_old _ _ (by simp), <- hD, show w.heap.size + 1 = (w.alloc (.cells C 221)).heap.size from by simp]
  exact heap_alloc_new _ _
 have a2 : cO w0 (w.heap.size + 2) S.Hd.none := by
  show w0.heap[w.heap.size + 2]? = _
  rw [hw0, show w.heap.size + 2 = ((w.alloc (.cells C 221)).alloc (.cells D 219)).heap.size from by simp]
  exact heap_alloc_new _ _
 have hal := jd ((w.alloc (.cells C 221)).alloc (.cells D 219))
 have hz1 : ((w.alloc (.cells C 221)).alloc (.cells D 219)).heap.size = w.heap.size + 2 := by simp
 rw [<- hw0, hz1] at hal
 have c0 := a0.turn
 have ld : (Instr.loadAt 219 (.pointer (some ⟨w.heap.size + 1, 0, none⟩))).run Tryz.prog w0 = .ok (.agg D) w0 := by
  rw [hD, S.jN]
  exact run_loadAt_mid (P := Tryz.prog) w0 _ 0 219 _ _ (aY r1) Tryz.underlying219 rfl (by rw [nV, S.ai, hl])
 have hbd := build73 ⟨h.turn + 1, u, sl⟩ hl w0
 obtain ⟨w1, hst, hr, c1⟩ := dI (h := ⟨h.turn + 1, u, sl⟩) a2 (S.zeros_length _) hl
 have HR := hide hr
 have HB1 : Hid (Below w.heap.size w w1) := HB.out.trans (c1.base HB.out.size (by omega))
 simp only at hbd
 rw [<- hD] at hbd
 obtain ⟨HV, hHV⟩ : ∃ X, X = hdv ⟨h.turn + 1, u, sl⟩ := ⟨_, rfl⟩
 rw [<- hHV] at hbd hst
 obtain ⟨T, hT⟩ : ∃ T, T = h.turn := ⟨_, rfl⟩
 rw [<- hT] at c0 hbd ht
 have hwr : IntKind.u64.wrap ((T : Int) + 1) = ((T + 1 : Nat) : Int) := by rw [IntKind.wrap_u64]; omega
 obtain ⟨T1, hT1⟩ : ∃ T1 : Nat, T1 = T + 1 := ⟨_, rfl⟩
 rw [<- hT1] at hwr hbd
 have HHV : Hid (HV = hdv ⟨h.turn + 1, u, sl⟩) := hHV
 obtain ⟨ga, hga⟩ : ∃ ga, ga = w.heap.size := ⟨_, rfl⟩
 obtain ⟨gd, hgd⟩ : ∃ gd, gd = w.heap.size + 1 := ⟨_, rfl⟩
 obtain ⟨gr, hgr⟩ : ∃ gr, gr = w.heap.size + 2 := ⟨_, rfl⟩
 rw [<- hga] at c0
 rw [<- hgd] at ld
 rw [<- hgr] at hst HR
 clear a0 r1 a2 hz1 hr c1 hHV hT1 hT ht
 unfold hdv
 rw [<- hC, <- hD]
 clear hC hD
 go_enter Tryz.func134, Tryz.ntmps134
 go_upto_region 1 with (with_reducible refine aD ⟨some 6, .alloc 221, 0, "head.go:28", #[], none⟩ ?_; refine aA rfl 221 rfl _ _ hal ?_)
 try rw [<- hw0]
 rw [<- hgr, <- hgd, <- hga]
 clear hw0 hal hga hgd hgr
 go_wp2_with (first | (with_reducible refine aD ⟨some 11, .load 219 (.tmp 5), 219, "head.go:29", #[], none⟩ ?_; refine aC rfl 219 (.tmp 5) rfl (.pointer (some ⟨gd, 0, none⟩)) rfl (.agg D) ld ?_) | (with_reducible refine aD ⟨some 12, .build 221 #[(0, .tmp 9), (1, .tmp 10), (2, .tmp 11)], 221, "head.go:29", #[{ on := 2, ground := Ground.data }, { on := 3, ground := Ground.data }, { on := 4, ground := Ground.data }], none⟩ ?_; refine aW rfl 221 [(0, Operand.tmp 9), (1, Operand.tmp 10), (2, Operand.tmp 11)] rfl [(0, .int .u64 (T1 : Int)), (1, .int .i64 (u : Int)), (2, .agg D)] rfl HV hbd ?_) | (with_reducible refine aD ⟨none, .store 221 (.tmp 6) (.tmp 12), 0, "head.go:29", #[{ on := 5, ground := Ground.data }, { on := 0, ground := Ground.phase }, { on := 1, ground := Ground.phase }, { on := 2, ground := Ground.phase }, { on := 3, ground := Ground.phase }, { on := 4, ground := Ground.phase }, { on := 5, ground := Ground.phase }], none⟩ ?_; refine aB rfl 221 (.tmp 6) (.tmp 12) rfl (.pointer (some ⟨gr, 0, none⟩)) HV rfl rfl w1 hst ?_))
 exact bodyPost_ret (fK Tryz.results134 _ _ gr _ rfl (HR.out.loadVar hl)) rfl ⟨rfl, HB1.out⟩
end Go.Proofs.YteealihknndclaaGreatDoor
