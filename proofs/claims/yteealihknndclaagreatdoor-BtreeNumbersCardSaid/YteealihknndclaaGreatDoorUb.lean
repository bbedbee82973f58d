/- bringHome of any pages, on a disk that may stop. -/
import Derived.Test.YteealihknndclaaGreatDoorTd
import Derived.Test.YteealihknndclaaGreatDoorJa
import Derived.Test.YteealihknndclaaGreatDoorJc
namespace Go.Proofs.YteealihknndclaaGreatDoor
open Go.RowKit

structure HomeA (w0 w w' : World) (g : Nat) (tv : Value) (o o' : Ow) (d d' : S.Dk) (b : Bool) (p t : Nat) (ns : List Nat) (xs : List (List UInt8)) : Prop where
 plan : d.plan (S.homeActs d p t ns xs) = (d', b)
 dk : Dsk w' o' d'
 ptr : o'.g = o.g
 ob : ∀ k, o'.has k → w0.heap.size ≤ k
 below : Below w0.heap.size w0 w'
 chg : Chg (fun k => o.has k ∨ k = g ∨ tv.ownBlock = some k) w w'
 own : ∀ k, o'.has k → o.has k ∨ w.heap.size ≤ k
 lo : b = true → ∃ tv', Lo w0 w' o' d' g 1 4 (1 - p) (t + 1) [] tv' ∧ ∀ k, tv'.ownBlock = some k → tv.ownBlock = some k ∨ w.heap.size ≤ k
theorem HomeA.of {w0 w w3 w' : World} {g : Nat} {tv : Value} {o o' : Ow} {d d' : S.Dk} {p t : Nat} {ns : List Nat} {xs : List (List UInt8)} {rs : List (List UInt8)} (h : Lo w0 w3 o d g 1 4 p t rs tv) (hb : Below w.heap.size w w3) (hp : d.plan (S.homeActs d p t ns xs) = (d', false)) (hd : DkIs w' o' d') (hm : DkTo o w3 o' w') : HomeA w0 w w' g tv o o' d d' false p t ns xs :=
 ⟨hp, h.log.dk.to hd hm, hm.g, fun k e => by
  rcases hm.own k e with e | e
  ·exact h.ob k e
  ·exact Nat.le_trans h.below.size e, h.below.trans (hm.chg.below _ h.below.size (fun k hk e => by have := h.ob k e; omega)), (Chg.ofBelow' hb).trans (hm.chg.mono (fun k _ e => Or.inl e)) (fun _ _ e => e), fun k e => by
  rcases hm.own k e with e | e
  ·exact Or.inl e
  ·exact Or.inr (Nat.le_trans hb.size e), fun e => nomatch e⟩
set_option maxHeartbeats 8000000 in
set_option maxRecDepth 10000 in
theorem bringHome_any (w0 w : World) (o : Ow) (d : S.Dk) (g p t : Nat) (tv : Value) (ns : List Nat) (xs : List (List UInt8)) (h : Lo w0 w o d g 1 4 p t [S.setL ns] tv) (hlen : 7680 ≤ d.safe.length) (hn : ∀ n ∈ ns, n < 512) (hpw : ns.Pairwise (· < ·)) (hne : ns ≠ []) (h256 : ns.length ≤ 256) (hx : ∀ i, i < ns.length → (xs.getD i []).length = 1024 ∧ S.pageAt d.safe (4101 + i * 8) = xs.getD i []) (ht : t + 1 < 18446744073709551616) :
  Calls Tryz.prog 86 #[o.ptr, .pointer (some ⟨g, 0, none⟩), .agg (S.v8 (S.setL ns))] w fun e w' => ∃ b d' o', e = .returned (.int .i64 (S.why b)) ∧ HomeA w0 w w' g tv o o' d d' b p t ns xs := by
 obtain ⟨Z, hZ⟩ : ∃ Z, Z = S.v8 (S.setL ns) := ⟨_, rfl⟩
 obtain ⟨Y, hY⟩ : ∃ Y, Y = S.v8 (S.zeros 64) := ⟨_, rfl⟩
 obtain ⟨w1, hw1⟩ : ∃ w1, w1 = w.alloc (.cells Z 149) := ⟨_, rfl⟩
 have b1 : Below w.heap.size w w1 := by rw [hw1]; exact (Below.refl _ _).alloc (Nat.le_refl _) _
 have r1 : w1.heap[w.heap.size]? = some (.cells (S.v8 (S.setL ns)) 149 (0, 0)) := by rw [hw1, hZ]; exact heap_alloc_new _ _
 have ld := load57 r1 (S.setL_length ns)
 have hbd := build57 w1
 rw [← hZ] at ld ⊢
 rw [← hY] at hbd
 have HZ := hide hZ
 have HY := hide hY
 have L1 := hide (h.then b1)
 have B1 := hide b1
 have HW := hide hw1
 have HLEN : Hid (7680 ≤ d.safe.length) := hlen
 have HN := hide hn
 have HPW := hide hpw
 have HX := hide hx
 have HNE := hide hne
 have H256 := hide h256
 have hqs := S.setL_ne ns hn hne
 have HPEND := hide h.log.pend
 obtain ⟨gz, hgz⟩ : ∃ gz, gz = w.heap.size := ⟨_, rfl⟩
 rw [← hgz] at ld
 have HGZ := hide hgz
 have hgt : (ns.length : Int) ≤ 256 := by omega
 clear b1 r1 hZ hY hw1 h hlen hx hn hpw hne h256 hgz
 go_enter Tryz.func86, Tryz.ntmps86
 go_wp2_with (first | (rw [← HW.out, ← HGZ.out]; with_reducible refine at_op ⟨some 11, .load 149 (.tmp 5), 149, "place.go:97", #[], none⟩ ?_; refine wpList_load_as rfl 149 (.tmp 5) rfl (.pointer (some ⟨gz, 0, none⟩)) rfl (.agg Z) ld ?_) | (with_reducible refine at_op ⟨some 12, .build 149 #[], 149, "place.go:97", #[], none⟩ ?_; refine wpList_build_as rfl 149 [] rfl [] rfl (.agg Y) hbd ?_) | (with_reducible refine at_op ⟨some 13, .binOp BinOp.eql 149 (.tmp 11) (.tmp 12) 149, 4, "place.go:97", #[{ on := 0, ground := Ground.data }, { on := 1, ground := Ground.data }], none⟩ ?_; refine wpList_eql_arr rfl (.tmp 11) (.tmp 12) rfl (S.setL ns) (S.zeros 64) Z Y HZ.out HY.out rfl rfl (S.setL_length ns) (S.zeros_length _) false hqs ?_) | (with_reducible refine at_op ⟨some 14, .load 149 (.tmp 5), 149, "place.go:100", #[], none⟩ ?_; refine wpList_load_as rfl 149 (.tmp 5) rfl (.pointer (some ⟨gz, 0, none⟩)) rfl (.agg Z) ld ?_))
 clear ld hbd hqs
 rw [HZ.out]
 refine (pages_any (S.setL ns) w1 (S.setL_length ns)).mono ?_
 rintro e w3 ⟨v, rfl, hv, b3⟩
 rw [S.inSet_setL ns HN.out HPW.out] at hv
 obtain ⟨gl, cl, cur, rfl, hgl, hrow, hcur⟩ := ints_row hv HNE.out
 have R3 := hide hrow
 have CU := hide hcur
 have L3 := hide (L1.out.then b3)
 have NGL : Hid (¬ o.has gl) := fun e => by have := L1.out.log.dk.dk.lt gl e; omega
 have B3 := hide (B1.out.trans (b3.mono B1.out.size))
 clear hv hgl hrow hcur b3 L1
 rw [← HZ.out]
 go_wp2_with fail
 go_loopw [17] (fun i wr => ∃ k : Nat, k ≤ ns.length ∧ i = .int .i64 (k : Int) ∧ ∃ d1 o1, d.plan (S.pagesWs (S.homeOf ns) xs k).acts = (d1, true) ∧ DkIs wr o1 d1 ∧ DkTo o w3 o1 wr) (fun i _ => ns.length - (intOf i).toNat)
 case atStart => exact ⟨0, Nat.zero_le _, rfl, d, o, rfl, L3.out.log.dk.dk, DkTo.refl _ _⟩
 case round =>
 obtain ⟨k, hk, rfl, d1, o1, hpl, hdk, hto⟩ := hrel
 have PL := hide hpl
 have DK := hide hdk
 have T1 := hide hto
 have KL := hide hk
 have HP1 : Hid (d1.pend.length ≤ 4000) := by have h9 := S.Dk.plan_pend (S.pagesWs (S.homeOf ns) xs k).acts d; rw [hpl, S.wacts_len, S.pagesWs_length, HPEND.out] at h9; have := H256.out; exact Nat.le_trans h9 (by simp; omega)
 have HSEEN := hide (S.Dk.plan_pages HPEND.out hpl)
 have hpn : o1.ptr = o.ptr := by unfold Ow.ptr; rw [hto.g]
 rw [← hpn]
 clear hpl hdk hto hpn hk
 by_cases hkl : k < ns.length
 ·have hkI : (k : Int) < (ns.length : Int) := by omega
  have hk0 : (0 : Int) ≤ (k : Int) := by omega
  have KK := hide hkl
  obtain ⟨n, hnn⟩ : ∃ n : Nat, n = ns.getD k 0 := ⟨_, rfl⟩
  have hn512 : n < 512 := by rw [hnn]; exact S.getD_lt HN.out k hkl
  have HHM : Hid (S.homeOf ns k = 5 + n * 8) := by rw [hnn]; rfl
  have c3 : wr.cell? ⟨gl, k, none⟩ = some (.int .i64 (n : Int)) := by
   rw [cell_of_row wr gl k _ 3 _ (T1.out.chg.row R3.out NGL.out), hnn]
   exact CU.out k hkl
  obtain ⟨x, hxx⟩ : ∃ x, x = xs.getD k [] := ⟨_, rfl⟩
  have HXX := hide hxx
  have HXL : Hid (x.length = 1024) := by rw [hxx]; exact (HX.out k hkl).1
  have HSP : Hid (S.pageAt d1.seen (4101 + k * 8) = x) := by
   show S.pageAt d1.seen (4101 + k * 8) = x
   rw [HSEEN.out.2, S.putAll_other _ _ _ _ _ (fun i hi => Or.inr (by have := S.getD_lt HN.out i (by omega); unfold S.homeOf; omega)), hxx]
   exact (HX.out k hkl).2
  have HLEN1 : Hid (7680 ≤ d1.safe.length) := by show 7680 ≤ d1.safe.length; rw [HSEEN.out.1]; exact HLEN.out
  clear hkl hxx hnn
  go_wp2_with fail
  clear c3
  refine (phome_any n (by omega) wr).mono ?_
  rintro e w4 ⟨rfl, rfl⟩
  go_wp2_with fail
  refine (pspare_any k (by have := H256.out; have := KK.out; omega) wr).mono ?_
  rintro e w4 ⟨rfl, rfl⟩
  go_wp2_with fail
  have RP := readPage_any o1 d1 (4101 + k * 8) wr DK.out (fun i hi => DK.out.ok.seen i (by rw [S.Dk.seen_length] at hi; exact hi)) (by have := HLEN1.out; have := H256.out; have := KK.out; omega)
  rw [HSP.out] at RP
  try rw [show ((4101 + k * 8 : Nat) : Int) = 4101 + (k : Int) * 8 by omega] at RP
  refine RP.mono ?_
  rintro e w4 ⟨gp, rfl, hgp, hrm, b4⟩
  have V4 := hrm.sliceAt (by rw [HXL.out]; omega)
  rw [HXL.out] at V4
  have SV4 := hide V4
  have B4 := hide b4
  have D4 := hide (DK.out.below b4)
  have NF4 : Hid (¬ o1.has gp) := fun e => by have := DK.out.lt gp e; omega
  clear RP hrm V4 hgp b4
  go_wp2_with fail
  have WP := writePage_do o1 d1 (5 + n * 8) gp 0 1024 x w4 D4.out (by have := HLEN1.out; omega) SV4.out NF4.out (by have := HP1.out; omega)
  try rw [show ((5 + n * 8 : Nat) : Int) = 5 + (n : Int) * 8 by omega] at WP
  refine WP.mono ?_
  intro e w5 hdo
  obtain ⟨b, d2, o2, rfl, h1, h2, h3⟩ := hdo.start
  have H1 : Hid (d.plan (S.pagesWs (S.homeOf ns) xs (k + 1)).acts = (d2, b)) := by
   show d.plan (S.pagesWs (S.homeOf ns) xs (k + 1)).acts = (d2, b)
   rw [S.pagesWs_succ, S.wacts_app, HHM.out, ← HXX.out, S.Dk.plan_yes PL.out]
   exact h1
  have H2 := hide h2
  have H3 : Hid (DkTo o w3 o2 w5) := T1.out.trans (h3.after B4.out)
  clear hdo h1 h2 h3 WP SV4 B4 D4 NF4 DK T1 PL
  cases b with
  | false =>
   have E : S.why false = 13 := rfl
   rw [E]
   go_wp2_with fail
   go_ret
   refine ⟨false, d2, o2, rfl, HomeA.of L3.out B3.out ?_ H2.out H3.out⟩
   obtain ⟨rr, hrr⟩ := S.pagesWs_split (S.homeOf ns) xs (k + 1) (ns.length - (k + 1))
   rw [show k + 1 + (ns.length - (k + 1)) = ns.length by have := KK.out; omega] at hrr
   unfold S.homeActs
   rw [hrr, List.append_assoc, List.append_assoc]
   exact S.Dk.plan_no H1.out
  | true =>
   have E : S.why true = 0 := rfl
   rw [E]
   go_wp2_with fail
   go_roundw
   case rel => exact ⟨k + 1, KK.out, by go_num, d2, o2, H1.out, H2.out, H3.out⟩
   case measure => have := KK.out; simp [intOf]; omega
 ·have hkI : ¬ ((k : Int) < (ns.length : Int)) := by omega
  obtain rfl : k = ns.length := by have := KL.out; omega
  clear hkl R3 CU NGL
  go_wp2_with fail
  refine (flush_do o1 d1 wr DK.out (Nat.le_trans HP1.out (by omega))).mono ?_
  intro e w6 hdo
  obtain ⟨b, d2, o2, rfl, h1, h2, h3⟩ := hdo.start
  have H1 : Hid (d.plan ((S.pagesWs (S.homeOf ns) xs ns.length).acts ++ [.flush]) = (d2, b)) := by
   show d.plan ((S.pagesWs (S.homeOf ns) xs ns.length).acts ++ [.flush]) = (d2, b)
   rw [S.Dk.plan_yes PL.out]
   exact h1
  have H2 := hide h2
  have H3 := hide (T1.out.trans h3)
  clear hdo h1 h2 h3 DK T1 PL HSEEN HP1
  cases b with
  | false =>
   have E : S.why false = 13 := rfl
   rw [E]
   go_wp2_with fail
   go_ret
   refine ⟨false, d2, o2, rfl, HomeA.of L3.out B3.out ?_ H2.out H3.out⟩
   unfold S.homeActs
   exact S.Dk.plan_no H1.out
  | true =>
   have E : S.why true = 0 := rfl
   rw [E]
   have fl := S.Dk.plan_flushed HPEND.out H1.out
   have L6 : Hid (Lo w0 w6 o2 d2 g 1 4 p t [S.setL ns] tv) := L3.out.beside H2.out H3.out fl.2 (by rw [fl.1]; exact S.putAll_length _ _ _ _) (fun j h1 h2 => by rw [fl.1]; exact S.putAll_off _ _ _ _ _ (fun i hi => Or.inl (by unfold S.homeOf; omega)))
   have FL := hide fl
   clear fl
   go_wp2_with fail
   refine (clear_any o2 d2 g 1 4 p t [S.setL ns] tv w6 L6.out.log ht).mono ?_
   rintro e w7 ⟨bb, d7, o7, tv7, x⟩
   have HF : Hid (HomeA w0 w w7 g tv o o7 d d7 bb p t ns xs) := by
    have hown : ∀ k, o7.has k → o.has k ∨ w3.heap.size ≤ k := fun k e => by
     rcases x.moved.own k e with e | e
     ·exact H3.out.own k e
     ·exact Or.inr (Nat.le_trans H3.out.chg.size e)
    refine ⟨?_, x.dk, x.moved.ptr.trans H3.out.g, fun k e => ?_, L6.out.below.trans (x.moved.chg.below _ L6.out.below.size (fun k hk e => ?_)), ((Chg.ofBelow' B3.out).trans (H3.out.chg.mono (fun k _ e => Or.inl e)) (fun _ _ e => e)).trans x.moved.chg (fun j hj e => ?_), fun k e => ?_, fun hbb => ?_⟩
    ·unfold S.homeActs
     rw [S.Dk.plan_yes H1.out]
     have e : S.commitActs { d with safe := S.putAll d.safe (S.homeOf ns) xs ns.length, pend := [] } 1 4 p t [S.setL ns] [] = S.commitActs d2 1 4 p t [S.setL ns] [] := by
      unfold S.commitActs
      rw [FL.out.1]
     rw [e]
     exact x.plan
    ·rcases hown k e with e | e
     ·exact L3.out.ob k e
     ·exact Nat.le_trans L3.out.below.size e
    ·rcases e with e | e | e
     ·have := L6.out.ob k e; omega
     ·have := L6.out.gb; omega
     ·have := L6.out.tb k e; omega
    ·rcases e with e | e
     ·rcases H3.out.own j e with e | e
      ·exact Or.inl e
      ·have := B3.out.size; omega
     ·exact Or.inr e
    ·rcases hown k e with e | e
     ·exact Or.inl e
     ·exact Or.inr (Nat.le_trans B3.out.size e)
    ·subst hbb
     have cm := S.clear_calm L6.out.log.pend L6.out.log.good ht
     have al := S.Dk.plan_alike x.plan
     rw [cm.acts] at al
     refine ⟨tv7, L6.out.did x al.pend (by rw [al.safe]; exact cm.good), fun k hk => ?_⟩
     rcases x.moved.text k hk with e | e
     ·exact Or.inl e
     ·exact Or.inr (Nat.le_trans B3.out.size (Nat.le_trans H3.out.chg.size e))
   obtain rfl := x.ret
   clear x L6 H1 H2 H3 L3
   generalize hy : S.why bb = y
   have HY2 := hide hy
   clear hy
   go_wp2_with fail
   go_ret
   exact ⟨bb, d7, o7, by rw [HY2.out]; rfl, HF.out⟩
structure Pn (w0 w : World) (o : Ow) (d : S.Dk) (p t : Nat) (pg : Nat → List UInt8) : Prop where
 dk : Dsk w o d
 pend : d.pend = []
 len : 7680 ≤ d.safe.length
 mark : d.safe.getD 0 [] = S.pmark
 log : S.Good d.safe 1 4 p t []
 home : ∀ n, n < 512 → S.pageAt d.safe (5 + n * 8) = pg n
 ob : ∀ k, o.has k → w0.heap.size ≤ k
 below : Below w0.heap.size w0 w
 pos : 1 < w0.heap.size
theorem Pg.n {w0 w : World} {o : Ow} {d : S.Dk} {p t : Nat} {pg : Nat → List UInt8} (h : Pg w0 w o d p t pg) : Pn w0 w o d p t pg := ⟨h.dk, h.pend, h.len, h.mark, h.log, h.home, h.ob, h.below, h.pos⟩
theorem Pn.then {w0 w W : World} {o : Ow} {d : S.Dk} {p t : Nat} {pg : Nat → List UInt8} (h : Pn w0 w o d p t pg) (hb : Below w.heap.size w W) : Pn w0 W o d p t pg :=
 ⟨h.dk.below hb, h.pend, h.len, h.mark, h.log, h.home, h.ob, h.below.trans (hb.mono h.below.size), h.pos⟩
theorem Pn.seen {w0 w : World} {o : Ow} {d : S.Dk} {p t : Nat} {pg : Nat → List UInt8} (h : Pn w0 w o d p t pg) : d.seen = d.safe := S.Dk.seen_flushed d h.pend
set_option maxHeartbeats 4000000 in
set_option maxRecDepth 10000 in
theorem look_n (w0 w : World) (o : Ow) (d : S.Dk) (p t : Nat) (pg : Nat → List UInt8) (h : Pn w0 w o d p t pg) :
  Calls Tryz.prog 71 #[o.ptr] w fun e w' => ∃ g tv, e = .returned (.tuple #[.pointer (some ⟨g, 0, none⟩), .agg (S.v8 (S.zeros 64)), .int .i64 0]) ∧ Lo w0 w' o d g 1 4 p t [] tv ∧ w.heap.size ≤ g ∧ (∀ k, tv.ownBlock = some k → w.heap.size ≤ k) ∧ Below w.heap.size w w' := by
 have hal1 := alloc57 w
 obtain ⟨w1, hw1⟩ : ∃ w1, w1 = w.alloc (.cells (S.v8 (S.zeros 64)) 149) := ⟨_, rfl⟩
 have b1 : Below w.heap.size w w1 := by rw [hw1]; exact (Below.refl _ _).alloc (Nat.le_refl _) _
 have r1 : w1.heap[w.heap.size]? = some (.cells (S.v8 (S.zeros 64)) 149 (0, 0)) := by rw [hw1]; exact heap_alloc_new _ _
 rw [← hw1] at hal1
 obtain ⟨g3, hg3⟩ : ∃ g3, g3 = w.heap.size := ⟨_, rfl⟩
 rw [← hg3] at hal1 r1
 have R1 := hide r1
 have B1 := hide b1
 have P1 := hide (h.then b1)
 have HLT : Hid (∀ k, o.has k → k < g3) := fun k hk => by rw [hg3]; exact h.dk.dk.lt k hk
 have HG3 : Hid (w.heap.size ≤ g3) := by rw [hg3]; exact Nat.le_refl _
 have HG3e : Hid (g3 = w.heap.size) := hg3
 have HW0 : Hid (w0.heap.size ≤ w.heap.size) := h.below.size
 clear b1 r1 hw1 hg3 h
 go_enter Tryz.func71, Tryz.ntmps71
 go_wp2_with (with_reducible refine at_op ⟨some 3, .alloc 149, 0, "place.go:70", #[], none⟩ ?_; refine wpList_alloc_known rfl 149 rfl (.pointer (some ⟨g3, 0, none⟩)) w1 hal1 ?_)
 clear hal1
 refine (read_yes o d 0 w1 P1.out.dk.dk (by have := P1.out.len; omega)).mono ?_
 rintro e w2 ⟨rfl, hr2, b2⟩
 rw [P1.out.seen, P1.out.mark] at hr2
 have cv := conv_slice (slice_row (n := 128) hr2 S.pmark_length.symm (by rw [S.pmark_length]; omega))
 have P2 := hide (P1.out.then b2)
 have R2 : Hid (w2.heap[g3]? = some (.cells (S.v8 (S.zeros 64)) 149 (0, 0))) := (b2.block g3 (block_lt_of_row R1.out)).trans R1.out
 have B2 := hide (B1.out.trans (b2.mono B1.out.size))
 have hq : S.pmark = [112, 97, 103, 101, 115, 32, 116, 104, 97, 116, 32, 97, 114, 101, 32, 112, 117, 116, 32, 116, 111, 103, 101, 116, 104, 101, 114, 32, 46, 46, 46, 32, 112, 97, 103, 101, 115, 32, 116, 104, 97, 116, 32, 97, 114, 101, 32, 112, 117, 116, 32, 116, 111, 103, 101, 116, 104, 101, 114, 32, 46, 46, 46, 32].append [112, 97, 103, 101, 115, 32, 116, 104, 97, 116, 32, 97, 114, 101, 32, 112, 117, 116, 32, 116, 111, 103, 101, 116, 104, 101, 114, 32, 46, 46, 46, 32, 112, 97, 103, 101, 115, 32, 116, 104, 97, 116, 32, 97, 114, 101, 32, 112, 117, 116, 32, 116, 111, 103, 101, 116, 104, 101, 114, 32, 46, 46, 46, 32] := rfl
 clear hr2 b2 R1 B1 P1
 go_wp2_with fail
 clear cv hq
 refine (open_go w0 w2 o d 1 4 p t [] P2.out.dk P2.out.pend P2.out.log P2.out.ob P2.out.below P2.out.pos).mono ?_
 rintro e w4 ⟨g, tv, rfl, hlo, hgb, htb, b4⟩
 have LO4 := hide hlo
 have G4 : Hid (g3 < g ∧ w.heap.size ≤ g ∧ (∀ k, tv.ownBlock = some k → g3 < k ∧ w.heap.size ≤ k)) := by
  have h1 := block_lt_of_row R2.out
  have h2 := HG3e.out
  exact ⟨by omega, by omega, fun k hk => by have := htb k hk; exact ⟨by omega, by omega⟩⟩
 have R4 : Hid (w4.heap[g3]? = some (.cells (S.v8 (S.zeros 64)) 149 (0, 0))) := (b4.block g3 (block_lt_of_row R2.out)).trans R2.out
 have B4 := hide (B2.out.trans (b4.mono B2.out.size))
 clear hlo hgb htb b4 R2 B2 P2
 go_wp2_with fail
 refine (records_go w0 w4 o d g 1 4 p t [] tv LO4.out (by simp)).mono ?_
 rintro e w5 ⟨lv, us, rfl, hrec, b5⟩
 obtain ⟨al, cl, hlv⟩ := hrec.lists.shape
 subst hlv
 have hul : us.length = 0 := hrec.copies.len
 rw [hul]
 have LO5 := hide (LO4.out.then b5)
 have R5 : Hid (w5.heap[g3]? = some (.cells (S.v8 (S.zeros 64)) 149 (0, 0))) := (b5.block g3 (block_lt_of_row R4.out)).trans R4.out
 have B5 := hide (B4.out.trans (b5.mono B4.out.size))
 clear hrec b5 hul LO4 R4 B4
 go_wp2_with fail
 refine (setIn_nil al cl w5).mono ?_
 rintro e w6 ⟨rfl, b6⟩
 have LO6 := hide (LO5.out.then b6)
 have R6 : Hid (w6.heap[g3]? = some (.cells (S.v8 (S.zeros 64)) 149 (0, 0))) := (b6.block g3 (block_lt_of_row R5.out)).trans R5.out
 have B6 := hide (B5.out.trans (b6.mono B5.out.size))
 clear b6 LO5 R5 B5
 have hal2 := alloc57 w6
 obtain ⟨w9, hst2, r9, b9⟩ := made57 w6 (S.zeros 64) (S.zeros_length _)
 have R9 := hide r9
 have LO9 := hide (LO6.out.then b9)
 have R39 : Hid (w9.heap[g3]? = some (.cells (S.v8 (S.zeros 64)) 149 (0, 0))) := (b9.block g3 (block_lt_of_row R6.out)).trans R6.out
 have B9 := hide (B6.out.trans (b9.mono B6.out.size))
 have h36 := block_lt_of_row R6.out
 have N93 : Hid (¬ w6.heap.size = g3) := fun e => by omega
 have NG3 : Hid (∀ k, (o.has k ∨ k = g ∨ tv.ownBlock = some k ∨ k < w0.heap.size) → ¬ k = g3) := fun k hk e => by
  subst e
  rcases hk with hk | hk | hk | hk
  ·exact absurd (HLT.out _ hk) (Nat.lt_irrefl _)
  ·have := G4.out.1; omega
  ·have := (G4.out.2.2 _ hk).1; omega
  ·have := HW0.out; have := HG3.out; omega
 obtain ⟨w7, hw7⟩ : ∃ w7, w7 = w6.alloc (.cells (S.v8 (S.zeros 64)) 149) := ⟨_, rfl⟩
 rw [← hw7] at hal2 hst2
 obtain ⟨g9, hg9⟩ : ∃ g9, g9 = w6.heap.size := ⟨_, rfl⟩
 rw [← hg9] at hal2 hst2 R9 N93
 clear r9 b9 h36 LO6 R6 B6 hg9 hw7
 go_upto_region 10 with (first | (with_reducible refine at_op ⟨some 9, .alloc 149, 0, "place.go:78", #[], none⟩ ?_; refine wpList_alloc_known rfl 149 rfl (.pointer (some ⟨g9, 0, none⟩)) w7 hal2 ?_) | (with_reducible refine at_op ⟨none, .store 149 (.tmp 9) (.tmp 33), 0, "place.go:78", #[{ on := 6, ground := Ground.data }, { on := 4, ground := Ground.data }, { on := 2, ground := Ground.chain }, { on := 0, ground := Ground.phase }, { on := 1, ground := Ground.phase }, { on := 2, ground := Ground.phase }, { on := 3, ground := Ground.phase }, { on := 4, ground := Ground.phase }, { on := 5, ground := Ground.textOnly Departure.lateStores }, { on := 6, ground := Ground.phase }], none⟩ ?_; refine wpList_store_as rfl 149 (.tmp 9) (.tmp 33) rfl (.pointer (some ⟨g9, 0, none⟩)) (.agg (S.v8 (S.zeros 64))) rfl rfl w9 hst2 ?_))
 clear hal2 hst2
 refine wp_region_noPanic ?_
 refine wp_region_held_drew (S := (fun W => W.heap[g9]? = some (.cells (S.v8 (S.zeros 64)) 149 (0, 0)))) follows R9.out (fun hHeld => ?_)
 have LOd := hide (LO9.out.then (Below.refl w9.heap.size w9).drew)
 have B9d : Hid (Below w.heap.size w w9.drew) := B9.out.drew
 have R3d : Hid (w9.drew.heap[g3]? = some (.cells (S.v8 (S.zeros 64)) 149 (0, 0))) := R39.out
 clear LO9 B9 R9 R39
 generalize w9.drew = Z1 at LOd B9d R3d hHeld ⊢
 refine tq 0 ?_
 simp only [Act.put, uB, uC, uD]
 refine wpAnyH_take (i := 1) (oi := ⟨_, _, _, _, _, _⟩) (v := .agg (S.v8 (S.zeros 64))) rfl (by kernel_rfl) (by kernel_rfl) (by kernel_rfl) (fun _ _ _ h => h) (yieldsIf_load57 (by kernel_rfl) (.tmp 9) rfl g9 rfl (S.zeros_length _) (fun W hW => hW)) (by assumption) ?_
 simp only [Act.put, uB, uC, uD]
 refine tq 2 ?_
 simp only [Act.put, uB, uC, uD]
 obtain ⟨Z2, hst, r3, c3⟩ := store57 (ys := S.zeros 64) R3d.out (S.zeros_length _) (S.zeros_length _)
 have R3 := hide r3
 have LO2 : Hid (Lo w0 Z2 o d g 1 4 p t [] tv) := LOd.out.chg c3 NG3.out
 have B2 : Hid (Below w.heap.size w Z2) := B9d.out.trans (c3.base B9d.out.size HG3.out)
 have a2 : Z2.heap[g9]? = some (.cells (S.v8 (S.zeros 64)) 149 (0, 0)) := c3.row hHeld N93.out
 refine rdy [3] ?_
 refine step_store (o := ⟨_, _, _, _, _, _⟩) rfl rfl 149 (.tmp 3) (.tmp 39) rfl Z2 hst AllReadyH.nil ⟨a2, fun hHeld => ?_⟩
 simp only [Act.put]
 clear hst r3 c3 LOd B9d R3d a2
 refine tq 4 ?_
 simp only [Act.put, uB, uC, uD]
 refine wpAnyH_done (by kernel_rfl) ?_ _
 refine NoPanic.normal ?_
 clear hHeld
 go_wp2_with fail
 refine bodyPost_ret (results_mid Tryz.results71 _ _ g3 (.agg (S.v8 (S.zeros 64))) rfl (loadVar57 R3.out (S.zeros_length _))) rfl ⟨g, tv, rfl, LO2.out, G4.out.2.1, fun k hk => (G4.out.2.2 k hk).2, B2.out⟩
set_option maxHeartbeats 4000000 in
set_option maxRecDepth 10000 in
theorem settled_n (w0 w : World) (o : Ow) (d : S.Dk) (p t gs : Nat) (pg : Nat → List UInt8) (h : Pn w0 w o d p t pg) (hs : StAt w gs o) :
  Calls Tryz.prog 82 #[.pointer (some ⟨gs, 0, none⟩)] w fun e w' => ∃ g tv, e = .returned (.tuple #[.pointer (some ⟨g, 0, none⟩), .int .i64 0]) ∧ Lo w0 w' o d g 1 4 p t [] tv ∧ w.heap.size ≤ g ∧ (∀ k, tv.ownBlock = some k → w.heap.size ≤ k) ∧ Pn w0 w' o d p t pg ∧ StAt w' gs o ∧ Below w.heap.size w w' := by
 have P0 := hide h
 have S0 := hide hs
 clear h hs
 have c0 := st_cell S0.out
 go_enter Tryz.func82, Tryz.ntmps82
 go_wp2_with fail
 have hptr : o.ptr = .pointer (some ⟨o.g, 0, none⟩) := rfl
 rw [← hptr]
 refine (settle_none o d w P0.out.dk.dk P0.out.pend).mono ?_
 rintro e w1 ⟨rfl, rfl⟩
 rw [hptr]
 go_wp2_with fail
 rw [← hptr]
 refine (look_n w0 w o d p t pg P0.out).mono ?_
 rintro e w1 ⟨g, tv, rfl, hlo, hgb, htb, b1⟩
 have LO1 := hide hlo
 have P1 := hide (P0.out.then b1)
 have B1 := hide b1
 have S1 : Hid (StAt w1 gs o) := (b1.block gs (block_lt_of_row S0.out)).trans S0.out
 have G1 : Hid (w.heap.size ≤ g ∧ ∀ k, tv.ownBlock = some k → w.heap.size ≤ k) := ⟨hgb, htb⟩
 clear hlo hgb htb b1 P0 S0 c0
 have hal := alloc57 w1
 obtain ⟨w3, hst, r3, b3⟩ := made57 w1 (S.zeros 64) (S.zeros_length _)
 have LO3 := hide (LO1.out.then b3)
 have P3 := hide (P1.out.then b3)
 have B3 := hide (B1.out.trans (b3.mono B1.out.size))
 have ST3 : Hid (StAt w3 gs o) := (b3.block gs (block_lt_of_row S1.out)).trans S1.out
 have R3 := hide r3
 obtain ⟨w2, hw2⟩ : ∃ w2, w2 = w1.alloc (.cells (S.v8 (S.zeros 64)) 149) := ⟨_, rfl⟩
 rw [← hw2] at hal hst
 obtain ⟨g6, hg6⟩ : ∃ g6, g6 = w1.heap.size := ⟨_, rfl⟩
 rw [← hg6] at hal hst R3
 rw [hptr]
 clear r3 b3 hw2 hg6 P1 B1 S1 LO1 hptr
 go_upto_region 7 with (first | (with_reducible refine at_op ⟨some 6, .alloc 149, 0, "pages.go:98", #[], none⟩ ?_; refine wpList_alloc_known rfl 149 rfl (.pointer (some ⟨g6, 0, none⟩)) w2 hal ?_) | (with_reducible refine at_op ⟨none, .store 149 (.tmp 6) (.tmp 23), 0, "pages.go:98", #[{ on := 9, ground := Ground.data }, { on := 7, ground := Ground.data }, { on := 10, ground := Ground.chain }, { on := 0, ground := Ground.phase }, { on := 1, ground := Ground.phase }, { on := 2, ground := Ground.phase }, { on := 3, ground := Ground.phase }, { on := 4, ground := Ground.phase }, { on := 5, ground := Ground.phase }, { on := 6, ground := Ground.phase }, { on := 7, ground := Ground.phase }, { on := 8, ground := Ground.textOnly Departure.lateStores }, { on := 9, ground := Ground.phase }, { on := 10, ground := Ground.phase }], none⟩ ?_; refine wpList_store_as rfl 149 (.tmp 6) (.tmp 23) rfl (.pointer (some ⟨g6, 0, none⟩)) (.agg (S.v8 (S.zeros 64))) rfl rfl w3 hst ?_))
 clear hal hst
 refine wp_region_noPanic ?_
 refine wp_region_held_drew (S := (fun W => W.heap[gs]? = some (.cells #[.pointer (some ⟨o.g, 0, none⟩)] 153 (0, 0)) ∧ W.heap[g6]? = some (.cells (S.v8 (S.zeros 64)) 149 (0, 0)))) follows ⟨ST3.out, R3.out⟩ (fun hHeld => ?_)
 have LOd := hide (LO3.out.then (Below.refl w3.heap.size w3).drew)
 have P3d := hide (P3.out.then (Below.refl w3.heap.size w3).drew)
 have B3d : Hid (Below w.heap.size w w3.drew) := B3.out.drew
 clear LO3 P3 B3 ST3 R3
 generalize w3.drew = Z1 at LOd P3d B3d hHeld ⊢
 refine tq 0 ?_
 simp only [Act.put, uB, uC, uD]
 refine tq 1 ?_
 simp only [Act.put, uB, uC, uD]
 refine tq 2 ?_
 simp only [Act.put, uB, uC, uD]
 refine tq 3 ?_
 simp only [Act.put, uB, uC, uD]
 refine tk 4 ?_ rfl (Or.inl ⟨by rfl, ?_⟩) ?_
 rotate_left
 ·intro w hSw
  have c0 := st_cell hSw.1
  clear hSw
  go_simp
  all_goals with_reducible rfl
 simp only [Act.put, uB, uC, uD]
 refine tq 5 ?_
 simp only [Act.put, uB, uC, uD]
 refine wpAnyH_take (i := 6) (oi := ⟨_, _, _, _, _, _⟩) (v := .agg (S.v8 (S.zeros 64))) rfl (by kernel_rfl) (by kernel_rfl) (by kernel_rfl) (fun _ _ _ h => h) (yieldsIf_load57 (by kernel_rfl) (.tmp 6) rfl g6 rfl (S.zeros_length _) (fun W hW => hW.2)) (by assumption) ?_
 simp only [Act.put, uB, uC, uD]
 refine r1 7 fun K hK => ?_
 go_simp
 refine (bringHome_none (.pointer (some ⟨o.g, 0, none⟩)) (.pointer (some ⟨g, 0, none⟩)) Z1).mono ?_
 rintro e Z2 ⟨rfl, b2⟩
 have a2 : Z2.heap[gs]? = some (.cells #[.pointer (some ⟨o.g, 0, none⟩)] 153 (0, 0)) ∧ Z2.heap[g6]? = some (.cells (S.v8 (S.zeros 64)) 149 (0, 0)) := ⟨(b2.block gs (block_lt_of_row hHeld.1)).trans hHeld.1, (b2.block g6 (block_lt_of_row hHeld.2)).trans hHeld.2⟩
 have LO4 := hide (LOd.out.then b2)
 have P4 := hide (P3d.out.then b2)
 have B4 : Hid (Below w.heap.size w Z2) := B3d.out.trans (b2.mono B3d.out.size)
 have ST4 : Hid (StAt Z2 gs o) := a2.1
 clear b2 hHeld LOd P3d B3d
 refine hK.out _ _ a2 (fun hHeld => ?_)
 clear hK K
 try simp only [Act.put, uB, uC, uD]
 clear a2
 refine tq 8 ?_
 simp only [Act.put, uB, uC, uD]
 refine tq 9 ?_
 simp only [Act.put, uB, uC, uD]
 refine wpAnyH_done (by kernel_rfl) ?_ _
 refine NoPanic.normal ?_
 clear hHeld
 go_wp2_with fail
 go_ret2
 exact ⟨g, tv, rfl, LO4.out, G1.out.1, G1.out.2, P4.out, ST4.out, B4.out⟩
set_option maxHeartbeats 4000000 in
set_option maxRecDepth 10000 in
theorem pread_n (w0 w : World) (o : Ow) (d : S.Dk) (p t gs n : Nat) (pg : Nat → List UInt8) (h : Pn w0 w o d p t pg) (hs : StAt w gs o) (hn : n < 512) :
  Calls Tryz.prog 140 #[.pointer (some ⟨gs, 0, none⟩), .int .i64 (n : Int)] w fun e w' => ∃ gp, e = .returned (.tuple #[.slice (some ⟨gp, 0, none⟩) 1024 1024, .int .i64 0]) ∧ w.heap.size ≤ gp ∧ Room w' gp 1024 (pg n) ∧ Pn w0 w' o d p t pg ∧ StAt w' gs o ∧ Below w.heap.size w w' := by
 have P0 := hide h
 have S0 := hide hs
 clear h hs
 go_enter Tryz.func140, Tryz.ntmps140
 go_wp2_with fail
 refine (isPage_yes n hn w).mono ?_
 rintro e w1 ⟨rfl, rfl⟩
 have c0 := st_cell S0.out
 go_wp2_with fail
 have hptr : o.ptr = .pointer (some ⟨o.g, 0, none⟩) := rfl
 rw [← hptr]
 refine (look_n w0 w o d p t pg P0.out).mono ?_
 rintro e w1 ⟨g, tv, rfl, hlo, hgb, htb, b1⟩
 have P1 := hide (P0.out.then b1)
 have B1 := hide b1
 have S1 : Hid (StAt w1 gs o) := (b1.block gs (block_lt_of_row S0.out)).trans S0.out
 clear hlo hgb htb b1 P0 S0 c0
 have hal := alloc57 w1
 obtain ⟨w3, hst, r3, b3⟩ := made57 w1 (S.zeros 64) (S.zeros_length _)
 have P3 := hide (P1.out.then b3)
 have B3 := hide (B1.out.trans (b3.mono B1.out.size))
 have S3 : Hid (StAt w3 gs o) := (b3.block gs (block_lt_of_row S1.out)).trans S1.out
 obtain ⟨w2, hw2⟩ : ∃ w2, w2 = w1.alloc (.cells (S.v8 (S.zeros 64)) 149) := ⟨_, rfl⟩
 rw [← hw2] at hal hst
 have ld := load57 r3 (S.zeros_length _)
 obtain ⟨g2, hg2⟩ : ∃ g2, g2 = w1.heap.size := ⟨_, rfl⟩
 rw [← hg2] at hal hst ld
 obtain ⟨Z, hZ⟩ : ∃ Z, Z = S.v8 (S.zeros 64) := ⟨_, rfl⟩
 rw [← hZ] at hst ld ⊢
 have HZ := hide hZ
 clear r3 b3 hw2 hg2 hZ P1 B1 S1 hptr
 go_wp2_with (first | (with_reducible refine at_op ⟨some 7, .alloc 149, 0, "pages.go:60", #[], none⟩ ?_; refine wpList_alloc_known rfl 149 rfl (.pointer (some ⟨g2, 0, none⟩)) w2 hal ?_) | (with_reducible refine at_op ⟨none, .store 149 (.tmp 7) (.tmp 19), 0, "pages.go:60", #[{ on := 9, ground := Ground.data }, { on := 7, ground := Ground.data }, { on := 10, ground := Ground.chain }, { on := 0, ground := Ground.phase }, { on := 1, ground := Ground.phase }, { on := 2, ground := Ground.phase }, { on := 3, ground := Ground.phase }, { on := 4, ground := Ground.phase }, { on := 5, ground := Ground.phase }, { on := 6, ground := Ground.phase }, { on := 7, ground := Ground.phase }, { on := 8, ground := Ground.textOnly Departure.lateStores }, { on := 9, ground := Ground.phase }, { on := 10, ground := Ground.phase }], none⟩ ?_; refine wpList_store_as rfl 149 (.tmp 7) (.tmp 19) rfl (.pointer (some ⟨g2, 0, none⟩)) (.agg Z) rfl rfl w3 hst ?_) | (with_reducible refine at_op ⟨some 24, .load 149 (.tmp 7), 149, "pages.go:64", #[], none⟩ ?_; refine wpList_load_as rfl 149 (.tmp 7) rfl (.pointer (some ⟨g2, 0, none⟩)) rfl (.agg Z) ld ?_))
 clear hal hst ld
 refine (bit_any Z (S.zeros 64) n w3 HZ.out (S.zeros_length _) hn).mono ?_
 rintro e w6 ⟨rfl, b6⟩
 rw [S.bit_zeros]
 have P6 := hide (P3.out.then b6)
 have B6 := hide (B3.out.trans (b6.mono B3.out.size))
 have ST6 : Hid (StAt w6 gs o) := (b6.block gs (block_lt_of_row S3.out)).trans S3.out
 clear b6 P3 B3 S3
 go_upto_region 8 with fail
 refine wp_region_noPanic ?_
 refine wp_region_held_drew (S := (fun W => W.heap[gs]? = some (.cells #[.pointer (some ⟨o.g, 0, none⟩)] 153 (0, 0)))) follows ST6.out (fun hHeld => ?_)
 have P6d := hide (P6.out.then (Below.refl w6.heap.size w6).drew)
 have B6d : Hid (Below w.heap.size w w6.drew) := B6.out.drew
 clear P6 B6 ST6
 generalize w6.drew = Z1 at P6d B6d hHeld ⊢
 refine tq 0 ?_
 simp only [Act.put, uB, uC, uD]
 refine tq 1 ?_
 simp only [Act.put, uB, uC, uD]
 refine tq 2 ?_
 simp only [Act.put, uB, uC, uD]
 refine tk 3 ?_ rfl (Or.inl ⟨by rfl, ?_⟩) ?_
 rotate_left
 ·intro w hSw
  have c0 := st_cell hSw
  clear hSw
  go_simp
  all_goals with_reducible rfl
 simp only [Act.put, uB, uC, uD]
 refine tq 4 ?_
 simp only [Act.put, uB, uC, uD]
 refine r1 5 fun K hK => ?_
 go_simp
 refine (phome_any n (by omega) Z1).mono ?_
 rintro e Z2 ⟨rfl, rfl⟩
 refine hK.out _ _ hHeld (fun hHeld => ?_)
 clear hK K
 try simp only [Act.put, uB, uC, uD]
 refine r1 6 fun K hK => ?_
 go_simp
 have RP := readPage_any o d (5 + n * 8) Z1 P6d.out.dk.dk (fun i hi => by rw [P6d.out.seen] at hi ⊢; exact P6d.out.dk.dk.ok.len i hi) (by have := P6d.out.len; omega)
 rw [P6d.out.seen, P6d.out.home n hn, show o.ptr = .pointer (some ⟨o.g, 0, none⟩) from rfl] at RP
 try rw [show ((5 + n * 8 : Nat) : Int) = 5 + (n : Int) * 8 by omega] at RP
 refine RP.mono ?_
 rintro e Z2 ⟨gp, rfl, hgp, hrm, b2⟩
 have a2 : Z2.heap[gs]? = some (.cells #[.pointer (some ⟨o.g, 0, none⟩)] 153 (0, 0)) := (b2.block gs (block_lt_of_row hHeld)).trans hHeld
 have P7 := hide (P6d.out.then b2)
 have RM := hide hrm
 have GP : Hid (w.heap.size ≤ gp) := Nat.le_trans B6d.out.size hgp
 have ST7 := hide a2
 have B7 : Hid (Below w.heap.size w Z2) := B6d.out.trans (b2.mono B6d.out.size)
 clear RP hgp hrm b2 hHeld P6d B6d
 refine hK.out _ _ a2 (fun hHeld => ?_)
 clear hK K
 try simp only [Act.put, uB, uC, uD]
 clear a2
 refine tq 7 ?_
 simp only [Act.put, uB, uC, uD]
 refine tq 8 ?_
 simp only [Act.put, uB, uC, uD]
 refine wpAnyH_done (by kernel_rfl) ?_ _
 refine NoPanic.normal ?_
 clear hHeld
 go_wp2_with fail
 go_ret2
 exact ⟨gp, rfl, GP.out, RM.out, P7.out, ST7.out, B7.out⟩
namespace S
def putActs (d : Dk) (p t : Nat) (ns : List Nat) (xs : List (List UInt8)) : List Act :=
 (spTo xs ns.length ++ [.flush]) ++ (commitActs { d with safe := putAll d.safe (fun i => 4101 + i * 8) xs ns.length, pend := [] } 1 4 p t [] [setL ns] ++ homeActs { d with safe := after (putAll d.safe (fun i => 4101 + i * 8) xs ns.length) 1 4 p t [] [setL ns], pend := [] } (1 - p) (t + 1) ns xs)
theorem commitActs_safe {d e : Dk} (h : d.safe = e.safe) (f c p t : Nat) (rs rs' : List (List UInt8)) : commitActs d f c p t rs rs' = commitActs e f c p t rs rs' := by
 unfold commitActs
 rw [h]
theorem homeActs_safe {d e : Dk} (h : d.safe = e.safe) (p t : Nat) (ns : List Nat) (xs : List (List UInt8)) : homeActs d p t ns xs = homeActs e p t ns xs := by
 unfold homeActs
 rw [commitActs_safe (d := { d with safe := putAll d.safe (homeOf ns) xs ns.length, pend := [] }) (e := { e with safe := putAll e.safe (homeOf ns) xs ns.length, pend := [] }) (by rw [h])]
theorem pgs_up (d : List ShV) (h : d.Pairwise (fun x y => x.1 < y.1)) (hp : ∀ x ∈ d, 0 ≤ x.1) : (pgs d).Pairwise (· < ·) := by
 unfold pgs
 rw [List.pairwise_map]
 exact h.imp_of_mem (fun {a b} ha hb hab => by have := hp a ha; have := hp b hb; omega)
theorem map_getD (X : Nat → List UInt8) (ns : List Nat) (i : Nat) (hi : i < ns.length) : (ns.map X).getD i [] = X (ns.getD i 0) := by
 rw [List.getD_eq_getElem?_getD, List.getD_eq_getElem?_getD, List.getElem?_map, List.getElem?_eq_getElem hi]
 rfl
end S
structure PutA (w0 w w' : World) (gs : Nat) (o o' : Ow) (d d' : S.Dk) (b : Bool) (p t : Nat) (ns : List Nat) (xs : List (List UInt8)) : Prop where
 plan : d.plan (S.putActs d p t ns xs) = (d', b)
 dk : Dsk w' o' d'
 ptr : o'.g = o.g
 ob : ∀ k, o'.has k → w0.heap.size ≤ k
 below : Below w0.heap.size w0 w'
 st : StAt w' gs o'
 chg : Chg o.has w w'
 own : ∀ k, o'.has k → o.has k ∨ w.heap.size ≤ k
structure ShOk (w : World) (o : Ow) (X : Nat → List UInt8) (y : ShV) : Prop where
 lo : 0 ≤ y.1
 hi : y.1 < 512
 len : y.2.2.1 = 1024
 at_ : ∃ bk off, y.2.1 = some ⟨bk, off, none⟩ ∧ ¬ o.has bk ∧ bk < w.heap.size
 val : SliceAt w y.list (X y.1.toNat)
theorem ShOk.size {w : World} {o : Ow} {X : Nat → List UInt8} {y : ShV} (h : ShOk w o X y) : (X y.1.toNat).length = 1024 := by
 obtain ⟨_, _, _, e, e2, _⟩ := h.val.form
 simp only [ShV.list, Value.slice.injEq] at e
 have := h.len
 omega
theorem ShOk.below {w W : World} {o : Ow} {X : Nat → List UInt8} {y : ShV} (h : ShOk w o X y) (hb : Below w.heap.size w W) : ShOk W o X y := by
 obtain ⟨bk, off, h1, h2, h3⟩ := h.at_
 exact ⟨h.lo, h.hi, h.len, ⟨bk, off, h1, h2, Nat.lt_of_lt_of_le h3 hb.size⟩, h.val.below hb (Nat.le_refl _)⟩
set_option maxHeartbeats 16000000 in
set_option maxRecDepth 10000 in
theorem pput_any (w0 w : World) (o : Ow) (d : S.Dk) (p t gs b off cap : Nat) (l : List ShV) (pg X : Nat → List UInt8) (h : Pn w0 w o d p t pg) (hs : StAt w gs o) (h0 : ∀ j u, (l.flatMap encSh)[j]? = some u → w.cell? ⟨b, off + j, none⟩ = some u) (hd : l ≠ []) (hl : l.length ≤ 256) (hp : ∀ x ∈ l, ShOk w o X x) (hn : (l.map (·.1)).Nodup) (hgs : ¬ o.has gs) (ht : t + 2 < 18446744073709551616) :
  Calls Tryz.prog 45 #[.pointer (some ⟨gs, 0, none⟩), .slice (some ⟨b, off, none⟩) l.length cap] w fun e w' => ∃ bb d' o' ns, e = .returned (.int .i64 (S.why bb)) ∧ ns.Perm (S.pgs l) ∧ ns.Pairwise (· < ·) ∧ PutA w0 w w' gs o o' d d' bb p t ns (ns.map X) := by
 have P0 := hide h
 have S0 := hide hs
 have H0 := hide h0
 have HD := hide hd
 have HL := hide hl
 have HP := hide hp
 have HN := hide hn
 have NGS := hide hgs
 have HLT : Hid (∀ k, o.has k → k < w.heap.size) := h.dk.dk.lt
 have HP1 := h.log.place
 have HGSL : Hid (gs < w.heap.size) := block_lt_of_row hs
 have q1 : ¬ (l.length : Int) = 0 := fun e => hd (List.length_eq_zero_iff.1 (by omega))
 have q2 : ((l.length : Int) == 0) = false := beq_false_of_ne q1
 clear h hs h0 hd hl hp hn hgs
 go_enter Tryz.func45, Tryz.ntmps45
 go_wp2_with fail
 refine (inOrder_any b off cap l w H0.out HD.out HL.out (fun x hx => ⟨(HP.out x hx).lo, (HP.out x hx).hi, (HP.out x hx).len⟩) HN.out).mono ?_
 rintro e w1 ⟨g1, c1, l2, rfl, hg1, hpm, hpw, hs1, b1⟩
 have P1 := hide (P0.out.then b1)
 have ST1 : Hid (StAt w1 gs o) := (b1.block gs (block_lt_of_row S0.out)).trans S0.out
 have SH1 := hide hs1
 have B1 := hide b1
 have NG1 : Hid (¬ o.has g1) := fun e => by have := HLT.out _ e; omega
 have HP2 : Hid (∀ x ∈ l2, ShOk w1 o X x) := fun x hx => (HP.out x (hpm.mem_iff.1 hx)).below b1
 have LL : Hid (l2.length = l.length) := hpm.length_eq
 have HQ : Hid (∀ x ∈ l2, 0 ≤ x.1 ∧ x.1 < 512 ∧ x.2.2.1 = 1024) := fun x hx => ⟨(HP2.out x hx).lo, (HP2.out x hx).hi, (HP2.out x hx).len⟩
 obtain ⟨ns, hns⟩ : ∃ ns, ns = S.pgs l2 := ⟨_, rfl⟩
 have HNS := hide hns
 have NSP : Hid (ns.Perm (S.pgs l)) := by rw [hns]; exact hpm.map _
 have NSU : Hid (ns.Pairwise (· < ·)) := by rw [hns]; exact S.pgs_up l2 hpw (fun x hx => (HP2.out x hx).lo)
 have NSL : Hid (ns.length = l.length) := by rw [hns]; unfold S.pgs; show (l2.map _).length = _; rw [List.length_map]; exact LL.out
 have NSB : Hid (∀ n ∈ ns, n < 512) := fun n hn => by
  rw [hns] at hn
  obtain ⟨x, hx, rfl⟩ := List.mem_map.1 hn
  have := (HP2.out x hx).hi
  have := (HP2.out x hx).lo
  omega
 have NSN : Hid (ns ≠ []) := fun e => HD.out (List.length_eq_zero_iff.1 (by rw [← NSL.out, e]; rfl))
 have NSX : Hid (∀ n ∈ ns, (X n).length = 1024) := fun n hn => by
  rw [hns] at hn
  obtain ⟨x, hx, rfl⟩ := List.mem_map.1 hn
  exact (HP2.out x hx).size
 obtain ⟨xs, hxs⟩ : ∃ xs, xs = ns.map X := ⟨_, rfl⟩
 have XSG : Hid (∀ i, i < ns.length → xs.getD i [] = X (ns.getD i 0)) := fun i hi => by rw [hxs]; exact S.map_getD X ns i hi
 have XSL : Hid (∀ i, i < ns.length → (xs.getD i []).length = 1024) := fun i hi => by
  rw [XSG.out i hi]
  refine NSX.out _ ?_
  rw [List.getD_eq_getElem?_getD, List.getElem?_eq_getElem hi, Option.getD_some]
  exact List.getElem_mem hi
 have HXS := hide hxs
 have LN : Hid (ns.length ≤ 256) := by show ns.length ≤ 256; rw [NSL.out]; exact HL.out
 clear hg1 hs1 b1 hpm hpw hns hxs P0 S0 H0 HP
 go_wp2_with fail
 refine (settled_n w0 w1 o d p t gs pg P1.out ST1.out).mono ?_
 rintro e w2 ⟨g, tv, rfl, hlo, hgb, htb, hp2, hst2, b2⟩
 have LO2 := hide hlo
 have P2 := hide hp2
 have ST2 := hide hst2
 have SH2 := hide (SH1.out.below b2)
 have HP3 : Hid (∀ x ∈ l2, ShOk w2 o X x) := fun x hx => (HP2.out x hx).below b2
 have B2 := hide (B1.out.trans (b2.mono B1.out.size))
 have hs1 := B1.out.size
 have GW : Hid (w.heap.size ≤ g ∧ ∀ k, tv.ownBlock = some k → w.heap.size ≤ k) := ⟨by omega, fun k hk => by have := htb k hk; omega⟩
 clear hlo hgb htb hp2 hst2 b2 P1 ST1 SH1 B1 hs1 HP2
 have c2 := st_cell ST2.out
 go_wp2_with fail
 clear c2
 have PS := putSpares_any o d g1 c1 l2 xs w2 P2.out.dk.dk P2.out.len SH2.out NG1.out (by rw [LL.out]; exact HL.out) (fun i y hy => by
  have hil : i < l2.length := (List.getElem?_eq_some_iff.1 hy).1
  have ok := HP3.out y (List.mem_of_getElem? hy)
  obtain ⟨bk, bo, e1, e2, e3⟩ := ok.at_
  refine ⟨ok.lo, bk, bo, e1, ok.len, ?_, e2, e3⟩
  have hin : i < ns.length := by rw [NSL.out, ← LL.out]; exact hil
  have : ns.getD i 0 = y.1.toNat := by
   rw [HNS.out]
   unfold S.pgs
   rw [List.getD_eq_getElem?_getD, List.getElem?_map, hy]
   rfl
  rw [XSG.out i hin, this]
  exact ok.val) (by rw [P2.out.pend]; simp)
 rw [LL.out, ← NSL.out, show o.ptr = .pointer (some ⟨o.g, 0, none⟩) from rfl] at PS
 rw [← NSL.out]
 refine PS.mono ?_
 intro e w3 hdo
 obtain ⟨b3, d3, o3, rfl, h1, h2, h3⟩ := hdo.start
 have PL3 := hide h1
 have ST3 : Hid (w3.heap[gs]? = some (.cells #[.pointer (some ⟨o.g, 0, none⟩)] 153 (0, 0))) := h3.chg.row ST2.out NGS.out
 have SH3 : Hid (ShR w3 g1 l2) := by
  obtain ⟨cur, x1, x2⟩ := SH2.out.row
  exact ⟨cur, h3.chg.row x1 NG1.out, x2⟩
 have C3 : Hid (Chg o.has w w3) := (Chg.ofBelow' B2.out).trans h3.chg (fun _ _ e => e)
 have OWN3 : Hid (∀ k, o3.has k → o.has k ∨ w.heap.size ≤ k) := fun k e => by
  rcases h3.own k e with e | e
  ·exact Or.inl e
  ·exact Or.inr (Nat.le_trans B2.out.size e)
 have PT3 : Hid (o3.g = o.g) := h3.g
 have DK3 := hide (LO2.out.log.dk.to h2 h3)
 have OB3 : Hid (∀ k, o3.has k → w0.heap.size ≤ k) := fun k e => by
  rcases h3.own k e with e | e
  ·exact P2.out.ob k e
  ·exact Nat.le_trans P2.out.below.size e
 have BL3 : Hid (Below w0.heap.size w0 w3) := P2.out.below.trans (h3.chg.below _ P2.out.below.size (fun k hk e => by have := P2.out.ob k e; omega))
 have H2 := hide h2
 have H3 := hide h3
 clear PS hdo h1 h2 h3 SH2 HP3
 cases b3 with
 | false =>
  have E : S.why false = 13 := rfl
  rw [E]
  go_wp2_with fail
  go_ret
  refine ⟨false, d3, o3, ns, rfl, NSP.out, NSU.out, ?_⟩
  rw [← HXS.out]
  refine ⟨?_, DK3.out, PT3.out, OB3.out, BL3.out, ?_, C3.out, OWN3.out⟩
  ·unfold S.putActs
   exact S.Dk.plan_no PL3.out
  ·show w3.heap[gs]? = some (.cells #[.pointer (some ⟨o3.g, 0, none⟩)] 153 (0, 0))
   rw [PT3.out]
   exact ST3.out
 | true =>
 have E : S.why true = 0 := rfl
 rw [E]
 have fl := S.Dk.plan_flushed (f := fun i => 4101 + i * 8) (xs := xs) (k := ns.length) P2.out.pend (by have := PL3.out; rw [S.spTo_eq] at this; exact this)
 have FL := hide fl
 have LEN3 : Hid (d3.safe.length = d.safe.length) := by show d3.safe.length = d.safe.length; rw [fl.1]; exact S.putAll_length _ _ _ _
 have LO3 : Hid (Lo w0 w3 o3 d3 g 1 4 p t [] tv) := LO2.out.beside H2.out H3.out fl.2 LEN3.out (fun j h1 h2 => by rw [fl.1]; exact S.putAll_off _ _ _ _ _ (fun i hi => Or.inl (by omega)))
 clear fl LO2 ST2 B2 H2 H3
 go_wp2_with fail
 have SO := setOf_any g1 c1 l2 w3 SH3.out HQ.out (by rw [LL.out]; exact HL.out)
 rw [← HNS.out, LL.out, ← NSL.out] at SO
 refine SO.mono ?_
 rintro e w4 ⟨rfl, b4⟩
 clear SO
 have hal := alloc57 w4
 obtain ⟨w5, hst, r5, b5⟩ := made57 w4 (S.setL ns) (S.setL_length ns)
 have B35 := hide (b4.trans (b5.mono b4.size))
 have LO5 := hide (LO3.out.then B35.out)
 have ST5 : Hid (w5.heap[gs]? = some (.cells #[.pointer (some ⟨o.g, 0, none⟩)] 153 (0, 0))) := (B35.out.block gs (block_lt_of_row ST3.out)).trans ST3.out
 have RX5 := hide r5
 have C5 : Hid (Chg o.has w w5) := C3.out.trans (Chg.ofBelow' (p := fun _ => False) B35.out) (fun _ _ e => e.elim)
 have h34 := b4.size
 have hg3 := block_lt_of_row LO3.out.log.lg.row
 have NXG : Hid (¬ (w4.heap.size = g ∨ tv.ownBlock = some w4.heap.size) ∧ ¬ o3.has w4.heap.size) := ⟨fun e => by
  rcases e with e | e
  ·omega
  ·have := LO3.out.log.lg.text.lt e; omega, fun e => by have := LO3.out.log.dk.dk.lt _ e; omega⟩
 obtain ⟨w4', hw4'⟩ : ∃ w4', w4' = w4.alloc (.cells (S.v8 (S.zeros 64)) 149) := ⟨_, rfl⟩
 rw [← hw4'] at hal hst
 obtain ⟨gx, hgx⟩ : ∃ gx, gx = w4.heap.size := ⟨_, rfl⟩
 rw [← hgx] at hal hst RX5 NXG
 obtain ⟨Z, hZ⟩ : ∃ Z, Z = S.v8 (S.setL ns) := ⟨_, rfl⟩
 rw [← hZ] at hst ⊢
 clear r5 b5 b4 hw4' hgx hZ LO3 SH3 h34 hg3
 go_wp2_with (first | (with_reducible refine at_op ⟨some 10, .alloc 149, 0, "pages.go:86", #[], none⟩ ?_; refine wpList_alloc_known rfl 149 rfl (.pointer (some ⟨gx, 0, none⟩)) w4' hal ?_) | (with_reducible refine at_op ⟨none, .store 149 (.tmp 10) (.tmp 40), 0, "pages.go:86", #[{ on := 2, ground := Ground.data }, { on := 1, ground := Ground.data }, { on := 1, ground := Ground.chain }, { on := 0, ground := Ground.phase }, { on := 1, ground := Ground.phase }, { on := 2, ground := Ground.phase }], none⟩ ?_; refine wpList_store_as rfl 149 (.tmp 10) (.tmp 40) rfl (.pointer (some ⟨gx, 0, none⟩)) (.agg Z) rfl rfl w5 hst ?_))
 clear hal hst
 have KP5 : Hid (∀ W, Chg (fun k => k = g ∨ tv.ownBlock = some k) w5 W → SliceAt W (.slice (some ⟨gx, 0, none⟩) 64 64) (S.setL ns)) := fun W hW => set_row (hW.row RX5.out NXG.out.1) (S.setL_length ns)
 have NE : Hid (S.setL ns ≠ []) := fun e => by have h := S.setL_length ns; rw [e] at h; simp at h
 have FIT : Hid ((S.setL ns).length ≤ S.room 4 - (S.enc []).length - 3) := by show (S.setL ns).length ≤ S.room 4 - (S.enc []).length - 3; rw [S.setL_length]; decide
 refine (commit_any o3 d3 g 1 4 p t [] tv (some ⟨gx, 0, none⟩) 64 64 (S.setL ns) w5 LO5.out.log (by omega) KP5.out NE.out FIT.out).mono ?_
 rintro e w6 ⟨b6, d6, o6, tv6, x⟩
 have hgsl := block_lt_of_row ST5.out
 have hgxl := block_lt_of_row RX5.out
 have n1 : ¬ (o3.has gs ∨ gs = g ∨ tv.ownBlock = some gs) := fun e => by
  have h1 := HGSL.out
  rcases e with e | e | e
  ·rcases OWN3.out _ e with e | e
   ·exact NGS.out e
   ·omega
  ·have := GW.out.1; omega
  ·have := GW.out.2 _ e; omega
 have n2 : ¬ (o3.has gx ∨ gx = g ∨ tv.ownBlock = some gx) := fun e => by
  rcases e with e | e
  ·exact NXG.out.2 e
  ·exact NXG.out.1 e
 have ST6 : Hid (w6.heap[gs]? = some (.cells #[.pointer (some ⟨o.g, 0, none⟩)] 153 (0, 0))) := x.moved.chg.row ST5.out n1
 have RX6 : Hid (w6.heap[gx]? = some (.cells (S.v8 (S.setL ns)) 149 (0, 0))) := x.moved.chg.row RX5.out n2
 have C6 : Hid (Chg o.has w w6) := C5.out.trans x.moved.chg (fun j hj e => by
  rcases e with e | e | e
  ·rcases OWN3.out j e with e | e
   ·exact e
   ·omega
  ·have := GW.out.1; omega
  ·have := GW.out.2 j e; omega)
 have OWN6 : Hid (∀ k, o6.has k → o.has k ∨ w.heap.size ≤ k) := fun k e => by
  rcases x.moved.own k e with e | e
  ·exact OWN3.out k e
  ·exact Or.inr (Nat.le_trans C5.out.size e)
 have PT6 : Hid (o6.g = o.g) := x.moved.ptr.trans PT3.out
 have NS6 : Hid (¬ (o6.has gs ∨ gs = g ∨ tv6.ownBlock = some gs)) := fun e => by
  rcases e with e | e | e
  ·rcases x.moved.own _ e with e | e
   ·exact n1 (Or.inl e)
   ·omega
  ·exact n1 (Or.inr (Or.inl e))
  ·rcases x.moved.text _ e with e | e
   ·exact n1 (Or.inr (Or.inr e))
   ·omega
 have NX6 : Hid (¬ (o6.has gx ∨ gx = g ∨ tv6.ownBlock = some gx)) := fun e => by
  rcases e with e | e | e
  ·rcases x.moved.own _ e with e | e
   ·exact n2 (Or.inl e)
   ·omega
  ·exact n2 (Or.inr (Or.inl e))
  ·rcases x.moved.text _ e with e | e
   ·exact n2 (Or.inr (Or.inr e))
   ·omega
 have GW6 : Hid (w.heap.size ≤ g ∧ ∀ k, tv6.ownBlock = some k → w.heap.size ≤ k) := ⟨GW.out.1, fun k hk => by
  rcases x.moved.text k hk with e | e
  ·exact GW.out.2 k e
  ·exact Nat.le_trans C5.out.size e⟩
 have OB6 : Hid (∀ k, o6.has k → w0.heap.size ≤ k) := fun k e => by
  rcases x.moved.own k e with e | e
  ·exact OB3.out k e
  ·exact Nat.le_trans LO5.out.below.size e
 have BL6 : Hid (Below w0.heap.size w0 w6) := LO5.out.below.trans (x.moved.chg.below _ LO5.out.below.size (fun k hk e => by
  rcases e with e | e | e
  ·have := LO5.out.ob k e; omega
  ·have := LO5.out.gb; omega
  ·have := LO5.out.tb k e; omega))
 have DK6 := hide x.dk
 have PL6 : Hid (d3.plan (S.commitActs { d with safe := S.putAll d.safe (fun i => 4101 + i * 8) xs ns.length, pend := [] } 1 4 p t [] [S.setL ns]) = (d6, b6)) := by
  show d3.plan (S.commitActs _ 1 4 p t [] [S.setL ns]) = (d6, b6)
  rw [S.commitActs_safe (e := d3) (by rw [FL.out.1])]
  exact x.plan
 obtain rfl := x.ret
 cases b6 with
 | false =>
  have E : S.why false = 13 := rfl
  rw [E]
  clear x n1 n2 hgsl hgxl
  go_wp2_with fail
  go_ret
  refine ⟨false, d6, o6, ns, rfl, NSP.out, NSU.out, ?_⟩
  rw [← HXS.out]
  refine ⟨?_, DK6.out, PT6.out, OB6.out, BL6.out, ?_, C6.out, OWN6.out⟩
  ·unfold S.putActs
   rw [S.Dk.plan_yes PL3.out]
   exact S.Dk.plan_no PL6.out
  ·show w6.heap[gs]? = some (.cells #[.pointer (some ⟨o6.g, 0, none⟩)] 153 (0, 0))
   rw [PT6.out]
   exact ST6.out
 | true =>
 have E : S.why true = 0 := rfl
 rw [E]
 have cm := S.commit_calm (b := S.setL ns) LO5.out.log.pend LO5.out.log.good (by omega) (by rw [S.enc_snoc_length]; have := FIT.out; have e := S.setL_length ns; have e2 : S.room 4 = 240 := rfl; have e3 : (S.enc []).length = 0 := rfl; omega)
 have my := cm.may
 have al := S.Dk.plan_alike x.plan
 rw [show ([] : List (List UInt8)) ++ [S.setL ns] = [S.setL ns] from rfl] at al
 rw [show ([] : List (List UInt8)) ++ [S.setL ns] = [S.setL ns] from rfl] at cm my
 rw [cm.acts] at al
 have hsf : d6.safe = S.after d3.safe 1 4 p t [] [S.setL ns] := al.safe
 have LO6 : Hid (Lo w0 w6 o6 d6 g 1 4 (1 - p) (t + 1) [S.setL ns] tv6) := LO5.out.did x al.pend (by rw [hsf]; exact cm.good)
 have MY : Hid (d6.safe.length = d3.safe.length ∧ ∀ j, j < 1 ∨ 5 ≤ j → d6.safe.getD j [] = d3.safe.getD j []) := by rw [hsf]; exact ⟨my.len, fun j hj => my.stay j hj⟩
 have SF6 : Hid (d6.safe = S.after (S.putAll d.safe (fun i => 4101 + i * 8) xs ns.length) 1 4 p t [] [S.setL ns]) := by show d6.safe = _; rw [hsf, FL.out.1]
 have LEN6 : Hid (7680 ≤ d6.safe.length) := by show 7680 ≤ d6.safe.length; rw [MY.out.1, LEN3.out]; exact P2.out.len
 have SP6 : Hid (∀ i, i < ns.length → (xs.getD i []).length = 1024 ∧ S.pageAt d6.safe (4101 + i * 8) = xs.getD i []) := fun i hi => by
  refine ⟨XSL.out i hi, ?_⟩
  have e1 : S.pageAt d6.safe (4101 + i * 8) = S.pageAt d3.safe (4101 + i * 8) := S.secs_cong (fun j h1 h2 => MY.out.2 j (Or.inr (by omega)))
  rw [e1, FL.out.1]
  exact S.putAll_page d.safe (fun i => 4101 + i * 8) xs ns.length (fun i hi => by have := P2.out.len; have := LN.out; show 4101 + i * 8 + 8 ≤ _; omega) XSL.out (fun i j _ _ hij => by show 4101 + i * 8 + 8 ≤ 4101 + j * 8 ∨ 4101 + j * 8 + 8 ≤ 4101 + i * 8; omega) i hi
 clear x my al cm hsf n1 n2 hgsl hgxl GW LO5 ST5 RX5 C5 OWN3 PT3 KP5 NE FIT NXG MY LEN3 P2
 have GW := GW6
 clear GW6
 go_upto_region 16 with fail
 refine wp_region_noPanic ?_
 refine wp_region_held_drew (S := (fun W => W.heap[gs]? = some (.cells #[.pointer (some ⟨o.g, 0, none⟩)] 153 (0, 0)) ∧ W.heap[gx]? = some (.cells (S.v8 (S.setL ns)) 149 (0, 0)))) follows ⟨ST6.out, RX6.out⟩ (fun hHeld => ?_)
 have LOd := hide (LO6.out.then (Below.refl w6.heap.size w6).drew)
 have C6d : Hid (Chg o.has w w6.drew) := C6.out.drew
 clear LO6 C6 ST6 RX6
 generalize w6.drew = Z1 at LOd C6d hHeld ⊢
 refine tq 0 ?_
 simp only [Act.put, uB, uC, uD]
 refine tq 1 ?_
 simp only [Act.put, uB, uC, uD]
 refine tq 2 ?_
 simp only [Act.put, uB, uC, uD]
 refine tk 3 ?_ rfl (Or.inl ⟨by rfl, ?_⟩) ?_
 rotate_left
 ·intro w hSw
  have c0 := st_cell hSw.1
  clear hSw
  go_simp
  all_goals with_reducible rfl
 simp only [Act.put, uB, uC, uD]
 refine tq 4 ?_
 simp only [Act.put, uB, uC, uD]
 refine wpAnyH_take (i := 5) (oi := ⟨_, _, _, _, _, _⟩) (v := .agg (S.v8 (S.setL ns))) rfl (by kernel_rfl) (by kernel_rfl) (by kernel_rfl) (fun _ _ _ h => h) (yieldsIf_load57 (by kernel_rfl) (.tmp 10) rfl gx rfl (S.setL_length ns) (fun W hW => hW.2)) (by assumption) ?_
 simp only [Act.put, uB, uC, uD]
 refine r1 6 fun K hK => ?_
 go_simp
 have BH := bringHome_any w0 Z1 o6 d6 g (1 - p) (t + 1) tv6 ns xs LOd.out LEN6.out NSB.out NSU.out NSN.out LN.out SP6.out (by omega)
 rw [show o6.ptr = .pointer (some ⟨o.g, 0, none⟩) by unfold Ow.ptr; rw [PT6.out]] at BH
 refine BH.mono ?_
 rintro e Z2 ⟨b7, d7, o7, rfl, hh⟩
 have a2 : Z2.heap[gs]? = some (.cells #[.pointer (some ⟨o.g, 0, none⟩)] 153 (0, 0)) ∧ Z2.heap[gx]? = some (.cells (S.v8 (S.setL ns)) 149 (0, 0)) := ⟨hh.chg.row hHeld.1 NS6.out, hh.chg.row hHeld.2 NX6.out⟩
 have ST7 : Hid (StAt Z2 gs o7) := by
  show Z2.heap[gs]? = some (.cells #[.pointer (some ⟨o7.g, 0, none⟩)] 153 (0, 0))
  rw [hh.ptr, PT6.out]
  exact a2.1
 have PA : Hid (PutA w0 w Z2 gs o o7 d d7 b7 p t ns xs) := ⟨by
  unfold S.putActs
  rw [S.Dk.plan_yes PL3.out, S.Dk.plan_yes PL6.out, S.homeActs_safe (e := d6) (by rw [SF6.out])]
  exact hh.plan, hh.dk, hh.ptr.trans PT6.out, hh.ob, hh.below, ST7.out, C6d.out.trans hh.chg (fun j hj e => by rcases e with e | e | e; rcases OWN6.out j e with e | e; exact e; omega; have := GW.out.1; omega; have := GW.out.2 j e; omega), fun k e => by rcases hh.own k e with e | e; exact OWN6.out k e; exact Or.inr (Nat.le_trans C6d.out.size e)⟩
 clear BH hh hHeld LOd C6d
 generalize hy : S.why b7 = y
 have HY := hide hy
 clear hy
 refine hK.out _ _ a2 (fun hHeld => ?_)
 clear hK K
 try simp only [Act.put, uB, uC, uD]
 clear a2
 refine tq 7 ?_
 simp only [Act.put, uB, uC, uD]
 refine wpAnyH_done (by kernel_rfl) ?_ _
 refine NoPanic.normal ?_
 clear hHeld
 go_wp2_with fail
 go_ret
 exact ⟨b7, d7, o7, ns, by rw [HY.out]; rfl, NSP.out, NSU.out, by rw [← HXS.out]; exact PA.out⟩
end Go.Proofs.YteealihknndclaaGreatDoor
