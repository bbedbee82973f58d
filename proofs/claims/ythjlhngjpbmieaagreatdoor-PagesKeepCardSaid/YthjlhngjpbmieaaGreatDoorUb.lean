/- bringHome of any pages, on a disk that may stop. -/
import Derived.Test.YthjlhngjpbmieaaGreatDoorUa
import Derived.Test.YthjlhngjpbmieaaGreatDoorJf
import Derived.Test.YthjlhngjpbmieaaGreatDoorJa
import Derived.Test.YthjlhngjpbmieaaGreatDoorJc
namespace Go.Proofs.YthjlhngjpbmieaaGreatDoor
open Go.RowKit

/-- Behind bringHome, wherever it stopped. -/
structure HomeA (w0 w w' : World) (g : Nat) (tv : Value) (o o' : Ow) (d d' : S.Dk) (b : Bool) (p t : Nat) (ns : List Nat) (xs : List (List UInt8)) : Prop where
  plan : d.plan (S.homeActs d p t ns xs) = (d', b)
  dk : Dsk w' o' d'
  ptr : o'.g = o.g
  ob : ∀ k, o'.has k → w0.heap.size ≤ k
  below : Below w0.heap.size w0 w'
  chg : Chg (fun k => o.has k ∨ k = g ∨ tv.ownBlock = some k) w w'
  own : ∀ k, o'.has k → o.has k ∨ w.heap.size ≤ k
  lo : b = true → ∃ tv', Lo w0 w' o' d' g 1 4 (1 - p) (t + 1) [] tv' ∧ ∀ k, tv'.ownBlock = some k → tv.ownBlock = some k ∨ w.heap.size ≤ k
/-- Where the disk alone has changed. -/
theorem HomeA.of {w0 w w3 w' : World} {g : Nat} {tv : Value} {o o' : Ow} {d d' : S.Dk} {p t : Nat} {ns : List Nat} {xs : List (List UInt8)} {rs : List (List UInt8)} (h : Lo w0 w3 o d g 1 4 p t rs tv) (hb : Below w.heap.size w w3) (hp : d.plan (S.homeActs d p t ns xs) = (d', false)) (hd : DkIs w' o' d') (hm : DkTo o w3 o' w') : HomeA w0 w w' g tv o o' d d' false p t ns xs :=
  ⟨hp, h.log.dk.to hd hm, hm.g, fun k e => by
    rcases hm.own k e with e | e
    · exact h.ob k e
    · exact Nat.le_trans h.below.size e, h.below.trans (hm.chg.below _ h.below.size (fun k hk e => by have := h.ob k e; omega)), (Chg.ofBelow' hb).trans (hm.chg.mono (fun k _ e => Or.inl e)) (fun _ _ e => e), fun k e => by
    rcases hm.own k e with e | e
    · exact Or.inl e
    · exact Or.inr (Nat.le_trans hb.size e), fun e => nomatch e⟩
set_option maxHeartbeats 8000000 in
set_option maxRecDepth 10000 in
theorem bringHome_any (w0 w : World) (o : Ow) (d : S.Dk) (g p t : Nat) (tv : Value) (ns : List Nat) (xs : List (List UInt8)) (h : Lo w0 w o d g 1 4 p t [S.setL ns] tv) (hlen : 7680 ≤ d.safe.length) (hn : ∀ n ∈ ns, n < 512) (hpw : ns.Pairwise (· < ·)) (hne : ns ≠ []) (h256 : ns.length ≤ 256) (hx : ∀ i, i < ns.length → (xs.getD i []).length = 1024 ∧ S.pageAt d.safe (4101 + i * 8) = xs.getD i []) (ht : t + 1 < 18446744073709551616) :
   Calls Tryz.prog 35 #[o.ptr, .pointer (some ⟨g, 0, none⟩), .agg (S.v8 (S.setL ns))] w fun e w' => ∃ b d' o', e = .returned (.int .i64 (S.why b)) ∧ HomeA w0 w w' g tv o o' d d' b p t ns xs := by
  obtain ⟨Z, hZ⟩ : ∃ Z, Z = S.v8 (S.setL ns) := ⟨_, rfl⟩
  obtain ⟨Y, hY⟩ : ∃ Y, Y = S.v8 (S.zeros 64) := ⟨_, rfl⟩
  obtain ⟨w1, hw1⟩ : ∃ w1, w1 = w.alloc (.cells Z 65) := ⟨_, rfl⟩
  have b1 : Below w.heap.size w w1 := by rw [hw1]; exact (Below.refl _ _).alloc (Nat.le_refl _) _
  have r1 : w1.heap[w.heap.size]? = some (.cells (S.v8 (S.setL ns)) 65 (0, 0)) := by rw [hw1, hZ]; exact heap_alloc_new _ _
  have ld := load57 r1 (S.setL_length ns)
  have hbd := build57 w1
  rw [← hZ] at ld ⊢
  rw [← hY] at hbd
  have HZ := hide hZ
  have HY := hide hY
  have L1 := hide (h.then b1)
  have B1 := hide b1
  have HW := hide hw1
  have HLEN : Hid (7680 ≤ d.safe.length) := hlen
  have HN := hide hn
  have HPW := hide hpw
  have HX := hide hx
  have HNE := hide hne
  have H256 := hide h256
  have hqs := S.setL_ne ns hn hne
  have HPEND := hide h.log.pend
  obtain ⟨gz, hgz⟩ : ∃ gz, gz = w.heap.size := ⟨_, rfl⟩
  rw [← hgz] at ld
  have HGZ := hide hgz
  have hgt : (ns.length : Int) ≤ 256 := by omega
  clear b1 r1 hZ hY hw1 h hlen hx hn hpw hne h256 hgz
  go_enter Tryz.func35, Tryz.ntmps35
  go_wp2_with (first | (rw [← HW.out, ← HGZ.out]; with_reducible refine at_op ⟨some 11, .load 65 (.tmp 5), 65, "place.go:97", #[], none⟩ ?_; refine wpList_load_as rfl 65 (.tmp 5) rfl (.pointer (some ⟨gz, 0, none⟩)) rfl (.agg Z) ld ?_) | (with_reducible refine at_op ⟨some 12, .build 65 #[], 65, "place.go:97", #[], none⟩ ?_; refine wpList_build_as rfl 65 [] rfl [] rfl (.agg Y) hbd ?_) | (with_reducible refine at_op ⟨some 13, .binOp BinOp.eql 65 (.tmp 11) (.tmp 12) 65, 4, "place.go:97", #[⟨0, .data⟩, ⟨1, .data⟩], none⟩ ?_; refine wpList_eql_arr rfl (.tmp 11) (.tmp 12) rfl (S.setL ns) (S.zeros 64) Z Y HZ.out HY.out rfl rfl (S.setL_length ns) (S.zeros_length _) false hqs ?_) | (with_reducible refine at_op ⟨some 14, .load 65 (.tmp 5), 65, "place.go:100", #[], none⟩ ?_; refine wpList_load_as rfl 65 (.tmp 5) rfl (.pointer (some ⟨gz, 0, none⟩)) rfl (.agg Z) ld ?_))
  clear ld hbd hqs
  rw [HZ.out]
  refine (pages_any (S.setL ns) w1 (S.setL_length ns)).mono ?_
  rintro e w3 ⟨v, rfl, hv, b3⟩
  rw [S.inSet_setL ns HN.out HPW.out] at hv
  obtain ⟨gl, cl, cur, rfl, hgl, hrow, hcur⟩ := ints_row hv HNE.out
  have R3 := hide hrow
  have CU := hide hcur
  have L3 := hide (L1.out.then b3)
  have NGL : Hid (¬ o.has gl) := fun e => by have := L1.out.log.dk.dk.lt gl e; omega
  have B3 := hide (B1.out.trans (b3.mono B1.out.size))
  clear hv hgl hrow hcur b3 L1
  rw [← HZ.out]
  go_wp2_with fail
  go_loopw [17] (fun i wr => ∃ k : Nat, k ≤ ns.length ∧ i = .int .i64 (k : Int) ∧ ∃ d1 o1, d.plan (S.pagesWs (S.homeOf ns) xs k).acts = (d1, true) ∧ DkIs wr o1 d1 ∧ DkTo o w3 o1 wr) (fun i _ => ns.length - (intOf i).toNat)
  case atStart => exact ⟨0, Nat.zero_le _, rfl, d, o, rfl, L3.out.log.dk.dk, DkTo.refl _ _⟩
  case round =>
  obtain ⟨k, hk, rfl, d1, o1, hpl, hdk, hto⟩ := hrel
  have PL := hide hpl
  have DK := hide hdk
  have T1 := hide hto
  have KL := hide hk
  have HP1 : Hid (d1.pend.length ≤ 4000) := by have h9 := S.Dk.plan_pend (S.pagesWs (S.homeOf ns) xs k).acts d; rw [hpl, S.wacts_len, S.pagesWs_length, HPEND.out] at h9; have := H256.out; exact Nat.le_trans h9 (by simp; omega)
  have HSEEN := hide (S.Dk.plan_pages HPEND.out hpl)
  have hpn : o1.ptr = o.ptr := by unfold Ow.ptr; rw [hto.g]
  rw [← hpn]
  clear hpl hdk hto hpn hk
  by_cases hkl : k < ns.length
  · have hkI : (k : Int) < (ns.length : Int) := by omega
    have hk0 : (0 : Int) ≤ (k : Int) := by omega
    have KK := hide hkl
    obtain ⟨n, hnn⟩ : ∃ n : Nat, n = ns.getD k 0 := ⟨_, rfl⟩
    have hn512 : n < 512 := by rw [hnn]; exact S.getD_lt HN.out k hkl
    have HHM : Hid (S.homeOf ns k = 5 + n * 8) := by rw [hnn]; rfl
    have c3 : wr.cell? ⟨gl, k, none⟩ = some (.int .i64 (n : Int)) := by
      rw [cell_of_row wr gl k _ 3 _ (T1.out.chg.row R3.out NGL.out), hnn]
      exact CU.out k hkl
    obtain ⟨x, hxx⟩ : ∃ x, x = xs.getD k [] := ⟨_, rfl⟩
    have HXX := hide hxx
    have HXL : Hid (x.length = 1024) := by rw [hxx]; exact (HX.out k hkl).1
    have HSP : Hid (S.pageAt d1.seen (4101 + k * 8) = x) := by
      show S.pageAt d1.seen (4101 + k * 8) = x
      rw [HSEEN.out.2, S.putAll_other _ _ _ _ _ (fun i hi => Or.inr (by have := S.getD_lt HN.out i (by omega); unfold S.homeOf; omega)), hxx]
      exact (HX.out k hkl).2
    have HLEN1 : Hid (7680 ≤ d1.safe.length) := by show 7680 ≤ d1.safe.length; rw [HSEEN.out.1]; exact HLEN.out
    clear hkl hxx hnn
    go_wp2_with fail
    clear c3
    refine (phome_any n (by omega) wr).mono ?_
    rintro e w4 ⟨rfl, rfl⟩
    go_wp2_with fail
    refine (pspare_any k (by have := H256.out; have := KK.out; omega) wr).mono ?_
    rintro e w4 ⟨rfl, rfl⟩
    go_wp2_with fail
    have RP := readPage_any o1 d1 (4101 + k * 8) wr DK.out (fun i hi => DK.out.ok.seen i (by rw [S.Dk.seen_length] at hi; exact hi)) (by have := HLEN1.out; have := H256.out; have := KK.out; omega)
    rw [HSP.out] at RP
    try rw [show ((4101 + k * 8 : Nat) : Int) = 4101 + (k : Int) * 8 by omega] at RP
    refine RP.mono ?_
    rintro e w4 ⟨gp, rfl, hgp, hrm, b4⟩
    have V4 := hrm.sliceAt (by rw [HXL.out]; omega)
    rw [HXL.out] at V4
    have SV4 := hide V4
    have B4 := hide b4
    have D4 := hide (DK.out.below b4)
    have NF4 : Hid (¬ o1.has gp) := fun e => by have := DK.out.lt gp e; omega
    clear RP hrm V4 hgp b4
    go_wp2_with fail
    have WP := writePage_do o1 d1 (5 + n * 8) gp 0 1024 x w4 D4.out (by have := HLEN1.out; omega) SV4.out NF4.out (by have := HP1.out; omega)
    try rw [show ((5 + n * 8 : Nat) : Int) = 5 + (n : Int) * 8 by omega] at WP
    refine WP.mono ?_
    intro e w5 hdo
    obtain ⟨b, d2, o2, rfl, h1, h2, h3⟩ := hdo.start
    have H1 : Hid (d.plan (S.pagesWs (S.homeOf ns) xs (k + 1)).acts = (d2, b)) := by
      show d.plan (S.pagesWs (S.homeOf ns) xs (k + 1)).acts = (d2, b)
      rw [S.pagesWs_succ, S.wacts_app, HHM.out, ← HXX.out, S.Dk.plan_yes PL.out]
      exact h1
    have H2 := hide h2
    have H3 : Hid (DkTo o w3 o2 w5) := T1.out.trans (h3.after B4.out)
    clear hdo h1 h2 h3 WP SV4 B4 D4 NF4 DK T1 PL
    cases b with
    | false =>
      have E : S.why false = 13 := rfl
      rw [E]
      go_wp2_with fail
      go_ret
      refine ⟨false, d2, o2, rfl, HomeA.of L3.out B3.out ?_ H2.out H3.out⟩
      obtain ⟨rr, hrr⟩ := S.pagesWs_split (S.homeOf ns) xs (k + 1) (ns.length - (k + 1))
      rw [show k + 1 + (ns.length - (k + 1)) = ns.length by have := KK.out; omega] at hrr
      unfold S.homeActs
      rw [hrr, List.append_assoc, List.append_assoc]
      exact S.Dk.plan_no H1.out
    | true =>
      have E : S.why true = 0 := rfl
      rw [E]
      go_wp2_with fail
      go_roundw
      case rel => exact ⟨k + 1, KK.out, by go_num, d2, o2, H1.out, H2.out, H3.out⟩
      case measure => have := KK.out; simp [intOf]; omega
  · have hkI : ¬ ((k : Int) < (ns.length : Int)) := by omega
    obtain rfl : k = ns.length := by have := KL.out; omega
    clear hkl R3 CU NGL
    go_wp2_with fail
    refine (flush_do o1 d1 wr DK.out (Nat.le_trans HP1.out (by omega))).mono ?_
    intro e w6 hdo
    obtain ⟨b, d2, o2, rfl, h1, h2, h3⟩ := hdo.start
    have H1 : Hid (d.plan ((S.pagesWs (S.homeOf ns) xs ns.length).acts ++ [.flush]) = (d2, b)) := by
      show d.plan ((S.pagesWs (S.homeOf ns) xs ns.length).acts ++ [.flush]) = (d2, b)
      rw [S.Dk.plan_yes PL.out]
      exact h1
    have H2 := hide h2
    have H3 := hide (T1.out.trans h3)
    clear hdo h1 h2 h3 DK T1 PL HSEEN HP1
    cases b with
    | false =>
      have E : S.why false = 13 := rfl
      rw [E]
      go_wp2_with fail
      go_ret
      refine ⟨false, d2, o2, rfl, HomeA.of L3.out B3.out ?_ H2.out H3.out⟩
      unfold S.homeActs
      exact S.Dk.plan_no H1.out
    | true =>
      have E : S.why true = 0 := rfl
      rw [E]
      have fl := S.Dk.plan_flushed HPEND.out H1.out
      have L6 : Hid (Lo w0 w6 o2 d2 g 1 4 p t [S.setL ns] tv) := L3.out.beside H2.out H3.out fl.2 (by rw [fl.1]; exact S.putAll_length _ _ _ _) (fun j h1 h2 => by rw [fl.1]; exact S.putAll_off _ _ _ _ _ (fun i hi => Or.inl (by unfold S.homeOf; omega)))
      have FL := hide fl
      clear fl
      go_wp2_with fail
      refine (clear_any o2 d2 g 1 4 p t [S.setL ns] tv w6 L6.out.log ht).mono ?_
      rintro e w7 ⟨bb, d7, o7, tv7, x⟩
      have HF : Hid (HomeA w0 w w7 g tv o o7 d d7 bb p t ns xs) := by
        have hown : ∀ k, o7.has k → o.has k ∨ w3.heap.size ≤ k := fun k e => by
          rcases x.moved.own k e with e | e
          · exact H3.out.own k e
          · exact Or.inr (Nat.le_trans H3.out.chg.size e)
        refine ⟨?_, x.dk, x.moved.ptr.trans H3.out.g, fun k e => ?_, L6.out.below.trans (x.moved.chg.below _ L6.out.below.size (fun k hk e => ?_)), ((Chg.ofBelow' B3.out).trans (H3.out.chg.mono (fun k _ e => Or.inl e)) (fun _ _ e => e)).trans x.moved.chg (fun j hj e => ?_), fun k e => ?_, fun hbb => ?_⟩
        · unfold S.homeActs
          rw [S.Dk.plan_yes H1.out]
          have e : S.commitActs { d with safe := S.putAll d.safe (S.homeOf ns) xs ns.length, pend := [] } 1 4 p t [S.setL ns] [] = S.commitActs d2 1 4 p t [S.setL ns] [] := by
            unfold S.commitActs
            rw [FL.out.1]
          rw [e]
          exact x.plan
        · rcases hown k e with e | e
          · exact L3.out.ob k e
          · exact Nat.le_trans L3.out.below.size e
        · rcases e with e | e | e
          · have := L6.out.ob k e; omega
          · have := L6.out.gb; omega
          · have := L6.out.tb k e; omega
        · rcases e with e | e
          · rcases H3.out.own j e with e | e
            · exact Or.inl e
            · have := B3.out.size; omega
          · exact Or.inr e
        · rcases hown k e with e | e
          · exact Or.inl e
          · exact Or.inr (Nat.le_trans B3.out.size e)
        · subst hbb
          have cm := S.clear_calm L6.out.log.pend L6.out.log.good ht
          have al := S.Dk.plan_alike x.plan
          rw [cm.acts] at al
          refine ⟨tv7, L6.out.did x al.pend (by rw [al.safe]; exact cm.good), fun k hk => ?_⟩
          rcases x.moved.text k hk with e | e
          · exact Or.inl e
          · exact Or.inr (Nat.le_trans B3.out.size (Nat.le_trans H3.out.chg.size e))
      obtain rfl := x.ret
      clear x L6 H1 H2 H3 L3
      generalize hy : S.why bb = y
      have HY2 := hide hy
      clear hy
      go_wp2_with fail
      go_ret
      exact ⟨bb, d7, o7, by rw [HY2.out]; rfl, HF.out⟩
end Go.Proofs.YthjlhngjpbmieaaGreatDoor
namespace Go.Proofs.YthjlhngjpbmieaaGreatDoor
open Go.RowKit

/-- Pages on a disk that may stop; nothing is in flight. -/
structure Pn (w0 w : World) (o : Ow) (d : S.Dk) (p t : Nat) (pg : Nat → List UInt8) : Prop where
  dk : Dsk w o d
  pend : d.pend = []
  len : 7680 ≤ d.safe.length
  mark : d.safe.getD 0 [] = S.pmark
  log : S.Good d.safe 1 4 p t []
  home : ∀ n, n < 512 → S.pageAt d.safe (5 + n * 8) = pg n
  ob : ∀ k, o.has k → w0.heap.size ≤ k
  below : Below w0.heap.size w0 w
  pos : 0 < w0.heap.size
theorem Pg.n {w0 w : World} {o : Ow} {d : S.Dk} {p t : Nat} {pg : Nat → List UInt8} (h : Pg w0 w o d p t pg) : Pn w0 w o d p t pg := ⟨h.dk, h.pend, h.len, h.mark, h.log, h.home, h.ob, h.below, h.pos⟩
theorem Pn.then {w0 w W : World} {o : Ow} {d : S.Dk} {p t : Nat} {pg : Nat → List UInt8} (h : Pn w0 w o d p t pg) (hb : Below w.heap.size w W) : Pn w0 W o d p t pg :=
  ⟨h.dk.below hb, h.pend, h.len, h.mark, h.log, h.home, h.ob, h.below.trans (hb.mono h.below.size), h.pos⟩
theorem Pn.seen {w0 w : World} {o : Ow} {d : S.Dk} {p t : Nat} {pg : Nat → List UInt8} (h : Pn w0 w o d p t pg) : d.seen = d.safe := S.Dk.seen_flushed d h.pend
set_option maxHeartbeats 4000000 in
set_option maxRecDepth 10000 in
theorem look_n (w0 w : World) (o : Ow) (d : S.Dk) (p t : Nat) (pg : Nat → List UInt8) (h : Pn w0 w o d p t pg) :
   Calls Tryz.prog 23 #[o.ptr] w fun e w' => ∃ g tv, e = .returned (.tuple #[.pointer (some ⟨g, 0, none⟩), .agg (S.v8 (S.zeros 64)), .int .i64 0]) ∧ Lo w0 w' o d g 1 4 p t [] tv ∧ w.heap.size ≤ g ∧ (∀ k, tv.ownBlock = some k → w.heap.size ≤ k) ∧ Below w.heap.size w w' := by
  have hal1 := alloc57 w
  obtain ⟨w1, hw1⟩ : ∃ w1, w1 = w.alloc (.cells (S.v8 (S.zeros 64)) 65) := ⟨_, rfl⟩
  have b1 : Below w.heap.size w w1 := by rw [hw1]; exact (Below.refl _ _).alloc (Nat.le_refl _) _
  have r1 : w1.heap[w.heap.size]? = some (.cells (S.v8 (S.zeros 64)) 65 (0, 0)) := by rw [hw1]; exact heap_alloc_new _ _
  rw [← hw1] at hal1
  obtain ⟨g3, hg3⟩ : ∃ g3, g3 = w.heap.size := ⟨_, rfl⟩
  rw [← hg3] at hal1 r1
  have R1 := hide r1
  have B1 := hide b1
  have P1 := hide (h.then b1)
  have HLT : Hid (∀ k, o.has k → k < g3) := fun k hk => by rw [hg3]; exact h.dk.dk.lt k hk
  have HG3 : Hid (w.heap.size ≤ g3) := by rw [hg3]; exact Nat.le_refl _
  have HG3e : Hid (g3 = w.heap.size) := hg3
  have HW0 : Hid (w0.heap.size ≤ w.heap.size) := h.below.size
  clear b1 r1 hw1 hg3 h
  go_enter Tryz.func23, Tryz.ntmps23
  go_wp2_with (with_reducible refine at_op ⟨some 3, .alloc 65, 0, "place.go:70", #[], none⟩ ?_; refine wpList_alloc_known rfl 65 rfl (.pointer (some ⟨g3, 0, none⟩)) w1 hal1 ?_)
  clear hal1
  refine (read_yes o d 0 w1 P1.out.dk.dk (by have := P1.out.len; omega)).mono ?_
  rintro e w2 ⟨rfl, hr2, b2⟩
  rw [P1.out.seen, P1.out.mark] at hr2
  have cv := conv_slice (slice_row (n := 128) hr2 S.pmark_length.symm (by rw [S.pmark_length]; omega))
  have P2 := hide (P1.out.then b2)
  have R2 : Hid (w2.heap[g3]? = some (.cells (S.v8 (S.zeros 64)) 65 (0, 0))) := (b2.block g3 (block_lt_of_row R1.out)).trans R1.out
  have B2 := hide (B1.out.trans (b2.mono B1.out.size))
  have hq : S.pmark = [112, 97, 103, 101, 115, 32, 116, 104, 97, 116, 32, 97, 114, 101, 32, 112, 117, 116, 32, 116, 111, 103, 101, 116, 104, 101, 114, 32, 46, 46, 46, 32, 112, 97, 103, 101, 115, 32, 116, 104, 97, 116, 32, 97, 114, 101, 32, 112, 117, 116, 32, 116, 111, 103, 101, 116, 104, 101, 114, 32, 46, 46, 46, 32].append [112, 97, 103, 101, 115, 32, 116, 104, 97, 116, 32, 97, 114, 101, 32, 112, 117, 116, 32, 116, 111, 103, 101, 116, 104, 101, 114, 32, 46, 46, 46, 32, 112, 97, 103, 101, 115, 32, 116, 104, 97, 116, 32, 97, 114, 101, 32, 112, 117, 116, 32, 116, 111, 103, 101, 116, 104, 101, 114, 32, 46, 46, 46, 32] := rfl
  clear hr2 b2 R1 B1 P1
  go_wp2_with fail
  clear cv hq
  refine (open_go w0 w2 o d 1 4 p t [] P2.out.dk P2.out.pend P2.out.log P2.out.ob P2.out.below P2.out.pos).mono ?_
  rintro e w4 ⟨g, tv, rfl, hlo, hgb, htb, b4⟩
  have LO4 := hide hlo
  have G4 : Hid (g3 < g ∧ w.heap.size ≤ g ∧ (∀ k, tv.ownBlock = some k → g3 < k ∧ w.heap.size ≤ k)) := by
    have h1 := block_lt_of_row R2.out
    have h2 := HG3e.out
    exact ⟨by omega, by omega, fun k hk => by have := htb k hk; exact ⟨by omega, by omega⟩⟩
  have R4 : Hid (w4.heap[g3]? = some (.cells (S.v8 (S.zeros 64)) 65 (0, 0))) := (b4.block g3 (block_lt_of_row R2.out)).trans R2.out
  have B4 := hide (B2.out.trans (b4.mono B2.out.size))
  clear hlo hgb htb b4 R2 B2 P2
  go_wp2_with fail
  refine (records_go w0 w4 o d g 1 4 p t [] tv LO4.out (by simp)).mono ?_
  rintro e w5 ⟨lv, us, rfl, hrec, b5⟩
  obtain ⟨al, cl, hlv⟩ := hrec.lists.shape
  subst hlv
  have hul : us.length = 0 := hrec.copies.len
  rw [hul]
  have LO5 := hide (LO4.out.then b5)
  have R5 : Hid (w5.heap[g3]? = some (.cells (S.v8 (S.zeros 64)) 65 (0, 0))) := (b5.block g3 (block_lt_of_row R4.out)).trans R4.out
  have B5 := hide (B4.out.trans (b5.mono B4.out.size))
  clear hrec b5 hul LO4 R4 B4
  go_wp2_with fail
  refine (setIn_nil al cl w5).mono ?_
  rintro e w6 ⟨rfl, b6⟩
  have LO6 := hide (LO5.out.then b6)
  have R6 : Hid (w6.heap[g3]? = some (.cells (S.v8 (S.zeros 64)) 65 (0, 0))) := (b6.block g3 (block_lt_of_row R5.out)).trans R5.out
  have B6 := hide (B5.out.trans (b6.mono B5.out.size))
  clear b6 LO5 R5 B5
  have hal2 := alloc57 w6
  obtain ⟨w9, hst2, r9, b9⟩ := made57 w6 (S.zeros 64) (S.zeros_length _)
  have R9 := hide r9
  have LO9 := hide (LO6.out.then b9)
  have R39 : Hid (w9.heap[g3]? = some (.cells (S.v8 (S.zeros 64)) 65 (0, 0))) := (b9.block g3 (block_lt_of_row R6.out)).trans R6.out
  have B9 := hide (B6.out.trans (b9.mono B6.out.size))
  have h36 := block_lt_of_row R6.out
  have N93 : Hid (¬ w6.heap.size = g3) := fun e => by omega
  have NG3 : Hid (∀ k, (o.has k ∨ k = g ∨ tv.ownBlock = some k ∨ k < w0.heap.size) → ¬ k = g3) := fun k hk e => by
    subst e
    rcases hk with hk | hk | hk | hk
    · exact absurd (HLT.out _ hk) (Nat.lt_irrefl _)
    · have := G4.out.1; omega
    · have := (G4.out.2.2 _ hk).1; omega
    · have := HW0.out; have := HG3.out; omega
  obtain ⟨w7, hw7⟩ : ∃ w7, w7 = w6.alloc (.cells (S.v8 (S.zeros 64)) 65) := ⟨_, rfl⟩
  rw [← hw7] at hal2 hst2
  obtain ⟨g9, hg9⟩ : ∃ g9, g9 = w6.heap.size := ⟨_, rfl⟩
  rw [← hg9] at hal2 hst2 R9 N93
  clear r9 b9 h36 LO6 R6 B6 hg9 hw7
  go_upto_region 10 with (first | (with_reducible refine at_op ⟨some 9, .alloc 65, 0, "place.go:78", #[], none⟩ ?_; refine wpList_alloc_known rfl 65 rfl (.pointer (some ⟨g9, 0, none⟩)) w7 hal2 ?_) | (with_reducible refine at_op ⟨none, .store 65 (.tmp 9) (.tmp 33), 0, "place.go:78", #[⟨6, .data⟩, ⟨4, .data⟩, ⟨2, .chain⟩, ⟨0, .phase⟩, ⟨1, .phase⟩, ⟨2, .phase⟩, ⟨3, .phase⟩, ⟨4, .phase⟩, ⟨5, .textOnly .lateStores⟩, ⟨6, .phase⟩], none⟩ ?_; refine wpList_store_as rfl 65 (.tmp 9) (.tmp 33) rfl (.pointer (some ⟨g9, 0, none⟩)) (.agg (S.v8 (S.zeros 64))) rfl rfl w9 hst2 ?_))
  clear hal2 hst2
  refine wp_region_noPanic ?_
  refine wp_region_held_drew (S := (fun W => W.heap[g9]? = some (.cells (S.v8 (S.zeros 64)) 65 (0, 0)))) follows R9.out (fun hHeld => ?_)
  have LOd := hide (LO9.out.then (Below.refl w9.heap.size w9).drew)
  have B9d : Hid (Below w.heap.size w w9.drew) := B9.out.drew
  have R3d : Hid (w9.drew.heap[g3]? = some (.cells (S.v8 (S.zeros 64)) 65 (0, 0))) := R39.out
  clear LO9 B9 R9 R39
  generalize w9.drew = Z1 at LOd B9d R3d hHeld ⊢
  refine tk 0 ?_ rfl (Or.inl ⟨by rfl, ?_⟩) ?_
  rotate_left
  · intro w hSw
    clear hSw
    go_simp
    all_goals with_reducible rfl
  simp only [Act.put, List.setIfInBounds_toArray, List.set_cons_zero, List.set_cons_succ]
  refine wpAnyH_take (i := 1) (oi := ⟨_, _, _, _, _, _⟩) (v := .agg (S.v8 (S.zeros 64))) rfl (by kernel_rfl) (by kernel_rfl) (by kernel_rfl) (fun _ _ _ h => h) (yieldsIf_load57 (by kernel_rfl) (.tmp 9) rfl g9 rfl (S.zeros_length _) (fun W hW => hW)) (by assumption) ?_
  simp only [Act.put, List.setIfInBounds_toArray, List.set_cons_zero, List.set_cons_succ]
  refine tk 2 ?_ rfl (Or.inl ⟨by rfl, ?_⟩) ?_
  rotate_left
  · intro w hSw
    clear hSw
    go_simp
    all_goals with_reducible rfl
  simp only [Act.put, List.setIfInBounds_toArray, List.set_cons_zero, List.set_cons_succ]
  obtain ⟨Z2, hst, r3, c3⟩ := store57 (ys := S.zeros 64) R3d.out (S.zeros_length _) (S.zeros_length _)
  have R3 := hide r3
  have LO2 : Hid (Lo w0 Z2 o d g 1 4 p t [] tv) := LOd.out.chg c3 NG3.out
  have B2 : Hid (Below w.heap.size w Z2) := B9d.out.trans (c3.base B9d.out.size HG3.out)
  have a2 : Z2.heap[g9]? = some (.cells (S.v8 (S.zeros 64)) 65 (0, 0)) := c3.row hHeld N93.out
  refine wpAnyH_ready (rs := [3]) (by kernel_rfl) (by simp) ?_
  refine step_store (o := { dst := none, op := Op.store 65 (Operand.tmp 3) (Operand.tmp 39), type := 0, pos := "place.go:82", after := #[⟨1, .data⟩, ⟨2, .chain⟩, ⟨0, .phase⟩, ⟨1, .phase⟩, ⟨2, .phase⟩], guard := none }) rfl rfl 65 (.tmp 3) (.tmp 39) rfl Z2 hst AllReadyH.nil ⟨a2, fun hHeld => ?_⟩
  simp only [Act.put]
  clear hst r3 c3 LOd B9d R3d a2
  refine tk 4 ?_ rfl (Or.inl ⟨by rfl, ?_⟩) ?_
  rotate_left
  · intro w hSw
    clear hSw
    go_simp
    all_goals with_reducible rfl
  simp only [Act.put, List.setIfInBounds_toArray, List.set_cons_zero, List.set_cons_succ]
  refine wpAnyH_done (by kernel_rfl) ?_ _
  refine NoPanic.normal ?_
  clear hHeld
  go_wp2_with fail
  refine bodyPost_ret (results_mid Tryz.results23 _ _ g3 (.agg (S.v8 (S.zeros 64))) rfl (loadVar57 R3.out (S.zeros_length _))) rfl ⟨g, tv, rfl, LO2.out, G4.out.2.1, fun k hk => (G4.out.2.2 k hk).2, B2.out⟩
set_option maxHeartbeats 4000000 in
set_option maxRecDepth 10000 in
theorem settled_n (w0 w : World) (o : Ow) (d : S.Dk) (p t gs : Nat) (pg : Nat → List UInt8) (h : Pn w0 w o d p t pg) (hs : StAt w gs o) :
   Calls Tryz.prog 31 #[.pointer (some ⟨gs, 0, none⟩)] w fun e w' => ∃ g tv, e = .returned (.tuple #[.pointer (some ⟨g, 0, none⟩), .int .i64 0]) ∧ Lo w0 w' o d g 1 4 p t [] tv ∧ w.heap.size ≤ g ∧ (∀ k, tv.ownBlock = some k → w.heap.size ≤ k) ∧ Pn w0 w' o d p t pg ∧ StAt w' gs o ∧ Below w.heap.size w w' := by
  have P0 := hide h
  have S0 := hide hs
  clear h hs
  have c0 := st_cell S0.out
  go_enter Tryz.func31, Tryz.ntmps31
  go_wp2_with fail
  have hptr : o.ptr = .pointer (some ⟨o.g, 0, none⟩) := rfl
  rw [← hptr]
  refine (settle_none o d w P0.out.dk.dk P0.out.pend).mono ?_
  rintro e w1 ⟨rfl, rfl⟩
  rw [hptr]
  go_wp2_with fail
  rw [← hptr]
  refine (look_n w0 w o d p t pg P0.out).mono ?_
  rintro e w1 ⟨g, tv, rfl, hlo, hgb, htb, b1⟩
  have LO1 := hide hlo
  have P1 := hide (P0.out.then b1)
  have B1 := hide b1
  have S1 : Hid (StAt w1 gs o) := (b1.block gs (block_lt_of_row S0.out)).trans S0.out
  have G1 : Hid (w.heap.size ≤ g ∧ ∀ k, tv.ownBlock = some k → w.heap.size ≤ k) := ⟨hgb, htb⟩
  clear hlo hgb htb b1 P0 S0 c0
  have hal := alloc57 w1
  obtain ⟨w3, hst, r3, b3⟩ := made57 w1 (S.zeros 64) (S.zeros_length _)
  have LO3 := hide (LO1.out.then b3)
  have P3 := hide (P1.out.then b3)
  have B3 := hide (B1.out.trans (b3.mono B1.out.size))
  have ST3 : Hid (StAt w3 gs o) := (b3.block gs (block_lt_of_row S1.out)).trans S1.out
  have R3 := hide r3
  obtain ⟨w2, hw2⟩ : ∃ w2, w2 = w1.alloc (.cells (S.v8 (S.zeros 64)) 65) := ⟨_, rfl⟩
  rw [← hw2] at hal hst
  obtain ⟨g6, hg6⟩ : ∃ g6, g6 = w1.heap.size := ⟨_, rfl⟩
  rw [← hg6] at hal hst R3
  rw [hptr]
  clear r3 b3 hw2 hg6 P1 B1 S1 LO1 hptr
  go_upto_region 7 with (first | (with_reducible refine at_op ⟨some 6, .alloc 65, 0, "pages.go:98", #[], none⟩ ?_; refine wpList_alloc_known rfl 65 rfl (.pointer (some ⟨g6, 0, none⟩)) w2 hal ?_) | (with_reducible refine at_op ⟨none, .store 65 (.tmp 6) (.tmp 23), 0, "pages.go:98", #[⟨9, .data⟩, ⟨7, .data⟩, ⟨10, .chain⟩, ⟨0, .phase⟩, ⟨1, .phase⟩, ⟨2, .phase⟩, ⟨3, .phase⟩, ⟨4, .phase⟩, ⟨5, .phase⟩, ⟨6, .phase⟩, ⟨7, .phase⟩, ⟨8, .textOnly .lateStores⟩, ⟨9, .phase⟩, ⟨10, .phase⟩], none⟩ ?_; refine wpList_store_as rfl 65 (.tmp 6) (.tmp 23) rfl (.pointer (some ⟨g6, 0, none⟩)) (.agg (S.v8 (S.zeros 64))) rfl rfl w3 hst ?_))
  clear hal hst
  refine wp_region_noPanic ?_
  refine wp_region_held_drew (S := (fun W => W.heap[gs]? = some (.cells #[.pointer (some ⟨o.g, 0, none⟩)] 69 (0, 0)) ∧ W.heap[g6]? = some (.cells (S.v8 (S.zeros 64)) 65 (0, 0)))) follows ⟨ST3.out, R3.out⟩ (fun hHeld => ?_)
  have LOd := hide (LO3.out.then (Below.refl w3.heap.size w3).drew)
  have P3d := hide (P3.out.then (Below.refl w3.heap.size w3).drew)
  have B3d : Hid (Below w.heap.size w w3.drew) := B3.out.drew
  clear LO3 P3 B3 ST3 R3
  generalize w3.drew = Z1 at LOd P3d B3d hHeld ⊢
  refine tk 0 ?_ rfl (Or.inl ⟨by rfl, ?_⟩) ?_
  rotate_left
  · intro w hSw
    clear hSw
    go_simp
    all_goals with_reducible rfl
  simp only [Act.put, List.setIfInBounds_toArray, List.set_cons_zero, List.set_cons_succ]
  refine tk 1 ?_ rfl (Or.inl ⟨by rfl, ?_⟩) ?_
  rotate_left
  · intro w hSw
    clear hSw
    go_simp
    all_goals with_reducible rfl
  simp only [Act.put, List.setIfInBounds_toArray, List.set_cons_zero, List.set_cons_succ]
  refine tk 2 ?_ rfl (Or.inl ⟨by rfl, ?_⟩) ?_
  rotate_left
  · intro w hSw
    clear hSw
    go_simp
    all_goals with_reducible rfl
  simp only [Act.put, List.setIfInBounds_toArray, List.set_cons_zero, List.set_cons_succ]
  refine tk 3 ?_ rfl (Or.inl ⟨by rfl, ?_⟩) ?_
  rotate_left
  · intro w hSw
    clear hSw
    go_simp
    all_goals with_reducible rfl
  simp only [Act.put, List.setIfInBounds_toArray, List.set_cons_zero, List.set_cons_succ]
  refine tk 4 ?_ rfl (Or.inl ⟨by rfl, ?_⟩) ?_
  rotate_left
  · intro w hSw
    have c0 := st_cell hSw.1
    clear hSw
    go_simp
    all_goals with_reducible rfl
  simp only [Act.put, List.setIfInBounds_toArray, List.set_cons_zero, List.set_cons_succ]
  refine tk 5 ?_ rfl (Or.inl ⟨by rfl, ?_⟩) ?_
  rotate_left
  · intro w hSw
    clear hSw
    go_simp
    all_goals with_reducible rfl
  simp only [Act.put, List.setIfInBounds_toArray, List.set_cons_zero, List.set_cons_succ]
  refine wpAnyH_take (i := 6) (oi := ⟨_, _, _, _, _, _⟩) (v := .agg (S.v8 (S.zeros 64))) rfl (by kernel_rfl) (by kernel_rfl) (by kernel_rfl) (fun _ _ _ h => h) (yieldsIf_load57 (by kernel_rfl) (.tmp 6) rfl g6 rfl (S.zeros_length _) (fun W hW => hW.2)) (by assumption) ?_
  simp only [Act.put, List.setIfInBounds_toArray, List.set_cons_zero, List.set_cons_succ]
  refine wpAnyH_ready (rs := [7]) (by kernel_rfl) (by simp) ?_
  refine AllReadyH.cons (o := { dst := some 35, op := Op.call { callee := Callee.value (Operand.func 35), args := #[Operand.tmp 32, Operand.tmp 33, Operand.tmp 34], argTypes := #[22, 63, 65] }, type := 26, pos := "pages.go:102", after := #[⟨4, .data⟩, ⟨5, .data⟩, ⟨6, .data⟩], guard := none }) rfl (fun K hK => ?_) AllReadyH.nil
  go_simp
  refine (bringHome_none (.pointer (some ⟨o.g, 0, none⟩)) (.pointer (some ⟨g, 0, none⟩)) Z1).mono ?_
  rintro e Z2 ⟨rfl, b2⟩
  have a2 : Z2.heap[gs]? = some (.cells #[.pointer (some ⟨o.g, 0, none⟩)] 69 (0, 0)) ∧ Z2.heap[g6]? = some (.cells (S.v8 (S.zeros 64)) 65 (0, 0)) := ⟨(b2.block gs (block_lt_of_row hHeld.1)).trans hHeld.1, (b2.block g6 (block_lt_of_row hHeld.2)).trans hHeld.2⟩
  have LO4 := hide (LOd.out.then b2)
  have P4 := hide (P3d.out.then b2)
  have B4 : Hid (Below w.heap.size w Z2) := B3d.out.trans (b2.mono B3d.out.size)
  have ST4 : Hid (StAt Z2 gs o) := a2.1
  clear b2 hHeld LOd P3d B3d
  refine hK.out _ _ a2 (fun hHeld => ?_)
  clear hK K
  try simp only [Act.put, List.setIfInBounds_toArray, List.set_cons_zero, List.set_cons_succ]
  clear a2
  refine tk 8 ?_ rfl (Or.inl ⟨by rfl, ?_⟩) ?_
  rotate_left
  · intro w hSw
    clear hSw
    go_simp
    all_goals with_reducible rfl
  simp only [Act.put, List.setIfInBounds_toArray, List.set_cons_zero, List.set_cons_succ]
  refine tk 9 ?_ rfl (Or.inl ⟨by rfl, ?_⟩) ?_
  rotate_left
  · intro w hSw
    clear hSw
    go_simp
    all_goals with_reducible rfl
  simp only [Act.put, List.setIfInBounds_toArray, List.set_cons_zero, List.set_cons_succ]
  refine wpAnyH_done (by kernel_rfl) ?_ _
  refine NoPanic.normal ?_
  clear hHeld
  go_wp2_with fail
  go_ret2
  exact ⟨g, tv, rfl, LO4.out, G1.out.1, G1.out.2, P4.out, ST4.out, B4.out⟩
set_option maxHeartbeats 4000000 in
set_option maxRecDepth 10000 in
theorem popen_n (w0 w : World) (o : Ow) (d : S.Dk) (p t : Nat) (pg : Nat → List UInt8) (h : Pn w0 w o d p t pg) :
   Calls Tryz.prog 10 #[o.ptr] w fun e w' => ∃ gs, e = .returned (.tuple #[.pointer (some ⟨gs, 0, none⟩), .int .i64 0]) ∧ StAt w' gs o ∧ w.heap.size ≤ gs ∧ Pn w0 w' o d p t pg ∧ Below w.heap.size w w' := by
  have P0 := hide h
  clear h
  go_enter Tryz.func10, Tryz.ntmps10
  go_wp2_with fail
  refine (fits_yes o d w P0.out.dk.dk P0.out.len).mono ?_
  rintro e w1 ⟨rfl, rfl⟩
  go_wp2_with fail
  refine (settle_none o d w P0.out.dk.dk P0.out.pend).mono ?_
  rintro e w1 ⟨rfl, rfl⟩
  go_wp2_with fail
  refine (look_n w0 w o d p t pg P0.out).mono ?_
  rintro e w1 ⟨g, tv, rfl, hlo, hgb, htb, b1⟩
  have P1 := hide (P0.out.then b1)
  have B1 := hide b1
  clear hlo hgb htb b1 P0
  have hal := alloc57 w1
  obtain ⟨w3, hst, r3, b3⟩ := made57 w1 (S.zeros 64) (S.zeros_length _)
  have P3 := hide (P1.out.then b3)
  have B3 := hide (B1.out.trans (b3.mono B1.out.size))
  obtain ⟨w2, hw2⟩ : ∃ w2, w2 = w1.alloc (.cells (S.v8 (S.zeros 64)) 65) := ⟨_, rfl⟩
  rw [← hw2] at hal hst
  obtain ⟨g2, hg2⟩ : ∃ g2, g2 = w1.heap.size := ⟨_, rfl⟩
  rw [← hg2] at hal hst
  obtain ⟨Z, hZ⟩ : ∃ Z, Z = S.v8 (S.zeros 64) := ⟨_, rfl⟩
  rw [← hZ] at hst ⊢
  have hptr : o.ptr = .pointer (some ⟨o.g, 0, none⟩) := rfl
  rw [hptr]
  obtain ⟨w4, hw4⟩ : ∃ w4, w4 = w3.alloc (.cells #[.pointer (some ⟨o.g, 0, none⟩)] 69) := ⟨_, rfl⟩
  have b4 : Below w3.heap.size w3 w4 := by rw [hw4]; exact (Below.refl _ _).alloc (Nat.le_refl _) _
  have R4 : Hid (StAt w4 w3.heap.size o) := by rw [hw4]; exact heap_alloc_new _ _
  have P4 := hide (P3.out.then b4)
  have B4 := hide (B3.out.trans (b4.mono B3.out.size))
  have HG : Hid (w.heap.size ≤ w3.heap.size) := B3.out.size
  clear r3 b3 b4 hw2 hg2 hZ P1 B1 P3 B3 hptr
  go_wp2_with (first | (with_reducible refine at_op ⟨some 6, .alloc 65, 0, "pages.go:49", #[], none⟩ ?_; refine wpList_alloc_known rfl 65 rfl (.pointer (some ⟨g2, 0, none⟩)) w2 hal ?_) | (with_reducible refine at_op ⟨none, .store 65 (.tmp 6) (.tmp 20), 0, "pages.go:49", #[⟨6, .data⟩, ⟨4, .data⟩, ⟨7, .chain⟩, ⟨0, .phase⟩, ⟨1, .phase⟩, ⟨2, .phase⟩, ⟨3, .phase⟩, ⟨4, .phase⟩, ⟨5, .textOnly .lateStores⟩, ⟨6, .phase⟩, ⟨7, .phase⟩], none⟩ ?_; refine wpList_store_as rfl 65 (.tmp 6) (.tmp 20) rfl (.pointer (some ⟨g2, 0, none⟩)) (.agg Z) rfl rfl w3 hst ?_))
  rw [← hw4]
  go_ret2
  exact ⟨w3.heap.size, rfl, R4.out, HG.out, P4.out, B4.out⟩
set_option maxHeartbeats 4000000 in
set_option maxRecDepth 10000 in
theorem pread_n (w0 w : World) (o : Ow) (d : S.Dk) (p t gs n : Nat) (pg : Nat → List UInt8) (h : Pn w0 w o d p t pg) (hs : StAt w gs o) (hn : n < 512) :
   Calls Tryz.prog 11 #[.pointer (some ⟨gs, 0, none⟩), .int .i64 (n : Int)] w fun e w' => ∃ gp, e = .returned (.tuple #[.slice (some ⟨gp, 0, none⟩) 1024 1024, .int .i64 0]) ∧ w.heap.size ≤ gp ∧ Room w' gp 1024 (pg n) ∧ Pn w0 w' o d p t pg ∧ StAt w' gs o ∧ Below w.heap.size w w' := by
  have P0 := hide h
  have S0 := hide hs
  clear h hs
  go_enter Tryz.func11, Tryz.ntmps11
  go_wp2_with fail
  refine (isPage_yes n hn w).mono ?_
  rintro e w1 ⟨rfl, rfl⟩
  have c0 := st_cell S0.out
  go_wp2_with fail
  have hptr : o.ptr = .pointer (some ⟨o.g, 0, none⟩) := rfl
  rw [← hptr]
  refine (look_n w0 w o d p t pg P0.out).mono ?_
  rintro e w1 ⟨g, tv, rfl, hlo, hgb, htb, b1⟩
  have P1 := hide (P0.out.then b1)
  have B1 := hide b1
  have S1 : Hid (StAt w1 gs o) := (b1.block gs (block_lt_of_row S0.out)).trans S0.out
  clear hlo hgb htb b1 P0 S0 c0
  have hal := alloc57 w1
  obtain ⟨w3, hst, r3, b3⟩ := made57 w1 (S.zeros 64) (S.zeros_length _)
  have P3 := hide (P1.out.then b3)
  have B3 := hide (B1.out.trans (b3.mono B1.out.size))
  have S3 : Hid (StAt w3 gs o) := (b3.block gs (block_lt_of_row S1.out)).trans S1.out
  obtain ⟨w2, hw2⟩ : ∃ w2, w2 = w1.alloc (.cells (S.v8 (S.zeros 64)) 65) := ⟨_, rfl⟩
  rw [← hw2] at hal hst
  have ld := load57 r3 (S.zeros_length _)
  obtain ⟨g2, hg2⟩ : ∃ g2, g2 = w1.heap.size := ⟨_, rfl⟩
  rw [← hg2] at hal hst ld
  obtain ⟨Z, hZ⟩ : ∃ Z, Z = S.v8 (S.zeros 64) := ⟨_, rfl⟩
  rw [← hZ] at hst ld ⊢
  have HZ := hide hZ
  clear r3 b3 hw2 hg2 hZ P1 B1 S1 hptr
  go_wp2_with (first | (with_reducible refine at_op ⟨some 7, .alloc 65, 0, "pages.go:60", #[], none⟩ ?_; refine wpList_alloc_known rfl 65 rfl (.pointer (some ⟨g2, 0, none⟩)) w2 hal ?_) | (with_reducible refine at_op ⟨none, .store 65 (.tmp 7) (.tmp 19), 0, "pages.go:60", #[⟨9, .data⟩, ⟨7, .data⟩, ⟨10, .chain⟩, ⟨0, .phase⟩, ⟨1, .phase⟩, ⟨2, .phase⟩, ⟨3, .phase⟩, ⟨4, .phase⟩, ⟨5, .phase⟩, ⟨6, .phase⟩, ⟨7, .phase⟩, ⟨8, .textOnly .lateStores⟩, ⟨9, .phase⟩, ⟨10, .phase⟩], none⟩ ?_; refine wpList_store_as rfl 65 (.tmp 7) (.tmp 19) rfl (.pointer (some ⟨g2, 0, none⟩)) (.agg Z) rfl rfl w3 hst ?_) | (with_reducible refine at_op ⟨some 24, .load 65 (.tmp 7), 65, "pages.go:64", #[], none⟩ ?_; refine wpList_load_as rfl 65 (.tmp 7) rfl (.pointer (some ⟨g2, 0, none⟩)) rfl (.agg Z) ld ?_))
  clear hal hst ld
  refine (bit_any Z (S.zeros 64) n w3 HZ.out (S.zeros_length _) hn).mono ?_
  rintro e w6 ⟨rfl, b6⟩
  rw [S.bit_zeros]
  have P6 := hide (P3.out.then b6)
  have B6 := hide (B3.out.trans (b6.mono B3.out.size))
  have ST6 : Hid (StAt w6 gs o) := (b6.block gs (block_lt_of_row S3.out)).trans S3.out
  clear b6 P3 B3 S3
  go_upto_region 8 with fail
  refine wp_region_noPanic ?_
  refine wp_region_held_drew (S := (fun W => W.heap[gs]? = some (.cells #[.pointer (some ⟨o.g, 0, none⟩)] 69 (0, 0)))) follows ST6.out (fun hHeld => ?_)
  have P6d := hide (P6.out.then (Below.refl w6.heap.size w6).drew)
  have B6d : Hid (Below w.heap.size w w6.drew) := B6.out.drew
  clear P6 B6 ST6
  generalize w6.drew = Z1 at P6d B6d hHeld ⊢
  refine tk 0 ?_ rfl (Or.inl ⟨by rfl, ?_⟩) ?_
  rotate_left
  · intro w hSw
    clear hSw
    go_simp
    all_goals with_reducible rfl
  simp only [Act.put, List.setIfInBounds_toArray, List.set_cons_zero, List.set_cons_succ]
  refine tk 1 ?_ rfl (Or.inl ⟨by rfl, ?_⟩) ?_
  rotate_left
  · intro w hSw
    clear hSw
    go_simp
    all_goals with_reducible rfl
  simp only [Act.put, List.setIfInBounds_toArray, List.set_cons_zero, List.set_cons_succ]
  refine tk 2 ?_ rfl (Or.inl ⟨by rfl, ?_⟩) ?_
  rotate_left
  · intro w hSw
    clear hSw
    go_simp
    all_goals with_reducible rfl
  simp only [Act.put, List.setIfInBounds_toArray, List.set_cons_zero, List.set_cons_succ]
  refine tk 3 ?_ rfl (Or.inl ⟨by rfl, ?_⟩) ?_
  rotate_left
  · intro w hSw
    have c0 := st_cell hSw
    clear hSw
    go_simp
    all_goals with_reducible rfl
  simp only [Act.put, List.setIfInBounds_toArray, List.set_cons_zero, List.set_cons_succ]
  refine tk 4 ?_ rfl (Or.inl ⟨by rfl, ?_⟩) ?_
  rotate_left
  · intro w hSw
    clear hSw
    go_simp
    all_goals with_reducible rfl
  simp only [Act.put, List.setIfInBounds_toArray, List.set_cons_zero, List.set_cons_succ]
  refine wpAnyH_ready (rs := [5]) (by kernel_rfl) (by simp) ?_
  refine AllReadyH.cons (o := { dst := some 41, op := Op.call { callee := Callee.value (Operand.func 29), args := #[Operand.tmp 40], argTypes := #[3] }, type := 3, pos := "pages.go:67", after := #[⟨4, .data⟩], guard := none }) rfl (fun K hK => ?_) AllReadyH.nil
  go_simp
  refine (phome_any n (by omega) Z1).mono ?_
  rintro e Z2 ⟨rfl, rfl⟩
  refine hK.out _ _ hHeld (fun hHeld => ?_)
  clear hK K
  try simp only [Act.put, List.setIfInBounds_toArray, List.set_cons_zero, List.set_cons_succ]
  refine wpAnyH_ready (rs := [6]) (by kernel_rfl) (by simp) ?_
  refine AllReadyH.cons (o := { dst := some 42, op := Op.call { callee := Callee.value (Operand.func 26), args := #[Operand.tmp 39, Operand.tmp 41], argTypes := #[22, 3] }, type := 31, pos := "pages.go:67", after := #[⟨3, .data⟩, ⟨5, .data⟩, ⟨5, .chain⟩], guard := none }) rfl (fun K hK => ?_) AllReadyH.nil
  go_simp
  have RP := readPage_any o d (5 + n * 8) Z1 P6d.out.dk.dk (fun i hi => by rw [P6d.out.seen] at hi ⊢; exact P6d.out.dk.dk.ok.len i hi) (by have := P6d.out.len; omega)
  rw [P6d.out.seen, P6d.out.home n hn, show o.ptr = .pointer (some ⟨o.g, 0, none⟩) from rfl] at RP
  try rw [show ((5 + n * 8 : Nat) : Int) = 5 + (n : Int) * 8 by omega] at RP
  refine RP.mono ?_
  rintro e Z2 ⟨gp, rfl, hgp, hrm, b2⟩
  have a2 : Z2.heap[gs]? = some (.cells #[.pointer (some ⟨o.g, 0, none⟩)] 69 (0, 0)) := (b2.block gs (block_lt_of_row hHeld)).trans hHeld
  have P7 := hide (P6d.out.then b2)
  have RM := hide hrm
  have GP : Hid (w.heap.size ≤ gp) := Nat.le_trans B6d.out.size hgp
  have ST7 := hide a2
  have B7 : Hid (Below w.heap.size w Z2) := B6d.out.trans (b2.mono B6d.out.size)
  clear RP hgp hrm b2 hHeld P6d B6d
  refine hK.out _ _ a2 (fun hHeld => ?_)
  clear hK K
  try simp only [Act.put, List.setIfInBounds_toArray, List.set_cons_zero, List.set_cons_succ]
  clear a2
  refine tk 7 ?_ rfl (Or.inl ⟨by rfl, ?_⟩) ?_
  rotate_left
  · intro w hSw
    clear hSw
    go_simp
    all_goals with_reducible rfl
  simp only [Act.put, List.setIfInBounds_toArray, List.set_cons_zero, List.set_cons_succ]
  refine tk 8 ?_ rfl (Or.inl ⟨by rfl, ?_⟩) ?_
  rotate_left
  · intro w hSw
    clear hSw
    go_simp
    all_goals with_reducible rfl
  simp only [Act.put, List.setIfInBounds_toArray, List.set_cons_zero, List.set_cons_succ]
  refine wpAnyH_done (by kernel_rfl) ?_ _
  refine NoPanic.normal ?_
  clear hHeld
  go_wp2_with fail
  go_ret2
  exact ⟨gp, rfl, GP.out, RM.out, P7.out, ST7.out, B7.out⟩
end Go.Proofs.YthjlhngjpbmieaaGreatDoor
