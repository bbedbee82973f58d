/- bringHome of any pages, on a disk that may stop. -/
import Derived.Test.YthjlhngjpbmieaaGreatDoorUa
import Derived.Test.YthjlhngjpbmieaaGreatDoorJf
namespace Go.Proofs.YthjlhngjpbmieaaGreatDoor
open Go.RowKit

/-- Behind bringHome, wherever it stopped. -/
structure HomeA (w0 w w' : World) (g : Nat) (tv : Value) (o o' : Ow) (d d' : S.Dk) (b : Bool) (p t : Nat) (ns : List Nat) (xs : List (List UInt8)) : Prop where
  plan : d.plan (S.homeActs d p t ns xs) = (d', b)
  dk : Dsk w' o' d'
  ptr : o'.g = o.g
  ob : ∀ k, o'.has k → w0.heap.size ≤ k
  below : Below w0.heap.size w0 w'
  chg : Chg (fun k => o.has k ∨ k = g ∨ tv.ownBlock = some k) w w'
  own : ∀ k, o'.has k → o.has k ∨ w.heap.size ≤ k
/-- Where the disk alone has changed. -/
theorem HomeA.of {w0 w w3 w' : World} {g : Nat} {tv : Value} {o o' : Ow} {d d' : S.Dk} {b : Bool} {p t : Nat} {ns : List Nat} {xs : List (List UInt8)} {rs : List (List UInt8)} (h : Lo w0 w3 o d g 1 4 p t rs tv) (hb : Below w.heap.size w w3) (hp : d.plan (S.homeActs d p t ns xs) = (d', b)) (hd : DkIs w' o' d') (hm : DkTo o w3 o' w') : HomeA w0 w w' g tv o o' d d' b p t ns xs :=
  ⟨hp, h.log.dk.to hd hm, hm.g, fun k e => by
    rcases hm.own k e with e | e
    · exact h.ob k e
    · exact Nat.le_trans h.below.size e, h.below.trans (hm.chg.below _ h.below.size (fun k hk e => by have := h.ob k e; omega)), (Chg.ofBelow' hb).trans (hm.chg.mono (fun k _ e => Or.inl e)) (fun _ _ e => e), fun k e => by
    rcases hm.own k e with e | e
    · exact Or.inl e
    · exact Or.inr (Nat.le_trans hb.size e)⟩
set_option maxHeartbeats 8000000 in
set_option maxRecDepth 10000 in
theorem bringHome_any (w0 w : World) (o : Ow) (d : S.Dk) (g p t : Nat) (tv : Value) (ns : List Nat) (xs : List (List UInt8)) (h : Lo w0 w o d g 1 4 p t [S.setL ns] tv) (hlen : 7680 ≤ d.safe.length) (hn : ∀ n ∈ ns, n < 512) (hpw : ns.Pairwise (· < ·)) (hne : ns ≠ []) (h256 : ns.length ≤ 256) (hx : ∀ i, i < ns.length → (xs.getD i []).length = 1024 ∧ S.pageAt d.safe (4101 + i * 8) = xs.getD i []) (ht : t + 1 < 18446744073709551616) :
   Calls Tryz.prog 35 #[o.ptr, .pointer (some ⟨g, 0, none⟩), .agg (S.v8 (S.setL ns))] w fun e w' => ∃ b d' o', e = .returned (.int .i64 (S.why b)) ∧ HomeA w0 w w' g tv o o' d d' b p t ns xs := by
  obtain ⟨Z, hZ⟩ : ∃ Z, Z = S.v8 (S.setL ns) := ⟨_, rfl⟩
  obtain ⟨Y, hY⟩ : ∃ Y, Y = S.v8 (S.zeros 64) := ⟨_, rfl⟩
  obtain ⟨w1, hw1⟩ : ∃ w1, w1 = w.alloc (.cells Z 65) := ⟨_, rfl⟩
  have b1 : Below w.heap.size w w1 := by rw [hw1]; exact (Below.refl _ _).alloc (Nat.le_refl _) _
  have r1 : w1.heap[w.heap.size]? = some (.cells (S.v8 (S.setL ns)) 65 (0, 0)) := by rw [hw1, hZ]; exact heap_alloc_new _ _
  have ld := load57 r1 (S.setL_length ns)
  have hbd := build57 w1
  rw [← hZ] at ld ⊢
  rw [← hY] at hbd
  have HZ := hide hZ
  have HY := hide hY
  have L1 := hide (h.then b1)
  have B1 := hide b1
  have HW := hide hw1
  have HLEN : Hid (7680 ≤ d.safe.length) := hlen
  have HN := hide hn
  have HPW := hide hpw
  have HX := hide hx
  have HNE := hide hne
  have H256 := hide h256
  have hqs := S.setL_ne ns hn hne
  have HPEND := hide h.log.pend
  obtain ⟨gz, hgz⟩ : ∃ gz, gz = w.heap.size := ⟨_, rfl⟩
  rw [← hgz] at ld
  have HGZ := hide hgz
  have hgt : (ns.length : Int) ≤ 256 := by omega
  clear b1 r1 hZ hY hw1 h hlen hx hn hpw hne h256 hgz
  go_enter Tryz.func35, Tryz.ntmps35
  go_wp2_with (first | (rw [← HW.out, ← HGZ.out]; with_reducible refine at_op { dst := some 11, op := Op.load 65 (Operand.tmp 5), type := 65, pos := "place.go:97", after := #[], guard := none } ?_; refine wpList_load_as rfl 65 (.tmp 5) rfl (.pointer (some ⟨gz, 0, none⟩)) rfl (.agg Z) ld ?_) | (with_reducible refine at_op { dst := some 12, op := Op.build 65 #[], type := 65, pos := "place.go:97", after := #[], guard := none } ?_; refine wpList_build_as rfl 65 [] rfl [] rfl (.agg Y) hbd ?_) | (with_reducible refine at_op { dst := some 13, op := Op.binOp BinOp.eql 65 (Operand.tmp 11) (Operand.tmp 12) 65, type := 4, pos := "place.go:97", after := #[⟨0, .data⟩, ⟨1, .data⟩], guard := none } ?_; refine wpList_eql_arr rfl (.tmp 11) (.tmp 12) rfl (S.setL ns) (S.zeros 64) Z Y HZ.out HY.out rfl rfl (S.setL_length ns) (S.zeros_length _) false hqs ?_) | (with_reducible refine at_op { dst := some 14, op := Op.load 65 (Operand.tmp 5), type := 65, pos := "place.go:100", after := #[], guard := none } ?_; refine wpList_load_as rfl 65 (.tmp 5) rfl (.pointer (some ⟨gz, 0, none⟩)) rfl (.agg Z) ld ?_))
  clear ld hbd hqs
  rw [HZ.out]
  refine (pages_any (S.setL ns) w1 (S.setL_length ns)).mono ?_
  rintro e w3 ⟨v, rfl, hv, b3⟩
  rw [S.inSet_setL ns HN.out HPW.out] at hv
  obtain ⟨gl, cl, cur, rfl, hgl, hrow, hcur⟩ := ints_row hv HNE.out
  have R3 := hide hrow
  have CU := hide hcur
  have L3 := hide (L1.out.then b3)
  have NGL : Hid (¬ o.has gl) := fun e => by have := L1.out.log.dk.dk.lt gl e; omega
  have B3 := hide (B1.out.trans (b3.mono B1.out.size))
  clear hv hgl hrow hcur b3 L1
  rw [← HZ.out]
  go_wp2_with fail
  go_loopw [17] (fun i wr => ∃ k : Nat, k ≤ ns.length ∧ i = .int .i64 (k : Int) ∧ ∃ d1 o1, d.plan (S.pagesWs (S.homeOf ns) xs k).acts = (d1, true) ∧ DkIs wr o1 d1 ∧ DkTo o w3 o1 wr) (fun i _ => ns.length - (intOf i).toNat)
  case atStart => exact ⟨0, Nat.zero_le _, rfl, d, o, rfl, L3.out.log.dk.dk, DkTo.refl _ _⟩
  case round =>
  obtain ⟨k, hk, rfl, d1, o1, hpl, hdk, hto⟩ := hrel
  have PL := hide hpl
  have DK := hide hdk
  have T1 := hide hto
  have KL := hide hk
  have HP1 : Hid (d1.pend.length ≤ 4000) := by have h9 := S.Dk.plan_pend (S.pagesWs (S.homeOf ns) xs k).acts d; rw [hpl, S.wacts_len, S.pagesWs_length, HPEND.out] at h9; have := H256.out; exact Nat.le_trans h9 (by simp; omega)
  have HSEEN := hide (S.Dk.plan_pages HPEND.out hpl)
  have hpn : o1.ptr = o.ptr := by unfold Ow.ptr; rw [hto.g]
  rw [← hpn]
  clear hpl hdk hto hpn hk
  by_cases hkl : k < ns.length
  · have hkI : (k : Int) < (ns.length : Int) := by omega
    have hk0 : (0 : Int) ≤ (k : Int) := by omega
    have KK := hide hkl
    obtain ⟨n, hnn⟩ : ∃ n : Nat, n = ns.getD k 0 := ⟨_, rfl⟩
    have hn512 : n < 512 := by rw [hnn]; exact S.getD_lt HN.out k hkl
    have HHM : Hid (S.homeOf ns k = 5 + n * 8) := by rw [hnn]; rfl
    have c3 : wr.cell? ⟨gl, k, none⟩ = some (.int .i64 (n : Int)) := by
      rw [cell_of_row wr gl k _ 3 _ (T1.out.chg.row R3.out NGL.out), hnn]
      exact CU.out k hkl
    obtain ⟨x, hxx⟩ : ∃ x, x = xs.getD k [] := ⟨_, rfl⟩
    have HXX := hide hxx
    have HXL : Hid (x.length = 1024) := by rw [hxx]; exact (HX.out k hkl).1
    have HSP : Hid (S.pageAt d1.seen (4101 + k * 8) = x) := by
      show S.pageAt d1.seen (4101 + k * 8) = x
      rw [HSEEN.out.2, S.putAll_other _ _ _ _ _ (fun i hi => Or.inr (by have := S.getD_lt HN.out i (by omega); unfold S.homeOf; omega)), hxx]
      exact (HX.out k hkl).2
    have HLEN1 : Hid (7680 ≤ d1.safe.length) := by show 7680 ≤ d1.safe.length; rw [HSEEN.out.1]; exact HLEN.out
    clear hkl hxx hnn
    go_wp2_with fail
    clear c3
    refine (phome_any n (by omega) wr).mono ?_
    rintro e w4 ⟨rfl, rfl⟩
    go_wp2_with fail
    refine (pspare_any k (by have := H256.out; have := KK.out; omega) wr).mono ?_
    rintro e w4 ⟨rfl, rfl⟩
    go_wp2_with fail
    have RP := readPage_any o1 d1 (4101 + k * 8) wr DK.out (fun i hi => DK.out.ok.seen i (by rw [S.Dk.seen_length] at hi; exact hi)) (by have := HLEN1.out; have := H256.out; have := KK.out; omega)
    rw [HSP.out] at RP
    try rw [show ((4101 + k * 8 : Nat) : Int) = 4101 + (k : Int) * 8 by omega] at RP
    refine RP.mono ?_
    rintro e w4 ⟨gp, rfl, hgp, hrm, b4⟩
    have V4 := hrm.sliceAt (by rw [HXL.out]; omega)
    rw [HXL.out] at V4
    have SV4 := hide V4
    have B4 := hide b4
    have D4 := hide (DK.out.below b4)
    have NF4 : Hid (¬ o1.has gp) := fun e => by have := DK.out.lt gp e; omega
    clear RP hrm V4 hgp b4
    go_wp2_with fail
    have WP := writePage_do o1 d1 (5 + n * 8) gp 0 1024 x w4 D4.out (by have := HLEN1.out; omega) SV4.out NF4.out (by have := HP1.out; omega)
    try rw [show ((5 + n * 8 : Nat) : Int) = 5 + (n : Int) * 8 by omega] at WP
    refine WP.mono ?_
    intro e w5 hdo
    obtain ⟨b, d2, o2, rfl, h1, h2, h3⟩ := hdo.start
    have H1 : Hid (d.plan (S.pagesWs (S.homeOf ns) xs (k + 1)).acts = (d2, b)) := by
      show d.plan (S.pagesWs (S.homeOf ns) xs (k + 1)).acts = (d2, b)
      rw [S.pagesWs_succ, S.wacts_app, HHM.out, ← HXX.out, S.Dk.plan_yes PL.out]
      exact h1
    have H2 := hide h2
    have H3 : Hid (DkTo o w3 o2 w5) := T1.out.trans (h3.after B4.out)
    clear hdo h1 h2 h3 WP SV4 B4 D4 NF4 DK T1 PL
    cases b with
    | false =>
      have E : S.why false = 13 := rfl
      rw [E]
      go_wp2_with fail
      go_ret
      refine ⟨false, d2, o2, rfl, HomeA.of L3.out B3.out ?_ H2.out H3.out⟩
      obtain ⟨rr, hrr⟩ := S.pagesWs_split (S.homeOf ns) xs (k + 1) (ns.length - (k + 1))
      rw [show k + 1 + (ns.length - (k + 1)) = ns.length by have := KK.out; omega] at hrr
      unfold S.homeActs
      rw [hrr, List.append_assoc, List.append_assoc]
      exact S.Dk.plan_no H1.out
    | true =>
      have E : S.why true = 0 := rfl
      rw [E]
      go_wp2_with fail
      go_roundw
      case rel => exact ⟨k + 1, KK.out, by go_num, d2, o2, H1.out, H2.out, H3.out⟩
      case measure => have := KK.out; simp [intOf]; omega
  · have hkI : ¬ ((k : Int) < (ns.length : Int)) := by omega
    obtain rfl : k = ns.length := by have := KL.out; omega
    clear hkl R3 CU NGL
    go_wp2_with fail
    refine (flush_do o1 d1 wr DK.out (Nat.le_trans HP1.out (by omega))).mono ?_
    intro e w6 hdo
    obtain ⟨b, d2, o2, rfl, h1, h2, h3⟩ := hdo.start
    have H1 : Hid (d.plan ((S.pagesWs (S.homeOf ns) xs ns.length).acts ++ [.flush]) = (d2, b)) := by
      show d.plan ((S.pagesWs (S.homeOf ns) xs ns.length).acts ++ [.flush]) = (d2, b)
      rw [S.Dk.plan_yes PL.out]
      exact h1
    have H2 := hide h2
    have H3 := hide (T1.out.trans h3)
    clear hdo h1 h2 h3 DK T1 PL HSEEN HP1
    cases b with
    | false =>
      have E : S.why false = 13 := rfl
      rw [E]
      go_wp2_with fail
      go_ret
      refine ⟨false, d2, o2, rfl, HomeA.of L3.out B3.out ?_ H2.out H3.out⟩
      unfold S.homeActs
      exact S.Dk.plan_no H1.out
    | true =>
      have E : S.why true = 0 := rfl
      rw [E]
      have fl := S.Dk.plan_flushed HPEND.out H1.out
      have L6 : Hid (Lo w0 w6 o2 d2 g 1 4 p t [S.setL ns] tv) := L3.out.beside H2.out H3.out fl.2 (by rw [fl.1]; exact S.putAll_length _ _ _ _) (fun j h1 h2 => by rw [fl.1]; exact S.putAll_off _ _ _ _ _ (fun i hi => Or.inl (by unfold S.homeOf; omega)))
      have FL := hide fl
      clear fl
      go_wp2_with fail
      refine (clear_any o2 d2 g 1 4 p t [S.setL ns] tv w6 L6.out.log ht).mono ?_
      rintro e w7 ⟨bb, d7, o7, tv7, x⟩
      have HF : Hid (HomeA w0 w w7 g tv o o7 d d7 bb p t ns xs) := by
        have hown : ∀ k, o7.has k → o.has k ∨ w3.heap.size ≤ k := fun k e => by
          rcases x.moved.own k e with e | e
          · exact H3.out.own k e
          · exact Or.inr (Nat.le_trans H3.out.chg.size e)
        refine ⟨?_, x.dk, x.moved.ptr.trans H3.out.g, fun k e => ?_, L6.out.below.trans (x.moved.chg.below _ L6.out.below.size (fun k hk e => ?_)), ((Chg.ofBelow' B3.out).trans (H3.out.chg.mono (fun k _ e => Or.inl e)) (fun _ _ e => e)).trans x.moved.chg (fun j hj e => ?_), fun k e => ?_⟩
        · unfold S.homeActs
          rw [S.Dk.plan_yes H1.out]
          have e : S.commitActs { d with safe := S.putAll d.safe (S.homeOf ns) xs ns.length, pend := [] } 1 4 p t [S.setL ns] [] = S.commitActs d2 1 4 p t [S.setL ns] [] := by
            unfold S.commitActs
            rw [FL.out.1]
          rw [e]
          exact x.plan
        · rcases hown k e with e | e
          · exact L3.out.ob k e
          · exact Nat.le_trans L3.out.below.size e
        · rcases e with e | e | e
          · have := L6.out.ob k e; omega
          · have := L6.out.gb; omega
          · have := L6.out.tb k e; omega
        · rcases e with e | e
          · rcases H3.out.own j e with e | e
            · exact Or.inl e
            · have := B3.out.size; omega
          · exact Or.inr e
        · rcases hown k e with e | e
          · exact Or.inl e
          · exact Or.inr (Nat.le_trans B3.out.size e)
      obtain rfl := x.ret
      clear x L6 H1 H2 H3 L3
      generalize hy : S.why bb = y
      have HY2 := hide hy
      clear hy
      go_wp2_with fail
      go_ret
      exact ⟨bb, d7, o7, by rw [HY2.out]; rfl, HF.out⟩
end Go.Proofs.YthjlhngjpbmieaaGreatDoor
