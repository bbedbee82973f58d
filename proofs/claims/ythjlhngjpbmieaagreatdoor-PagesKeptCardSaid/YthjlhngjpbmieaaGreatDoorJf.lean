/- bringHome of one page. -/
/- Put of one sheet. -/
import Derived.Test.YthjlhngjpbmieaaGreatDoorJe
namespace Go.Proofs.YthjlhngjpbmieaaGreatDoor
open Go.RowKit

/-- Behind bringHome: the page is home, and the log tells of none. -/
structure Home (w0 w w' : World) (g : Nat) (tv : Value) (o o' : Ow) (d d' : S.Dk) (p t n : Nat) (x : List UInt8) : Prop where
  dk : Dsk w' o' d'
  ptr : o'.g = o.g
  pend : d'.pend = []
  left : d'.left = none
  len : d'.safe.length = d.safe.length
  log : S.Good d'.safe 1 4 (1 - p) (t + 1) []
  off : ∀ j, (j < 1 ∨ 5 ≤ j) → d'.safe.getD j [] = (S.put d.safe (5 + n * 8) x 8).getD j []
  ob : ∀ k, o'.has k → w0.heap.size ≤ k
  below : Below w0.heap.size w0 w'
  chg : Chg (fun k => o.has k ∨ k = g ∨ tv.ownBlock = some k) w w'
  own : ∀ k, o'.has k → o.has k ∨ w.heap.size ≤ k
set_option maxHeartbeats 8000000 in
set_option maxRecDepth 10000 in
theorem bringHome_one (w0 w : World) (o : Ow) (d : S.Dk) (g p t n : Nat) (tv : Value) (x : List UInt8) (h : Lo w0 w o d g 1 4 p t [S.one n] tv) (hl : d.left = none) (hlen : 7680 ≤ d.safe.length) (hn : n < 512) (hx : x.length = 1024) (hsp : S.pageAt d.safe 4101 = x) (ht : t + 1 < 18446744073709551616) :
   Calls Tryz.prog 35 #[o.ptr, .pointer (some ⟨g, 0, none⟩), .agg (S.v8 (S.one n))] w fun e w' => e = .returned (.int .i64 0) ∧ ∃ o' d', Home w0 w w' g tv o o' d d' p t n x := by
  obtain ⟨Z, hZ⟩ : ∃ Z, Z = S.v8 (S.one n) := ⟨_, rfl⟩
  obtain ⟨Y, hY⟩ : ∃ Y, Y = S.v8 (S.zeros 64) := ⟨_, rfl⟩
  obtain ⟨w1, hw1⟩ : ∃ w1, w1 = w.alloc (.cells Z 65) := ⟨_, rfl⟩
  have b1 : Below w.heap.size w w1 := by rw [hw1]; exact (Below.refl _ _).alloc (Nat.le_refl _) _
  have r1 : w1.heap[w.heap.size]? = some (.cells (S.v8 (S.one n)) 65 (0, 0)) := by rw [hw1, hZ]; exact heap_alloc_new _ _
  have ld := load57 r1 (S.one_length n)
  have hbd := build57 w1
  rw [← hZ] at ld ⊢
  rw [← hY] at hbd
  have HZ := hide hZ
  have HY := hide hY
  have L1 := hide (h.then b1)
  have B1 := hide b1
  have HW := hide hw1
  have HLEFT := hide hl
  have HLEN : Hid (7680 ≤ d.safe.length) := hlen
  have HSP := hide hsp
  have HXL : Hid (x.length = 1024) := hx
  have HSEEN : Hid (d.seen = d.safe) := S.Dk.seen_flushed d h.log.pend
  have HPEND := hide h.log.pend
  obtain ⟨gz, hgz⟩ : ∃ gz, gz = w.heap.size := ⟨_, rfl⟩
  rw [← hgz] at ld
  have HGZ := hide hgz
  clear b1 r1 hZ hY hw1 h hl hlen hsp hx hgz
  go_enter Tryz.func35, Tryz.ntmps35
  go_wp2_with (first | (rw [← HW.out, ← HGZ.out]; with_reducible refine at_op { dst := some 11, op := Op.load 65 (Operand.tmp 5), type := 65, pos := "place.go:97", after := #[], guard := none } ?_; refine wpList_load_as rfl 65 (.tmp 5) rfl (.pointer (some ⟨gz, 0, none⟩)) rfl (.agg Z) ld ?_) | (with_reducible refine at_op { dst := some 12, op := Op.build 65 #[], type := 65, pos := "place.go:97", after := #[], guard := none } ?_; refine wpList_build_as rfl 65 [] rfl [] rfl (.agg Y) hbd ?_) | (with_reducible refine at_op { dst := some 13, op := Op.binOp BinOp.eql 65 (Operand.tmp 11) (Operand.tmp 12) 65, type := 4, pos := "place.go:97", after := #[{ on := 0, ground := Ground.data }, { on := 1, ground := Ground.data }], guard := none } ?_; refine wpList_eql_arr rfl (.tmp 11) (.tmp 12) rfl (S.one n) (S.zeros 64) Z Y HZ.out HY.out rfl rfl (S.one_length n) (S.zeros_length _) false (S.one_ne n hn) ?_) | (with_reducible refine at_op { dst := some 14, op := Op.load 65 (Operand.tmp 5), type := 65, pos := "place.go:100", after := #[], guard := none } ?_; refine wpList_load_as rfl 65 (.tmp 5) rfl (.pointer (some ⟨gz, 0, none⟩)) rfl (.agg Z) ld ?_))
  clear ld hbd
  rw [HZ.out]
  refine (pages_one n w1 hn).mono ?_
  rintro e w3 ⟨gl, cl, rfl, hc3, b3⟩
  have C3 := hide hc3
  have L3 := hide (L1.out.then b3)
  have B3 := hide (B1.out.trans (b3.mono B1.out.size))
  clear hc3 b3 L1
  rw [← HZ.out]
  go_wp2_with fail
  go_loopw [17] (fun i wr => (i = .int .i64 0 ∧ w3 = wr) ∨ (i = .int .i64 1 ∧ ∃ d1 o1, d.plan (S.pageWs (5 + n * 8) x 8).acts = (d1, true) ∧ DkIs wr o1 d1 ∧ DkTo o w3 o1 wr)) (fun i _ => 1 - (intOf i).toNat)
  case atStart => exact Or.inl ⟨rfl, rfl⟩
  case round =>
  rcases hrel with ⟨rfl, rfl⟩ | ⟨rfl, d1, o1, hpl, hdk, hto⟩
  · have c3 := C3.out
    go_wp2_with fail
    clear c3
    refine (phome_any n (by omega) w3).mono ?_
    rintro e w4 ⟨rfl, rfl⟩
    go_wp2_with fail
    refine (pspare_any 0 (by omega) w3).mono ?_
    rintro e w4 ⟨rfl, rfl⟩
    go_wp2_with fail
    have RP := readPage_any o d 4101 w3 L3.out.log.dk.dk (fun i hi => by rw [HSEEN.out] at hi ⊢; exact L3.out.log.dk.dk.ok.len i hi) (by have := HLEN.out; omega)
    rw [HSEEN.out, HSP.out] at RP
    refine RP.mono ?_
    rintro e w4 ⟨gp, rfl, hgp, hrm, b4⟩
    have V4 := hrm.sliceAt (by rw [HXL.out]; omega)
    rw [HXL.out] at V4
    have SV4 := hide V4
    have B4 := hide b4
    have D4 := hide (L3.out.log.dk.dk.below b4)
    have NF4 : Hid (¬ o.has gp) := fun e => by have := L3.out.log.dk.dk.lt gp e; omega
    clear RP hrm V4 hgp b4
    go_wp2_with fail
    have WP := writePage_do o d (5 + n * 8) gp 0 1024 x w4 D4.out (by have := HLEN.out; omega) SV4.out NF4.out (by rw [HPEND.out]; simp)
    try rw [show ((5 + n * 8 : Nat) : Int) = 5 + (n : Int) * 8 by omega] at WP
    refine WP.mono ?_
    intro e w5 hdo
    obtain ⟨b, d1, o1, rfl, h1, h2, h3⟩ := hdo.start
    have pg1 := (S.Dk.plan_goes (S.pageWs (5 + n * 8) x 8).acts d HLEFT.out).1
    have hb : b = true := by rw [h1] at pg1; exact pg1
    subst hb
    have H1 := hide h1
    have H2 := hide h2
    have H3 : Hid (DkTo o w3 o1 w5) := h3.after B4.out
    have E : S.why true = 0 := rfl
    rw [E]
    clear hdo h1 h2 h3 pg1 WP SV4 B4 D4 NF4
    go_wp2_with fail
    go_roundw
    case rel => exact Or.inr ⟨by go_num, d1, o1, H1.out, H2.out, H3.out⟩
    case measure => simp [intOf]
  · have H1 := hide hpl
    have H2 := hide hdk
    have H3 := hide hto
    have ha1 : d1 = d.acts (S.pageWs (5 + n * 8) x 8).acts := by
      have := (S.Dk.plan_goes (S.pageWs (5 + n * 8) x 8).acts d HLEFT.out).2
      rw [hpl] at this
      exact this
    have hw1 : d1 = { d with pend := S.pageWs (5 + n * 8) x 8 } := by rw [ha1, S.Dk.acts_writes, HPEND.out, List.nil_append]
    have hp1 : d1.pend.length ≤ 1000000 := by rw [hw1]; show (S.pageWs (5 + n * 8) x 8).length ≤ 1000000; rw [S.pageWs_length]; omega
    have HP1 := hide hp1
    have hl1 : d1.left = none := by rw [hw1]; exact HLEFT.out
    have HL1 := hide hl1
    have hf1 : d1.flush = { d with safe := S.put d.safe (5 + n * 8) x 8, pend := [] } := by
      rw [← S.page_flushed d (5 + n * 8) x HPEND.out, S.Dk.acts_app, ← ha1]
      rfl
    have HF1 := hide hf1
    have hpn : o1.ptr = o.ptr := by unfold Ow.ptr; rw [hto.g]
    clear hpl hdk hto hp1 ha1 hw1 hl1 hf1
    rw [← hpn]
    clear hpn
    go_wp2_with fail
    refine (flush_do o1 d1 wr H2.out HP1.out).mono ?_
    intro e w6 hdo
    obtain ⟨b, d2, o2, rfl, h1, h2, h3⟩ := hdo.start
    have pg1 := S.Dk.plan_goes [.flush] d1 HL1.out
    rw [h1] at pg1
    obtain ⟨hb, hd2⟩ := pg1
    have hb' : b = true := hb
    subst hb'
    have hd2' : d2 = { d with safe := S.put d.safe (5 + n * 8) x 8, pend := [] } := by rw [← HF1.out]; exact hd2
    subst hd2'
    have HTO := hide (H3.out.trans h3)
    have L6 : Hid (Lo w0 w6 o2 { d with safe := S.put d.safe (5 + n * 8) x 8, pend := [] } g 1 4 p t [S.one n] tv) := L3.out.beside h2 HTO.out rfl (S.put_length _ _ _ _) (fun j h1 h2 => S.put_off _ _ _ _ _ (Or.inl (by omega)))
    have E : S.why true = 0 := rfl
    rw [E]
    clear hdo h1 h2 h3 hb hd2 HF1 H1 H2 L3
    go_wp2_with fail
    refine (clear_go w0 w6 o2 _ g 1 4 p t [S.one n] tv L6.out HLEFT.out ht).mono ?_
    rintro e w7 ⟨rfl, o7, tv7, wt⟩
    have my := (S.clear_calm L6.out.log.pend L6.out.log.good ht).may
    have HF : Hid (Home w0 w w7 g tv o o7 d { d with safe := S.after (S.put d.safe (5 + n * 8) x 8) 1 4 p t [S.one n] [], pend := [] } p t n x) := ⟨wt.lo.log.dk, wt.moved.ptr.trans HTO.out.g, rfl, HLEFT.out, by show (S.after (S.put d.safe (5 + n * 8) x 8) 1 4 p t [S.one n] []).length = _; rw [my.len]; exact S.put_length _ _ _ _, wt.lo.log.good, fun j hj => my.stay j (by omega), wt.lo.ob, wt.lo.below, ((Chg.ofBelow' B3.out).trans (HTO.out.chg.mono (fun k _ e => Or.inl e)) (fun _ _ e => e)).trans wt.moved.chg (fun j hj e => by
      rcases e with e | e
      · rcases HTO.out.own j e with e | e
        · exact Or.inl e
        · have := B3.out.size; omega
      · exact Or.inr e), fun k e => by
      rcases wt.moved.own k e with e | e
      · rcases HTO.out.own k e with e | e
        · exact Or.inl e
        · exact Or.inr (Nat.le_trans B3.out.size e)
      · exact Or.inr (Nat.le_trans B3.out.size (Nat.le_trans HTO.out.chg.size e))⟩
    clear wt my
    go_wp2_with fail
    go_ret
    exact ⟨rfl, o7, _, HF.out⟩
end Go.Proofs.YthjlhngjpbmieaaGreatDoor
namespace Go.Proofs.YthjlhngjpbmieaaGreatDoor
open Go.RowKit

theorem set_row {w : World} {g : Nat} {xs : List UInt8} {t : TypeId} (h : w.heap[g]? = some (.cells (S.v8 xs) t (0, 0))) (hl : xs.length = 64) : SliceAt w (.slice (some ⟨g, 0, none⟩) 64 64) xs :=
  Or.inr (Or.inr ⟨g, 0, 64, by rw [hl], by omega, by omega, block_lt_of_row h, fun j hj => by rw [Nat.zero_add]; exact v8_cell h j hj⟩)
theorem Sh1.chg {q : Nat → Prop} {w W : World} {g : Nat} {n : Int} {bv : Value} (h : Sh1 w g n bv) (hc : Chg q w W) (hg : ¬ q g) : Sh1 W g n bv := by
  obtain ⟨cur, h1, h2⟩ := h.row
  exact ⟨cur, hc.row h1 hg, h2⟩
set_option maxHeartbeats 8000000 in
set_option maxRecDepth 10000 in
theorem pput_one (w0 w : World) (o : Ow) (d : S.Dk) (p t gs n b off cap bk bo cb : Nat) (pg : Nat → List UInt8) (x : List UInt8) (h : Pg w0 w o d p t pg) (hs : StAt w gs o) (h0 : w.cell? ⟨b, off, none⟩ = some (.int .i64 (n : Int))) (h1 : w.cell? ⟨b, off + 1, none⟩ = some (.slice (some ⟨bk, bo, none⟩) 1024 cb)) (hv : SliceAt w (.slice (some ⟨bk, bo, none⟩) 1024 cb) x) (hbk : ¬ o.has bk) (hgs : ¬ o.has gs) (hn : n < 512) (ht : t + 2 < 18446744073709551616) :
   Calls Tryz.prog 12 #[.pointer (some ⟨gs, 0, none⟩), .slice (some ⟨b, off, none⟩) 1 cap] w fun e w' => e = .returned (.int .i64 0) ∧ ∃ o' d', o'.g = o.g ∧ Pg w0 w' o' d' p (t + 2) (fun m => if m = n then x else pg m) ∧ StAt w' gs o' ∧ Chg o.has w w' ∧ ∀ k, o'.has k → o.has k ∨ w.heap.size ≤ k := by
  have P0 := hide h
  have S0 := hide hs
  have H0 := hide h0
  have H1 := hide h1
  have V0 := hide hv
  have NBK := hide hbk
  have NGS := hide hgs
  have HLT : Hid (∀ k, o.has k → k < w.heap.size) := h.dk.dk.lt
  have HXL : Hid (x.length = 1024) := by obtain ⟨_, _, _, e, e2, _⟩ := hv.form; simp only [Value.slice.injEq] at e; show x.length = 1024; omega
  have HP1 := h.log.place
  have HGSL : Hid (gs < w.heap.size) := block_lt_of_row hs
  have hpp : 1 - (1 - p) = p := by omega
  clear h hs h0 h1 hv hbk hgs
  go_enter Tryz.func12, Tryz.ntmps12
  go_wp2_with fail
  refine (inOrder_one b off cap n (some ⟨bk, bo, none⟩) cb w H0.out H1.out hn).mono ?_
  rintro e w1 ⟨g1, c1, rfl, hg1, hs1, b1⟩
  have P1 := hide (P0.out.then b1)
  have ST1 : Hid (StAt w1 gs o) := (b1.block gs (block_lt_of_row S0.out)).trans S0.out
  have SH1 := hide hs1
  have V1 := hide (V0.out.below b1 (Nat.le_refl _))
  have B1 := hide b1
  have NG1 : Hid (¬ o.has g1) := fun e => by have := HLT.out _ e; omega
  clear hg1 hs1 b1 P0 S0 H0 H1 V0
  go_wp2_with fail
  refine (settled_go w0 w1 o d p t gs pg P1.out ST1.out).mono ?_
  rintro e w2 ⟨g, tv, rfl, hlo, hgb, htb, hp2, hst2, b2⟩
  have LO2 := hide hlo
  have P2 := hide hp2
  have ST2 := hide hst2
  have SH2 := hide (SH1.out.below b2)
  have V2 := hide (V1.out.below b2 (Nat.le_refl _))
  have B2 := hide (B1.out.trans (b2.mono B1.out.size))
  have hs1 := B1.out.size
  have GW : Hid (w.heap.size ≤ g ∧ ∀ k, tv.ownBlock = some k → w.heap.size ≤ k) := ⟨by omega, fun k hk => by have := htb k hk; omega⟩
  clear hlo hgb htb hp2 hst2 b2 P1 ST1 SH1 V1 B1 hs1
  have c2 := st_cell ST2.out
  go_wp2_with fail
  clear c2
  have PS := putSpares_one o d g1 c1 n bk bo cb x w2 P2.out.dk.dk P2.out.len SH2.out V2.out NBK.out (by rw [P2.out.pend]; simp)
  rw [show o.ptr = .pointer (some ⟨o.g, 0, none⟩) from rfl] at PS
  refine PS.mono ?_
  intro e w3 hdo
  obtain ⟨he, o3, h2, h3⟩ := hdo
  have pg1 := S.Dk.plan_goes ((S.pageWs 4101 x 8).acts ++ [.flush]) d P2.out.left
  obtain ⟨d3, hd3⟩ : ∃ d3 : S.Dk, d3 = { d with safe := S.put d.safe 4101 x 8, pend := [] } := ⟨_, rfl⟩
  rw [pg1.2, S.page_flushed d 4101 x P2.out.pend, ← hd3] at h2
  rw [pg1.1] at he
  subst he
  have E : S.why true = 0 := rfl
  rw [E]
  have HD3 := hide hd3
  have LEN3 : Hid (d3.safe.length = d.safe.length) := by rw [hd3]; exact S.put_length _ _ _ _
  have LO3 : Hid (Lo w0 w3 o3 d3 g 1 4 p t [] tv) := LO2.out.beside h2 h3 (by rw [hd3]) LEN3.out (fun j h1 h2 => by rw [hd3]; exact S.put_off _ _ _ _ _ (Or.inl (by omega)))
  have ST3 : Hid (w3.heap[gs]? = some (.cells #[.pointer (some ⟨o.g, 0, none⟩)] 69 (0, 0))) := h3.chg.row ST2.out NGS.out
  have SH3 := hide (SH2.out.chg h3.chg NG1.out)
  have C3 : Hid (Chg o.has w w3) := (Chg.ofBelow' B2.out).trans h3.chg (fun _ _ e => e)
  have OWN3 : Hid (∀ k, o3.has k → o.has k ∨ w.heap.size ≤ k) := fun k e => by
    rcases h3.own k e with e | e
    · exact Or.inl e
    · exact Or.inr (Nat.le_trans B2.out.size e)
  have PT3 : Hid (o3.g = o.g) := h3.g
  clear PS h2 h3 pg1 hd3 LO2 ST2 SH2 V2 B2
  go_wp2_with fail
  refine (setOf_one g1 c1 n (some ⟨bk, bo, none⟩) cb w3 SH3.out hn).mono ?_
  rintro e w4 ⟨rfl, b4⟩
  have hal := alloc57 w4
  obtain ⟨w5, hst, r5, b5⟩ := made57 w4 (S.one n) (S.one_length n)
  have B35 := hide (b4.trans (b5.mono b4.size))
  have LO5 := hide (LO3.out.then B35.out)
  have ST5 : Hid (w5.heap[gs]? = some (.cells #[.pointer (some ⟨o.g, 0, none⟩)] 69 (0, 0))) := (B35.out.block gs (block_lt_of_row ST3.out)).trans ST3.out
  have RX5 := hide r5
  have C5 : Hid (Chg o.has w w5) := C3.out.trans (Chg.ofBelow' (p := fun _ => False) B35.out) (fun _ _ e => e.elim)
  have h34 := b4.size
  have hg3 := block_lt_of_row LO3.out.log.lg.row
  have NXG : Hid (¬ (w4.heap.size = g ∨ tv.ownBlock = some w4.heap.size) ∧ ¬ o3.has w4.heap.size) := ⟨fun e => by
    rcases e with e | e
    · omega
    · have := LO3.out.log.lg.text.lt e; omega, fun e => by have := LO3.out.log.dk.dk.lt _ e; omega⟩
  obtain ⟨w4', hw4'⟩ : ∃ w4', w4' = w4.alloc (.cells (S.v8 (S.zeros 64)) 65) := ⟨_, rfl⟩
  rw [← hw4'] at hal hst
  obtain ⟨gx, hgx⟩ : ∃ gx, gx = w4.heap.size := ⟨_, rfl⟩
  rw [← hgx] at hal hst RX5 NXG
  obtain ⟨Z, hZ⟩ : ∃ Z, Z = S.v8 (S.one n) := ⟨_, rfl⟩
  rw [← hZ] at hst ⊢
  clear r5 b5 b4 hw4' hgx hZ LO3 SH3 h34 hg3
  go_wp2_with (first | (with_reducible refine at_op { dst := some 10, op := Op.alloc 65, type := 0, pos := "pages.go:86", after := #[], guard := none } ?_; refine wpList_alloc_known rfl 65 rfl (.pointer (some ⟨gx, 0, none⟩)) w4' hal ?_) | (with_reducible refine at_op { dst := none, op := Op.store 65 (Operand.tmp 10) (Operand.tmp 40), type := 0, pos := "pages.go:86", after := #[{ on := 2, ground := Ground.data }, { on := 1, ground := Ground.data }, { on := 1, ground := Ground.chain }, { on := 0, ground := Ground.phase }, { on := 1, ground := Ground.phase }, { on := 2, ground := Ground.phase }], guard := none } ?_; refine wpList_store_as rfl 65 (.tmp 10) (.tmp 40) rfl (.pointer (some ⟨gx, 0, none⟩)) (.agg Z) rfl rfl w5 hst ?_))
  clear hal hst
  have KP5 : Hid (∀ W, Chg (fun k => k = g ∨ tv.ownBlock = some k) w5 W → SliceAt W (.slice (some ⟨gx, 0, none⟩) 64 64) (S.one n)) := fun W hW => set_row (hW.row RX5.out NXG.out.1) (S.one_length n)
  have NE : Hid (S.one n ≠ []) := fun e => by have h := S.one_length n; rw [e] at h; simp at h
  have FIT : Hid ((S.one n).length ≤ S.room 4 - (S.enc []).length - 3) := by show (S.one n).length ≤ S.room 4 - (S.enc []).length - 3; rw [S.one_length]; decide
  have LF3 : Hid (d3.left = none) := by rw [HD3.out]; exact P2.out.left
  refine (commit_go w0 w5 o3 d3 g 1 4 p t [] tv (some ⟨gx, 0, none⟩) 64 64 (S.one n) LO5.out LF3.out (by omega) KP5.out NE.out FIT.out).mono ?_
  rintro e w6 ⟨rfl, o6, tv6, wt⟩
  have my := (S.commit_calm (b := S.one n) LO5.out.log.pend LO5.out.log.good (by omega) (by rw [S.enc_snoc_length]; have := FIT.out; have e := S.one_length n; have e2 : S.room 4 = 240 := rfl; have e3 : (S.enc []).length = 0 := rfl; omega)).may
  obtain ⟨d6, hd6⟩ : ∃ d6 : S.Dk, d6 = { d3 with safe := S.after d3.safe 1 4 p t [] ([] ++ [S.one n]), pend := [] } := ⟨_, rfl⟩
  have LO6 : Hid (Lo w0 w6 o6 d6 g 1 4 (1 - p) (t + 1) [S.one n] tv6) := by rw [hd6]; exact wt.lo
  have MY : Hid (d6.safe.length = d3.safe.length ∧ ∀ j, j < 1 ∨ 5 ≤ j → d6.safe.getD j [] = d3.safe.getD j []) := by rw [hd6]; exact ⟨my.len, fun j hj => my.stay j hj⟩
  have L6 : Hid (d6.left = none) := by rw [hd6]; exact LF3.out
  have hgsl := block_lt_of_row ST5.out
  have hgxl := block_lt_of_row RX5.out
  have n1 : ¬ (o3.has gs ∨ gs = g ∨ tv.ownBlock = some gs) := fun e => by
    have h1 := HGSL.out
    rcases e with e | e | e
    · rcases OWN3.out _ e with e | e
      · exact NGS.out e
      · omega
    · have := GW.out.1; omega
    · have := GW.out.2 _ e; omega
  have n2 : ¬ (o3.has gx ∨ gx = g ∨ tv.ownBlock = some gx) := fun e => by
    rcases e with e | e
    · exact NXG.out.2 e
    · exact NXG.out.1 e
  have ST6 : Hid (w6.heap[gs]? = some (.cells #[.pointer (some ⟨o.g, 0, none⟩)] 69 (0, 0))) := wt.moved.chg.row ST5.out n1
  have RX6 : Hid (w6.heap[gx]? = some (.cells (S.v8 (S.one n)) 65 (0, 0))) := wt.moved.chg.row RX5.out n2
  have C6 : Hid (Chg o.has w w6) := C5.out.trans wt.moved.chg (fun j hj e => by
    rcases e with e | e | e
    · rcases OWN3.out j e with e | e
      · exact e
      · omega
    · have := GW.out.1; omega
    · have := GW.out.2 j e; omega)
  have OWN6 : Hid (∀ k, o6.has k → o.has k ∨ w.heap.size ≤ k) := fun k e => by
    rcases wt.moved.own k e with e | e
    · exact OWN3.out k e
    · exact Or.inr (Nat.le_trans C5.out.size e)
  have PT6 : Hid (o6.g = o.g) := wt.moved.ptr.trans PT3.out
  have NS6 : Hid (¬ (o6.has gs ∨ gs = g ∨ tv6.ownBlock = some gs)) := fun e => by
    rcases e with e | e | e
    · rcases wt.moved.own _ e with e | e
      · exact n1 (Or.inl e)
      · omega
    · exact n1 (Or.inr (Or.inl e))
    · rcases wt.moved.text _ e with e | e
      · exact n1 (Or.inr (Or.inr e))
      · omega
  have NX6 : Hid (¬ (o6.has gx ∨ gx = g ∨ tv6.ownBlock = some gx)) := fun e => by
    rcases e with e | e | e
    · rcases wt.moved.own _ e with e | e
      · exact n2 (Or.inl e)
      · omega
    · exact n2 (Or.inr (Or.inl e))
    · rcases wt.moved.text _ e with e | e
      · exact n2 (Or.inr (Or.inr e))
      · omega
  have GW6 : Hid (w.heap.size ≤ g ∧ ∀ k, tv6.ownBlock = some k → w.heap.size ≤ k) := ⟨GW.out.1, fun k hk => by
    rcases wt.moved.text k hk with e | e
    · exact GW.out.2 k e
    · exact Nat.le_trans C5.out.size e⟩
  have LEN6 : Hid (7680 ≤ d6.safe.length) := by show 7680 ≤ d6.safe.length; rw [MY.out.1, LEN3.out]; exact P2.out.len
  have SP6 : Hid (S.pageAt d6.safe 4101 = x) := by
    have e1 : S.pageAt d6.safe 4101 = S.pageAt d3.safe 4101 := S.secs_cong (fun j h1 h2 => MY.out.2 j (Or.inr (by omega)))
    show S.pageAt d6.safe 4101 = x
    rw [e1, HD3.out]
    exact S.put_page _ _ _ HXL.out (by have := P2.out.len; omega)
  have MK6 : Hid (d6.safe.getD 0 [] = S.pmark) := by
    show d6.safe.getD 0 [] = S.pmark
    rw [MY.out.2 0 (Or.inl (by omega)), HD3.out]
    show (S.put d.safe 4101 x 8).getD 0 [] = S.pmark
    rw [S.put_off _ _ _ _ _ (Or.inl (by omega))]
    exact P2.out.mark
  have HM6 : Hid (∀ m, m < 512 → S.pageAt d6.safe (5 + m * 8) = pg m) := fun m hm => by
    have e1 : S.pageAt d6.safe (5 + m * 8) = S.pageAt d3.safe (5 + m * 8) := S.secs_cong (fun j h1 h2 => MY.out.2 j (Or.inr (by omega)))
    rw [e1, HD3.out]
    show S.pageAt (S.put d.safe 4101 x 8) (5 + m * 8) = pg m
    rw [S.put_other _ _ _ _ (Or.inl (by omega))]
    exact P2.out.home m hm
  have POS : Hid (0 < w0.heap.size) := P2.out.pos
  clear wt my hd6 n1 n2 hgsl hgxl GW LO5 ST5 RX5 C5 OWN3 PT3 KP5 NE FIT LF3 NXG MY LEN3 HD3 P2
  have GW := GW6
  clear GW6
  go_upto_region 16 with fail
  refine wp_region_noPanic ?_
  refine wp_region_held_drew (S := (fun W => W.heap[gs]? = some (.cells #[.pointer (some ⟨o.g, 0, none⟩)] 69 (0, 0)) ∧ W.heap[gx]? = some (.cells (S.v8 (S.one n)) 65 (0, 0)))) follows ⟨ST6.out, RX6.out⟩ (fun hHeld => ?_)
  have LOd := hide (LO6.out.then (Below.refl w6.heap.size w6).drew)
  have C6d : Hid (Chg o.has w w6.drew) := C6.out.drew
  clear LO6 C6 ST6 RX6
  generalize w6.drew = Z1 at LOd C6d hHeld ⊢
  refine wpAnyH_take (i := 0) (oi := { dst := some 47, op := Op.move (Operand.tmp 0), type := 23, pos := "pages.go:90", after := #[], guard := none }) (v := ?_) rfl (by kernel_rfl) (by kernel_rfl) (by kernel_rfl) (fun _ _ _ h => h) (Or.inl ⟨by rfl, ?_⟩) (by assumption) ?_
  rotate_left
  · intro w hSw
    clear hSw
    go_simp
    all_goals with_reducible rfl
  simp only [Act.put, List.setIfInBounds_toArray, List.set_cons_zero, List.set_cons_succ]
  refine wpAnyH_take (i := 1) (oi := { dst := some 48, op := Op.nilCheck (Operand.tmp 47), type := 0, pos := "pages.go:90", after := #[{ on := 0, ground := Ground.data }], guard := none }) (v := ?_) rfl (by kernel_rfl) (by kernel_rfl) (by kernel_rfl) (fun _ _ _ h => h) (Or.inl ⟨by rfl, ?_⟩) (by assumption) ?_
  rotate_left
  · intro w hSw
    clear hSw
    go_simp
    all_goals with_reducible rfl
  simp only [Act.put, List.setIfInBounds_toArray, List.set_cons_zero, List.set_cons_succ]
  refine wpAnyH_take (i := 2) (oi := { dst := some 49, op := Op.fieldAddr 69 (Operand.tmp 48) 0, type := 0, pos := "pages.go:90", after := #[{ on := 1, ground := Ground.data }], guard := none }) (v := ?_) rfl (by kernel_rfl) (by kernel_rfl) (by kernel_rfl) (fun _ _ _ h => h) (Or.inl ⟨by rfl, ?_⟩) (by assumption) ?_
  rotate_left
  · intro w hSw
    clear hSw
    go_simp
    all_goals with_reducible rfl
  simp only [Act.put, List.setIfInBounds_toArray, List.set_cons_zero, List.set_cons_succ]
  refine wpAnyH_take (i := 3) (oi := { dst := some 50, op := Op.load 22 (Operand.tmp 49), type := 22, pos := "pages.go:90", after := #[{ on := 2, ground := Ground.data }], guard := none }) (v := ?_) rfl (by kernel_rfl) (by kernel_rfl) (by kernel_rfl) (fun _ _ _ h => h) (Or.inl ⟨by rfl, ?_⟩) (by assumption) ?_
  rotate_left
  · intro w hSw
    have c0 := st_cell hSw.1
    clear hSw
    go_simp
    all_goals with_reducible rfl
  simp only [Act.put, List.setIfInBounds_toArray, List.set_cons_zero, List.set_cons_succ]
  refine wpAnyH_take (i := 4) (oi := { dst := some 51, op := Op.move (Operand.tmp 7), type := 63, pos := "pages.go:90", after := #[], guard := none }) (v := ?_) rfl (by kernel_rfl) (by kernel_rfl) (by kernel_rfl) (fun _ _ _ h => h) (Or.inl ⟨by rfl, ?_⟩) (by assumption) ?_
  rotate_left
  · intro w hSw
    clear hSw
    go_simp
    all_goals with_reducible rfl
  simp only [Act.put, List.setIfInBounds_toArray, List.set_cons_zero, List.set_cons_succ]
  refine wpAnyH_take (i := 5) (oi := { dst := some 52, op := Op.load 65 (Operand.tmp 10), type := 65, pos := "pages.go:90", after := #[], guard := none }) (v := .agg (S.v8 (S.one n))) rfl (by kernel_rfl) (by kernel_rfl) (by kernel_rfl) (fun _ _ _ h => h) (yieldsIf_load57 (by kernel_rfl) (.tmp 10) rfl gx rfl (S.one_length n) (fun W hW => hW.2)) (by assumption) ?_
  simp only [Act.put, List.setIfInBounds_toArray, List.set_cons_zero, List.set_cons_succ]
  refine wpAnyH_ready (rs := [6]) (by kernel_rfl) (by simp) ?_
  refine AllReadyH.cons (o := { dst := some 53, op := Op.call { callee := Callee.value (Operand.func 35), args := #[Operand.tmp 50, Operand.tmp 51, Operand.tmp 52], argTypes := #[22, 63, 65] }, type := 26, pos := "pages.go:90", after := #[{ on := 3, ground := Ground.data }, { on := 4, ground := Ground.data }, { on := 5, ground := Ground.data }], guard := none }) rfl (fun K hK => ?_) AllReadyH.nil
  go_simp
  have BH := bringHome_one w0 Z1 o6 d6 g (1 - p) (t + 1) n tv6 x LOd.out L6.out LEN6.out hn HXL.out SP6.out (by omega)
  rw [show o6.ptr = .pointer (some ⟨o.g, 0, none⟩) by unfold Ow.ptr; rw [PT6.out]] at BH
  refine BH.mono ?_
  rintro e Z2 ⟨rfl, o7, d7, hh⟩
  have a2 : Z2.heap[gs]? = some (.cells #[.pointer (some ⟨o.g, 0, none⟩)] 69 (0, 0)) ∧ Z2.heap[gx]? = some (.cells (S.v8 (S.one n)) 65 (0, 0)) := ⟨hh.chg.row hHeld.1 NS6.out, hh.chg.row hHeld.2 NX6.out⟩
  have HH := hide hh
  have ST7 := hide a2.1
  have C7 : Hid (Chg o.has w Z2) := C6d.out.trans hh.chg (fun j hj e => by rcases e with e | e | e; rcases OWN6.out j e with e | e; exact e; omega; have := GW.out.1; omega; have := GW.out.2 j e; omega)
  have O7 : Hid (∀ k, o7.has k → o.has k ∨ w.heap.size ≤ k) := fun k e => by rcases hh.own k e with e | e; exact OWN6.out k e; exact Or.inr (Nat.le_trans C6d.out.size e)
  clear BH hh hHeld LOd C6d
  refine hK.out _ _ a2 (fun hHeld => ?_)
  clear hK K
  try simp only [Act.put, List.setIfInBounds_toArray, List.set_cons_zero, List.set_cons_succ]
  clear a2
  refine wpAnyH_take (i := 7) (oi := { dst := some 4, op := Op.assign (Operand.tmp 53), type := 26, pos := "pages.go:90", after := #[{ on := 6, ground := Ground.data }, { on := 6, ground := Ground.chain }, { on := 0, ground := Ground.phase }, { on := 1, ground := Ground.phase }, { on := 2, ground := Ground.phase }, { on := 3, ground := Ground.phase }, { on := 4, ground := Ground.phase }, { on := 5, ground := Ground.phase }, { on := 6, ground := Ground.phase }], guard := none }) (v := ?_) rfl (by kernel_rfl) (by kernel_rfl) (by kernel_rfl) (fun _ _ _ h => h) (Or.inl ⟨by rfl, ?_⟩) (by assumption) ?_
  rotate_left
  · intro w hSw
    clear hSw
    go_simp
    all_goals with_reducible rfl
  simp only [Act.put, List.setIfInBounds_toArray, List.set_cons_zero, List.set_cons_succ]
  refine wpAnyH_done (by kernel_rfl) ?_ _
  refine NoPanic.normal ?_
  clear hHeld
  have PF : Hid (Pg w0 Z2 o7 d7 p (t + 2) (fun m => if m = n then x else pg m)) := ⟨HH.out.dk, HH.out.pend, HH.out.left, by rw [HH.out.len]; exact LEN6.out, by rw [HH.out.off 0 (Or.inl (by omega)), S.put_off _ _ _ _ _ (Or.inl (by omega))]; exact MK6.out, by have e := HH.out.log; rw [hpp] at e; exact e, (fun m hm => by
    have e1 : S.pageAt d7.safe (5 + m * 8) = S.pageAt (S.put d6.safe (5 + n * 8) x 8) (5 + m * 8) := S.secs_cong (fun j h1 h2 => HH.out.off j (Or.inr (by omega)))
    rw [e1]
    by_cases e : m = n
    · subst e
      rw [if_pos rfl]
      exact S.put_page _ _ _ HXL.out (by have := LEN6.out; omega)
    · rw [if_neg e, S.put_other _ _ _ _ (by omega)]
      exact HM6.out m hm), HH.out.ob, HH.out.below, POS.out⟩
  have ST8 : Hid (StAt Z2 gs o7) := by
    show Z2.heap[gs]? = some (.cells #[.pointer (some ⟨o7.g, 0, none⟩)] 69 (0, 0))
    rw [HH.out.ptr, PT6.out]
    exact ST7.out
  have PT7 : Hid (o7.g = o.g) := HH.out.ptr.trans PT6.out
  go_wp2_with fail
  go_ret
  exact ⟨rfl, o7, d7, PT7.out, PF.out, ST8.out, C7.out, O7.out⟩
end Go.Proofs.YthjlhngjpbmieaaGreatDoor
