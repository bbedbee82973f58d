/- TokenKept: tokens are new memory each time: the walk. -/
import Derived.Test.YtlcilclhaahopaaDoorKh
namespace Go.Proofs.YtlcilclhaahopaaDoor
open Go.RowKit

set_option maxHeartbeats 40000000 in
set_option maxRecDepth 10000 in
theorem tokenKept_walk (id : Nat) (l : List S.Cv) (ll : Option Addr) (ln lc : Nat) (w : World) (hid : id < 4294967296) (hl : CvAt w (.slice ll ln lc) l) (hlo : ∀ c ∈ l, c.Ok) (hK : KAt w) :
   Calls Tryd.prog 7 #[.int .u32 (id : Int), .slice ll ln lc] w fun e w' => e = .returned (.bool true) ∧ Below w.heap.size w w' := by
  have HK := hide hK
  have h0 := hK.pos
  have HLV := hide hl
  have HLO := hide hlo
  have HLL : Hid (ln = l.length) := by
    obtain ⟨a, n, c, e, hn, _⟩ := hl.form
    simp only [Value.slice.injEq] at e
    rw [e.2.1]; exact hn
  obtain ⟨key, hkey⟩ : ∃ k, k = S.root 5 := ⟨_, rfl⟩
  have root5 : Hid (∀ W : World, Calls Tryd.prog 10 #[.int .u8 5] W fun e w' => e = .returned (.agg (S.v8 key)) ∧ Below W.heap.size W w') := fun W => by rw [hkey]; exact root_is 5 5 W rfl
  have HKEY := hide (show key.length = 32 by rw [hkey]; exact S.root_length 5)
  have HID := hide hid
  obtain ⟨T, hT⟩ : ∃ T, T = S.mint key id := ⟨_, rfl⟩
  have HTO := hide (show T.Ok by rw [hT]; exact S.mint_ok _ _ hid)
  have HTC := hide (show T.cs = [] by rw [hT]; rfl)
  have mint0 : Hid (∀ W : World, KAt W → Calls Tryd.prog 9 #[.agg (S.v8 key), .int .u32 (id : Int)] W fun e w' => e = .returned (.agg (encT T.id (.slice none 0 0) T.tag).toArray) ∧ Below W.heap.size W w') := fun W hW => by rw [hT]; exact mint_any key id W HKEY.out hid hW
  clear hkey hK hl hlo hid hT
  go_enter Tryd.func7, Tryd.ntmps7
  go_upto_region 1 with fail
  go_wp2_with fail
  refine (root5.out w).mono ?_
  rintro e w1 ⟨rfl, hb1⟩
  go_wp2_with fail
  refine (mint0.out w1 (HK.out.below hb1 h0)).mono ?_
  rintro e w2 ⟨rfl, hb2⟩
  have hb12 := hb1.trans (hb2.mono hb1.size)
  clear hb1 hb2
  obtain ⟨A4, w3, ha4, hs4, hr4, hb4, -⟩ := lay_t w2 T.id none 0 0 T.tag HTO.out.tl
  obtain ⟨gA, hgg⟩ : ∃ g, g = w2.heap.size := ⟨_, rfl⟩
  rw [← hgg] at ha4 hs4 hr4
  have B3 := hide (hb12.trans (hb4.mono hb12.size))
  have RA0 := hide hr4
  have GA := hide (show w.heap.size ≤ gA by rw [hgg]; exact hb12.size)
  clear hr4 hb4 hb12 hgg
  go_upto_region 2 with (first | (with_reducible refine at_op { dst := some 5, op := Op.alloc 27, type := 0, pos := "law.go:141", after := #[], guard := none } ?_; refine wpList_alloc_known rfl 27 rfl _ _ ha4 ?_) | (with_reducible refine at_op { dst := none, op := Op.store 27 (Operand.tmp 5) (Operand.tmp 18), type := 0, pos := "law.go:141", after := #[{ on := 3, ground := Ground.data }, { on := 2, ground := Ground.data }, { on := 2, ground := Ground.chain }, { on := 0, ground := Ground.phase }, { on := 1, ground := Ground.phase }, { on := 2, ground := Ground.phase }, { on := 3, ground := Ground.phase }], guard := none } ?_; refine wpList_store_as rfl 27 (.tmp 5) (.tmp 18) rfl (.pointer (some ⟨gA, 0, none⟩)) (.agg (encT T.id (.slice none 0 0) T.tag).toArray) rfl rfl w3 hs4 ?_))
  clear ha4 hs4 A4
  go_upto_region 3 with fail
  generalize hW : w3.alloc _ = w4
  have hb4 : Below w3.heap.size w3 w4 := by rw [← hW]; exact (Below.refl _ _).alloc (Nat.le_refl _) _
  have BK0 : Hid (Dg.BookIs w4 w3.heap.size w3.heap.size (w3.heap.size + 1) (.slice none 0 0) (.slice none 0 0) []) := by rw [← hW]; exact Dg.book_empty (heap_alloc_new _ _)
  have RA4 := hide ((hb4.block _ (block_lt_of_row RA0.out)).trans RA0.out)
  have GAB := hide (show gA < w3.heap.size from block_lt_of_row RA0.out)
  have B4 := hide (B3.out.trans (hb4.mono B3.out.size))
  generalize w3.heap.size = gB at BK0 GAB ⊢
  clear hW hb4 RA0 B3
  go_wp2_with fail
  go_loopw [7] (fun s7 wr => ∃ (i : Nat) (t : S.Tk) (tp : Option Addr) (tn tc : Nat) (vl vw : Value) (es : List Dg.Entry) (top : Nat), i ≤ 3 ∧ s7 = .int .i64 (i : Int) ∧ Hid (t.cs.length = i) ∧ Hid (∀ c ∈ t.cs, S.odd c = false) ∧ Hid t.Ok ∧ Hid (wr.heap[gA]? = some (.cells (encT t.id (.slice tp tn tc) t.tag).toArray 27 (0, 0))) ∧ Hid (CRow 0 wr (.slice tp tn tc) t.cs) ∧ Hid (Dg.BookIs wr gB gB top vl vw es) ∧ Hid (es.length ≤ 3 * i) ∧ Hid (Below w.heap.size w wr)) (fun s7 _ => 3 - (intOf s7).toNat)
  case atStart => exact ⟨0, T, none, 0, 0, .slice none 0 0, .slice none 0 0, [], gB + 1, by omega, rfl, by rw [HTC.out]; exact hide rfl, by rw [HTC.out]; exact hide (fun c hc => by cases hc), HTO, RA4, by rw [HTC.out]; exact hide (Rw.nil _ _ _ _ _), BK0, hide (by simp), B4⟩
  case round =>
    clear HTO HTC RA4 BK0 B4
    obtain ⟨i, t, tp, tn, tc, vl, vw, es, top, hi3, rfl, HTL, HTD, HTK, RA, CA, BK, HES, BW⟩ := hrel
    have q0 : (0 : Int) ≤ (i : Int) := by omega
    by_cases hgo : i < ln ∧ i < 3
    rotate_left
    · have q1 : ¬ ((i : Int) < (ln : Int) ∧ (i : Int) < 3) := by omega
      by_cases h1 : i < ln
      · have q2 : (i : Int) < (ln : Int) := by omega
        have q3 : ¬ (i : Int) < 3 := by omega
        clear hgo q1 h1
        go_wp2_with fail
        refine (Dg.apart_any gB gB top vl vw es wr BK.out).mono ?_
        rintro e wk ⟨rfl, hkf⟩
        have BWK := hide (BW.out.trans (hkf.1.mono (by have := GA.out; have := GAB.out; omega)))
        clear hkf
        go_wp2_with fail
        refine (known_any wk (HK.out.below BWK.out h0)).mono ?_
        rintro e wk2 ⟨rfl, hbk⟩
        have BWL := hide (BWK.out.trans (hbk.mono BWK.out.size))
        clear hbk
        go_wp2_with fail
        go_ret
        exact ⟨rfl, BWL.out⟩
      · have q2 : ¬ (i : Int) < (ln : Int) := by omega
        clear hgo q1 h1
        go_wp2_with fail
        refine (Dg.apart_any gB gB top vl vw es wr BK.out).mono ?_
        rintro e wk ⟨rfl, hkf⟩
        have BWK := hide (BW.out.trans (hkf.1.mono (by have := GA.out; have := GAB.out; omega)))
        clear hkf
        go_wp2_with fail
        refine (known_any wk (HK.out.below BWK.out h0)).mono ?_
        rintro e wk2 ⟨rfl, hbk⟩
        have BWL := hide (BWK.out.trans (hbk.mono BWK.out.size))
        clear hbk
        go_wp2_with fail
        go_ret
        exact ⟨rfl, BWL.out⟩
    obtain ⟨hl1, hl2⟩ := hgo
    have q1 : (i : Int) < (ln : Int) := by omega
    have q2 : (i : Int) < 3 := by omega
    have qw : IntKind.i64.wrap ((i : Int) + 1) = (i : Int) + 1 := by rw [IntKind.wrap_i64]; omega
    have hlt : i < l.length := by have := HLL.out; omega
    obtain ⟨c, hc⟩ : ∃ c, l[i]? = some c := ⟨_, List.getElem?_eq_getElem hlt⟩
    obtain ⟨g, off, cap0, e, -, hg, hra⟩ := (HLV.out.below BW.out).cells i c hc
    simp only [Value.slice.injEq] at e
    obtain ⟨rfl, -, rfl⟩ := e
    have HCO := hide (HLO.out c (List.mem_of_getElem? hc))
    have HRA := hide hra
    have HGL := hide hg
    have hok := S.narrow_ok t c HTK.out HCO.out
    obtain ⟨u, hu⟩ : ∃ u, u = (S.narrow t c).1 := ⟨_, rfl⟩
    obtain ⟨er, her⟩ : ∃ er, er = (S.narrow t c).2 := ⟨_, rfl⟩
    have hz := S.narrow_zero t c
    rw [← hu] at hok hz
    rw [← her] at hz
    have HU := hide hok
    have EU := hide hu
    have EER := hide her
    have HZ := hide hz
    clear hra hg hc hlt hok hu her hz
    go_upto_region 6 with fail
    go_cut [8, 9] from 29 to 37 (fun s9 s10 wc => ∃ (gX : Nat) (uo : Option Addr) (un uc : Nat), s9 = .pointer (some ⟨gX, 0, none⟩) ∧ s10 = .int .i64 er ∧ wr.heap.size ≤ gX ∧ Hid (wc.heap[gX]? = some (.cells (encT u.id (.slice uo un uc) u.tag).toArray 27 (0, 0))) ∧ Hid (CRow wr.heap.size wc (.slice uo un uc) u.cs) ∧ Hid (Chg (fun _ => False) wr wc))
    case first =>
      refine wp_region_noPanic ?_
      refine wp_region_held_drew (S := (fun W => Chg (fun _ => False) wr W)) follows ((Chg.refl _ _).drew) (fun hHeld => ?_)
      clear hHeld
      have hHeld : Chg (fun _ => False) wr wr.drew := (Chg.refl _ _).drew
      have CZ0 := hide hHeld
      generalize wr.drew = Z0 at CZ0 hHeld ⊢
      refine wpAnyH_take (i := 0) (oi := { dst := some 30, op := Op.load 27 (Operand.tmp 5), type := 27, pos := "law.go:144", after := #[], guard := none }) (v := .agg (encT t.id (.slice tp tn tc) t.tag).toArray) rfl (by kernel_rfl) (by kernel_rfl) (by kernel_rfl) (fun _ _ _ h => h) (yieldsIf_load_mid (by rfl) _ _ rfl gA 0 rfl (encT t.id (.slice tp tn tc) t.tag) _ (fun _ hSw => rangeAt_row (hSw.row RA.out (fun e => e))) Tryd.underlying27 rfl (by rw [size_t _ _ _ HTK.out.tl, List.size_toArray])) (by assumption) ?_
      simp only [Act.put, List.setIfInBounds_toArray, List.set_cons_zero, List.set_cons_succ]
      refine wpAnyH_take (i := 1) (oi := { dst := some 31, op := Op.move (Operand.tmp 1), type := 23, pos := "law.go:144", after := #[], guard := none }) (v := ?_) rfl (by kernel_rfl) (by kernel_rfl) (by kernel_rfl) (fun _ _ _ h => h) (Or.inl ⟨by rfl, ?_⟩) (by assumption) ?_
      rotate_left
      · intro w hSw
        clear hSw
        go_simp
        all_goals with_reducible rfl
      simp only [Act.put, List.setIfInBounds_toArray, List.set_cons_zero, List.set_cons_succ]
      refine wpAnyH_take (i := 2) (oi := { dst := some 32, op := Op.move (Operand.tmp 7), type := 3, pos := "law.go:144", after := #[], guard := none }) (v := ?_) rfl (by kernel_rfl) (by kernel_rfl) (by kernel_rfl) (fun _ _ _ h => h) (Or.inl ⟨by rfl, ?_⟩) (by assumption) ?_
      rotate_left
      · intro w hSw
        clear hSw
        go_simp
        all_goals with_reducible rfl
      simp only [Act.put, List.setIfInBounds_toArray, List.set_cons_zero, List.set_cons_succ]
      refine wpAnyH_take (i := 3) (oi := { dst := some 33, op := Op.indexAddr 23 (Operand.tmp 31) (Operand.tmp 32), type := 0, pos := "law.go:144", after := #[{ on := 1, ground := Ground.data }, { on := 2, ground := Ground.data }], guard := none }) (v := ?_) rfl (by kernel_rfl) (by kernel_rfl) (by kernel_rfl) (fun _ _ _ h => h) (Or.inl ⟨by rfl, ?_⟩) (by assumption) ?_
      rotate_left
      · intro w hSw
        clear hSw
        go_simp
        all_goals with_reducible rfl
      simp only [Act.put, List.setIfInBounds_toArray, List.set_cons_zero, List.set_cons_succ]
      refine wpAnyH_take (i := 4) (oi := { dst := some 34, op := Op.load 42 (Operand.tmp 33), type := 42, pos := "law.go:144", after := #[{ on := 3, ground := Ground.data }], guard := none }) (v := .agg (encC c).toArray) rfl (by kernel_rfl) (by kernel_rfl) (by kernel_rfl) (fun _ _ _ h => h) (yieldsIf_load_mid (by rfl) _ _ rfl g (off + i * 2) rfl (encC c) _ (fun _ hSw => (fun j v hv => (World.cell?_of_block (a := ⟨g, off + i * 2 + j, none⟩) (hSw.block g HGL.out (fun e => e))).trans (HRA.out j v hv))) Tryd.underlying42 rfl (by rw [size_c, List.size_toArray])) (by assumption) ?_
      simp only [Act.put, List.setIfInBounds_toArray, List.set_cons_zero, List.set_cons_succ]
      refine wpAnyH_ready (rs := [5, 9]) (by kernel_rfl) (by simp) ?_
      refine AllReadyH.cons (o := { dst := some 35, op := Op.call { callee := Callee.value (Operand.func 14), args := #[Operand.tmp 30, Operand.tmp 34], argTypes := #[27, 42] }, type := 39, pos := "law.go:144", after := #[{ on := 0, ground := Ground.data }, { on := 4, ground := Ground.data }], guard := none }) rfl (fun K hK => ?_) ?_
      · skip
        go_simp
        refine (narrow_any t (.slice tp tn tc) c Z0 HTK.out HCO.out ((CRow.at CA.out).below (CZ0.out.below _ (Nat.le_refl _) (fun _ _ e => e))) (HK.out.below (BW.out.trans (CZ0.out.below w.heap.size BW.out.size (fun k hk e => e.elim))) h0)).mono ?_
        rintro e Z1 ⟨⟨nv, rfl, hcr⟩, hb2⟩
        rw [← EU.out] at hcr ⊢
        rw [← EER.out]
        obtain ⟨uo, uc, rfl⟩ := hcr.form
        obtain ⟨un, hun⟩ : ∃ un, un = u.cs.length := ⟨_, rfl⟩
        rw [← hun] at hcr ⊢
        have CRu : Hid (CRow wr.heap.size Z1 (.slice uo un uc) u.cs) := hcr.mono CZ0.out.size
        clear hcr hun
        have CZ1 : Hid (Chg (fun _ => False) wr Z1) := CZ0.out.then hb2
        clear hb2 CZ0
        clear hHeld
        refine hK.out _ _ CZ1.out (fun hHeld => ?_)
        clear hK K
        try simp only [Act.put, List.setIfInBounds_toArray, List.set_cons_zero, List.set_cons_succ]
        refine wpAnyH_take (i := 6) (oi := { dst := some 29, op := Op.move (Operand.tmp 35), type := 39, pos := "law.go:144", after := #[{ on := 5, ground := Ground.data }], guard := none }) (v := ?_) rfl (by kernel_rfl) (by kernel_rfl) (by kernel_rfl) (fun _ _ _ h => h) (Or.inl ⟨by rfl, ?_⟩) (by assumption) ?_
        rotate_left
        · intro w hSw
          clear hSw
          go_simp
          all_goals with_reducible rfl
        simp only [Act.put, List.setIfInBounds_toArray, List.set_cons_zero, List.set_cons_succ]
        refine wpAnyH_take (i := 7) (oi := { dst := some 36, op := Op.extract (Operand.tmp 29) 0, type := 27, pos := "law.go:144", after := #[{ on := 6, ground := Ground.data }], guard := none }) (v := ?_) rfl (by kernel_rfl) (by kernel_rfl) (by kernel_rfl) (fun _ _ _ h => h) (Or.inl ⟨by rfl, ?_⟩) (by assumption) ?_
        rotate_left
        · intro w hSw
          clear hSw
          go_simp
          all_goals with_reducible rfl
        simp only [Act.put, List.setIfInBounds_toArray, List.set_cons_zero, List.set_cons_succ]
        refine wpAnyH_take (i := 8) (oi := { dst := some 37, op := Op.extract (Operand.tmp 29) 1, type := 31, pos := "law.go:144", after := #[{ on := 6, ground := Ground.data }, { on := 10, ground := Ground.gcOnly Departure.lateStores }], guard := none }) (v := ?_) rfl (by kernel_rfl) (by kernel_rfl) (by kernel_rfl) (fun _ _ _ h => h) (Or.inl ⟨by rfl, ?_⟩) (by assumption) ?_
        rotate_left
        · intro w hSw
          clear hSw
          go_simp
          all_goals with_reducible rfl
        simp only [Act.put, List.setIfInBounds_toArray, List.set_cons_zero, List.set_cons_succ]
        refine wpAnyH_ready (rs := [9]) (by kernel_rfl) (by simp) ?_
        refine step_alloc_as (o := { dst := some 8, op := Op.alloc 27, type := 0, pos := "law.go:144", after := #[], guard := none }) rfl rfl 27 rfl _ _ (alloc27 Z1) AllReadyH.nil ⟨CZ1.out.alloc _, fun hHeld => ?_⟩
        clear hHeld
        simp only [Act.put, List.setIfInBounds_toArray, List.set_cons_zero, List.set_cons_succ]
        obtain ⟨gX, hgX⟩ : ∃ gg, gg = Z1.heap.size := ⟨_, rfl⟩
        rw [← hgX]
        generalize hZ : Z1.alloc _ = Z2
        have hb2 : Below Z1.heap.size Z1 Z2 := by rw [← hZ]; exact (Below.refl _ _).alloc (Nat.le_refl _) _
        have RgX : Hid (Z2.heap[gX]? = some (.cells tk0 27 (0, 0))) := by rw [← hZ, hgX]; exact heap_alloc_new _ _
        have GgX := hide (show wr.heap.size ≤ gX by rw [hgX]; exact CZ1.out.size)
        clear hZ hgX
        replace CRu : Hid (CRow wr.heap.size Z2 (.slice uo un uc) u.cs) := CRu.out.below hb2
        have CZ2 : Hid (Chg (fun _ => False) wr Z2) := CZ1.out.then hb2
        clear hb2 CZ1
        have hHeld := CZ2.out
        refine wpAnyH_ready (rs := [10]) (by kernel_rfl) (by simp) ?_
        obtain ⟨Z3, hst, r6, C6, s6⟩ := store_t (id := u.id) (ao := uo) (n := un) (m := uc) (tag := u.tag) RgX.out tk0_size HU.out.tl
        refine step_store_as (o := { dst := none, op := Op.store 27 (Operand.tmp 8) (Operand.tmp 36), type := 0, pos := "law.go:144", after := #[{ on := 9, ground := Ground.data }, { on := 7, ground := Ground.data }, { on := 5, ground := Ground.chain }, { on := 0, ground := Ground.phase }, { on := 1, ground := Ground.phase }, { on := 2, ground := Ground.phase }, { on := 3, ground := Ground.phase }, { on := 4, ground := Ground.phase }, { on := 5, ground := Ground.phase }, { on := 6, ground := Ground.phase }, { on := 7, ground := Ground.phase }, { on := 8, ground := Ground.textOnly Departure.lateStores }, { on := 9, ground := Ground.phase }], guard := none }) rfl rfl 27 (.tmp 8) (.tmp 36) rfl _ _ rfl rfl Z3 hst AllReadyH.nil ⟨CZ2.out.trans C6 (fun k hk e => by have := GgX.out; omega), fun hHeld => ?_⟩
        have CZ3 : Hid (Chg (fun _ => False) wr Z3) := CZ2.out.trans C6 (fun k hk e => by have := GgX.out; omega)
        replace CRu : Hid (CRow wr.heap.size Z3 (.slice uo un uc) u.cs) := CRu.out.chg C6 (fun j e e2 => CRu.out.apart RgX.out (by decide) (e2 ▸ e))
        replace RgX : Hid (Z3.heap[gX]? = some (.cells (encT u.id (.slice uo un uc) u.tag).toArray 27 (0, 0))) := r6
        clear hst r6 C6 s6 CZ2
        simp only [Act.put]
        refine wpAnyH_take (i := 11) (oi := { dst := some 9, op := Op.assign (Operand.tmp 37), type := 31, pos := "law.go:144", after := #[{ on := 8, ground := Ground.data }, { on := 10, ground := Ground.chain }, { on := 0, ground := Ground.phase }, { on := 1, ground := Ground.phase }, { on := 2, ground := Ground.phase }, { on := 3, ground := Ground.phase }, { on := 4, ground := Ground.phase }, { on := 5, ground := Ground.phase }, { on := 6, ground := Ground.phase }, { on := 7, ground := Ground.phase }, { on := 8, ground := Ground.phase }, { on := 9, ground := Ground.phase }, { on := 10, ground := Ground.phase }], guard := none }) (v := ?_) rfl (by kernel_rfl) (by kernel_rfl) (by kernel_rfl) (fun _ _ _ h => h) (Or.inl ⟨by rfl, ?_⟩) (by assumption) ?_
        rotate_left
        · intro w hSw
          clear hSw
          go_simp
          all_goals with_reducible rfl
        simp only [Act.put, List.setIfInBounds_toArray, List.set_cons_zero, List.set_cons_succ]
        refine wpAnyH_done (by kernel_rfl) ?_ _
        refine NoPanic.normal ?_
        clear hHeld
        try go_wp2_with fail
        go_meet
        exact ⟨gX, uo, un, uc, rfl, rfl, GgX.out, RgX, CRu, CZ3⟩
      refine step_alloc_as (o := { dst := some 8, op := Op.alloc 27, type := 0, pos := "law.go:144", after := #[], guard := none }) rfl rfl 27 rfl _ _ (alloc27 Z0) AllReadyH.nil ⟨CZ0.out.alloc _, fun hHeld => ?_⟩
      clear hHeld
      simp only [Act.put, List.setIfInBounds_toArray, List.set_cons_zero, List.set_cons_succ]
      obtain ⟨gX, hgX⟩ : ∃ gg, gg = Z0.heap.size := ⟨_, rfl⟩
      rw [← hgX]
      generalize hZ : Z0.alloc _ = Z1
      have hb2 : Below Z0.heap.size Z0 Z1 := by rw [← hZ]; exact (Below.refl _ _).alloc (Nat.le_refl _) _
      have RgX : Hid (Z1.heap[gX]? = some (.cells tk0 27 (0, 0))) := by rw [← hZ, hgX]; exact heap_alloc_new _ _
      have GgX := hide (show wr.heap.size ≤ gX by rw [hgX]; exact CZ0.out.size)
      clear hZ hgX
      have CZ1 : Hid (Chg (fun _ => False) wr Z1) := CZ0.out.then hb2
      clear hb2 CZ0
      have hHeld := CZ1.out
      refine wpAnyH_ready (rs := [5]) (by kernel_rfl) (by simp) ?_
      refine AllReadyH.cons (o := { dst := some 35, op := Op.call { callee := Callee.value (Operand.func 14), args := #[Operand.tmp 30, Operand.tmp 34], argTypes := #[27, 42] }, type := 39, pos := "law.go:144", after := #[{ on := 0, ground := Ground.data }, { on := 4, ground := Ground.data }], guard := none }) rfl (fun K hK => ?_) AllReadyH.nil
      go_simp
      refine (narrow_any t (.slice tp tn tc) c Z1 HTK.out HCO.out ((CRow.at CA.out).below (CZ1.out.below _ (Nat.le_refl _) (fun _ _ e => e))) (HK.out.below (BW.out.trans (CZ1.out.below w.heap.size BW.out.size (fun k hk e => e.elim))) h0)).mono ?_
      rintro e Z2 ⟨⟨nv, rfl, hcr⟩, hb2⟩
      rw [← EU.out] at hcr ⊢
      rw [← EER.out]
      obtain ⟨uo, uc, rfl⟩ := hcr.form
      obtain ⟨un, hun⟩ : ∃ un, un = u.cs.length := ⟨_, rfl⟩
      rw [← hun] at hcr ⊢
      have CRu : Hid (CRow wr.heap.size Z2 (.slice uo un uc) u.cs) := hcr.mono CZ1.out.size
      clear hcr hun
      replace RgX : Hid (Z2.heap[gX]? = some (.cells tk0 27 (0, 0))) := (hb2.block _ (block_lt_of_row RgX.out)).trans RgX.out
      have CZ2 : Hid (Chg (fun _ => False) wr Z2) := CZ1.out.then hb2
      clear hb2 CZ1
      clear hHeld
      refine hK.out _ _ CZ2.out (fun hHeld => ?_)
      clear hK K
      try simp only [Act.put, List.setIfInBounds_toArray, List.set_cons_zero, List.set_cons_succ]
      refine wpAnyH_take (i := 6) (oi := { dst := some 29, op := Op.move (Operand.tmp 35), type := 39, pos := "law.go:144", after := #[{ on := 5, ground := Ground.data }], guard := none }) (v := ?_) rfl (by kernel_rfl) (by kernel_rfl) (by kernel_rfl) (fun _ _ _ h => h) (Or.inl ⟨by rfl, ?_⟩) (by assumption) ?_
      rotate_left
      · intro w hSw
        clear hSw
        go_simp
        all_goals with_reducible rfl
      simp only [Act.put, List.setIfInBounds_toArray, List.set_cons_zero, List.set_cons_succ]
      refine wpAnyH_take (i := 7) (oi := { dst := some 36, op := Op.extract (Operand.tmp 29) 0, type := 27, pos := "law.go:144", after := #[{ on := 6, ground := Ground.data }], guard := none }) (v := ?_) rfl (by kernel_rfl) (by kernel_rfl) (by kernel_rfl) (fun _ _ _ h => h) (Or.inl ⟨by rfl, ?_⟩) (by assumption) ?_
      rotate_left
      · intro w hSw
        clear hSw
        go_simp
        all_goals with_reducible rfl
      simp only [Act.put, List.setIfInBounds_toArray, List.set_cons_zero, List.set_cons_succ]
      refine wpAnyH_take (i := 8) (oi := { dst := some 37, op := Op.extract (Operand.tmp 29) 1, type := 31, pos := "law.go:144", after := #[{ on := 6, ground := Ground.data }, { on := 10, ground := Ground.gcOnly Departure.lateStores }], guard := none }) (v := ?_) rfl (by kernel_rfl) (by kernel_rfl) (by kernel_rfl) (fun _ _ _ h => h) (Or.inl ⟨by rfl, ?_⟩) (by assumption) ?_
      rotate_left
      · intro w hSw
        clear hSw
        go_simp
        all_goals with_reducible rfl
      simp only [Act.put, List.setIfInBounds_toArray, List.set_cons_zero, List.set_cons_succ]
      refine wpAnyH_ready (rs := [10]) (by kernel_rfl) (by simp) ?_
      obtain ⟨Z3, hst, r6, C6, s6⟩ := store_t (id := u.id) (ao := uo) (n := un) (m := uc) (tag := u.tag) RgX.out tk0_size HU.out.tl
      refine step_store_as (o := { dst := none, op := Op.store 27 (Operand.tmp 8) (Operand.tmp 36), type := 0, pos := "law.go:144", after := #[{ on := 9, ground := Ground.data }, { on := 7, ground := Ground.data }, { on := 5, ground := Ground.chain }, { on := 0, ground := Ground.phase }, { on := 1, ground := Ground.phase }, { on := 2, ground := Ground.phase }, { on := 3, ground := Ground.phase }, { on := 4, ground := Ground.phase }, { on := 5, ground := Ground.phase }, { on := 6, ground := Ground.phase }, { on := 7, ground := Ground.phase }, { on := 8, ground := Ground.textOnly Departure.lateStores }, { on := 9, ground := Ground.phase }], guard := none }) rfl rfl 27 (.tmp 8) (.tmp 36) rfl _ _ rfl rfl Z3 hst AllReadyH.nil ⟨CZ2.out.trans C6 (fun k hk e => by have := GgX.out; omega), fun hHeld => ?_⟩
      have CZ3 : Hid (Chg (fun _ => False) wr Z3) := CZ2.out.trans C6 (fun k hk e => by have := GgX.out; omega)
      replace CRu : Hid (CRow wr.heap.size Z3 (.slice uo un uc) u.cs) := CRu.out.chg C6 (fun j e e2 => CRu.out.apart RgX.out (by decide) (e2 ▸ e))
      replace RgX : Hid (Z3.heap[gX]? = some (.cells (encT u.id (.slice uo un uc) u.tag).toArray 27 (0, 0))) := r6
      clear hst r6 C6 s6 CZ2
      simp only [Act.put]
      refine wpAnyH_take (i := 11) (oi := { dst := some 9, op := Op.assign (Operand.tmp 37), type := 31, pos := "law.go:144", after := #[{ on := 8, ground := Ground.data }, { on := 10, ground := Ground.chain }, { on := 0, ground := Ground.phase }, { on := 1, ground := Ground.phase }, { on := 2, ground := Ground.phase }, { on := 3, ground := Ground.phase }, { on := 4, ground := Ground.phase }, { on := 5, ground := Ground.phase }, { on := 6, ground := Ground.phase }, { on := 7, ground := Ground.phase }, { on := 8, ground := Ground.phase }, { on := 9, ground := Ground.phase }, { on := 10, ground := Ground.phase }], guard := none }) (v := ?_) rfl (by kernel_rfl) (by kernel_rfl) (by kernel_rfl) (fun _ _ _ h => h) (Or.inl ⟨by rfl, ?_⟩) (by assumption) ?_
      rotate_left
      · intro w hSw
        clear hSw
        go_simp
        all_goals with_reducible rfl
      simp only [Act.put, List.setIfInBounds_toArray, List.set_cons_zero, List.set_cons_succ]
      refine wpAnyH_done (by kernel_rfl) ?_ _
      refine NoPanic.normal ?_
      clear hHeld
      try go_wp2_with fail
      go_meet
      exact ⟨gX, uo, un, uc, rfl, rfl, GgX.out, RgX, CRu, CZ3⟩
    obtain ⟨gX, uo, un, uc, rfl, rfl, hgX, RX, CU, CW⟩ := hcut
    have BW2 := hide (BW.out.trans (CW.out.below w.heap.size BW.out.size (fun k hk e => e.elim)))
    have hbw : Below wr.heap.size wr wc := CW.out.below _ (Nat.le_refl _) (fun _ _ e => e)
    by_cases he : er = 0
    rotate_left
    · have he2 := he
      go_wp2_with fail
      refine (known_any wc (HK.out.below BW2.out h0)).mono ?_
      rintro e wk ⟨rfl, hbk⟩
      have BWK := hide (BW2.out.trans (hbk.mono BW2.out.size))
      clear hbk
      go_wp2_with fail
      go_ret
      exact ⟨rfl, BWK.out⟩
    subst he
    obtain ⟨ho, hl4, hcs⟩ := HZ.out rfl
    have HUL := hide (show u.cs.length = i + 1 by rw [hcs, List.length_append, HTL.out]; rfl)
    have HUD := hide (show ∀ x ∈ u.cs, S.odd x = false from fun x hx => by
      rw [hcs] at hx
      rcases List.mem_append.1 hx with h | h
      · exact HTD.out x h
      · rw [List.mem_singleton.1 h]; exact ho)
    clear ho hl4 hcs HZ
    obtain ⟨gu, cu, hue, hur, hgu, hcu⟩ := Dg.crow_room CU.out (by have := HUL.out; omega) (by have := HUL.out; omega)
    simp only [Value.slice.injEq] at hue
    obtain ⟨hue1, hue2, hue3⟩ := hue
    subst hue1 hue3
    have HUN := hide hue2
    have UU := hide (show Dg.URow wc (.slice (some ⟨gu, 0, none⟩) un uc) u.cs from ⟨CU.out.mono (Nat.zero_le _), by have := HUL.out; omega⟩)
    have UR := hide hur
    have HGU := hide (show wr.heap.size ≤ gu ∧ uc ≤ 9223372036854775807 from ⟨hgu, hcu⟩)
    have RA2 := hide (CW.out.row RA.out (fun e => e))
    have CA2 := hide (CA.out.chg CW.out (fun _ _ e => e))
    have BK2 := hide (BK.out.below hbw)
    have HRA2 : Hid (wc.rangeAt g (off + i * 2) (encC c)) := fun j v hv => (World.cell?_of_block (a := ⟨g, off + i * 2 + j, none⟩) (CW.out.block g HGL.out (fun e => e))).trans (HRA.out j v hv)
    have HGL2 := hide (Nat.lt_of_lt_of_le HGL.out CW.out.size)
    have HTOP := hide (show top ≤ wr.heap.size ∧ gB < top ∧ wr.heap.size ≤ gX from ⟨BK.out.top_le, BK.out.hi, hgX⟩)
    clear hgX CW BW RA CA BK HRA HGL CU hue2 hur hgu hcu hbw
    obtain ⟨wd, hwd⟩ : ∃ wd, wd = wc := ⟨_, rfl⟩
    rw [← hwd] at RX UU UR BW2 RA2 CA2 BK2 HRA2 HGL2 ⊢
    clear hwd wc
    obtain ⟨v, hv⟩ : ∃ v, v = (S.narrow t c).1 := ⟨_, rfl⟩
    have EV := hide hv
    obtain ⟨er, her⟩ : ∃ er, er = (S.narrow t c).2 := ⟨_, rfl⟩
    have EVR := hide her
    have HVO := hide (show v.Ok by rw [hv]; exact S.narrow_ok t c HTK.out HCO.out)
    have HVU := hide (show v.cs = u.cs by rw [hv, EU.out])
    clear hv her
    go_upto_region 9 with fail
    go_cut [10, 11] from 41 to 49 (fun s9 s10 wc => ∃ (gY : Nat) (vo : Option Addr) (vn vc : Nat), s9 = .pointer (some ⟨gY, 0, none⟩) ∧ s10 = .int .i64 er ∧ wd.heap.size ≤ gY ∧ Hid (wc.heap[gY]? = some (.cells (encT v.id (.slice vo vn vc) v.tag).toArray 27 (0, 0))) ∧ Hid (CRow wd.heap.size wc (.slice vo vn vc) v.cs) ∧ Hid (Chg (fun _ => False) wd wc))
    case first =>
      refine wp_region_noPanic ?_
      refine wp_region_held_drew (S := (fun W => Chg (fun _ => False) wd W)) follows ((Chg.refl _ _).drew) (fun hHeld => ?_)
      clear hHeld
      have hHeld : Chg (fun _ => False) wd wd.drew := (Chg.refl _ _).drew
      have CZ0 := hide hHeld
      generalize wd.drew = Z0 at CZ0 hHeld ⊢
      refine wpAnyH_take (i := 0) (oi := { dst := some 42, op := Op.load 27 (Operand.tmp 5), type := 27, pos := "law.go:148", after := #[], guard := none }) (v := .agg (encT t.id (.slice tp tn tc) t.tag).toArray) rfl (by kernel_rfl) (by kernel_rfl) (by kernel_rfl) (fun _ _ _ h => h) (yieldsIf_load_mid (by rfl) _ _ rfl gA 0 rfl (encT t.id (.slice tp tn tc) t.tag) _ (fun _ hSw => rangeAt_row (hSw.row RA2.out (fun e => e))) Tryd.underlying27 rfl (by rw [size_t _ _ _ HTK.out.tl, List.size_toArray])) (by assumption) ?_
      simp only [Act.put, List.setIfInBounds_toArray, List.set_cons_zero, List.set_cons_succ]
      refine wpAnyH_take (i := 1) (oi := { dst := some 43, op := Op.move (Operand.tmp 1), type := 23, pos := "law.go:148", after := #[], guard := none }) (v := ?_) rfl (by kernel_rfl) (by kernel_rfl) (by kernel_rfl) (fun _ _ _ h => h) (Or.inl ⟨by rfl, ?_⟩) (by assumption) ?_
      rotate_left
      · intro w hSw
        clear hSw
        go_simp
        all_goals with_reducible rfl
      simp only [Act.put, List.setIfInBounds_toArray, List.set_cons_zero, List.set_cons_succ]
      refine wpAnyH_take (i := 2) (oi := { dst := some 44, op := Op.move (Operand.tmp 7), type := 3, pos := "law.go:148", after := #[], guard := none }) (v := ?_) rfl (by kernel_rfl) (by kernel_rfl) (by kernel_rfl) (fun _ _ _ h => h) (Or.inl ⟨by rfl, ?_⟩) (by assumption) ?_
      rotate_left
      · intro w hSw
        clear hSw
        go_simp
        all_goals with_reducible rfl
      simp only [Act.put, List.setIfInBounds_toArray, List.set_cons_zero, List.set_cons_succ]
      refine wpAnyH_take (i := 3) (oi := { dst := some 45, op := Op.indexAddr 23 (Operand.tmp 43) (Operand.tmp 44), type := 0, pos := "law.go:148", after := #[{ on := 1, ground := Ground.data }, { on := 2, ground := Ground.data }], guard := none }) (v := ?_) rfl (by kernel_rfl) (by kernel_rfl) (by kernel_rfl) (fun _ _ _ h => h) (Or.inl ⟨by rfl, ?_⟩) (by assumption) ?_
      rotate_left
      · intro w hSw
        clear hSw
        go_simp
        all_goals with_reducible rfl
      simp only [Act.put, List.setIfInBounds_toArray, List.set_cons_zero, List.set_cons_succ]
      refine wpAnyH_take (i := 4) (oi := { dst := some 46, op := Op.load 42 (Operand.tmp 45), type := 42, pos := "law.go:148", after := #[{ on := 3, ground := Ground.data }], guard := none }) (v := .agg (encC c).toArray) rfl (by kernel_rfl) (by kernel_rfl) (by kernel_rfl) (fun _ _ _ h => h) (yieldsIf_load_mid (by rfl) _ _ rfl g (off + i * 2) rfl (encC c) _ (fun _ hSw => (fun j v hv => (World.cell?_of_block (a := ⟨g, off + i * 2 + j, none⟩) (hSw.block g HGL2.out (fun e => e))).trans (HRA2.out j v hv))) Tryd.underlying42 rfl (by rw [size_c, List.size_toArray])) (by assumption) ?_
      simp only [Act.put, List.setIfInBounds_toArray, List.set_cons_zero, List.set_cons_succ]
      refine wpAnyH_ready (rs := [5, 9]) (by kernel_rfl) (by simp) ?_
      refine AllReadyH.cons (o := { dst := some 47, op := Op.call { callee := Callee.value (Operand.func 14), args := #[Operand.tmp 42, Operand.tmp 46], argTypes := #[27, 42] }, type := 39, pos := "law.go:148", after := #[{ on := 0, ground := Ground.data }, { on := 4, ground := Ground.data }], guard := none }) rfl (fun K hK => ?_) ?_
      · skip
        go_simp
        refine (narrow_any t (.slice tp tn tc) c Z0 HTK.out HCO.out ((CRow.at CA2.out).below (CZ0.out.below _ (Nat.le_refl _) (fun _ _ e => e))) (HK.out.below (BW2.out.trans (CZ0.out.below w.heap.size BW2.out.size (fun k hk e => e.elim))) h0)).mono ?_
        rintro e Z1 ⟨⟨nv, rfl, hcr⟩, hb2⟩
        rw [← EV.out] at hcr ⊢
        rw [← EVR.out]
        obtain ⟨vo, vc, rfl⟩ := hcr.form
        obtain ⟨vn, hun⟩ : ∃ un, un = v.cs.length := ⟨_, rfl⟩
        rw [← hun] at hcr ⊢
        have CRu : Hid (CRow wd.heap.size Z1 (.slice vo vn vc) v.cs) := hcr.mono CZ0.out.size
        clear hcr hun
        have CZ1 : Hid (Chg (fun _ => False) wd Z1) := CZ0.out.then hb2
        clear hb2 CZ0
        clear hHeld
        refine hK.out _ _ CZ1.out (fun hHeld => ?_)
        clear hK K
        try simp only [Act.put, List.setIfInBounds_toArray, List.set_cons_zero, List.set_cons_succ]
        refine wpAnyH_take (i := 6) (oi := { dst := some 41, op := Op.move (Operand.tmp 47), type := 39, pos := "law.go:148", after := #[{ on := 5, ground := Ground.data }], guard := none }) (v := ?_) rfl (by kernel_rfl) (by kernel_rfl) (by kernel_rfl) (fun _ _ _ h => h) (Or.inl ⟨by rfl, ?_⟩) (by assumption) ?_
        rotate_left
        · intro w hSw
          clear hSw
          go_simp
          all_goals with_reducible rfl
        simp only [Act.put, List.setIfInBounds_toArray, List.set_cons_zero, List.set_cons_succ]
        refine wpAnyH_take (i := 7) (oi := { dst := some 48, op := Op.extract (Operand.tmp 41) 0, type := 27, pos := "law.go:148", after := #[{ on := 6, ground := Ground.data }], guard := none }) (v := ?_) rfl (by kernel_rfl) (by kernel_rfl) (by kernel_rfl) (fun _ _ _ h => h) (Or.inl ⟨by rfl, ?_⟩) (by assumption) ?_
        rotate_left
        · intro w hSw
          clear hSw
          go_simp
          all_goals with_reducible rfl
        simp only [Act.put, List.setIfInBounds_toArray, List.set_cons_zero, List.set_cons_succ]
        refine wpAnyH_take (i := 8) (oi := { dst := some 49, op := Op.extract (Operand.tmp 41) 1, type := 31, pos := "law.go:148", after := #[{ on := 6, ground := Ground.data }, { on := 10, ground := Ground.gcOnly Departure.lateStores }], guard := none }) (v := ?_) rfl (by kernel_rfl) (by kernel_rfl) (by kernel_rfl) (fun _ _ _ h => h) (Or.inl ⟨by rfl, ?_⟩) (by assumption) ?_
        rotate_left
        · intro w hSw
          clear hSw
          go_simp
          all_goals with_reducible rfl
        simp only [Act.put, List.setIfInBounds_toArray, List.set_cons_zero, List.set_cons_succ]
        refine wpAnyH_ready (rs := [9]) (by kernel_rfl) (by simp) ?_
        refine step_alloc_as (o := { dst := some 10, op := Op.alloc 27, type := 0, pos := "law.go:148", after := #[], guard := none }) rfl rfl 27 rfl _ _ (alloc27 Z1) AllReadyH.nil ⟨CZ1.out.alloc _, fun hHeld => ?_⟩
        clear hHeld
        simp only [Act.put, List.setIfInBounds_toArray, List.set_cons_zero, List.set_cons_succ]
        obtain ⟨gY, hgY⟩ : ∃ gg, gg = Z1.heap.size := ⟨_, rfl⟩
        rw [← hgY]
        generalize hZ : Z1.alloc _ = Z2
        have hb2 : Below Z1.heap.size Z1 Z2 := by rw [← hZ]; exact (Below.refl _ _).alloc (Nat.le_refl _) _
        have RgY : Hid (Z2.heap[gY]? = some (.cells tk0 27 (0, 0))) := by rw [← hZ, hgY]; exact heap_alloc_new _ _
        have GgY := hide (show wd.heap.size ≤ gY by rw [hgY]; exact CZ1.out.size)
        clear hZ hgY
        replace CRu : Hid (CRow wd.heap.size Z2 (.slice vo vn vc) v.cs) := CRu.out.below hb2
        have CZ2 : Hid (Chg (fun _ => False) wd Z2) := CZ1.out.then hb2
        clear hb2 CZ1
        have hHeld := CZ2.out
        refine wpAnyH_ready (rs := [10]) (by kernel_rfl) (by simp) ?_
        obtain ⟨Z3, hst, r6, C6, s6⟩ := store_t (id := v.id) (ao := vo) (n := vn) (m := vc) (tag := v.tag) RgY.out tk0_size HVO.out.tl
        refine step_store_as (o := { dst := none, op := Op.store 27 (Operand.tmp 10) (Operand.tmp 48), type := 0, pos := "law.go:148", after := #[{ on := 9, ground := Ground.data }, { on := 7, ground := Ground.data }, { on := 5, ground := Ground.chain }, { on := 0, ground := Ground.phase }, { on := 1, ground := Ground.phase }, { on := 2, ground := Ground.phase }, { on := 3, ground := Ground.phase }, { on := 4, ground := Ground.phase }, { on := 5, ground := Ground.phase }, { on := 6, ground := Ground.phase }, { on := 7, ground := Ground.phase }, { on := 8, ground := Ground.textOnly Departure.lateStores }, { on := 9, ground := Ground.phase }], guard := none }) rfl rfl 27 (.tmp 10) (.tmp 48) rfl _ _ rfl rfl Z3 hst AllReadyH.nil ⟨CZ2.out.trans C6 (fun k hk e => by have := GgY.out; omega), fun hHeld => ?_⟩
        have CZ3 : Hid (Chg (fun _ => False) wd Z3) := CZ2.out.trans C6 (fun k hk e => by have := GgY.out; omega)
        replace CRu : Hid (CRow wd.heap.size Z3 (.slice vo vn vc) v.cs) := CRu.out.chg C6 (fun j e e2 => CRu.out.apart RgY.out (by decide) (e2 ▸ e))
        replace RgY : Hid (Z3.heap[gY]? = some (.cells (encT v.id (.slice vo vn vc) v.tag).toArray 27 (0, 0))) := r6
        clear hst r6 C6 s6 CZ2
        simp only [Act.put]
        refine wpAnyH_take (i := 11) (oi := { dst := some 11, op := Op.assign (Operand.tmp 49), type := 31, pos := "law.go:148", after := #[{ on := 8, ground := Ground.data }, { on := 10, ground := Ground.chain }, { on := 0, ground := Ground.phase }, { on := 1, ground := Ground.phase }, { on := 2, ground := Ground.phase }, { on := 3, ground := Ground.phase }, { on := 4, ground := Ground.phase }, { on := 5, ground := Ground.phase }, { on := 6, ground := Ground.phase }, { on := 7, ground := Ground.phase }, { on := 8, ground := Ground.phase }, { on := 9, ground := Ground.phase }, { on := 10, ground := Ground.phase }], guard := none }) (v := ?_) rfl (by kernel_rfl) (by kernel_rfl) (by kernel_rfl) (fun _ _ _ h => h) (Or.inl ⟨by rfl, ?_⟩) (by assumption) ?_
        rotate_left
        · intro w hSw
          clear hSw
          go_simp
          all_goals with_reducible rfl
        simp only [Act.put, List.setIfInBounds_toArray, List.set_cons_zero, List.set_cons_succ]
        refine wpAnyH_done (by kernel_rfl) ?_ _
        refine NoPanic.normal ?_
        clear hHeld
        try go_wp2_with fail
        go_meet
        exact ⟨gY, vo, vn, vc, rfl, rfl, GgY.out, RgY, CRu, CZ3⟩
      refine step_alloc_as (o := { dst := some 10, op := Op.alloc 27, type := 0, pos := "law.go:148", after := #[], guard := none }) rfl rfl 27 rfl _ _ (alloc27 Z0) AllReadyH.nil ⟨CZ0.out.alloc _, fun hHeld => ?_⟩
      clear hHeld
      simp only [Act.put, List.setIfInBounds_toArray, List.set_cons_zero, List.set_cons_succ]
      obtain ⟨gY, hgY⟩ : ∃ gg, gg = Z0.heap.size := ⟨_, rfl⟩
      rw [← hgY]
      generalize hZ : Z0.alloc _ = Z1
      have hb2 : Below Z0.heap.size Z0 Z1 := by rw [← hZ]; exact (Below.refl _ _).alloc (Nat.le_refl _) _
      have RgY : Hid (Z1.heap[gY]? = some (.cells tk0 27 (0, 0))) := by rw [← hZ, hgY]; exact heap_alloc_new _ _
      have GgY := hide (show wd.heap.size ≤ gY by rw [hgY]; exact CZ0.out.size)
      clear hZ hgY
      have CZ1 : Hid (Chg (fun _ => False) wd Z1) := CZ0.out.then hb2
      clear hb2 CZ0
      have hHeld := CZ1.out
      refine wpAnyH_ready (rs := [5]) (by kernel_rfl) (by simp) ?_
      refine AllReadyH.cons (o := { dst := some 47, op := Op.call { callee := Callee.value (Operand.func 14), args := #[Operand.tmp 42, Operand.tmp 46], argTypes := #[27, 42] }, type := 39, pos := "law.go:148", after := #[{ on := 0, ground := Ground.data }, { on := 4, ground := Ground.data }], guard := none }) rfl (fun K hK => ?_) AllReadyH.nil
      go_simp
      refine (narrow_any t (.slice tp tn tc) c Z1 HTK.out HCO.out ((CRow.at CA2.out).below (CZ1.out.below _ (Nat.le_refl _) (fun _ _ e => e))) (HK.out.below (BW2.out.trans (CZ1.out.below w.heap.size BW2.out.size (fun k hk e => e.elim))) h0)).mono ?_
      rintro e Z2 ⟨⟨nv, rfl, hcr⟩, hb2⟩
      rw [← EV.out] at hcr ⊢
      rw [← EVR.out]
      obtain ⟨vo, vc, rfl⟩ := hcr.form
      obtain ⟨vn, hun⟩ : ∃ un, un = v.cs.length := ⟨_, rfl⟩
      rw [← hun] at hcr ⊢
      have CRu : Hid (CRow wd.heap.size Z2 (.slice vo vn vc) v.cs) := hcr.mono CZ1.out.size
      clear hcr hun
      replace RgY : Hid (Z2.heap[gY]? = some (.cells tk0 27 (0, 0))) := (hb2.block _ (block_lt_of_row RgY.out)).trans RgY.out
      have CZ2 : Hid (Chg (fun _ => False) wd Z2) := CZ1.out.then hb2
      clear hb2 CZ1
      clear hHeld
      refine hK.out _ _ CZ2.out (fun hHeld => ?_)
      clear hK K
      try simp only [Act.put, List.setIfInBounds_toArray, List.set_cons_zero, List.set_cons_succ]
      refine wpAnyH_take (i := 6) (oi := { dst := some 41, op := Op.move (Operand.tmp 47), type := 39, pos := "law.go:148", after := #[{ on := 5, ground := Ground.data }], guard := none }) (v := ?_) rfl (by kernel_rfl) (by kernel_rfl) (by kernel_rfl) (fun _ _ _ h => h) (Or.inl ⟨by rfl, ?_⟩) (by assumption) ?_
      rotate_left
      · intro w hSw
        clear hSw
        go_simp
        all_goals with_reducible rfl
      simp only [Act.put, List.setIfInBounds_toArray, List.set_cons_zero, List.set_cons_succ]
      refine wpAnyH_take (i := 7) (oi := { dst := some 48, op := Op.extract (Operand.tmp 41) 0, type := 27, pos := "law.go:148", after := #[{ on := 6, ground := Ground.data }], guard := none }) (v := ?_) rfl (by kernel_rfl) (by kernel_rfl) (by kernel_rfl) (fun _ _ _ h => h) (Or.inl ⟨by rfl, ?_⟩) (by assumption) ?_
      rotate_left
      · intro w hSw
        clear hSw
        go_simp
        all_goals with_reducible rfl
      simp only [Act.put, List.setIfInBounds_toArray, List.set_cons_zero, List.set_cons_succ]
      refine wpAnyH_take (i := 8) (oi := { dst := some 49, op := Op.extract (Operand.tmp 41) 1, type := 31, pos := "law.go:148", after := #[{ on := 6, ground := Ground.data }, { on := 10, ground := Ground.gcOnly Departure.lateStores }], guard := none }) (v := ?_) rfl (by kernel_rfl) (by kernel_rfl) (by kernel_rfl) (fun _ _ _ h => h) (Or.inl ⟨by rfl, ?_⟩) (by assumption) ?_
      rotate_left
      · intro w hSw
        clear hSw
        go_simp
        all_goals with_reducible rfl
      simp only [Act.put, List.setIfInBounds_toArray, List.set_cons_zero, List.set_cons_succ]
      refine wpAnyH_ready (rs := [10]) (by kernel_rfl) (by simp) ?_
      obtain ⟨Z3, hst, r6, C6, s6⟩ := store_t (id := v.id) (ao := vo) (n := vn) (m := vc) (tag := v.tag) RgY.out tk0_size HVO.out.tl
      refine step_store_as (o := { dst := none, op := Op.store 27 (Operand.tmp 10) (Operand.tmp 48), type := 0, pos := "law.go:148", after := #[{ on := 9, ground := Ground.data }, { on := 7, ground := Ground.data }, { on := 5, ground := Ground.chain }, { on := 0, ground := Ground.phase }, { on := 1, ground := Ground.phase }, { on := 2, ground := Ground.phase }, { on := 3, ground := Ground.phase }, { on := 4, ground := Ground.phase }, { on := 5, ground := Ground.phase }, { on := 6, ground := Ground.phase }, { on := 7, ground := Ground.phase }, { on := 8, ground := Ground.textOnly Departure.lateStores }, { on := 9, ground := Ground.phase }], guard := none }) rfl rfl 27 (.tmp 10) (.tmp 48) rfl _ _ rfl rfl Z3 hst AllReadyH.nil ⟨CZ2.out.trans C6 (fun k hk e => by have := GgY.out; omega), fun hHeld => ?_⟩
      have CZ3 : Hid (Chg (fun _ => False) wd Z3) := CZ2.out.trans C6 (fun k hk e => by have := GgY.out; omega)
      replace CRu : Hid (CRow wd.heap.size Z3 (.slice vo vn vc) v.cs) := CRu.out.chg C6 (fun j e e2 => CRu.out.apart RgY.out (by decide) (e2 ▸ e))
      replace RgY : Hid (Z3.heap[gY]? = some (.cells (encT v.id (.slice vo vn vc) v.tag).toArray 27 (0, 0))) := r6
      clear hst r6 C6 s6 CZ2
      simp only [Act.put]
      refine wpAnyH_take (i := 11) (oi := { dst := some 11, op := Op.assign (Operand.tmp 49), type := 31, pos := "law.go:148", after := #[{ on := 8, ground := Ground.data }, { on := 10, ground := Ground.chain }, { on := 0, ground := Ground.phase }, { on := 1, ground := Ground.phase }, { on := 2, ground := Ground.phase }, { on := 3, ground := Ground.phase }, { on := 4, ground := Ground.phase }, { on := 5, ground := Ground.phase }, { on := 6, ground := Ground.phase }, { on := 7, ground := Ground.phase }, { on := 8, ground := Ground.phase }, { on := 9, ground := Ground.phase }, { on := 10, ground := Ground.phase }], guard := none }) (v := ?_) rfl (by kernel_rfl) (by kernel_rfl) (by kernel_rfl) (fun _ _ _ h => h) (Or.inl ⟨by rfl, ?_⟩) (by assumption) ?_
      rotate_left
      · intro w hSw
        clear hSw
        go_simp
        all_goals with_reducible rfl
      simp only [Act.put, List.setIfInBounds_toArray, List.set_cons_zero, List.set_cons_succ]
      refine wpAnyH_done (by kernel_rfl) ?_ _
      refine NoPanic.normal ?_
      clear hHeld
      try go_wp2_with fail
      go_meet
      exact ⟨gY, vo, vn, vc, rfl, rfl, GgY.out, RgY, CRu, CZ3⟩
    obtain ⟨gY, vo, vn, vc, rfl, rfl, hgY, RY, CV, CW⟩ := hcut
    have BW3 := hide (BW2.out.trans (CW.out.below w.heap.size BW2.out.size (fun k hk e => e.elim)))
    have hbw : Below wd.heap.size wd wc := CW.out.below _ (Nat.le_refl _) (fun _ _ e => e)
    obtain ⟨gv, cv, hve, hvr, hgv, hcv⟩ := Dg.crow_room CV.out (by rw [HVU.out]; have := HUL.out; omega) (by rw [HVU.out]; have := HUL.out; omega)
    simp only [Value.slice.injEq] at hve
    obtain ⟨hve1, hve2, hve3⟩ := hve
    subst hve1 hve3
    have HVN := hide (show vn = u.cs.length by rw [← HVU.out]; exact hve2)
    rw [HVU.out] at hvr
    have VR := hide hvr
    have RX3 := hide (CW.out.row RX.out (fun e => e))
    have UU3 := hide (show Dg.URow wc (.slice (some ⟨gu, 0, none⟩) un uc) u.cs from UU.out.kept fun k hk => CW.out.block k (UU.out.lt hk) (fun e => e))
    have UR3 := hide (UR.out.below hbw (by obtain ⟨cur, q, _⟩ := UR.out; exact block_lt_of_row q))
    have RA3 := hide (CW.out.row RA2.out (fun e => e))
    have BK3 := hide (BK2.out.below hbw)
    have FACTS := hide (show gA < gB ∧ gB < top ∧ top ≤ gu ∧ top ≤ gX ∧ gu < wc.heap.size ∧ gX < wc.heap.size ∧ gu < gv ∧ gX < gv ∧ gX < gY ∧ gu < gY ∧ gv < wc.heap.size ∧ gY < wc.heap.size ∧ vc ≤ 9223372036854775807 ∧ uc ≤ 9223372036854775807 by
      have f1 := GAB.out
      have f2 := HTOP.out
      have f3 := HGU.out
      obtain ⟨cur, q, _⟩ := UR.out
      have f4 := block_lt_of_row q
      have f5 := block_lt_of_row RX.out
      have f6 := block_lt_of_row RY.out
      obtain ⟨cur2, q2, _⟩ := VR.out
      have f7 := block_lt_of_row q2
      have f8 := CW.out.size
      refine ⟨f1, f2.2.1, by omega, by omega, by omega, by omega, by omega, by omega, by omega, by omega, f7, f6, hcv, f3.2⟩)
    clear CW BW2 RX UU UR RA2 CA2 BK2 HRA2 HGL2 CV HVO HVU hve2 hvr hgv hcv hbw hgY HTOP HGU EV EVR
    have hes := HES.out
    have hi9 : i < 3 := hl2
    go_upto_region 10 with fail
    obtain ⟨x0, x1⟩ := t_cells RX3.out
    go_wp2_with fail
    have C1 := Dg.keep_any (fun j => j = gu ∨ j = gv ∨ j = gX ∨ j = gY) (fun j => j = gv) gB gB top gu uc vl vw u.cs es wc BK3.out UR3.out (BK3.out.new FACTS.out.2.2.1) (by have := FACTS.out; omega) FACTS.out.2.2.2.2.2.2.2.2.2.2.2.2.2 (by have := HUL.out; omega) (by omega) (BK3.out.nos _ _ (fun j hj => by have := FACTS.out; omega) (fun j hj => by have := FACTS.out; omega)) (fun j hj e => by have := FACTS.out; omega) (fun e => by have := FACTS.out; omega)
    rw [← HUN.out] at C1
    refine C1.mono ?_
    clear C1 x0 x1
    rintro e Y ⟨rfl, ⟨vl', vw', es', hb4, hes4, hno4⟩, hkf⟩
    have BKY := hide hb4
    have NOY := hide hno4
    have BY := hide (BW3.out.trans (hkf.1.mono (by have := GA.out; have := FACTS.out; omega)))
    have RXY := hide ((hkf.2 gX (Or.inl FACTS.out.2.2.2.1) (block_lt_of_row RX3.out)).trans RX3.out)
    have RYY := hide ((hkf.2 gY (Or.inl (by have := FACTS.out; omega)) (block_lt_of_row RY.out)).trans RY.out)
    have RAY := hide ((hkf.1.block gA FACTS.out.1).trans RA3.out)
    have VRY : Hid (Dg.Room Y gv vc u.cs) := by
      obtain ⟨cur, q1, q2⟩ := VR.out
      exact ⟨cur, (hkf.2 gv (Or.inl (by have := FACTS.out; omega)) (block_lt_of_row q1)).trans q1, q2⟩
    have UUY := hide (show Dg.URow Y (.slice (some ⟨gu, 0, none⟩) un uc) u.cs from UU3.out.kept fun k hk => by
      have e2 : k = gu := by simp only [Value.ownBlock, Option.some.injEq] at hk; exact hk.symm
      rw [e2]
      exact hkf.2 gu (Or.inl FACTS.out.2.2.1) FACTS.out.2.2.2.2.1)
    have SY := hide (show wc.heap.size ≤ Y.heap.size from hkf.1.size)
    have hes5 : es'.length ≤ 3 * i + 1 := by omega
    clear hb4 hno4 hkf hes4 BK3 RX3 RY RA3 VR UU3 UR3 BW3 hes
    go_upto_region 11 with fail
    obtain ⟨x0, x1⟩ := t_cells RYY.out
    go_wp2_with fail
    have C2 := Dg.keep_any (fun j => j = gu ∨ j = gX) (fun _ => False) gB gB Y.heap.size gv vc vl' vw' u.cs es' Y BKY.out VRY.out (NOY.out.new (by have := FACTS.out; omega) (Or.inr (Or.inl rfl)) rfl) (by have := FACTS.out; omega) FACTS.out.2.2.2.2.2.2.2.2.2.2.2.2.1 (by have := HUL.out; omega) (by omega) (NOY.out.mono (fun j hj => by rcases hj with hj | hj; exact Or.inl hj; exact Or.inr (Or.inr (Or.inl hj))) (fun _ e => e.elim)) (fun j hj e => by have := FACTS.out; have := SY.out; omega) (fun e => e)
    rw [← HVN.out] at C2
    refine C2.mono ?_
    clear C2 x0 x1
    rintro e U ⟨rfl, ⟨vl2, vw2, es2, hb5, hes6, hno5⟩, hkf⟩
    have BKU := hide hb5
    have NOU := hide hno5
    have BU := hide (BY.out.trans (hkf.1.mono (by have := GA.out; have := FACTS.out; omega)))
    have RXU := hide ((hkf.2 gX (Or.inr ⟨Or.inr rfl, by have := FACTS.out; omega⟩) (block_lt_of_row RXY.out)).trans RXY.out)
    have RAU := hide ((hkf.1.block gA FACTS.out.1).trans RAY.out)
    have UUU := hide (show Dg.URow U (.slice (some ⟨gu, 0, none⟩) un uc) u.cs from UUY.out.kept fun k hk => by
      have e2 : k = gu := by simp only [Value.ownBlock, Option.some.injEq] at hk; exact hk.symm
      rw [e2]
      exact hkf.2 gu (Or.inr ⟨Or.inl rfl, by have := FACTS.out; omega⟩) (by have := FACTS.out; have := SY.out; omega))
    have SU := hide (show wc.heap.size ≤ U.heap.size from Nat.le_trans SY.out hkf.1.size)
    have hes7 : es2.length ≤ 3 * i + 2 := by omega
    clear hb5 hno5 hkf hes6 BKY NOY RXY RYY RAY VRY UUY BY hes5 SY
    go_upto_region 12 with fail
    have ld1 := load_t RXU.out HU.out.tl
    go_wp2_with (with_reducible refine at_op { dst := some 57, op := Op.load 27 (Operand.tmp 8), type := 27, pos := "law.go:151", after := #[], guard := none } ?_; refine wpList_load_as rfl 27 (.tmp 8) rfl (.pointer (some ⟨gX, 0, none⟩)) rfl (.agg (encT u.id (.slice (some ⟨gu, 0, none⟩) un uc) u.tag).toArray) ld1 ?_)
    have hef := S.encode_fine u (by have := HUL.out; omega) HUD.out
    obtain ⟨B, hB⟩ : ∃ B, S.encode u = (B, 0) := ⟨(S.encode u).1, by rw [← hef]⟩
    have hdec : S.decode B = (u, (0, 0)) := by have := S.decode_encode u HU.out hef; rw [hB] at this; exact this
    have HBL := hide (show B.length ≤ 57 by
      have h1 := (S.encode_zero hef).2.2
      rw [h1] at hB
      have h2 : S.bytesOf u = B := congrArg Prod.fst hB
      rw [← h2, S.bytesOf_length u HU.out.tl]
      have := HUL.out
      omega)
    refine (enc_ok u _ B U HU.out (CRow.at UUU.out.1) hB).mono ?_
    rintro e U1 ⟨⟨bo, bc, rfl, hub⟩, hb1⟩
    have HDEC := hide hdec
    have SB := hide (hub.sliceAt (by have := HBL.out; omega))
    clear ld1 hB hef hdec hub
    go_upto_region 13 with fail
    obtain ⟨nB, hnB⟩ : ∃ n, n = B.length := ⟨_, rfl⟩
    rw [← hnB] at SB ⊢
    clear hnB
    go_wp2_with fail
    refine (dec_ok (.slice bo nB bc) B u U1 SB.out (by have := HBL.out; omega) HDEC.out).mono ?_
    rintro e U2 ⟨⟨wo, wcc, rfl, hcw⟩, hb2⟩
    obtain ⟨gw, cw, hwe, hwr, hgw, hcw2⟩ := Dg.crow_room hcw (by have := HUL.out; omega) (by have := HUL.out; omega)
    simp only [Value.slice.injEq] at hwe
    obtain ⟨hwe1, -, hwe3⟩ := hwe
    subst hwe1 hwe3
    obtain ⟨nw, hnw⟩ : ∃ n, n = u.cs.length := ⟨_, rfl⟩
    rw [← hnw]
    have HNW := hide hnw
    obtain ⟨A4, U3, ha4, hs4, hr4, hb4, -⟩ := lay_t U2 u.id (some ⟨gw, 0, none⟩) nw wcc u.tag HU.out.tl
    obtain ⟨gZ, hgg⟩ : ∃ g, g = U2.heap.size := ⟨_, rfl⟩
    rw [← hgg] at ha4 hs4 hr4
    have hbU : Below U.heap.size U U3 := hb1.trans ((hb2.trans (hb4.mono hb2.size)).mono hb1.size)
    have RZ := hide hr4
    have WR := hide (Dg.Room.below hwr hb4 (by obtain ⟨cur, q, _⟩ := hwr; exact block_lt_of_row q))
    have GW := hide (show U.heap.size ≤ gw ∧ gw < U3.heap.size ∧ wcc ≤ 9223372036854775807 from ⟨Nat.le_trans hb1.size hgw, Nat.lt_of_lt_of_le (by obtain ⟨cur, q, _⟩ := hwr; exact block_lt_of_row q) hb4.size, hcw2⟩)
    have BKV := hide (BKU.out.below hbU)
    have BV := hide (BU.out.trans (hbU.mono BU.out.size))
    have RXV := hide ((hbU.block gX (block_lt_of_row RXU.out)).trans RXU.out)
    have RAV := hide ((hbU.block gA (block_lt_of_row RAU.out)).trans RAU.out)
    have UUV := hide (show Dg.URow U3 (.slice (some ⟨gu, 0, none⟩) un uc) u.cs from UUU.out.kept fun k hk => hbU.block k (UUU.out.lt hk))
    have SV := hide (show U.heap.size ≤ U3.heap.size from hbU.size)
    clear hb1 hb2 hb4 hbU hr4 hwr hgw hcw2 hcw hgg hnw SB BKU BU RXU RAU UUU HBL HDEC
    go_upto_region 14 with (first | (with_reducible refine at_op { dst := some 14, op := Op.alloc 27, type := 0, pos := "law.go:152", after := #[], guard := none } ?_; refine wpList_alloc_known rfl 27 rfl _ _ ha4 ?_) | (with_reducible refine at_op { dst := none, op := Op.store 27 (Operand.tmp 14) (Operand.tmp 64), type := 0, pos := "law.go:152", after := #[{ on := 5, ground := Ground.data }, { on := 3, ground := Ground.data }, { on := 1, ground := Ground.chain }, { on := 0, ground := Ground.phase }, { on := 1, ground := Ground.phase }, { on := 2, ground := Ground.phase }, { on := 3, ground := Ground.phase }, { on := 4, ground := Ground.textOnly Departure.lateStores }, { on := 5, ground := Ground.phase }], guard := none } ?_; refine wpList_store_as rfl 27 (.tmp 14) (.tmp 64) rfl (.pointer (some ⟨gZ, 0, none⟩)) (.agg (encT u.id (.slice (some ⟨gw, 0, none⟩) nw wcc) u.tag).toArray) rfl rfl U3 hs4 ?_))
    clear ha4 hs4 A4
    obtain ⟨x0, x1⟩ := t_cells RZ.out
    go_wp2_with fail
    have C3 := Dg.keep_any (fun j => j = gu ∨ j = gX) (fun _ => False) gB gB U.heap.size gw wcc vl2 vw2 u.cs es2 U3 BKV.out WR.out (BKV.out.new GW.out.1) (by have := FACTS.out; have := SU.out; have := GW.out; omega) GW.out.2.2 (by have := HUL.out; omega) (by omega) NOU.out (fun j hj e => by have := FACTS.out; have := SU.out; have := SV.out; omega) (fun e => e)
    rw [← HNW.out] at C3
    refine C3.mono ?_
    clear C3 x0 x1
    rintro e V ⟨rfl, ⟨vl3, vw3, es3, hb5, hes8, -⟩, hkf⟩
    have BV2 := hide (BV.out.trans (hkf.1.mono (by have := GA.out; have := FACTS.out; omega)))
    have RXW := hide ((hkf.2 gX (Or.inr ⟨Or.inr rfl, by have := FACTS.out; omega⟩) (block_lt_of_row RXV.out)).trans RXV.out)
    have RAW := hide ((hkf.1.block gA FACTS.out.1).trans RAV.out)
    have UUW := hide (show Dg.URow V (.slice (some ⟨gu, 0, none⟩) un uc) u.cs from UUV.out.kept fun k hk => by
      have e2 : k = gu := by simp only [Value.ownBlock, Option.some.injEq] at hk; exact hk.symm
      rw [e2]
      exact hkf.2 gu (Or.inr ⟨Or.inl rfl, by have := FACTS.out; omega⟩) (by have := FACTS.out; have := SU.out; have := SV.out; omega))
    have BKW := hide hb5
    have HE3 := hide (show es3.length ≤ 3 * (i + 1) by omega)
    clear hb5 hkf hes8 hes7 NOU BKV BV RXV RAV UUV RZ WR
    go_upto_region 15 with fail
    have ld1 := load_t RXW.out HU.out.tl
    obtain ⟨w7, hs7, hr7, k7, -⟩ := store_t (id := u.id) (ao := some ⟨gu, 0, none⟩) (n := un) (m := uc) (tag := u.tag) RAW.out (by rw [List.size_toArray, encT_length _ _ _ HTK.out.tl]) HU.out.tl
    have BK7 := hide (Dg.book_near BKW.out k7 FACTS.out.1 RAW.out)
    have R7 := hide hr7
    have U7 := hide (show CRow 0 w7 (.slice (some ⟨gu, 0, none⟩) un uc) u.cs from UUW.out.1.chg k7 (fun j e e2 => UUW.out.1.apart RAW.out (by decide) (e2 ▸ e)))
    have B7 := hide (show Below w.heap.size w w7 from BV2.out.trans (k7.below w.heap.size BV2.out.size (fun k hk e => by have := GA.out; omega)))
    clear hr7 k7 BKW RAW UUW BV2
    go_wp2_with (first | (with_reducible refine at_op { dst := some 69, op := Op.load 27 (Operand.tmp 8), type := 27, pos := "law.go:154", after := #[], guard := none } ?_; refine wpList_load_as rfl 27 (.tmp 8) rfl (.pointer (some ⟨gX, 0, none⟩)) rfl (.agg (encT u.id (.slice (some ⟨gu, 0, none⟩) un uc) u.tag).toArray) ld1 ?_) | (with_reducible refine at_op { dst := none, op := Op.store 27 (Operand.tmp 5) (Operand.tmp 69), type := 0, pos := "law.go:154", after := #[{ on := 0, ground := Ground.data }, { on := 0, ground := Ground.phase }], guard := none } ?_; refine wpList_store_as rfl 27 (.tmp 5) (.tmp 69) rfl (.pointer (some ⟨gA, 0, none⟩)) (.agg (encT u.id (.slice (some ⟨gu, 0, none⟩) un uc) u.tag).toArray) rfl rfl w7 hs7 ?_))
    go_roundw
    case rel => exact ⟨i + 1, u, some ⟨gu, 0, none⟩, un, uc, vl3, vw3, es3, _, by omega, by go_num, HUL, HUD, HU, R7, U7, BK7, HE3, B7⟩
    case measure => simp [intOf]; omega
end Go.Proofs.YtlcilclhaahopaaDoor
