/- WalKept: records are new memory each time. -/
import Derived.Test.YtfjkddjdmlnbnaaDoorKph
namespace Go.Proofs.YtfjkddjdmlnbnaaDoor
open Go.RowKit

theorem Room.lt {w : World} {g cap : Nat} {bs : List UInt8} (h : Room w g cap bs) : g < w.heap.size := by obtain ⟨cur, h1, _⟩ := h; exact block_lt_of_row h1
theorem Room.drew {w : World} {g cap : Nat} {bs : List UInt8} (h : Room w g cap bs) : Room w.drew g cap bs := h
theorem Room.over {w W : World} {g cap : Nat} {bs : List UInt8} (h : Room w g cap bs) (hb : W.heap[g]? = w.heap[g]?) : Room W g cap bs := by obtain ⟨cur, h1, h2⟩ := h; exact ⟨cur, hb.trans h1, h2⟩
theorem BookIs.drew' {w : World} {gB base top : Nat} {vl vw : Value} {es : List Entry} (h : BookIs w gB base top vl vw es) : BookIs w.drew gB base top vl vw es := h.below (Below.refl _ _).drew
theorem below_cell {w W : World} {a : Addr} {v : Value} (h : Below w.heap.size w W) (hc : w.cell? a = some v) : W.cell? a = some v := by
  refine (World.cell?_of_block (h.block _ ?_)).trans hc
  unfold World.cell? at hc
  by_cases hb : a.block < w.heap.size
  · exact hb
  · rw [Array.getElem?_eq_none (by omega)] at hc
    cases hc
theorem cat_one (xs : List UInt8) : (({ data := #[1] } : ByteArray) ++ { data := xs.toArray }) = { data := (1 :: xs).toArray } := by
  ext <;> simp
theorem str_one (xs Y : List UInt8) (h : Y = [1] ++ xs) : Y = 1 :: xs := h
set_option maxHeartbeats 16000000 in
set_option maxRecDepth 10000 in
theorem walKept_walk (v0 : Value) (bs0 : List UInt8) (w : World) (hv : SliceAt w v0 bs0) (hK : KAt w) : Calls Tryd.prog 7 #[v0] w fun e w' => e = .returned (.bool true) ∧ Below w.heap.size w w' := by
  obtain ⟨a0, l0, c0, rfl, hl0, hm0⟩ := hv.form
  have p0 := hv.le_cap
  have HV := hide hv
  have HL0 := hide hl0
  have HK := hide hK
  have HP : Hid (0 < w.heap.size) := hK.pos
  clear hv hl0 hK
  go_enter Tryd.func7, Tryd.ntmps7
  go_wp2_with fail
  refine (begun_any 20 0 20 w w (by omega) (by omega) (by omega) (Below.refl _ _) HP.out HK.out).mono ?_
  rintro e w1 ⟨o, g, tv, rfl, hlo, hob, hgb, htb, b1⟩
  have LO1 := hide hlo
  have HO1 : Hid (∀ k, o.has k → k < w1.heap.size) := fun k hk => hlo.log.dk.dk.lt k hk
  have HG1 : Hid (g < w1.heap.size) := block_lt_of_row hlo.log.lg.row
  have HT1 : Hid (∀ k, tv.ownBlock = some k → k < w1.heap.size) := fun k hk => hlo.log.lg.text.lt hk
  have HB1 : Hid (w.heap.size ≤ w1.heap.size) := b1.size
  clear hlo hob hgb htb b1
  go_upto_if 22 with fail
  go_cut [0] (fun x wc => w1 = wc ∧ ∃ (a : Option Addr) (l c : Nat) (bs : List UInt8), x = .slice a l c ∧ l = bs.length ∧ l ≤ 300 ∧ SliceAt w (.slice a l c) bs)
  case first =>
    by_cases h : 300 < l0
    · have q1 : (300 : Int) < (l0 : Int) := by omega
      have q2 : (300 : Int) ≤ (c0 : Int) := by omega
      have Z := hide (part_to HV.out 300 (by omega))
      have ZL : Hid (300 = (bs0.take 300).length) := by show 300 = (bs0.take 300).length; rw [List.length_take, ← HL0.out]; omega
      go_wp2_with fail
      go_meet
      exact ⟨rfl, a0, 300, c0, bs0.take 300, rfl, ZL.out, Nat.le_refl _, Z.out⟩
    · have q1 : ¬ ((300 : Int) < (l0 : Int)) := by omega
      go_wp2_with fail
      go_meet
      exact ⟨rfl, a0, l0, c0, bs0, rfl, HL0.out, by omega, HV.out⟩
  case rest =>
  obtain ⟨rfl, a1, l1, c1, xs, rfl, hxl, hx300, hvx⟩ := hcut
  have SV := hide hvx
  have LX := hide hxl
  clear hvx hxl HV HL0 hm0 p0
  clear a0 l0 c0 bs0
  obtain ⟨w2, hw2⟩ : ∃ w2, w2 = w1.alloc (.cells #[.int .u8 1] 5) := ⟨_, rfl⟩
  have b2 : Below w1.heap.size w1 w2 := by rw [hw2]; exact (Below.refl _ _).alloc (Nat.le_refl _) _
  have r2 : w2.heap[w1.heap.size]? = some (.cells #[.int .u8 1] 5 (0, 0)) := by rw [hw2]; exact heap_alloc_new _ _
  have LO2 := hide (LO1.out.then b2)
  have S12 : Hid (w1.heap.size ≤ w2.heap.size) := b2.size
  have U2 : Hid (URow w2 (.slice (some ⟨w1.heap.size, 0, none⟩) 1 1) [1]) := ⟨rfl, Or.inr ⟨w1.heap.size, 1, _, rfl, Nat.zero_le _, r2, Nat.le_refl _, by simp [maxLen], rfl, rfl⟩⟩
  have SV2 := hide (SV.out.below LO2.out.below (Nat.le_refl _))
  have APP := hide (run_append_row w2 (.slice (some ⟨w1.heap.size, 0, none⟩) 1 1) (.slice a1 l1 c1) [1] xs 29 U2.out SV2.out (by rw [← LX.out]; simp; omega))
  obtain ⟨Y, hY⟩ : ∃ Y, Y = ([1] : List UInt8) ++ xs := ⟨_, rfl⟩
  have HY := hide hY
  have YN : Hid (Y ≠ []) := by show Y ≠ []; rw [hY]; simp
  have hYl : Y.length ≤ 301 := by rw [hY]; simp; have := LX.out; omega
  have YL : Hid (Y.length ≤ 140737488355328) := by show Y.length ≤ _; omega
  rw [← hY] at APP
  have HW2 := hide hw2
  clear b2 r2 hw2 hY
  go_wp2_with (at_builtin; (rw [← HW2.out]; refine wpList_append_known rfl (.tmp 25) (.tmp 26) 29 29 rfl _ _ rfl rfl APP.out ?_; rintro v3 w3 ⟨hu3, hg3, ho3⟩; have U3 := hide hu3; have G3 := hide hg3; have O3 := hide ho3; clear hu3 hg3 ho3; obtain ⟨gi, ci, cur3, hv3, hr3, hn3, hc3⟩ := U3.out.lies YN.out; subst hv3; have R3 := hide hr3; clear hr3))
  have GI : Hid (w1.heap.size ≤ gi) := by
    rcases O3.out gi rfl with e | e
    · simp only [Value.ownBlock, Option.some.injEq] at e
      show w1.heap.size ≤ gi
      omega
    · exact Nat.le_trans S12.out e
  have C3 : Hid (Chg (fun k => k = w1.heap.size) w2 w3) := (Chg.refl _ _).grown G3.out (fun k _ e => by simp only [Value.ownBlock, Option.some.injEq] at e; exact e.symm)
  have LO3 : Hid (Lo w w3 o (S.begunDk 20 0 20) g 0 20 0 0 [] tv) := LO2.out.chg C3.out (fun k hk e => by
    rcases hk with hk | hk | hk | hk
    · have := HO1.out k hk; omega
    · have := HG1.out; omega
    · have := HT1.out k hk; omega
    · have := HB1.out; omega)
  have KP3 : Hid (∀ W, Chg (fun k => k = g ∨ tv.ownBlock = some k) w3 W → SliceAt W (.slice (some ⟨gi, 0, none⟩) Y.length ci) Y) := fun W hW => (U3.out.chg hW (fun k hk e => by
    simp only [Value.ownBlock, Option.some.injEq] at hk
    subst hk
    have h0 := GI.out
    rcases e with e | e
    · have := HG1.out; omega
    · have := HT1.out _ e; omega)).sliceAt YL.out
  have FT : Hid (Y.length ≤ S.room 20 - (S.enc []).length - 3) := by
    have h3 : S.room 20 = 2160 := rfl
    have h4 : (S.enc []).length = 0 := rfl
    show Y.length ≤ S.room 20 - (S.enc []).length - 3
    omega
  clear APP HW2 U2 SV2 LO1 LO2 G3 O3 C3 S12
  refine (commit_go w w3 o _ g 0 20 0 0 [] tv (some ⟨gi, 0, none⟩) Y.length ci Y LO3.out rfl (by omega) KP3.out YN.out FT.out).mono ?_
  rintro e w4 ⟨rfl, o4, tv4, wt⟩
  have h34 : gi < w3.heap.size := block_lt_of_row R3.out
  have hno : ¬ (o.has gi ∨ gi = g ∨ tv.ownBlock = some gi) := by
    have h0 := GI.out
    rintro (e | e | e)
    · have := HO1.out _ e; omega
    · have := HG1.out; omega
    · have := HT1.out _ e; omega
  have WR4 : Hid (Wrote gi Y.length w4 w4) := ⟨⟨cur3, wt.moved.chg.row R3.out hno, hn3⟩, Chg.refl _ _⟩
  obtain ⟨d4, LO4⟩ : ∃ d4, Hid (Lo w w4 o4 d4 g 0 20 1 1 [Y] tv4) := ⟨_, wt.lo⟩
  have NO4 : Hid (¬ o4.has gi ∧ gi ≠ g ∧ tv4.ownBlock ≠ some gi) := by
    refine ⟨fun e => ?_, fun e => hno (Or.inr (Or.inl e)), fun e => ?_⟩
    · rcases wt.moved.own gi e with e | e
      · exact hno (Or.inl e)
      · omega
    · rcases wt.moved.text gi e with e | e
      · exact hno (Or.inr (Or.inr e))
      · omega
  clear wt h34 hno LO3 KP3 FT U3 R3 hn3 hc3 HO1 HG1 HT1
  clear w3 cur3
  go_wp2_with fail
  go_loopw [7] (fun i wr => ∃ k : Nat, k ≤ Y.length ∧ i = .int .i64 (k : Int) ∧ Wrote gi Y.length w4 wr) (fun i _ => Y.length - (intOf i).toNat)
  case atStart => exact ⟨0, Nat.zero_le _, rfl, WR4.out⟩
  case round =>
    obtain ⟨k, hk, rfl, hwr⟩ := hrel
    by_cases hlt : k < Y.length
    · obtain ⟨v, cv⟩ := hwr.cell k hlt
      have f1 := hwr.frozen k
      have WR := hide (hwr.put k (.int .u8 9))
      have q1 : (0 : Int) ≤ (k : Int) := by omega
      have q2 : (k : Int) < (Y.length : Int) := by omega
      have q4 : IntKind.i64.wrap ((k : Int) + 1) = (k : Int) + 1 := by rw [IntKind.wrap_i64]; omega
      clear hwr
      go_wp2
      go_roundw
      case rel => exact ⟨k + 1, by omega, by go_num, WR.out⟩
      case measure => simp [intOf]; omega
    · have q2 : ¬ ((k : Int) < (Y.length : Int)) := by omega
      have LO5 : Hid (Lo w wr o4 d4 g 0 20 1 1 [Y] tv4) := LO4.out.chg hwr.chg (fun k hk e => by
        subst e
        rcases hk with hk | hk | hk | hk
        · exact NO4.out.1 hk
        · exact NO4.out.2.1 hk
        · exact NO4.out.2.2 hk
        · have := HB1.out; have := GI.out; omega)
      clear hwr LO4 WR4 NO4 GI
      go_wp2_with fail
      obtain ⟨w6, hw6⟩ : ∃ w6, w6 = wr.alloc (.cells #[.slice none 0 0, .slice none 0 0, .int .i64 0, .bool false] 61) := ⟨_, rfl⟩
      rw [← hw6]
      have r6 : w6.heap[wr.heap.size]? = some (.cells #[.slice none 0 0, .slice none 0 0, .int .i64 0, .bool false] 61 (0, 0)) := by rw [hw6]; exact heap_alloc_new _ _
      have b6 : Below wr.heap.size wr w6 := by rw [hw6]; exact (Below.refl _ _).alloc (Nat.le_refl _) _
      have BK6 := hide (book_new r6)
      have LO6 := hide (LO5.out.then b6)
      have HO : Hid (∀ k, o4.has k → k < wr.heap.size) := fun k hk => LO5.out.log.dk.dk.lt k hk
      have HG : Hid (g < wr.heap.size) := block_lt_of_row LO5.out.log.lg.row
      have HT : Hid (∀ k, tv4.ownBlock = some k → k < wr.heap.size) := fun k hk => LO5.out.log.lg.text.lt hk
      have HWB : Hid (w.heap.size ≤ wr.heap.size) := LO5.out.below.size
      obtain ⟨gB, hgB⟩ : ∃ gB, gB = wr.heap.size := ⟨_, rfl⟩
      rw [← hgB] at BK6 HO HG HT HWB ⊢
      clear hw6 r6 b6 hgB LO5 q2 hk hlt
      go_loopw [9] (fun i wq => ∃ k : Nat, k ≤ 2 ∧ i = .int .i64 (k : Int) ∧ Lo w wq o4 d4 g 0 20 1 1 [Y] tv4 ∧ ∃ vl vw es top, BookIs wq gB gB top vl vw es ∧ es.length ≤ k) (fun i _ => 2 - (intOf i).toNat)
      case atStart => exact ⟨0, by omega, rfl, LO6.out, _, _, _, _, BK6.out, by simp⟩
      case round =>
      obtain ⟨m, hm, rfl, hlo, vl, vw, es, top, hbk, hes⟩ := hrel
      have LO7 := hide hlo
      have BK7 := hide hbk
      have hen : (S.enc [Y]).length < 1000000 := by have h1 := hlo.log.good.room; have h2 := S.room_le hlo.log.good.most; omega
      have HEN := hide hen
      have HNE : Hid (∀ r ∈ [Y], r ≠ []) := fun r hr => by rw [List.mem_singleton] at hr; rw [hr]; exact YN.out
      clear hlo hbk hen LO6 BK6
      by_cases hlt2 : m < 2
      · have q5 : (m : Int) < 2 := by omega
        have q6 : IntKind.i64.wrap ((m : Int) + 1) = (m : Int) + 1 := by rw [IntKind.wrap_i64]; omega
        go_wp2_with fail
        refine (records_cap o4.ptr 0 20 1 g [Y] tv4 true _ (LO7.out.log.lg.has (by have := HEN.out; omega)) LO7.out.log.good.hd HEN.out HNE.out).mono ?_
        rintro e w7 ⟨lv, us, rfl, hrec, b7⟩
        obtain ⟨gl, off, cl, gj, cj, rfl, hcell, hroom, hgj, hgl, hglt, hcj⟩ := hrec.one
        have BK8 := hide (BK7.out.below b7)
        have LO8 := hide (LO7.out.then b7)
        have TJ : Hid (top ≤ gj) := Nat.le_trans BK7.out.top_le hgj
        have BJ : Hid (gB ≤ gj) := by have h1 := BK7.out.hi; have h2 := TJ.out; show gB ≤ gj; omega
        have RM := hide hroom
        have CL := hide hcell
        clear hrec b7 hgj hgl hglt hroom hcell BK7 LO7
        go_wp2_with fail
        go_loopw [48] (fun j wz => (j = .int .i64 0 ∧ wz = w7) ∨ (j = .int .i64 1 ∧ Lo w wz o4 d4 g 0 20 1 1 [Y] tv4 ∧ ∃ vl vw es top, BookIs wz gB gB top vl vw es ∧ es.length ≤ m + 1)) (fun j _ => 1 - (intOf j).toNat)
        case atStart => exact Or.inl ⟨rfl, rfl⟩
        case round =>
        rcases hrel with ⟨rfl, rfl⟩ | ⟨rfl, hlo9, vl9, vw9, es9, top9, hbk9, hes9⟩
        · have hcell := CL.out
          go_wp2_with fail
          refine (keep_any (fun _ => False) gB gB top gj cj vl vw Y es _ BK8.out RM.out TJ.out BJ.out hcj YL.out (by omega) (book_none _ _ _) (fun _ _ e => e) (fun e => e)).mono ?_
          rintro e w8 ⟨rfl, ⟨vl8, vw8, es8, hbk, hle, _⟩, hkp⟩
          have LO9 := hide (LO8.out.low hkp.1 HO.out HG.out HT.out HWB.out)
          have BK9 := hide hbk
          clear hbk hkp hcell
          go_wp2_with fail
          go_roundw
          case rel => exact Or.inr ⟨by go_num, LO9.out, vl8, vw8, es8, _, BK9.out, by omega⟩
          case measure => simp [intOf]
        · have LO9 := hide hlo9
          have BK9 := hide hbk9
          clear hlo9 hbk9
          go_wp2_with fail
          go_roundw
          case rel => exact ⟨m + 1, by omega, by go_num, LO9.out, vl9, vw9, es9, top9, BK9.out, hes9⟩
          case measure => simp [intOf]; omega
      · have q5 : ¬ ((m : Int) < 2) := by omega
        go_wp2_with fail
        refine (records_cap o4.ptr 0 20 1 g [Y] tv4 true _ (LO7.out.log.lg.has (by have := HEN.out; omega)) LO7.out.log.good.hd HEN.out HNE.out).mono ?_
        rintro e w9 ⟨lv, us, rfl, hrec, b9⟩
        obtain ⟨gl, off, cl, gj, cj, rfl, hcell, hroom, hgj, hgl, hglt, hcj⟩ := hrec.one
        have BK9 := hide (BK7.out.below b9)
        have LO9 := hide (LO7.out.then b9)
        have GG : Hid (top ≤ gl ∧ gl < w9.heap.size ∧ top ≤ gj ∧ gj < w9.heap.size) := ⟨Nat.le_trans BK7.out.top_le hgl, hglt, Nat.le_trans BK7.out.top_le hgj, hroom.lt⟩
        have RMd : Hid (Room w9.drew gj cj Y) := hroom.drew
        have CL : Hid (w9.drew.cell? ⟨gl, off, none⟩ = some (.slice (some ⟨gj, 0, none⟩) Y.length cj)) := hcell
        have SVd : Hid (SliceAt w9.drew (.slice a1 l1 c1) xs) := SV.out.below LO9.out.below.drew (Nat.le_refl _)
        clear hrec b9 hgj hgl hglt hroom hcell BK7 LO7
        have LXS : Hid (¬ (9223372036854775807 < 1 + xs.length)) := by show ¬ (9223372036854775807 < 1 + xs.length); rw [← LX.out]; omega
        go_upto_region 23 with fail
        refine wp_region_noPanic ?_
        refine wp_region_held_drew (S := (fun W => W.cell? ⟨gl, off, none⟩ = some (.slice (some ⟨gj, 0, none⟩) Y.length cj) ∧ Room W gj cj Y ∧ SliceAt W (.slice a1 l1 c1) xs)) follows ⟨CL.out, RMd.out, SVd.out⟩ (fun hHeld => ?_)
        have BKd := hide (BK9.out.drew')
        have LOd : Hid (Below w.heap.size w w9.drew ∧ KAt w9.drew) := ⟨LO9.out.below.drew, LO9.out.log.dk.k⟩
        have HG9 : Hid (top ≤ gl ∧ gl < w9.drew.heap.size ∧ top ≤ gj ∧ gj < w9.drew.heap.size) := GG.out
        clear BK9 LO9 GG CL RMd SVd
        generalize w9.drew = Z1 at BKd LOd HG9 hHeld ⊢
        refine wpAnyH_ready (rs := [0]) (by kernel_rfl) (by simp) ?_
        refine AllReadyH.cons (o := { dst := some 57, op := Op.call { callee := Callee.value (Operand.func 28), args := #[Operand.tmp 8, Operand.func 29], argTypes := #[61, 64] }, type := 4, pos := "law.go:266", after := #[], guard := none }) rfl (fun K hK => ?_) AllReadyH.nil
        go_simp
        refine (apart_any gB gB top vl vw es Z1 BKd.out).mono ?_
        rintro e Z2 ⟨rfl, hkp⟩
        have a2 : Z2.cell? ⟨gl, off, none⟩ = some (.slice (some ⟨gj, 0, none⟩) Y.length cj) ∧ Room Z2 gj cj Y ∧ SliceAt Z2 (.slice a1 l1 c1) xs := ⟨(World.cell?_of_block (a := ⟨gl, off, none⟩) (hkp.2 gl HG9.out.1 HG9.out.2.1)).trans hHeld.1, hHeld.2.1.over (hkp.2 gj HG9.out.2.2.1 HG9.out.2.2.2), SV.out.below (LOd.out.1.trans (hkp.1.mono HWB.out)) (Nat.le_refl _)⟩
        have LO2' : Hid (Below w.heap.size w Z2 ∧ KAt Z2) := ⟨LOd.out.1.trans (hkp.1.mono HWB.out), LOd.out.2.below hkp.1 (Nat.lt_of_lt_of_le HP.out HWB.out)⟩
        clear hHeld hkp
        refine hK.out _ _ a2 (fun hHeld => ?_)
        clear hK K
        try simp only [Act.put, List.setIfInBounds_toArray, List.set_cons_zero, List.set_cons_succ]
        clear a2 BKd LOd HG9
        refine wpAnyH_take (i := 1) (oi := { dst := some 58, op := Op.move (Operand.tmp 57), type := 4, pos := "law.go:266", after := #[{ on := 0, ground := Ground.data }, { on := 0, ground := Ground.chain }], guard := none }) (v := ?_) rfl (by kernel_rfl) (by kernel_rfl) (by kernel_rfl) (fun _ _ _ h => h) (Or.inl ⟨by rfl, ?_⟩) (by assumption) ?_
        rotate_left
        · intro w hSw
          clear hSw
          go_simp
          all_goals with_reducible rfl
        simp only [Act.put, List.setIfInBounds_toArray, List.set_cons_zero, List.set_cons_succ]
        refine wpAnyH_take (i := 2) (oi := { dst := some 59, op := Op.move (Operand.tmp 12), type := 31, pos := "law.go:266", after := #[{ on := 1, ground := Ground.guard }], guard := some (1, true) }) (v := ?_) rfl (by kernel_rfl) (by kernel_rfl) (by kernel_rfl) (fun _ _ _ h => h) (Or.inl ⟨by rfl, ?_⟩) (by assumption) ?_
        rotate_left
        · intro w hSw
          clear hSw
          go_simp
          all_goals with_reducible rfl
        simp only [Act.put, List.setIfInBounds_toArray, List.set_cons_zero, List.set_cons_succ]
        refine wpAnyH_take (i := 3) (oi := { dst := some 60, op := Op.call { callee := Callee.builtin Builtin.len, args := #[Operand.tmp 59], argTypes := #[31] }, type := 3, pos := "law.go:266", after := #[{ on := 2, ground := Ground.data }, { on := 1, ground := Ground.guard }], guard := some (1, true) }) (v := ?_) rfl (by kernel_rfl) (by kernel_rfl) (by kernel_rfl) (fun _ _ _ h => h) (Or.inl ⟨by rfl, ?_⟩) (by assumption) ?_
        rotate_left
        · intro w hSw
          clear hSw
          go_simp
          all_goals with_reducible rfl
        simp only [Act.put, List.setIfInBounds_toArray, List.set_cons_zero, List.set_cons_succ]
        refine wpAnyH_take (i := 4) (oi := { dst := some 61, op := Op.binOp BinOp.eql 3 (Operand.tmp 60) (Operand.const (Value.int IntKind.i64 1)) 3, type := 4, pos := "law.go:266", after := #[{ on := 3, ground := Ground.data }, { on := 1, ground := Ground.guard }], guard := some (1, true) }) (v := ?_) rfl (by kernel_rfl) (by kernel_rfl) (by kernel_rfl) (fun _ _ _ h => h) (Or.inl ⟨by rfl, ?_⟩) (by assumption) ?_
        rotate_left
        · intro w hSw
          clear hSw
          go_simp
          all_goals with_reducible rfl
        simp only [Act.put, List.setIfInBounds_toArray, List.set_cons_zero, List.set_cons_succ]
        refine wpAnyH_take (i := 5) (oi := { dst := some 62, op := Op.pick (Operand.tmp 58) (Operand.tmp 61) (Operand.const (Value.bool false)), type := 4, pos := "law.go:266", after := #[{ on := 1, ground := Ground.data }, { on := 4, ground := Ground.data }], guard := none }) (v := ?_) rfl (by kernel_rfl) (by kernel_rfl) (by kernel_rfl) (fun _ _ _ h => h) (Or.inl ⟨by rfl, ?_⟩) (by assumption) ?_
        rotate_left
        · intro w hSw
          clear hSw
          go_simp
          all_goals with_reducible rfl
        simp only [Act.put, List.setIfInBounds_toArray, List.set_cons_zero, List.set_cons_succ]
        refine wpAnyH_take (i := 6) (oi := { dst := some 63, op := Op.move (Operand.tmp 62), type := 4, pos := "law.go:266", after := #[{ on := 5, ground := Ground.data }, { on := 1, ground := Ground.chain }], guard := none }) (v := ?_) rfl (by kernel_rfl) (by kernel_rfl) (by kernel_rfl) (fun _ _ _ h => h) (Or.inl ⟨by rfl, ?_⟩) (by assumption) ?_
        rotate_left
        · intro w hSw
          clear hSw
          go_simp
          all_goals with_reducible rfl
        simp only [Act.put, List.setIfInBounds_toArray, List.set_cons_zero, List.set_cons_succ]
        refine wpAnyH_take (i := 7) (oi := { dst := some 64, op := Op.move (Operand.tmp 12), type := 31, pos := "law.go:266", after := #[{ on := 6, ground := Ground.guard }], guard := some (6, true) }) (v := ?_) rfl (by kernel_rfl) (by kernel_rfl) (by kernel_rfl) (fun _ _ _ h => h) (Or.inl ⟨by rfl, ?_⟩) (by assumption) ?_
        rotate_left
        · intro w hSw
          clear hSw
          go_simp
          all_goals with_reducible rfl
        simp only [Act.put, List.setIfInBounds_toArray, List.set_cons_zero, List.set_cons_succ]
        refine wpAnyH_take (i := 8) (oi := { dst := some 65, op := Op.indexAddr 31 (Operand.tmp 64) (Operand.const (Value.int IntKind.i64 0)), type := 0, pos := "law.go:266", after := #[{ on := 7, ground := Ground.data }, { on := 6, ground := Ground.guard }], guard := some (6, true) }) (v := ?_) rfl (by kernel_rfl) (by kernel_rfl) (by kernel_rfl) (fun _ _ _ h => h) (Or.inl ⟨by rfl, ?_⟩) (by assumption) ?_
        rotate_left
        · intro w hSw
          clear hSw
          go_simp
          all_goals with_reducible rfl
        simp only [Act.put, List.setIfInBounds_toArray, List.set_cons_zero, List.set_cons_succ]
        refine wpAnyH_take (i := 9) (oi := { dst := some 66, op := Op.load 29 (Operand.tmp 65), type := 29, pos := "law.go:266", after := #[{ on := 8, ground := Ground.data }, { on := 6, ground := Ground.guard }], guard := some (6, true) }) (v := ?_) rfl (by kernel_rfl) (by kernel_rfl) (by kernel_rfl) (fun _ _ _ h => h) (Or.inl ⟨by rfl, ?_⟩) (by assumption) ?_
        rotate_left
        · intro w hSw
          have c1 := hSw.1
          clear hSw
          go_simp
          all_goals with_reducible rfl
        simp only [Act.put, List.setIfInBounds_toArray, List.set_cons_zero, List.set_cons_succ]
        refine wpAnyH_take (i := 10) (oi := { dst := some 67, op := Op.convert 29 9 (Operand.tmp 66), type := 9, pos := "law.go:266", after := #[{ on := 9, ground := Ground.data }, { on := 6, ground := Ground.guard }], guard := some (6, true) }) (v := .string ⟨(Y).toArray⟩) rfl (by kernel_rfl) (by kernel_rfl) (by kernel_rfl) (fun _ _ _ h => h) (yieldsIf_conv (by kernel_rfl) (.tmp 66) rfl (.slice (some ⟨gj, 0, none⟩) Y.length cj) rfl (Y) (fun W hW => hW.2.1.sliceAt YL.out)) (by assumption) ?_
        simp only [Act.put, List.setIfInBounds_toArray, List.set_cons_zero, List.set_cons_succ]
        refine wpAnyH_take (i := 11) (oi := { dst := some 68, op := Op.move (Operand.tmp 0), type := 29, pos := "law.go:266", after := #[{ on := 6, ground := Ground.guard }], guard := some (6, true) }) (v := ?_) rfl (by kernel_rfl) (by kernel_rfl) (by kernel_rfl) (fun _ _ _ h => h) (Or.inl ⟨by rfl, ?_⟩) (by assumption) ?_
        rotate_left
        · intro w hSw
          clear hSw
          go_simp
          all_goals with_reducible rfl
        simp only [Act.put, List.setIfInBounds_toArray, List.set_cons_zero, List.set_cons_succ]
        refine wpAnyH_take (i := 12) (oi := { dst := some 69, op := Op.convert 29 9 (Operand.tmp 68), type := 9, pos := "law.go:266", after := #[{ on := 11, ground := Ground.data }, { on := 6, ground := Ground.guard }], guard := some (6, true) }) (v := .string ⟨(xs).toArray⟩) rfl (by kernel_rfl) (by kernel_rfl) (by kernel_rfl) (fun _ _ _ h => h) (yieldsIf_conv (by kernel_rfl) (.tmp 68) rfl (.slice a1 l1 c1) rfl (xs) (fun W hW => hW.2.2)) (by assumption) ?_
        simp only [Act.put, List.setIfInBounds_toArray, List.set_cons_zero, List.set_cons_succ]
        refine wpAnyH_take (i := 13) (oi := { dst := some 70, op := Op.binOp BinOp.add 9 (Operand.const (Value.string { data := #[1] })) (Operand.tmp 69) 9, type := 9, pos := "law.go:266", after := #[{ on := 12, ground := Ground.data }, { on := 6, ground := Ground.guard }], guard := some (6, true) }) (v := ?_) rfl (by kernel_rfl) (by kernel_rfl) (by kernel_rfl) (fun _ _ _ h => h) (Or.inl ⟨by rfl, ?_⟩) (by assumption) ?_
        rotate_left
        · intro w hSw
          have hs : ¬ (9223372036854775807 < 1 + xs.length) := LXS.out
          have hc := cat_one xs
          clear hSw
          go_simp
          all_goals with_reducible rfl
        simp only [Act.put, List.setIfInBounds_toArray, List.set_cons_zero, List.set_cons_succ]
        refine wpAnyH_take (i := 14) (oi := { dst := some 71, op := Op.binOp BinOp.eql 9 (Operand.tmp 67) (Operand.tmp 70) 9, type := 4, pos := "law.go:266", after := #[{ on := 10, ground := Ground.data }, { on := 13, ground := Ground.data }, { on := 6, ground := Ground.guard }], guard := some (6, true) }) (v := ?_) rfl (by kernel_rfl) (by kernel_rfl) (by kernel_rfl) (fun _ _ _ h => h) (Or.inl ⟨by rfl, ?_⟩) (by assumption) ?_
        rotate_left
        · intro w hSw
          have es := str_one xs Y HY.out
          clear hSw
          go_simp
          all_goals with_reducible rfl
        simp only [Act.put, List.setIfInBounds_toArray, List.set_cons_zero, List.set_cons_succ]
        refine wpAnyH_take (i := 15) (oi := { dst := some 72, op := Op.pick (Operand.tmp 63) (Operand.tmp 71) (Operand.const (Value.bool false)), type := 4, pos := "law.go:266", after := #[{ on := 6, ground := Ground.data }, { on := 14, ground := Ground.data }], guard := none }) (v := ?_) rfl (by kernel_rfl) (by kernel_rfl) (by kernel_rfl) (fun _ _ _ h => h) (Or.inl ⟨by rfl, ?_⟩) (by assumption) ?_
        rotate_left
        · intro w hSw
          clear hSw
          go_simp
          all_goals with_reducible rfl
        simp only [Act.put, List.setIfInBounds_toArray, List.set_cons_zero, List.set_cons_succ]
        refine wpAnyH_take (i := 16) (oi := { dst := some 73, op := Op.move (Operand.tmp 72), type := 4, pos := "law.go:266", after := #[{ on := 15, ground := Ground.data }, { on := 6, ground := Ground.chain }], guard := none }) (v := ?_) rfl (by kernel_rfl) (by kernel_rfl) (by kernel_rfl) (fun _ _ _ h => h) (Or.inl ⟨by rfl, ?_⟩) (by assumption) ?_
        rotate_left
        · intro w hSw
          clear hSw
          go_simp
          all_goals with_reducible rfl
        simp only [Act.put, List.setIfInBounds_toArray, List.set_cons_zero, List.set_cons_succ]
        refine wpAnyH_ready (rs := [17]) (by kernel_rfl) (by simp) ?_
        refine AllReadyH.cons (o := { dst := some 74, op := Op.call { callee := Callee.value (Operand.func 19), args := #[], argTypes := #[] }, type := 4, pos := "law.go:266", after := #[{ on := 16, ground := Ground.chain }, { on := 16, ground := Ground.guard }], guard := some (16, true) }) rfl (fun K hK => ?_) AllReadyH.nil
        go_simp
        refine (known_any Z2 LO2'.out.2).mono ?_
        rintro e Z3 ⟨rfl, b3⟩
        have a3 : Z3.cell? ⟨gl, off, none⟩ = some (.slice (some ⟨gj, 0, none⟩) Y.length cj) ∧ Room Z3 gj cj Y ∧ SliceAt Z3 (.slice a1 l1 c1) xs := ⟨below_cell b3 hHeld.1, hHeld.2.1.below b3 hHeld.2.1.lt, hHeld.2.2.below b3 (Nat.le_refl _)⟩
        have BF : Hid (Below w.heap.size w Z3) := LO2'.out.1.trans (b3.mono LO2'.out.1.size)
        clear hHeld b3 LO2'
        refine hK.out _ _ a3 (fun hHeld => ?_)
        clear hK K
        try simp only [Act.put, List.setIfInBounds_toArray, List.set_cons_zero, List.set_cons_succ]
        refine wpAnyH_take (i := 18) (oi := { dst := some 75, op := Op.pick (Operand.tmp 73) (Operand.tmp 74) (Operand.const (Value.bool false)), type := 4, pos := "law.go:266", after := #[{ on := 16, ground := Ground.data }, { on := 17, ground := Ground.data }], guard := none }) (v := ?_) rfl (by kernel_rfl) (by kernel_rfl) (by kernel_rfl) (fun _ _ _ h => h) (Or.inl ⟨by rfl, ?_⟩) (by assumption) ?_
        rotate_left
        · intro w hSw
          clear hSw
          go_simp
          all_goals with_reducible rfl
        simp only [Act.put, List.setIfInBounds_toArray, List.set_cons_zero, List.set_cons_succ]
        refine wpAnyH_take (i := 19) (oi := { dst := some 2, op := Op.assign (Operand.tmp 75), type := 4, pos := "law.go:266", after := #[{ on := 18, ground := Ground.data }, { on := 17, ground := Ground.chain }, { on := 0, ground := Ground.phase }, { on := 1, ground := Ground.phase }, { on := 2, ground := Ground.phase }, { on := 3, ground := Ground.phase }, { on := 4, ground := Ground.phase }, { on := 5, ground := Ground.phase }, { on := 6, ground := Ground.phase }, { on := 7, ground := Ground.phase }, { on := 8, ground := Ground.phase }, { on := 9, ground := Ground.phase }, { on := 10, ground := Ground.phase }, { on := 11, ground := Ground.phase }, { on := 12, ground := Ground.phase }, { on := 13, ground := Ground.phase }, { on := 14, ground := Ground.phase }, { on := 15, ground := Ground.phase }, { on := 16, ground := Ground.phase }, { on := 17, ground := Ground.phase }, { on := 18, ground := Ground.phase }], guard := none }) (v := ?_) rfl (by kernel_rfl) (by kernel_rfl) (by kernel_rfl) (fun _ _ _ h => h) (Or.inl ⟨by rfl, ?_⟩) (by assumption) ?_
        rotate_left
        · intro w hSw
          clear hSw
          go_simp
          all_goals with_reducible rfl
        simp only [Act.put, List.setIfInBounds_toArray, List.set_cons_zero, List.set_cons_succ]
        refine wpAnyH_done (by kernel_rfl) ?_ _
        refine NoPanic.normal ?_
        clear hHeld
        go_wp2_with fail
        go_ret
        exact ⟨rfl, BF.out⟩
end Go.Proofs.YtfjkddjdmlnbnaaDoor
