/- The walk of CodecKept: for every readable text the call returns true and nothing that was there changes. -/
import Derived.Test.YtdhaeepaemneaaaDoorApart
import Derived.Test.YtdhaeepaemneaaaDoorSay
namespace Go.Proofs.YtdhaeepaemneaaaDoor
open Go.RowKit
theorem BookIs.below {w W : World} {gB base top : Nat} {vl vw : Value} {es : List Entry} (h : BookIs w gB base top vl vw es) (hb : Below w.heap.size w W) : BookIs W gB base top vl vw es := by
  have ht := h.top_le
  have hf : Fr gB vl vw w W := ⟨hb.os, hb.tape, hb.output, hb.size, fun k hk _ _ _ => hb.block k hk⟩
  exact ⟨(hb.block gB (Nat.lt_of_lt_of_le h.hi ht)).trans h.row, h.lo, h.hi, Nat.le_trans ht hb.size, h.lists.kept fun k hk => hb.block k (h.lists.lt hk), h.was.kept fun k hk => hb.block k (h.was.lt hk), h.vlSep, h.vwSep,
    fun e he => (h.ents e he).kept hf ht (Nat.le_refl _) (fun k hk => Or.inl hk) (fun k hk => Or.inl hk), h.nodup, h.few, h.room⟩
theorem BookIs.no {w : World} {gB base top g : Nat} {vl vw : Value} {es : List Entry} (h : BookIs w gB base top vl vw es) (hg : top ≤ g) : BookNo (fun k => k = g) vl vw es :=
  ⟨fun k hk e => by have := (h.vlSep k hk).2.1; omega, fun k hk e => by have := (h.vwSep k hk).2.1; omega, fun x hx => by
    obtain ⟨_, _, h3, _, _, _, _, h8, _⟩ := h.ents x hx
    exact ⟨fun e => by omega, fun k hk e => by have := (h8 k hk).1; omega⟩⟩
theorem book_none (vl vw : Value) (es : List Entry) : BookNo (fun _ => False) vl vw es := ⟨fun _ _ e => e, fun _ _ e => e, fun _ _ => ⟨fun e => e, fun _ _ e => e⟩⟩
/-- A book over a change of one block that is none of its own. -/
theorem BookIs.over {w W : World} {gB base top g : Nat} {vl vw : Value} {es : List Entry} (h : BookIs w gB base top vl vw es) (hc : Chg (fun k => k = g) w W) (hn : BookNo (fun k => k = g) vl vw es) (hg : gB ≠ g) : BookIs W gB base top vl vw es := by
  have ht := h.top_le
  have hi := h.hi
  have hl : ∀ k, vl.ownBlock = some k → W.heap[k]? = w.heap[k]? := fun k hk => hc.block k (by have := (h.vlSep k hk).2.1; omega) (hn.vl k hk)
  have hw : ∀ k, vw.ownBlock = some k → W.heap[k]? = w.heap[k]? := fun k hk => hc.block k (by have := (h.vwSep k hk).2.1; omega) (hn.vw k hk)
  refine ⟨hc.row h.row hg, h.lo, h.hi, Nat.le_trans ht hc.size, h.lists.kept hl, h.was.kept hw, h.vlSep, h.vwSep, fun e he => ?_, h.nodup, h.few, h.room⟩
  obtain ⟨h1, h2, h3, h4, h5, h6, h7, h8, h9⟩ := h.ents e he
  refine ⟨?_, h2, h3, h4, h5, h6, h7.kept fun k hk => hc.block k (by have := (h8 k hk).1; omega) ((hn.ents e he).2 k hk), h8, h9⟩
  obtain ⟨cur, q1, q2⟩ := h1
  exact ⟨cur, hc.row q1 (hn.ents e he).1, q2⟩
theorem room_row {w : World} {g : Nat} {bs : List UInt8} (h : w.heap[g]? = some (.cells (S.v8 bs) 5 (0, 0))) : Room w g bs.length bs :=
  ⟨_, h, S.v8_size bs, Nat.le_refl _, by rw [S.v8_eq, List.take_of_length_le (by rw [S.v8l_length]; exact Nat.le_refl _)]⟩
theorem S.Rd.bytes_len (r : S.Rd) (most : Int) : (r.bytes most).2.length ≤ 65536 := by
  have h1 := S.Rd.take_len (if most < ((r.number 2).2 : Int) then (r.number 2).1.refuse (r.pl : Int) 3 else (r.number 2).1) (r.number 2).2
  have h2 := S.number2_lt r
  exact Nat.le_trans h1 (by omega)
theorem RdIs.kept {w W : World} {g t base top : Nat} {r : S.Rd} (h : RdIs w g t r) (hk : KeptFrom base top w W) (hg : top ≤ g) (ht : top ≤ t) : RdIs W g t r :=
  ⟨(hk.2 g hg h.lt).trans h.row, (hk.2 t ht h.tlt).trans h.text, h.sep, h.pl, h.len⟩
theorem WrIs.low {w W : World} {g B : Nat} {v : Value} {bs : List UInt8} (h : WrIs w g v bs) (hb : Below B w W) (hg : g < B) (hv : ∀ k, v.ownBlock = some k → k < B) : WrIs W g v bs :=
  h.chg (p := fun k => B ≤ k) (Chg.ofBelow hb (fun _ _ h => h)) (by omega) (fun k hk e => by have := hv k hk; omega)
set_option maxHeartbeats 4000000 in
set_option maxRecDepth 100000 in
theorem codecKept_walk (v0 : Value) (bs0 : List UInt8) (w : World) (hv : SliceAt w v0 bs0) (hP : PowAt w) :
   Calls Tryd.prog 7 #[v0] w fun e w' => e = .returned (.bool true) ∧ Below w.heap.size w w' := by
  obtain ⟨a0, l0, c0, rfl, hl0, hm0⟩ := hv.form
  have p0 := hv.le_cap
  have HV := hide hv
  have HP := hide hP
  have HL0 := hide hl0
  clear hv hP hl0
  go_enter Tryd.func7, Tryd.ntmps7
  go_upto_if 8 with fail
  go_cut [0] (fun x wc => w = wc ∧ ∃ (a : Option Addr) (l c : Nat) (bs : List UInt8), x = .slice a l c ∧ l = bs.length ∧ l ≤ 1000 ∧ SliceAt w (.slice a l c) bs)
  case first =>
    by_cases h : 1000 < l0
    · have q1 : (1000 : Int) < (l0 : Int) := by omega
      have q2 : (1000 : Int) ≤ (c0 : Int) := by omega
      have Z := hide (part_to HV.out 1000 (by omega))
      have ZL : Hid (1000 = (bs0.take 1000).length) := by show 1000 = (bs0.take 1000).length; rw [List.length_take, ← HL0.out]; omega
      go_wp2_with fail
      go_meet
      exact ⟨rfl, a0, 1000, c0, bs0.take 1000, rfl, ZL.out, Nat.le_refl _, Z.out⟩
    · have q1 : ¬ ((1000 : Int) < (l0 : Int)) := by omega
      go_wp2_with fail
      go_meet
      exact ⟨rfl, a0, l0, c0, bs0, rfl, HL0.out, by omega, HV.out⟩
  case rest =>
  obtain ⟨rfl, a1, l1, c1, xs, rfl, hxl, hx1000, hvx⟩ := hcut
  have SV := hide hvx
  have LX : Hid (xs.length ≤ 1000) := by show xs.length ≤ 1000; omega
  clear hvx hxl HV HL0 hm0 p0
  clear a0 l0 c0 bs0
  go_wp2_with fail
  refine (newWriter_any w).mono ?_
  rintro e w1 ⟨rfl, hw1, hb1⟩
  have W1 := hide hw1
  have B1 := hide hb1
  clear hw1 hb1
  go_wp2_with fail
  refine (wbytes_is w.heap.size _ _ w1 rfl W1.out (stays_old SV.out B1.out (fun k hk h => by rcases h with h | h; omega; cases h)) (by decide)).mono ?_
  rintro e w2 ⟨rfl, v2, hw2, ht2⟩
  have hx := ht2.base B1.out.size (Nat.le_refl _) (nil_base _)
  have B2 := hide (B1.out.trans hx.1)
  have O2 := hide hx.2
  obtain ⟨X1, hX1⟩ : ∃ X1, X1 = [] ++ S.text xs := ⟨_, rfl⟩
  have hX1l : X1.length ≤ 1002 := by rw [hX1, List.nil_append, S.text_length]; have := Nat.mod_le xs.length 65536; have := LX.out; omega
  rw [← hX1] at hw2
  have W2 := hide hw2
  clear hw2 ht2 W1 B1 hx hX1
  go_wp2_with fail
  refine (wbytes_is w.heap.size v2 _ w2 rfl W2.out (stays_old SV.out B2.out (fun k hk h => by rcases h with h | h; omega; have := O2.out k h; omega)) (by omega)).mono ?_
  rintro e w3 ⟨rfl, v3, hw3, ht3⟩
  have hx := ht3.base B2.out.size (Nat.le_refl _) O2.out
  have B3 := hide (B2.out.trans hx.1)
  obtain ⟨X, hX⟩ : ∃ X, X = X1 ++ S.text xs := ⟨_, rfl⟩
  have hXl : X.length ≤ 3000 := by rw [hX, List.length_append, S.text_length]; have := Nat.mod_le xs.length 65536; have := LX.out; omega
  rw [← hX] at hw3
  have W3 := hide hw3
  have gl3 := hw3.lt
  clear hw3 ht3 W2 B2 hx hX O2 hX1l
  clear X1
  go_wp2_with fail
  generalize hW4 : w3.alloc _ = w4
  have r0 : w4.heap[w3.heap.size]? = some (.cells #[.slice none 0 0, .slice none 0 0, .int .i64 0, .bool false] 65 (0, 0)) := by rw [← hW4]; exact heap_alloc_new _ _
  have hb4 : Below w3.heap.size w3 w4 := by rw [← hW4]; exact (Below.refl _ _).alloc (Nat.le_refl _) _
  have BK4 : Hid (BookIs w4 w3.heap.size w3.heap.size (w3.heap.size + 1) (.slice none 0 0) (.slice none 0 0) []) := by
    refine ⟨r0, Nat.le_refl _, Nat.lt_succ_self _, ?_, Or.inl ⟨rfl, rfl⟩, Or.inl ⟨rfl, rfl⟩, fun k hk => by simp [Value.ownBlock] at hk, fun k hk => by simp [Value.ownBlock] at hk, fun e he => by simp at he, by simp, by simp, by simp [heldOf]⟩
    have := block_lt_of_row r0
    omega
  have W4 := hide (W3.out.low hb4 W3.out.lt (fun k hk => W3.out.text.lt hk))
  have B4 := hide (B3.out.trans (hb4.mono B3.out.size))
  have OV : Hid (∀ k, v3.ownBlock = some k → k < w3.heap.size) := fun k hk => W3.out.text.lt hk
  have hwB : w.heap.size ≤ w3.heap.size := B3.out.size
  clear hW4 r0 hb4 W3 B3
  obtain ⟨gB, hgB⟩ : ∃ gB, gB = w3.heap.size := ⟨_, rfl⟩
  obtain ⟨gw, hgw⟩ : ∃ gw, gw = w.heap.size := ⟨_, rfl⟩
  rw [← hgB] at BK4 OV hwB gl3 ⊢
  rw [← hgw] at W4 hwB gl3 ⊢
  have HGB : Hid (w.heap.size ≤ gB) := by rw [← hgw]; exact hwB
  clear hgB hgw
  clear w1 w2 w3
  obtain ⟨top4, hT4⟩ : ∃ t, t = gB + 1 := ⟨_, rfl⟩
  rw [← hT4] at BK4
  clear hT4
  go_wp2_with fail
  refine (done_any gw v3 X w4 W4.out (by omega)).mono ?_
  rintro e w5 ⟨rfl, hr, hb⟩
  have BK5 := hide (BK4.out.below hb)
  have W5 := hide (W4.out.chg (p := fun _ => False) (Chg.ofBelow' hb) (fun e => e) (fun _ _ e => e))
  have B5 := hide (B4.out.trans (hb.mono B4.out.size))
  have RM := hide (room_row hr)
  have tg : top4 ≤ w4.heap.size := BK4.out.top_le
  have gg : gB ≤ w4.heap.size := Nat.le_trans (Nat.le_of_lt BK4.out.hi) tg
  clear hr hb BK4 W4 B4
  go_wp2_with fail
  refine (keep_any (fun _ => False) gB gB top4 w4.heap.size X.length _ _ X [] w5 BK5.out RM.out tg gg (by omega) (by simp) (by simp [heldOf]; omega) (book_none _ _ _) (fun _ _ e => e) (fun e => e)).mono ?_
  rintro e w6 ⟨rfl, ⟨vl6, vw6, es6, hbk, hle6, hhd6, _⟩, hkp⟩
  have BK6 := hide hbk
  have W6 := hide (W5.out.low hkp.1 gl3 OV.out)
  have B6 := hide (B5.out.trans (hkp.1.mono HGB.out))
  have hl6 : es6.length ≤ 1 := by simpa using hle6
  have hh6 : heldOf es6 ≤ 3001 := by simp [heldOf] at hhd6; simp only [heldOf]; omega
  clear hbk hkp BK5 W5 B5 RM tg gg hle6 hhd6
  go_wp2_with fail
  refine (done_any gw v3 X w6 W6.out (by omega)).mono ?_
  rintro e w7 ⟨rfl, hr, hb⟩
  have BK7 := hide (BK6.out.below hb)
  have W7 := hide (W6.out.chg (p := fun _ => False) (Chg.ofBelow' hb) (fun e => e) (fun _ _ e => e))
  have B7 := hide (B6.out.trans (hb.mono B6.out.size))
  have RM := hide (room_row hr)
  have tg : w6.heap.size ≤ w6.heap.size := BK6.out.top_le
  have gg : gB ≤ w6.heap.size := Nat.le_trans (Nat.le_of_lt BK6.out.hi) tg
  clear hr hb BK6 W6 B6
  go_wp2_with fail
  refine (keep_any (fun _ => False) gB gB w6.heap.size w6.heap.size X.length _ _ X es6 w7 BK7.out RM.out tg gg (by omega) (by omega) (by omega) (book_none _ _ _) (fun _ _ e => e) (fun e => e)).mono ?_
  rintro e w8 ⟨rfl, ⟨vl8, vw8, es8, hbk, hle8, hhd8, _⟩, hkp⟩
  have BK8 := hide hbk
  have W8 := hide (W7.out.low hkp.1 gl3 OV.out)
  have B8 := hide (B7.out.trans (hkp.1.mono HGB.out))
  have hl8 : es8.length ≤ 2 := by omega
  have hh8 : heldOf es8 ≤ 6002 := by omega
  clear hbk hkp BK7 W7 B7 RM tg gg hle8 hhd8
  go_wp2_with fail
  refine (done_any gw v3 X w8 W8.out (by omega)).mono ?_
  rintro e w9 ⟨rfl, hr, hb⟩
  have BK9 := hide (BK8.out.below hb)
  have B9 := hide (B8.out.trans (hb.mono B8.out.size))
  have SL := hide ((stays_row (p := fun _ => False) hr (fun e => e) (by omega)).now)
  have m9 := hb.size
  clear hr hb BK8 W8 B8
  go_wp2_with fail
  refine (newReader_any _ X w9 SL.out (by omega)).mono ?_
  rintro e w10 ⟨g, t, rfl, hg, ht, hr, hb⟩
  have BK10 := hide (BK9.out.below hb)
  have R10 := hide hr
  have B10 := hide (B9.out.trans (hb.mono B9.out.size))
  have m10 := hb.size
  clear hr hb BK9 SL B9
  obtain ⟨r0, hr0⟩ : ∃ r0 : S.Rd, r0 = ⟨X, 0, 0, 0⟩ := ⟨_, rfl⟩
  rw [← hr0] at R10
  clear hr0
  go_wp2_with fail
  refine (rbytes_any g t r0 1000 w10 R10.out).mono ?_
  rintro e w11 ⟨q, rfl, hq, hrow, hr, hc⟩
  obtain ⟨Y1, hY1⟩ : ∃ Y, Y = (r0.bytes 1000).2 := ⟨_, rfl⟩
  obtain ⟨r1, hr1⟩ : ∃ r, r = (r0.bytes 1000).1 := ⟨_, rfl⟩
  have y1 : Y1.length ≤ 65536 := by rw [hY1]; exact r0.bytes_len 1000
  rw [← hY1] at hrow ⊢
  rw [← hr1] at hr
  have NO := hide (BK10.out.no (g := g) (by omega))
  have BK11 := hide (BK10.out.over hc NO.out (by have := BK10.out.hi; omega))
  have R11 := hide hr
  have B11 := hide (B10.out.trans (hc.base B10.out.size (by have := B10.out.size; have := BK10.out.hi; have := HGB.out; omega)))
  have RM := hide (room_row hrow)
  have gq : g < q := by have := R10.out.lt; omega
  have gg : gB ≤ q := by have := BK10.out.hi; have := BK10.out.top_le; omega
  clear hrow hr hc hY1 hr1 BK10 R10 B10
  clear r0
  go_wp2_with fail
  refine (keep_any (fun k => k = g) gB gB w8.heap.size q Y1.length _ _ Y1 es8 w11 BK11.out RM.out (by omega) gg (by omega) (by omega) (by omega) NO.out (fun k hk e => by have := R11.out.lt; omega) (fun e => by omega)).mono ?_
  rintro e w12 ⟨rfl, ⟨vl12, vw12, es12, hbk, hle12, hhd12, hno⟩, hkp⟩
  have BK12 := hide hbk
  have NO12 := hide hno
  have R12 := hide (R11.out.kept hkp (by omega) (by omega))
  have B12 := hide (B11.out.trans (hkp.1.mono HGB.out))
  have gl12 := R12.out.lt
  have hl12 : es12.length ≤ 3 := by omega
  have hh12 : heldOf es12 ≤ 100000 := by omega
  have hgB12 : gB < g := by have := BK11.out.hi; omega
  clear hbk hkp hno BK11 R11 B11 RM gg hle12 hhd12 y1 NO
  go_wp2_with fail
  refine (rbytes_any g t r1 1000 w12 R12.out).mono ?_
  rintro e w13 ⟨q2, rfl, hq2, hrow, hr, hc⟩
  obtain ⟨Y2, hY2⟩ : ∃ Y, Y = (r1.bytes 1000).2 := ⟨_, rfl⟩
  have y2 : Y2.length ≤ 65536 := by rw [hY2]; exact r1.bytes_len 1000
  rw [← hY2] at hrow ⊢
  have BK13 := hide (BK12.out.over hc NO12.out (by omega))
  have B13 := hide (B12.out.trans (hc.base B12.out.size (by have := HGB.out; omega)))
  have RM := hide (room_row hrow)
  have gg : gB ≤ q2 := by omega
  clear hrow hr hc hY2 BK12 R12 B12 NO12
  go_wp2_with fail
  refine (keep_any (fun _ => False) gB gB w12.heap.size q2 Y2.length _ _ Y2 es12 w13 BK13.out RM.out hq2 gg (by omega) (by omega) (by omega) (book_none _ _ _) (fun _ _ e => e) (fun e => e)).mono ?_
  rintro e w14 ⟨rfl, ⟨vl14, vw14, es14, hbk, _, _, _⟩, hkp⟩
  have BK14 := hide hbk
  have B14 := hide (B13.out.trans (hkp.1.mono HGB.out))
  clear hbk hkp BK13 B13 RM gg y2
  go_wp2_with fail
  refine (apart_any gB gB _ vl14 vw14 es14 w14 BK14.out).mono ?_
  rintro e w15 ⟨rfl, hb⟩
  have B15 := hide (B14.out.trans (hb.mono HGB.out))
  clear hb BK14 B14
  go_wp2_with fail
  refine (known_any w15 (HP.out.below B15.out)).mono ?_
  rintro e w16 ⟨rfl, hb⟩
  have Z := B15.out.trans (hb.mono B15.out.size)
  clear hb
  go_wp2_with fail
  go_ret
  exact ⟨rfl, Z⟩
end Go.Proofs.YtdhaeepaemneaaaDoor
