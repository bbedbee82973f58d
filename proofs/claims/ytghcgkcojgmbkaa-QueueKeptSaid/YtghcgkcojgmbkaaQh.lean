/- QueueKept's walk. -/
import Derived.Test.YtghcgkcojgmbkaaQf
namespace Go.Proofs.Ytghcgkcojgmbkaa
open Go.RowKit
/-- A book stays where nothing from its base on changes. -/
theorem BookIs.above {w W : World} {gB base top : Nat} {vl vw : Value} {es : List Entry} (h : BookIs w gB base top vl vw es) (hs : w.heap.size ≤ W.heap.size) (hb : ∀ k, base ≤ k → k < w.heap.size → W.heap[k]? = w.heap[k]?) : BookIs W gB base top vl vw es := by
  have ht := h.top_le
  exact ⟨(hb gB h.lo (Nat.lt_of_lt_of_le h.hi ht)).trans h.row, h.lo, h.hi, Nat.le_trans ht hs, h.lists.kept fun k hk => hb k (h.vlSep k hk).1 (h.lists.lt hk), h.was.kept fun k hk => hb k (h.vwSep k hk).1 (h.was.lt hk), h.vlSep, h.vwSep,
    fun e he => by
      have q := h.ents e he
      exact ⟨q.ed.same fun b c => hb b (q.at_ b c).1 (by have := (q.at_ b c).2.1; omega), q.at_, q.cp.kept fun k hk => hb k (q.cpLo k hk) (q.cp.lt hk), q.cpAt, q.cpLo, q.capl, q.bsl⟩, h.nodup, h.few⟩
theorem BookIs.below {w W : World} {gB base top : Nat} {vl vw : Value} {es : List Entry} (h : BookIs w gB base top vl vw es) (hb : Below w.heap.size w W) : BookIs W gB base top vl vw es := h.above hb.size fun k _ hk => hb.block k hk
theorem book_empty {w : World} {gB : Nat} (h : w.heap[gB]? = some (.cells #[.slice none 0 0, .slice none 0 0, .int .i64 0, .bool false] 41 (0, 0))) : BookIs w gB gB (gB + 1) (.slice none 0 0) (.slice none 0 0) [] :=
  ⟨h, Nat.le_refl _, Nat.lt_succ_self _, block_lt_of_row h, Or.inl ⟨rfl, rfl⟩, Or.inl ⟨rfl, rfl⟩, fun k hk => by simp [Value.ownBlock] at hk, fun k hk => by simp [Value.ownBlock] at hk, fun e he => by simp at he, by simp, by simp⟩
theorem book_none (vl vw : Value) (es : List Entry) : BookNo (fun _ => False) vl vw es := ⟨fun _ _ e => e, fun _ _ e => e, fun _ _ => ⟨fun _ _ e => e, fun _ _ e => e⟩⟩
/-- A row of one's own, or nil, is kept. -/
theorem keep_rw (gB base top B : Nat) (vl vw u : Value) (xs : List Int) (es : List Entry) (w : World) (hbk : BookIs w gB base top vl vw es) (hu : Rw 3 1 encI B w u xs) (hB : top ≤ B) (hfew : es.length < 100) (hx : xs.length ≤ 100000) :
   Calls Try.prog 15 #[.pointer (some ⟨gB, 0, none⟩), u] w fun e w' => e = .returned (.tuple #[]) ∧ (∃ vl' vw' es', BookIs w' gB base w'.heap.size vl' vw' es' ∧ es'.length ≤ es.length + 1) ∧ Below base w w' := by
  unfold Rw at hu
  rw [encI_flat] at hu
  rcases hu.2 with ⟨rfl, h0⟩ | ⟨g, cap, cur, rfl, hg, h1, h2, h3, h4, h5⟩
  · refine (keep_none (fun _ => False) gB base top vl vw es w hbk hfew (book_none _ _ _) (fun _ _ e => e)).mono ?_
    rintro e w' ⟨rfl, ⟨vl', vw', es', hb, hl, _⟩, hk⟩
    exact ⟨rfl, ⟨vl', vw', es', hb, hl⟩, hk.1⟩
  · refine (keep_any (fun _ => False) gB base top g cap vl vw xs es w hbk ⟨cur, h1, by omega, h2, by rw [← h5, Nat.mul_one]⟩ (by omega) (by have := hbk.lo; have := hbk.hi; omega) (by simp [maxLen] at h3; omega) hx hfew (book_none _ _ _) (fun _ _ e => e) (fun e => e)).mono ?_
    rintro e w' ⟨rfl, ⟨vl', vw', es', hb, hl, _⟩, hk⟩
    exact ⟨rfl, ⟨vl', vw', es', hb, hl⟩, hk.1⟩
theorem alloc41 (w : World) : (Instr.alloc 41 true (.tuple #[])).run Try.prog w = .ok (.pointer (some ⟨w.heap.size, 0, none⟩)) (w.alloc (.cells #[.slice none 0 0, .slice none 0 0, .int .i64 0, .bool false] 41)) := by
  go_simp
/-- A queue, and a book that lies behind it, all below T. -/
structure Qbk (w : World) (g gB n T : Nat) (W : World) (v : Value) (xs : List Int) : Prop where
  q : QI W g v xs
  bk : ∃ top vl vw es, BookIs W gB gB top vl vw es ∧ top ≤ T ∧ es.length ≤ n
  b : Below g w W
  gl : g < gB
  vl : ∀ j, v.ownBlock = some j → j < gB
  size : gB < W.heap.size
theorem Qbk.below {w W Z : World} {g gB n T : Nat} {v : Value} {xs : List Int} (h : Qbk w g gB n T W v xs) (hb : Below W.heap.size W Z) : Qbk w g gB n T Z v xs := by
  obtain ⟨top, vl, vw, es, h1, h2, h3⟩ := h.bk
  exact ⟨h.q.below hb, ⟨top, vl, vw, es, h1.below hb, h2, h3⟩, h.b.trans (hb.mono (by have := h.q.g_lt; omega)), h.gl, h.vl, Nat.lt_of_lt_of_le h.size hb.size⟩
theorem Qbk.take {w W Z : World} {g gB n T : Nat} {v v' : Value} {xs ys : List Int} (h : Qbk w g gB n T W v xs) (hq : QI Z g v' ys) (ht : QTo W g v Z v') (ho : v'.ownBlock = v.ownBlock) : Qbk w g gB n T Z v' ys := by
  obtain ⟨top, vl, vw, es, h1, h2, h3⟩ := h.bk
  refine ⟨hq, ⟨top, vl, vw, es, h1.above ht.chg.size fun k hk hks => ht.chg.block k hks (fun c => ?_), h2, h3⟩, h.b.trans (QI.run h.q ht), h.gl, fun j hj => h.vl j (by rw [← ho]; exact hj), Nat.lt_of_lt_of_le h.size ht.chg.size⟩
  rcases c with c | c
  · have := h.gl; omega
  · have := h.vl k c; omega
/-- A list that is new is kept. -/
theorem Qbk.keep {w W : World} {g gB n T B : Nat} {v u : Value} {xs ys : List Int} (h : Qbk w g gB n T W v xs) (hu : Rw 3 1 encI B W u ys) (hB : T ≤ B) (hn : n < 100) (hy : ys.length ≤ 100000) :
   Calls Try.prog 15 #[.pointer (some ⟨gB, 0, none⟩), u] W fun e Z => e = .returned (.tuple #[]) ∧ Qbk w g gB (n + 1) Z.heap.size Z v xs := by
  obtain ⟨top, vl, vw, es, h1, h2, h3⟩ := h.bk
  refine (keep_rw gB gB top B vl vw u ys es W h1 hu (by omega) (by omega) hy).mono ?_
  rintro e Z ⟨rfl, ⟨vl', vw', es', hb, hl⟩, hk⟩
  have hs := h.size
  refine ⟨rfl, ?_, ⟨_, vl', vw', es', hb, Nat.le_refl _, by omega⟩, h.b.trans (hk.mono (Nat.le_of_lt h.gl)), h.gl, h.vl, Nat.lt_of_lt_of_le hs hk.size⟩
  exact h.q.chg (p := fun j => gB ≤ j) ⟨hk.os, hk.tape, hk.output, hk.size, fun j _ hj => hk.block j (by omega)⟩ (by have := h.gl; omega) (fun j hj => by have := h.vl j hj; omega)
set_option maxHeartbeats 6400000 in
set_option maxRecDepth 100000 in
theorem queueKept_walk (a0 : Option Addr) (len cap : Nat) (zs : List Int) (w : World) (hz : 0 < len → ∃ b off, a0 = some ⟨b, off, none⟩ ∧ b < w.heap.size ∧ ∀ j, j < len → w.cell? ⟨b, off + j, none⟩ = some (.int .i64 (zs.getD j 0))) :
   Calls Try.prog 5 #[.slice a0 len cap] w fun e w' => e = .returned (.bool true) ∧ Below w.heap.size w w' := by
  have HZ := hide hz
  clear hz
  obtain ⟨g, hg⟩ : ∃ g, g = w.heap.size := ⟨_, rfl⟩
  have HG := hide hg
  clear hg
  go_enter Try.func5, Try.ntmps5
  go_wp2_with fail
  go_at_call 7
  refine (newI_any w).mono ?_
  rintro e w1 ⟨rfl, hq, hb⟩
  rw [← HG.out] at hq hb ⊢
  have Q1 := hide hq
  have B1 := hide hb
  clear hq hb
  go_wp2_with fail
  go_loopw [4] (fun s4 wr => ∃ (i : Nat) (v : Value) (xs : List Int), i ≤ len ∧ s4 = .int .i64 (i : Int) ∧ Hid (i ≤ 40) ∧ Hid (QI wr g v xs) ∧ Hid (Below g w wr)) (fun s4 _ => 40 - (intOf s4).toNat)
  case atStart => exact ⟨0, _, _, by omega, rfl, by show (0 : Nat) ≤ 40; omega, Q1, B1⟩
  case round =>
    obtain ⟨i, v, xs, hi, rfl, H40, QK, BK⟩ := hrel
    clear Q1 B1
    by_cases hin : i < len ∧ i < 40
    · obtain ⟨h1, h2⟩ := hin
      have HH := hide (And.intro h1 h2)
      obtain ⟨b, off, rfl, hbl, hcs⟩ := HZ.out (by omega)
      obtain ⟨x, hx⟩ : ∃ x, x = zs.getD i 0 := ⟨_, rfl⟩
      have c1 : wr.cell? ⟨b, off + i, none⟩ = some (.int .i64 x) := (BK.out.cell (p := ⟨b, off + i, none⟩) (by show b < g; rw [HG.out]; exact hbl)).trans (by rw [hx]; exact hcs i h1)
      have r1 : (i : Int) < (len : Int) := by omega
      have r2 : (i : Int) < 40 := by omega
      have r3 : (0 : Int) ≤ (i : Int) := by omega
      have s3 : IntKind.i64.wrap ((i : Int) + 1) = (i : Int) + 1 := by rw [IntKind.wrap_i64]; omega
      clear hcs hbl hx h1 h2 hi
      go_wp2_with fail
      go_at_call 8
      refine (pushI_any g wr g v xs x QK.out (Nat.le_of_lt QK.out.g_lt)).mono ?_
      rintro e w3 ⟨v3, rfl, hq, ht⟩
      have Q3 := hide hq
      have B3 := hide (BK.out.trans (QI.run QK.out ht))
      clear hq ht QK BK c1
      go_wp2
      exact ⟨⟨i + 1, _, _, by have := HH.out.1; omega, by simp, by show i + 1 ≤ 40; have := HH.out.2; omega, Q3, B3⟩, by simp [intOf]; have := HH.out.2; omega⟩
    by_cases hl : (i : Int) < (len : Int)
    · have hl2 : ¬ (i : Int) < 40 := by omega
      clear hin
      have F4 := hide QK.out.few
      go_upto_region 9 with (refine wpList_alloc_known rfl 41 rfl _ _ (alloc41 _) ?_)
      obtain ⟨gB, hgB⟩ : ∃ gB, gB = wr.heap.size := ⟨_, rfl⟩
      rw [← hgB]
      generalize hW1 : wr.alloc _ = W1
      have P1 : Hid (Qbk w g gB 0 W1.heap.size W1 v xs) := by
        have hb : Below wr.heap.size wr W1 := by rw [← hW1]; exact (Below.refl _ _).alloc (Nat.le_refl _) _
        have hr : W1.heap[gB]? = some (.cells #[.slice none 0 0, .slice none 0 0, .int .i64 0, .bool false] 41 (0, 0)) := by rw [← hW1, hgB]; exact heap_alloc_new _ _
        have hs := block_lt_of_row hr
        exact ⟨QK.out.below hb, ⟨_, _, _, _, book_empty hr, hs, Nat.le_refl _⟩, BK.out.trans (hb.mono (Nat.le_of_lt QK.out.g_lt)), by rw [hgB]; exact QK.out.g_lt, fun j hj => by rw [hgB]; exact QK.out.v_lt hj, hs⟩
      clear hW1 hgB QK BK
      go_wp2_with fail
      go_at_call 14
      refine (allI_any g W1 g v xs P1.out.q).mono ?_
      rintro e W2 ⟨u2, rfl, hu, hb⟩
      have P2 := hide (P1.out.below hb)
      have U2 := hide hu
      clear hu hb P1
      go_wp2_with fail
      go_at_call 15
      refine (P2.out.keep U2.out (Nat.le_refl _) (by omega) (by have := F4.out; omega)).mono ?_
      rintro e W3 ⟨rfl, hp⟩
      have P3 := hide hp
      clear hp P2 U2
      go_wp2_with fail
      go_at_call 14
      refine (allI_any g W3 g v xs P3.out.q).mono ?_
      rintro e W4 ⟨u4, rfl, hu, hb⟩
      have P4 := hide (P3.out.below hb)
      have U4 := hide hu
      clear hu hb P3
      go_wp2_with fail
      go_at_call 15
      refine (P4.out.keep U4.out (Nat.le_refl _) (by omega) (by have := F4.out; omega)).mono ?_
      rintro e W5 ⟨rfl, hp⟩
      have P5 := hide hp
      clear hp P4 U4
      go_wp2_with fail
      go_at_call 12
      refine (lenI_any g W5 g v xs P5.out.q).mono ?_
      rintro e W6 ⟨rfl, hs⟩
      have P6 := hide (P5.out.below (Still.blw hs _))
      have T6 : Hid (W6.heap.size = W5.heap.size) := by show W6.heap.size = W5.heap.size; rw [hs.1]
      clear hs P5
      go_wp2_with fail
      go_at_call 9
      refine (takeI_any g W6 g v xs _ P6.out.q).mono ?_
      rintro e W7 ⟨u7, v7, rfl, hu, hq, ht, ho⟩
      have P7 := hide (P6.out.take hq ht ho)
      have U7 := hide hu
      have F8 := hide hq.few
      clear hu hq ht ho P6
      go_wp2_with fail
      go_at_call 15
      refine (P7.out.keep U7.out (by rw [T6.out]; exact Nat.le_refl _) (by omega) (by have := F4.out; rw [List.length_take]; omega)).mono ?_
      rintro e W8 ⟨rfl, hp⟩
      have P8 := hide hp
      clear hp P7 U7
      go_wp2_with fail
      go_at_call 14
      refine (allI_any g W8 g v7 _ P8.out.q).mono ?_
      rintro e W9 ⟨u9, rfl, hu, hb⟩
      have P9 := hide (P8.out.below hb)
      have U9 := hide hu
      clear hu hb P8
      go_wp2_with fail
      go_at_call 15
      refine (P9.out.keep U9.out (Nat.le_refl _) (by omega) (by have := F8.out; omega)).mono ?_
      rintro e Wa ⟨rfl, hp⟩
      have PA := hide hp
      clear hp P9 U9
      go_wp2_with fail
      go_at_call 16
      obtain ⟨top, vl, vw, es, hb1, hb2, hb3⟩ := PA.out.bk
      refine (apart_any gB gB top vl vw es Wa hb1).mono ?_
      rintro e Wb ⟨rfl, hk⟩
      have BB := hide (PA.out.b.trans (hk.1.mono (Nat.le_of_lt PA.out.gl)))
      have SB : Hid (g ≤ Wb.heap.size) := by show g ≤ Wb.heap.size; have := PA.out.gl; have := PA.out.size; have := hk.1.size; omega
      clear hk hb1 hb2 hb3
      go_wp2_with fail
      go_at_call 13
      refine (known_any Wb).mono ?_
      rintro e Wc ⟨rfl, hb⟩
      have BC := hide (BB.out.trans (hb.mono SB.out))
      clear hb
      go_wp2
      go_ret
      exact ⟨rfl, by rw [← HG.out]; exact BC.out⟩
    · clear hin
      have F4 := hide QK.out.few
      go_upto_region 9 with (refine wpList_alloc_known rfl 41 rfl _ _ (alloc41 _) ?_)
      obtain ⟨gB, hgB⟩ : ∃ gB, gB = wr.heap.size := ⟨_, rfl⟩
      rw [← hgB]
      generalize hW1 : wr.alloc _ = W1
      have P1 : Hid (Qbk w g gB 0 W1.heap.size W1 v xs) := by
        have hb : Below wr.heap.size wr W1 := by rw [← hW1]; exact (Below.refl _ _).alloc (Nat.le_refl _) _
        have hr : W1.heap[gB]? = some (.cells #[.slice none 0 0, .slice none 0 0, .int .i64 0, .bool false] 41 (0, 0)) := by rw [← hW1, hgB]; exact heap_alloc_new _ _
        have hs := block_lt_of_row hr
        exact ⟨QK.out.below hb, ⟨_, _, _, _, book_empty hr, hs, Nat.le_refl _⟩, BK.out.trans (hb.mono (Nat.le_of_lt QK.out.g_lt)), by rw [hgB]; exact QK.out.g_lt, fun j hj => by rw [hgB]; exact QK.out.v_lt hj, hs⟩
      clear hW1 hgB QK BK
      go_wp2_with fail
      go_at_call 14
      refine (allI_any g W1 g v xs P1.out.q).mono ?_
      rintro e W2 ⟨u2, rfl, hu, hb⟩
      have P2 := hide (P1.out.below hb)
      have U2 := hide hu
      clear hu hb P1
      go_wp2_with fail
      go_at_call 15
      refine (P2.out.keep U2.out (Nat.le_refl _) (by omega) (by have := F4.out; omega)).mono ?_
      rintro e W3 ⟨rfl, hp⟩
      have P3 := hide hp
      clear hp P2 U2
      go_wp2_with fail
      go_at_call 14
      refine (allI_any g W3 g v xs P3.out.q).mono ?_
      rintro e W4 ⟨u4, rfl, hu, hb⟩
      have P4 := hide (P3.out.below hb)
      have U4 := hide hu
      clear hu hb P3
      go_wp2_with fail
      go_at_call 15
      refine (P4.out.keep U4.out (Nat.le_refl _) (by omega) (by have := F4.out; omega)).mono ?_
      rintro e W5 ⟨rfl, hp⟩
      have P5 := hide hp
      clear hp P4 U4
      go_wp2_with fail
      go_at_call 12
      refine (lenI_any g W5 g v xs P5.out.q).mono ?_
      rintro e W6 ⟨rfl, hs⟩
      have P6 := hide (P5.out.below (Still.blw hs _))
      have T6 : Hid (W6.heap.size = W5.heap.size) := by show W6.heap.size = W5.heap.size; rw [hs.1]
      clear hs P5
      go_wp2_with fail
      go_at_call 9
      refine (takeI_any g W6 g v xs _ P6.out.q).mono ?_
      rintro e W7 ⟨u7, v7, rfl, hu, hq, ht, ho⟩
      have P7 := hide (P6.out.take hq ht ho)
      have U7 := hide hu
      have F8 := hide hq.few
      clear hu hq ht ho P6
      go_wp2_with fail
      go_at_call 15
      refine (P7.out.keep U7.out (by rw [T6.out]; exact Nat.le_refl _) (by omega) (by have := F4.out; rw [List.length_take]; omega)).mono ?_
      rintro e W8 ⟨rfl, hp⟩
      have P8 := hide hp
      clear hp P7 U7
      go_wp2_with fail
      go_at_call 14
      refine (allI_any g W8 g v7 _ P8.out.q).mono ?_
      rintro e W9 ⟨u9, rfl, hu, hb⟩
      have P9 := hide (P8.out.below hb)
      have U9 := hide hu
      clear hu hb P8
      go_wp2_with fail
      go_at_call 15
      refine (P9.out.keep U9.out (Nat.le_refl _) (by omega) (by have := F8.out; omega)).mono ?_
      rintro e Wa ⟨rfl, hp⟩
      have PA := hide hp
      clear hp P9 U9
      go_wp2_with fail
      go_at_call 16
      obtain ⟨top, vl, vw, es, hb1, hb2, hb3⟩ := PA.out.bk
      refine (apart_any gB gB top vl vw es Wa hb1).mono ?_
      rintro e Wb ⟨rfl, hk⟩
      have BB := hide (PA.out.b.trans (hk.1.mono (Nat.le_of_lt PA.out.gl)))
      have SB : Hid (g ≤ Wb.heap.size) := by show g ≤ Wb.heap.size; have := PA.out.gl; have := PA.out.size; have := hk.1.size; omega
      clear hk hb1 hb2 hb3
      go_wp2_with fail
      go_at_call 13
      refine (known_any Wb).mono ?_
      rintro e Wc ⟨rfl, hb⟩
      have BC := hide (BB.out.trans (hb.mono SB.out))
      clear hb
      go_wp2
      go_ret
      exact ⟨rfl, by rw [← HG.out]; exact BC.out⟩
end Go.Proofs.Ytghcgkcojgmbkaa
