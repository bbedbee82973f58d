/- LifeMay's walk; LifeKept's walk. -/
import Derived.Test.YtldkkgdkjddohaaLc
namespace Go.Proofs.Ytldkkgdkjddohaa
open Go.RowKit
set_option maxHeartbeats 1600000 in
set_option maxRecDepth 100000 in
theorem lifeMay_walk (a c b : Int) (w : World) : Calls Try.prog 4 #[.int .i64 a, .int .i64 c, .int .i64 b] w fun e w' => e = .returned (.bool true) ∧ Below w.heap.size w w' := by
  obtain ⟨m, hm⟩ : ∃ m, m = S.may a c b := ⟨_, rfl⟩
  obtain ⟨s, hs⟩ : ∃ s, s = S.serves a := ⟨_, rfl⟩
  obtain ⟨r, hr⟩ : ∃ r, r = S.runs a := ⟨_, rfl⟩
  have HM := hide hm.symm
  have HS := hide hs.symm
  have HR := hide hr.symm
  clear hm hs hr
  have em : (m == m) = true := by simp
  have es : (s == s) = true := by simp
  have er : (r == r) = true := by simp
  have B0 : Hid (Below w.heap.size w w) := Below.refl _ _
  go_enter Try.func4, Try.ntmps4
  go_wp2_with fail
  go_at_call 9
  refine (may_any a c b w).mono ?_
  rintro e w1 ⟨rfl, hb⟩
  rw [HM.out]
  have B1 := hide (B0.out.trans (hb.mono B0.out.size))
  clear hb B0
  go_wp2_with fail
  go_at_call 10
  refine (refmay_any a c b w1).mono ?_
  rintro e wq ⟨rfl, rfl⟩
  rw [HM.out]
  go_wp2_with fail
  go_at_call 11
  refine (serves_any a w1).mono ?_
  rintro e w2 ⟨rfl, hb⟩
  rw [HS.out]
  have B2 := hide (B1.out.trans (hb.mono B1.out.size))
  clear hb B1
  go_wp2_with fail
  go_at_call 12
  refine (refserves_any a w2).mono ?_
  rintro e wq ⟨rfl, rfl⟩
  rw [HS.out]
  go_wp2_with fail
  go_at_call 13
  refine (runs_any a w2).mono ?_
  rintro e w3 ⟨rfl, hb⟩
  rw [HR.out]
  have B3 := hide (B2.out.trans (hb.mono B2.out.size))
  clear hb B2
  go_wp2_with fail
  go_at_call 14
  refine (refruns_any a w3).mono ?_
  rintro e wq ⟨rfl, rfl⟩
  rw [HR.out]
  go_wp2_with fail
  go_at_call 16
  refine (known_any w3).mono ?_
  rintro e w4 ⟨rfl, hb⟩
  have B4 := hide (B3.out.trans (hb.mono B3.out.size))
  clear hb B3
  go_wp2
  go_ret
  exact ⟨rfl, B4.out⟩

theorem alloc31 (w : World) : (Instr.alloc 31 true (.tuple #[])).run Try.prog w = .ok (.pointer (some ⟨w.heap.size, 0, none⟩)) (w.alloc (.cells #[.slice none 0 0, .slice none 0 0, .int .i64 0, .bool false] 31)) := by
  go_simp
theorem book_empty {w : World} {gB : Nat} (h : w.heap[gB]? = some (.cells #[.slice none 0 0, .slice none 0 0, .int .i64 0, .bool false] 31 (0, 0))) : BookIs w gB gB (gB + 1) (.slice none 0 0) (.slice none 0 0) [] :=
  ⟨h, Nat.le_refl _, Nat.lt_succ_self _, block_lt_of_row h, Or.inl ⟨rfl, rfl⟩, Or.inl ⟨rfl, rfl⟩, fun k hk => by simp [Value.ownBlock] at hk, fun k hk => by simp [Value.ownBlock] at hk, fun e he => by simp at he, by simp, by simp⟩
theorem book_none (vl vw : Value) (es : List Entry) : BookNo (fun _ => False) vl vw es := ⟨fun _ _ e => e, fun _ _ e => e, fun _ _ => ⟨fun _ _ e => e, fun _ _ e => e⟩⟩
/-- A book of states, and all below it as it was. -/
structure Bks (w : World) (gB n : Nat) (W : World) : Prop where
  bk : ∃ top vl vw es, BookIs W gB gB top vl vw es ∧ top ≤ W.heap.size ∧ es.length ≤ n
  b : Below gB w W
  le : gB ≤ w.heap.size
theorem BookIs.below {w W : World} {gB base top : Nat} {vl vw : Value} {es : List Entry} (h : BookIs w gB base top vl vw es) (hb : Below w.heap.size w W) : BookIs W gB base top vl vw es := by
  have ht := h.top_le
  exact ⟨(hb.block gB (Nat.lt_of_lt_of_le h.hi ht)).trans h.row, h.lo, h.hi, Nat.le_trans ht hb.size, h.lists.kept fun k hk => hb.block k (h.lists.lt hk), h.was.kept fun k hk => hb.block k (h.was.lt hk), h.vlSep, h.vwSep,
    fun e he => by
      have q := h.ents e he
      exact ⟨q.ed.same fun b c => hb.block b (by have := (q.at_ b c).2.1; omega), q.at_, q.cp.kept fun k hk => hb.block k (q.cp.lt hk), q.cpAt, q.cpLo, q.capl, q.bsl⟩, h.nodup, h.few⟩
theorem Bks.new (w : World) : Bks w w.heap.size 0 (w.alloc (.cells #[.slice none 0 0, .slice none 0 0, .int .i64 0, .bool false] 31)) := by
  have hr : (w.alloc (.cells #[.slice none 0 0, .slice none 0 0, .int .i64 0, .bool false] 31)).heap[w.heap.size]? = some (.cells #[.slice none 0 0, .slice none 0 0, .int .i64 0, .bool false] 31 (0, 0)) := one_top _ _
  exact ⟨⟨_, _, _, _, book_empty hr, block_lt_of_row hr, Nat.le_refl _⟩, one_below _ _, Nat.le_refl _⟩
theorem Bks.below {w W W' : World} {gB n : Nat} (h : Bks w gB n W) (hb : Below W.heap.size W W') : Bks w gB n W' := by
  obtain ⟨top, vl, vw, es, h1, h2, h3⟩ := h.bk
  have := h.b.size
  exact ⟨⟨top, vl, vw, es, h1.below hb, Nat.le_trans h2 hb.size, h3⟩, h.b.trans (hb.mono (by have := h1.lo; have := h1.hi; have := h1.top_le; omega)), h.le⟩
theorem Bks.keep {w W W' : World} {gB n : Nat} {u : Value} {xs : List Int} (h : Bks w gB n W) (hb : Below W.heap.size W W') (hu : Nx W.heap.size W' u xs) (hx : xs.length ≤ 100000) (hn : n < 100) :
   Calls Try.prog 18 #[.pointer (some ⟨gB, 0, none⟩), u] W' fun e w' => e = .returned (.tuple #[]) ∧ Bks w gB (n + 1) w' := by
  obtain ⟨top, vl, vw, es, h1, h2, h3⟩ := h.bk
  have H1 := h1.below hb
  have H := h.below hb
  have hlt : gB < top := h1.hi
  rcases hu with ⟨rfl, rfl⟩ | ⟨g, q1, rfl, q2⟩
  · refine (keep_none (fun _ => False) gB gB top vl vw es W' H1 (by omega) (book_none _ _ _) (fun _ _ e => e)).mono ?_
    rintro e w' ⟨rfl, ⟨vl', vw', es', k1, k2, _⟩, hk⟩
    exact ⟨rfl, ⟨_, _, _, _, k1, Nat.le_refl _, by omega⟩, H.b.trans hk.1, H.le⟩
  · refine (keep_any (fun _ => False) gB gB top g _ vl vw xs es W' H1 (Nx.room q2) (by omega) (by omega) (by omega) hx (by omega) (book_none _ _ _) (fun _ _ e => e) (fun e => e)).mono ?_
    rintro e w' ⟨rfl, ⟨vl', vw', es', k1, k2, _⟩, hk⟩
    exact ⟨rfl, ⟨_, _, _, _, k1, Nat.le_refl _, by omega⟩, H.b.trans hk.1, H.le⟩

set_option maxHeartbeats 1600000 in
set_option maxRecDepth 100000 in
theorem lifeKept_walk (a : Int) (w : World) : Calls Try.prog 6 #[.int .i64 a] w fun e w' => e = .returned (.bool true) ∧ Below w.heap.size w w' := by
  obtain ⟨g, hg⟩ : ∃ g, g = w.heap.size := ⟨_, rfl⟩
  rw [← hg]
  have HG := hide hg
  clear hg
  go_enter Try.func6, Try.ntmps6
  go_wp2_with fail
  go_at_call 17
  refine (within_any a 5 w (by omega) (by omega)).mono ?_
  rintro e wq ⟨rfl, rfl⟩
  obtain ⟨x, hx⟩ : ∃ x : Int, x = (S.within a 5 : Int) := ⟨_, rfl⟩
  rw [← hx]
  clear hx
  go_upto_region 3 with (refine wpList_alloc_known rfl 31 rfl _ _ (alloc31 _) ?_)
  rw [← HG.out]
  generalize hW1 : World.alloc _ _ = W1
  have P1 : Hid (Bks w g 0 W1) := by rw [← hW1, HG.out]; exact Bks.new w
  clear hW1
  have L := hide (S.nxt_len x 0)
  go_wp2_with fail
  go_at_call 8
  refine (next_any x 0 W1).mono ?_
  rintro e W2 ⟨u1, rfl, hu, hb⟩
  go_wp2_with fail
  go_at_call 18
  refine (P1.out.keep hb hu (by have := L.out; omega) (by omega)).mono ?_
  rintro e W3 ⟨rfl, hp⟩
  have P3 := hide hp
  clear hp hu hb P1
  go_wp2_with fail
  go_at_call 8
  refine (next_any x 0 W3).mono ?_
  rintro e W4 ⟨u3, rfl, hu, hb⟩
  go_wp2_with fail
  go_at_call 18
  refine (P3.out.keep hb hu (by have := L.out; omega) (by omega)).mono ?_
  rintro e W5 ⟨rfl, hp⟩
  have P5 := hide hp
  clear hp hu hb P3
  go_wp2_with fail
  go_at_call 19
  obtain ⟨top, vl, vw, es, hb1, hb2, hb3⟩ := P5.out.bk
  refine (apart_any g g top vl vw es W5 hb1).mono ?_
  rintro e W6 ⟨rfl, hk⟩
  have B6 := hide (P5.out.b.trans hk.1)
  have S6 : Hid (g ≤ W6.heap.size) := by show g ≤ W6.heap.size; have := B6.out.size; have := HG.out; omega
  clear hk hb1 hb2 hb3
  go_wp2_with fail
  go_at_call 16
  refine (known_any W6).mono ?_
  rintro e W7 ⟨rfl, hb⟩
  have B7 := hide (B6.out.trans (hb.mono S6.out))
  clear hb
  go_wp2
  go_ret
  exact ⟨rfl, B7.out⟩
end Go.Proofs.Ytldkkgdkjddohaa
