/- PolicyKept. -/
import Derived.Test.YtkdpdkfhhpekaaaDoorPo
namespace Go.Proofs.YtkdpdkfhhpekaaaDoor
open Go.RowKit
theorem BookIs.below {w W : World} {gB base top : Nat} {vl vw : Value} {es : List Entry} (h : BookIs w gB base top vl vw es) (hb : Below w.heap.size w W) : BookIs W gB base top vl vw es := by
  have ht := h.top_le
  have hf : Fr gB vl vw w W := ⟨hb.os, hb.tape, hb.output, hb.size, fun k hk _ _ _ => hb.block k hk⟩
  exact ⟨(hb.block gB (Nat.lt_of_lt_of_le h.hi ht)).trans h.row, h.lo, h.hi, Nat.le_trans ht hb.size, h.lists.kept fun k hk => hb.block k (h.lists.lt hk), h.was.kept fun k hk => hb.block k (h.was.lt hk), h.vlSep, h.vwSep,
    fun e he => (h.ents e he).kept hf ht (Nat.le_refl _) (fun k hk => Or.inl hk) (fun k hk => Or.inl hk), h.nodup, h.few⟩
/-- A list that lies behind all of the book. -/
theorem book_empty {w : World} {gB : Nat} (h : w.heap[gB]? = some (.cells #[.slice none 0 0, .slice none 0 0, .int .i64 0, .bool false] 35 (0, 0))) : BookIs w gB gB (gB + 1) (.slice none 0 0) (.slice none 0 0) [] :=
  ⟨h, Nat.le_refl _, Nat.lt_succ_self _, block_lt_of_row h, Or.inl ⟨rfl, rfl⟩, Or.inl ⟨rfl, rfl⟩, fun k hk => by simp [Value.ownBlock] at hk, fun k hk => by simp [Value.ownBlock] at hk, fun e he => by simp at he, by simp, by simp⟩
/-- A row of digests that is not empty is a room. -/
theorem NilBk.below {w W : World} {gB n : Nat} {vl vw : Value} (h : NilBk w gB vl vw n) (hb : Below w.heap.size w W) : NilBk W gB vl vw n :=
  ⟨(hb.block _ (block_lt_of_row h.row)).trans h.row, h.lists.kept (fun k hk => hb.block k (h.lists.lt hk)), h.was.kept (fun k hk => hb.block k (h.was.lt hk)), h.vlSep, h.vwSep⟩

theorem book_none (vl vw : Value) (es : List Entry) : BookNo (fun _ => False) vl vw es := ⟨fun _ _ e => e, fun _ _ e => e, fun _ _ => ⟨fun e => e, fun _ _ e => e⟩⟩
theorem ops_none (role : Int) (h : role ≠ 4 ∧ role ≠ 3 ∧ role ≠ 2 ∧ role ≠ 1) (w : World) : Calls Tryd.prog 8 #[.int .i64 role] w fun e w' => e = .returned (.slice none 0 0) ∧ Below w.heap.size w w' := by
  obtain ⟨h1, h2, h3, h4⟩ := h
  have b1 : (role == 4) = false := by simp [h1]
  have b2 : (role == 3) = false := by simp [h2]
  have b3 : (role == 2) = false := by simp [h3]
  have b4 : (role == 1) = false := by simp [h4]
  clear h1 h2 h3 h4
  go_enter Tryd.func8, Tryd.ntmps8
  go_wp2_with fail
  refine (sort_any (.slice none 0 0) [] w (urow_nil w) (by decide) w.heap.size (Nat.le_refl _) (fun k hk => by cases hk)).mono ?_
  rintro e w9 ⟨rfl, hu, hb⟩
  have HB2 := hide hb
  clear hu hb
  go_wp2_with fail
  go_ret
  exact ⟨rfl, HB2.out⟩
theorem room_of {w : World} {v : Value} {xs : List Int} (h : URow w v xs) (h0 : 0 < xs.length) : ∃ g cap, v = .slice (some ⟨g, 0, none⟩) xs.length cap ∧ Room w g cap xs ∧ cap ≤ 9223372036854775807 := by
  rcases h.2 with ⟨_, h2⟩ | ⟨g', cap', cur, h2, _, h3, h4, h5, h6, h7⟩
  · omega
  · exact ⟨g', cap', h2, ⟨cur, h3, by omega, h4, by simpa using h7⟩, by simpa [maxLen] using h5⟩
theorem S.ops_pos {role : Int} (h : ¬ (role ≠ 4 ∧ role ≠ 3 ∧ role ≠ 2 ∧ role ≠ 1)) : 0 < (S.ops role).length := by
  rcases (by omega : role = 4 ∨ role = 3 ∨ role = 2 ∨ role = 1) with h | h | h | h <;> subst h <;> decide
theorem alloc35 (w : World) : (Instr.alloc 35 true (.tuple #[])).run Tryd.prog w = .ok (.pointer (some ⟨w.heap.size, 0, none⟩)) (w.alloc (.cells #[.slice none 0 0, .slice none 0 0, .int .i64 0, .bool false] 35)) := by
  go_simp
set_option maxHeartbeats 6400000 in
set_option maxRecDepth 100000 in
theorem policyKept_walk (role : Int) (w : World) (hp : PowAt w) (he : ErrT w) :
   Calls Tryd.prog 6 #[.int .i64 role] w fun e w' => e = .returned (.bool true) ∧ Below w.heap.size w w' := by
  have HP := hide hp
  have HE := hide he
  clear hp he
  by_cases hnone : role ≠ 4 ∧ role ≠ 3 ∧ role ≠ 2 ∧ role ≠ 1
  · have HNO := hide hnone
    clear hnone
    go_enter Tryd.func6, Tryd.ntmps6
    go_upto_region 2 with (refine wpList_alloc_known rfl 35 rfl _ _ (alloc35 _) ?_)
    generalize hW1 : w.alloc _ = W1
    have B1 : Hid (Below w.heap.size w W1) := by rw [← hW1]; exact (Below.refl _ _).alloc (Nat.le_refl _) _
    have K1 : Hid (NilBk W1 w.heap.size (.slice none 0 0) (.slice none 0 0) 0) := ⟨by rw [← hW1]; exact heap_alloc_new _ _, Or.inl ⟨rfl, rfl⟩, Or.inl ⟨rfl, rfl⟩, fun k hk => (by cases hk), fun k hk => (by cases hk)⟩
    clear hW1
    go_wp2_with fail
    refine (ops_none role HNO.out W1).mono ?_
    rintro e w2 ⟨rfl, hb⟩
    have B2 := hide (B1.out.trans (hb.mono B1.out.size))
    have K2 := hide (K1.out.below hb)
    clear hb B1 K1
    go_wp2_with fail
    refine (keep_nil w.heap.size 0 _ _ w2 K2.out (by omega)).mono ?_
    rintro e w3 ⟨rfl, ⟨vl, vw, hk⟩, hb⟩
    have B3 := hide (B2.out.trans hb)
    have K3 := hide hk
    clear hb hk B2 K2
    go_wp2_with fail
    refine (ops_none role HNO.out w3).mono ?_
    rintro e w4 ⟨rfl, hb⟩
    have B4 := hide (B3.out.trans (hb.mono B3.out.size))
    have K4 := hide (K3.out.below hb)
    clear hb B3 K3
    go_wp2_with fail
    refine (keep_nil w.heap.size 1 _ _ w4 K4.out (by omega)).mono ?_
    rintro e w5 ⟨rfl, ⟨vl2, vw2, hk⟩, hb⟩
    have B5 := hide (B4.out.trans hb)
    have K5 := hide hk
    clear hb hk B4 K4
    go_wp2_with fail
    refine (apart_nil w.heap.size 2 _ _ w5 K5.out (by omega)).mono ?_
    rintro e w6 ⟨rfl, hb⟩
    have B6 := hide (B5.out.trans hb)
    clear hb B5 K5
    go_wp2_with fail
    refine (known_any w6 (HP.out.below B6.out) (HE.out.below B6.out)).mono ?_
    rintro e wk ⟨rfl, hbk⟩
    have BK := hide (B6.out.trans (hbk.mono B6.out.size))
    clear hbk
    go_wp2_with fail
    go_ret
    exact ⟨rfl, BK.out⟩
  · have HLP := hide (S.ops_pos hnone)
    have HLL := hide (S.ops_length role)
    clear hnone
    go_enter Tryd.func6, Tryd.ntmps6
    go_upto_region 2 with (refine wpList_alloc_known rfl 35 rfl _ _ (alloc35 _) ?_)
    generalize hW1 : w.alloc _ = W1
    have B1 : Hid (Below w.heap.size w W1) := by rw [← hW1]; exact (Below.refl _ _).alloc (Nat.le_refl _) _
    have K1 : Hid (BookIs W1 w.heap.size w.heap.size (w.heap.size + 1) (.slice none 0 0) (.slice none 0 0) []) := book_empty (by rw [← hW1]; exact heap_alloc_new _ _)
    clear hW1
    go_wp2_with fail
    refine (ops_any role W1).mono ?_
    rintro e w2 ⟨v, rfl, hu, ho, hb⟩
    obtain ⟨g, cap, rfl, hr, hcap⟩ := room_of hu HLP.out
    have hg := ho g rfl
    have B2 := hide (B1.out.trans (hb.mono B1.out.size))
    have K2 := hide (K1.out.below hb)
    have hts := K1.out.top_le
    have C1 := keep_any (fun _ => False) w.heap.size w.heap.size (w.heap.size + 1) g cap _ _ (S.ops role) [] w2 K2.out hr (by omega) (by omega) hcap (by have := HLL.out; omega) (by simp) (book_none _ _ _) (fun _ _ e => e) (fun e => e)
    obtain ⟨nn, hnn⟩ : ∃ nn, nn = (S.ops role).length := ⟨_, rfl⟩
    rw [← hnn] at C1 ⊢
    clear hb hu ho hr B1 K1 hnn hts hcap hg
    go_wp2_with fail
    refine C1.mono ?_
    rintro e w3 ⟨rfl, ⟨vl, vw, es, hk, hes, -⟩, hb, -⟩
    have B3 := hide (B2.out.trans hb)
    have K3 := hide hk
    have E3 : Hid (es.length ≤ 1) := hes
    clear hb hk B2 K2 C1 hes
    go_wp2_with fail
    refine (ops_any role w3).mono ?_
    rintro e w4 ⟨v, rfl, hu, ho, hb⟩
    obtain ⟨g2, cap2, rfl, hr, hcap⟩ := room_of hu HLP.out
    have hg := ho g2 rfl
    have B4 := hide (B3.out.trans (hb.mono B3.out.size))
    have K4 := hide (K3.out.below hb)
    have hbs := B3.out.size
    have C1 := keep_any (fun _ => False) w.heap.size w.heap.size w3.heap.size g2 cap2 _ _ (S.ops role) es w4 K4.out hr hg (by omega) hcap (by have := HLL.out; omega) (by have := E3.out; omega) (book_none _ _ _) (fun _ _ e => e) (fun e => e)
    obtain ⟨nn, hnn⟩ : ∃ nn, nn = (S.ops role).length := ⟨_, rfl⟩
    rw [← hnn] at C1 ⊢
    clear hb hu ho hr B3 K3 hnn hbs hcap hg
    go_wp2_with fail
    refine C1.mono ?_
    rintro e w5 ⟨rfl, ⟨vl2, vw2, es2, hk, -, -⟩, hb, -⟩
    have B5 := hide (B4.out.trans hb)
    have K5 := hide hk
    clear hb hk B4 K4 C1
    go_wp2_with fail
    refine (apart_any w.heap.size w.heap.size w5.heap.size _ _ es2 w5 K5.out).mono ?_
    rintro e w6 ⟨rfl, hb, -⟩
    have B6 := hide (B5.out.trans hb)
    clear hb B5 K5
    go_wp2_with fail
    refine (known_any w6 (HP.out.below B6.out) (HE.out.below B6.out)).mono ?_
    rintro e wk ⟨rfl, hbk⟩
    have BK := hide (B6.out.trans (hbk.mono B6.out.size))
    clear hbk
    go_wp2_with fail
    go_ret
    exact ⟨rfl, BK.out⟩
end Go.Proofs.YtkdpdkfhhpekaaaDoor
