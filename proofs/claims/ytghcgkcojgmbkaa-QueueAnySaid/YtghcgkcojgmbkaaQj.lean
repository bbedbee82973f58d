/- Pairs: a list in new memory; the first ones are let go. -/
import Derived.Test.YtghcgkcojgmbkaaQf
namespace Go.Proofs.Ytghcgkcojgmbkaa
open Go.RowKit

theorem kzeroP (w : World) : (zeroValue 50).run Try.prog w = .ok (.agg #[.int .i64 0, .int .i64 0]) w := by
  obtain ⟨i, hi, hz, _, _⟩ := info_parts info50
  simp [zeroValue, typeInfo, hi, hz]
theorem anewP_any (B : Nat) (w : World) (v : Value) (xs : List (Int × Int)) (h : Rw 50 2 encP B w v xs) (hl : xs.length ≤ 100000) :
   Calls Try.prog 34 #[v] w fun e w' => ∃ u, e = .returned u ∧ Rw 50 2 encP w.heap.size w' u xs ∧ Below w.heap.size w w' := by
  have APP : Hid (∃ v' w', (Builtin.append_ #[55, 55] 55 #[.slice none 0 0, v]).run Try.prog w = .ok v' w' ∧ (Rw 50 2 encP w.heap.size w' v' xs ∧ Below w.heap.size w w')) := by
    obtain ⟨v', w', hr, hrow, hc⟩ := Rw.append kdP 55 (Rw.nil 50 2 encP w.heap.size w) h.src (lenP xs) (by simpa using hl) (Nat.le_refl _)
    rw [List.nil_append] at hrow
    exact ⟨v', w', hr, hrow, hc.below w.heap.size (Nat.le_refl _) (fun k _ e => by simp [Value.ownBlock] at e)⟩
  clear h
  go_enter Try.func34, Try.ntmps34
  go_wp2_with (at_builtin; refine wpList_append_known rfl (.const (.slice none 0 0)) (.tmp 3) 55 55 rfl _ _ rfl rfl APP.out ?_; rintro v1 w1 ⟨hrow, hb⟩; have R1 := hide hrow; have B1 := hide hb; clear hrow hb)
  go_ret
  exact ⟨_, rfl, R1.out, B1.out⟩

set_option maxHeartbeats 4000000 in
set_option maxRecDepth 1000000 in
theorem deleteP_any (B : Nat) (w : World) (v : Value) (xs : List (Int × Int)) (n : Nat) (h : Rw 50 2 encP B w v xs) (hl : xs.length ≤ 100000) (hn : n ≤ xs.length) :
   Calls Try.prog 35 #[v, .int .i64 0, .int .i64 (n : Int)] w fun e w' => ∃ v', e = .returned v' ∧ Rw 50 2 encP B w' v' (xs.drop n) ∧ Chg (fun j => v.ownBlock = some j) w w' ∧ v'.ownBlock = v.ownBlock := by
  have H := hide h
  obtain ⟨L, hL⟩ : ∃ L, L = xs.length := ⟨_, rfl⟩
  by_cases h0 : n = 0
  · subst h0
    have hfin : Hid (xs.drop 0 = xs) := List.drop_zero
    rcases h.2 with ⟨rfl, h1⟩ | ⟨g, cap, cur, rfl, hB, hr, q1, q2, q3, q4⟩
    · clear h
      go_enter Try.func35, Try.ntmps35
      go_wp2
      all_goals (go_ret; exact ⟨_, rfl, by rw [hfin.out]; exact H.out, Chg.refl _ _, rfl⟩)
    · rw [← hL] at q1 hl ⊢
      have hq : (L : Int) ≤ (cap : Int) := by omega
      have hm : cap ≤ 9223372036854775807 := q2
      have HL := hide hL
      clear h hr q3 q4 hL hn
      go_enter Try.func35, Try.ntmps35
      go_wp2
      all_goals (go_ret; exact ⟨_, rfl, by rw [hfin.out, HL.out]; exact H.out, Chg.refl _ _, rfl⟩)
  · obtain ⟨i0, hi0, hz0, hz1, hz2⟩ := info_parts info50
    rcases h.2 with ⟨rfl, h1⟩ | ⟨g, cap, cur, rfl, hB, hr, q1, q2, q3, q4⟩
    · omega
    · obtain ⟨news, hnews⟩ : ∃ news, news = (xs.drop n).flatMap encP := ⟨_, rfl⟩
      have hlen : news.length = (xs.length - n) * 2 := by rw [hnews, flat_gen _ (fun y hy => lenP xs y (List.mem_of_mem_drop hy)), List.length_drop]
      have hget : ∀ t u, news[t]? = some u → w.drew.cell? ⟨g, n * 2 + t, none⟩ = some u := fun t u hu => by
        have ht := (List.getElem?_eq_some_iff.1 hu).1
        rw [hnews, drop_flat xs (lenP xs) n hn, List.getElem?_drop, ← q4, List.getElem?_take, if_pos (by omega)] at hu
        show w.cell? _ = _
        rw [cell_of_row w g _ _ _ _ hr]
        simpa using hu
      obtain ⟨A, hA, hsrc⟩ : ∃ A : Addr, (if cap = n then some (⟨g, 0, none⟩ : Addr) else some ⟨g, n * 2, none⟩) = some A ∧ Hid (∀ t u, news[t]? = some u → w.drew.cell? (A.add t) = some u) := by
        by_cases e : cap = n
        · refine ⟨⟨g, 0, none⟩, by simp [e], fun t u hu => ?_⟩
          have e0 : news.length = 0 := by rw [hlen]; omega
          rw [List.length_eq_zero_iff.1 e0] at hu
          simp at hu
        · refine ⟨⟨g, n * 2, none⟩, by simp [e], fun t u hu => ?_⟩
          rw [Addr.add_lit]
          have := hget t u hu
          
          exact this
      have s1 : Hid (news.length = (L - n) * 2) := by rw [hL]; exact hlen
      have s2 : Hid (∀ u ∈ news, u.oneCell' = true) := fun u hu => by
        rw [hnews, List.mem_flatMap] at hu
        obtain ⟨y, _, hy⟩ := hu
        exact kdP.one y u hy
      have s3 : Hid (∀ t, t < news.length → (w.drew.cell? ⟨g, 0 + 0 * 2 + t, none⟩).isSome = true ∧ w.drew.frozen? ⟨g, 0 + 0 * 2 + t, none⟩ = false) := fun t ht => by
        refine ⟨?_, frozen_of_row w.drew g _ cur _ hr⟩
        have hlt : 0 + 0 * 2 + t < cur.size := by rw [q3]; omega
        rw [cell_of_row w.drew g _ _ _ _ hr, Array.getElem?_eq_getElem hlt]; rfl
      -- the world behind the append
      obtain ⟨W1, hW1⟩ : ∃ W1, W1 = w.drew.setCells g (0 + 0 * 2) news := ⟨_, rfl⟩
      obtain ⟨c1, r1, z1, f1⟩ := setCells_block g news (0 + 0 * 2) w.drew cur 50 hr
      rw [← hW1] at r1
      have b1 : Chg (fun j => some g = some j) w W1 := by rw [hW1]; exact Chg.setCells g _ _ _ (Chg.refl _ w).drew (fun _ => rfl)
      obtain ⟨Z, hZ, hZl⟩ : ∃ Z, Z = (Builtin.zeroCells (.agg #[.int .i64 0, .int .i64 0] : Value).cells n).toList ∧ Z.length = n * 2 := ⟨_, rfl, zeroCells_len _ _⟩
      have hcl : ∀ ty, (Builtin.clear_ #[55] ty #[.slice (some ⟨g, (L - n) * 2, none⟩) (L - (L - n)) (cap - (L - n))]).run Try.prog W1 = .ok (.tuple #[]) (W1.setCells g ((L - n) * 2) Z) := fun ty => by
        have := run_clear_any (P := Try.prog) W1 55 50 ty (.agg #[.int .i64 0, .int .i64 0]) Try.underlying55 kzeroP (by simp [Value.cells, Value.oneCell']) g ((L - n) * 2) n (cap - (L - n)) (by omega) (fun j hj => by
          have hj2 : j < n * 2 := hj
          have hlt : (L - n) * 2 + j < c1.size := by rw [z1, q3]; omega
          rw [cell_of_row W1 g _ _ _ _ r1, Array.getElem?_eq_getElem hlt]; rfl) (fun j _ => frozen_of_row W1 g _ c1 _ r1)
        rw [hZ, show L - (L - n) = n by omega]
        exact this
      obtain ⟨W2, hW2⟩ : ∃ W2, W2 = W1.setCells g ((L - n) * 2) Z := ⟨_, rfl⟩
      obtain ⟨c2, r2, z2, f2⟩ := setCells_block g Z ((L - n) * 2) W1 c1 50 r1
      rw [← hW2] at r2
      have b2 : Chg (fun j => some g = some j) w W2 := by rw [hW2]; exact Chg.setCells g _ _ _ b1 (fun _ => rfl)
      have fin : Hid (Rw 50 2 encP B W2 (.slice (some ⟨g, 0, none⟩) (L - n) cap) (xs.drop n)) := by
        have hdl : (xs.drop n).length = L - n := by rw [List.length_drop, hL]
        refine ⟨by rw [← hnews, hdl]; exact s1.out, Or.inr ⟨g, cap, c2, by rw [hdl], hB, r2, by omega, q2, by rw [z2, z1, q3], ?_⟩⟩
        rw [hdl, ← hnews]
        apply List.ext_getElem?
        intro j
        have e1 := s1.out
        rw [List.getElem?_take]
        by_cases hj : j < (L - n) * 2
        · have hjc : j < cur.size := by rw [q3]; omega
          rw [if_pos hj, Array.getElem?_toList, f2 j (by rw [z1]; exact hjc), if_neg (by omega), f1 j hjc, if_pos (by omega), show j - (0 + 0 * 2) = j by omega]
        · rw [if_neg hj, List.getElem?_eq_none (by omega)]
      have chg : Hid (Chg (fun j => (Value.slice (some ⟨g, 0, none⟩) L cap).ownBlock = some j) w W2) := b2
      have hWa : Hid (W1 = w.drew.setCells g (0 + 0 * 2) news) := hW1
      have hic : n ≤ cap := by omega
      have hnL : n ≤ L := by omega
      have hm : cap ≤ 9223372036854775807 := q2
      rw [← hL] at q1
      rw [← hW2] at hcl
      rw [← hL]
      clear hW1 hW2 hget hnews hlen h hr q3 q4 r1 r2 z1 z2 f1 f2 b1 b2 hZ hZl hn hl hL
      go_enter Try.func35, Try.ntmps35
      go_wp2_with fail
      go_region_law (refine step_append_room rfl (.tmp 22) (.tmp 25) 55 rfl 50 i0 2 Try.underlying55 hi0 hz1 g 0 0 cap (by simp [Act.eval, Act.put]) A (L - n) (cap - n) news (by simp [Act.eval, Act.put]) s1.out hsrc.out s2.out (by omega) s3.out ?_; rw [← hWa.out])
      go_wp2
      go_ret
      exact ⟨_, rfl, by first | exact fin.out | (rw [Nat.zero_add]; exact fin.out), chg.out, rfl⟩

end Go.Proofs.Ytghcgkcojgmbkaa
