/- A list in new memory; the first ones are let go. -/
import Derived.Test.YtghcgkcojgmbkaaQb
namespace Go.Proofs.Ytghcgkcojgmbkaa
open Go.RowKit
theorem setCells_block (g : Nat) : ∀ (vs : List Value) (o : Nat) (w : World) (cur : Array Value) (t : TypeId), w.heap[g]? = some (.cells cur t (0, 0)) →
    ∃ cur' : Array Value, (w.setCells g o vs).heap[g]? = some (.cells cur' t (0, 0)) ∧ cur'.size = cur.size ∧ ∀ j, j < cur.size → cur'[j]? = if o ≤ j ∧ j < o + vs.length then vs[j - o]? else cur[j]?
  | [], o, w, cur, t, h => ⟨cur, h, rfl, fun j _ => by rw [if_neg (by intro c; have := c.2; simp at this; omega)]⟩
  | v :: r, o, w, cur, t, h => by
    obtain ⟨c, h1, h2, h3⟩ := setCells_block g r (o + 1) (w.setCell ⟨g, o, none⟩ v) _ t (heap_setCell_same w g o cur t v h)
    refine ⟨c, h1, by simpa using h2, fun j hj => ?_⟩
    rw [h3 j (by simpa using hj)]
    by_cases e : j = o
    · subst e
      rw [if_neg (by omega), if_pos (by simp), Nat.sub_self]
      simp [hj]
    · by_cases c2 : o + 1 ≤ j ∧ j < o + 1 + r.length
      · rw [if_pos c2, if_pos (by simp; omega), show j - o = (j - (o + 1)) + 1 by omega, List.getElem?_cons_succ]
      · rw [if_neg c2, if_neg (by simp; omega)]
        simp [Ne.symm e]
theorem setCells_size (g : Nat) : ∀ (vs : List Value) (o : Nat) (w : World), (w.setCells g o vs).heap.size = w.heap.size
  | [], _, _ => rfl
  | v :: r, o, w => by rw [World.setCells, setCells_size g r]; simp [World.setCell]
theorem Chg.setCells {p : Nat → Prop} {w : World} (g : Nat) : ∀ (vs : List Value) (o : Nat) (W : World), Chg p w W → (g < w.heap.size → p g) → Chg p w (W.setCells g o vs)
  | [], _, _, h, _ => h
  | v :: r, o, _, h, hg => Chg.setCells g r (o + 1) _ (h.setCell g o v hg) hg
theorem zeroCells_len (zero : Array Value) (n : Nat) : (Builtin.zeroCells zero n).toList.length = n * zero.size := by simp [Builtin.zeroCells]
theorem zeroCells_one (zero : Array Value) (n : Nat) (h : ∀ u ∈ zero.toList, u.oneCell' = true) : ∀ u ∈ (Builtin.zeroCells zero n).toList, u.oneCell' = true := fun u hu => by
  simp only [Builtin.zeroCells, Array.toList_map, List.mem_map] at hu
  obtain ⟨i, hi, rfl⟩ := hu
  have hi2 : i < n * zero.size := by simpa using hi
  have hp : 0 < zero.size := Nat.pos_of_ne_zero (fun e => by rw [e] at hi2; simp at hi2)
  have hm : i % zero.size < zero.size := Nat.mod_lt _ hp
  rw [getElem!_pos zero (i % zero.size) hm]
  exact h _ (by rw [Array.mem_toList_iff]; exact Array.getElem_mem hm)
/-- clear of a slice of elements of any size. -/
theorem run_clear_any {P : Program} (w : World) (t e ty : TypeId) (z : Value) (ht : P.underlying t = some (.slice e)) (hv : ∀ w, (zeroValue e).run P w = .ok z w) (hz : ∀ u ∈ z.cells.toList, u.oneCell' = true) (b o n c : Nat) (hn : 0 < n)
    (hc : ∀ j, j < n * z.cells.size → (w.cell? ⟨b, o + j, none⟩).isSome = true) (hf : ∀ j, j < n * z.cells.size → w.frozen? ⟨b, o + j, none⟩ = false) :
    (Builtin.clear_ #[t] ty #[.slice (some ⟨b, o, none⟩) n c]).run P w = .ok (.tuple #[]) (w.setCells b o (Builtin.zeroCells z.cells n).toList) := by
  have hst := run_storeCells_cells (P := P) b o (Builtin.zeroCells z.cells n).toList 0 w (by rw [zeroCells_len]; simpa using hc) (by rw [zeroCells_len]; simpa using hf) (zeroCells_one _ _ hz)
  simp only [Nat.add_zero] at hst
  obtain ⟨m, rfl⟩ : ∃ m, n = m + 1 := ⟨n - 1, by omega⟩
  simp [Builtin.clear_, run_underlying ht, hv, hst]
theorem drop_flat {α : Type} {k : Nat} {enc : α → List Value} (xs : List α) (hk : ∀ x ∈ xs, (enc x).length = k) (n : Nat) (hn : n ≤ xs.length) : (xs.drop n).flatMap enc = (xs.flatMap enc).drop (n * k) := by
  have h1 : ((xs.take n).flatMap enc).length = n * k := by rw [flat_gen _ (fun y hy => hk y (List.mem_of_mem_take hy)), List.length_take, Nat.min_eq_left hn]
  have e2 : xs.flatMap enc = (xs.take n).flatMap enc ++ (xs.drop n).flatMap enc := by rw [← List.flatMap_append, List.take_append_drop]
  rw [e2, ← h1, List.drop_left]

theorem kzeroI (w : World) : (zeroValue 3).run Try.prog w = .ok (.int .i64 0) w := by
  obtain ⟨i, hi, hz, _, _⟩ := info_parts info3
  simp [zeroValue, typeInfo, hi, hz]
theorem anewI_any (B : Nat) (w : World) (v : Value) (xs : List (Int)) (h : Rw 3 1 encI B w v xs) (hl : xs.length ≤ 100000) :
   Calls Try.prog 26 #[v] w fun e w' => ∃ u, e = .returned u ∧ Rw 3 1 encI w.heap.size w' u xs ∧ Below w.heap.size w w' := by
  have APP : Hid (∃ v' w', (Builtin.append_ #[27, 27] 27 #[.slice none 0 0, v]).run Try.prog w = .ok v' w' ∧ (Rw 3 1 encI w.heap.size w' v' xs ∧ Below w.heap.size w w')) := by
    obtain ⟨v', w', hr, hrow, hc⟩ := Rw.append kdI 27 (Rw.nil 3 1 encI w.heap.size w) h.src (lenI xs) (by simpa using hl) (Nat.le_refl _)
    rw [List.nil_append] at hrow
    exact ⟨v', w', hr, hrow, hc.below w.heap.size (Nat.le_refl _) (fun k _ e => by simp [Value.ownBlock] at e)⟩
  clear h
  go_enter Try.func26, Try.ntmps26
  go_wp2_with (at_builtin; refine wpList_append_known rfl (.const (.slice none 0 0)) (.tmp 3) 27 27 rfl _ _ rfl rfl APP.out ?_; rintro v1 w1 ⟨hrow, hb⟩; have R1 := hide hrow; have B1 := hide hb; clear hrow hb)
  go_ret
  exact ⟨_, rfl, R1.out, B1.out⟩

set_option maxHeartbeats 4000000 in
set_option maxRecDepth 1000000 in
theorem deleteI_any (B : Nat) (w : World) (v : Value) (xs : List (Int)) (n : Nat) (h : Rw 3 1 encI B w v xs) (hl : xs.length ≤ 100000) (hn : n ≤ xs.length) :
   Calls Try.prog 27 #[v, .int .i64 0, .int .i64 (n : Int)] w fun e w' => ∃ v', e = .returned v' ∧ Rw 3 1 encI B w' v' (xs.drop n) ∧ Chg (fun j => v.ownBlock = some j) w w' ∧ v'.ownBlock = v.ownBlock := by
  have H := hide h
  obtain ⟨L, hL⟩ : ∃ L, L = xs.length := ⟨_, rfl⟩
  by_cases h0 : n = 0
  · subst h0
    have hfin : Hid (xs.drop 0 = xs) := List.drop_zero
    rcases h.2 with ⟨rfl, h1⟩ | ⟨g, cap, cur, rfl, hB, hr, q1, q2, q3, q4⟩
    · clear h
      go_enter Try.func27, Try.ntmps27
      go_wp2
      all_goals (go_ret; exact ⟨_, rfl, by rw [hfin.out]; exact H.out, Chg.refl _ _, rfl⟩)
    · rw [← hL] at q1 hl ⊢
      have hq : (L : Int) ≤ (cap : Int) := by omega
      have hm : cap ≤ 9223372036854775807 := q2
      have HL := hide hL
      clear h hr q3 q4 hL hn
      go_enter Try.func27, Try.ntmps27
      go_wp2
      all_goals (go_ret; exact ⟨_, rfl, by rw [hfin.out, HL.out]; exact H.out, Chg.refl _ _, rfl⟩)
  · obtain ⟨i0, hi0, hz0, hz1, hz2⟩ := info_parts info3
    rcases h.2 with ⟨rfl, h1⟩ | ⟨g, cap, cur, rfl, hB, hr, q1, q2, q3, q4⟩
    · omega
    · obtain ⟨news, hnews⟩ : ∃ news, news = (xs.drop n).flatMap encI := ⟨_, rfl⟩
      have hlen : news.length = (xs.length - n) * 1 := by rw [hnews, flat_gen _ (fun y hy => lenI xs y (List.mem_of_mem_drop hy)), List.length_drop]
      have hget : ∀ t u, news[t]? = some u → w.drew.cell? ⟨g, n * 1 + t, none⟩ = some u := fun t u hu => by
        have ht := (List.getElem?_eq_some_iff.1 hu).1
        rw [hnews, drop_flat xs (lenI xs) n hn, List.getElem?_drop, ← q4, List.getElem?_take, if_pos (by omega)] at hu
        show w.cell? _ = _
        rw [cell_of_row w g _ _ _ _ hr]
        simpa using hu
      obtain ⟨A, hA, hsrc⟩ : ∃ A : Addr, (if cap = n then some (⟨g, 0, none⟩ : Addr) else some ⟨g, n, none⟩) = some A ∧ Hid (∀ t u, news[t]? = some u → w.drew.cell? (A.add t) = some u) := by
        by_cases e : cap = n
        · refine ⟨⟨g, 0, none⟩, by simp [e], fun t u hu => ?_⟩
          have e0 : news.length = 0 := by rw [hlen]; omega
          rw [List.length_eq_zero_iff.1 e0] at hu
          simp at hu
        · refine ⟨⟨g, n, none⟩, by simp [e], fun t u hu => ?_⟩
          rw [Addr.add_lit]
          have := hget t u hu
          rw [Nat.mul_one] at this
          exact this
      have s1 : Hid (news.length = (L - n) * 1) := by rw [hL]; exact hlen
      have s2 : Hid (∀ u ∈ news, u.oneCell' = true) := fun u hu => by
        rw [hnews, List.mem_flatMap] at hu
        obtain ⟨y, _, hy⟩ := hu
        exact kdI.one y u hy
      have s3 : Hid (∀ t, t < news.length → (w.drew.cell? ⟨g, 0 + 0 * 1 + t, none⟩).isSome = true ∧ w.drew.frozen? ⟨g, 0 + 0 * 1 + t, none⟩ = false) := fun t ht => by
        refine ⟨?_, frozen_of_row w.drew g _ cur _ hr⟩
        have hlt : 0 + 0 * 1 + t < cur.size := by rw [q3]; omega
        rw [cell_of_row w.drew g _ _ _ _ hr, Array.getElem?_eq_getElem hlt]; rfl
      -- the world behind the append
      obtain ⟨W1, hW1⟩ : ∃ W1, W1 = w.drew.setCells g (0 + 0 * 1) news := ⟨_, rfl⟩
      obtain ⟨c1, r1, z1, f1⟩ := setCells_block g news (0 + 0 * 1) w.drew cur 3 hr
      rw [← hW1] at r1
      have b1 : Chg (fun j => some g = some j) w W1 := by rw [hW1]; exact Chg.setCells g _ _ _ (Chg.refl _ w).drew (fun _ => rfl)
      obtain ⟨Z, hZ, hZl⟩ : ∃ Z, Z = (Builtin.zeroCells (.int .i64 0 : Value).cells n).toList ∧ Z.length = n * 1 := ⟨_, rfl, zeroCells_len _ _⟩
      have hcl : ∀ ty, (Builtin.clear_ #[27] ty #[.slice (some ⟨g, (L - n), none⟩) (L - (L - n)) (cap - (L - n))]).run Try.prog W1 = .ok (.tuple #[]) (W1.setCells g ((L - n)) Z) := fun ty => by
        have := run_clear_any (P := Try.prog) W1 27 3 ty (.int .i64 0) Try.underlying27 kzeroI (by simp [Value.cells, Value.oneCell']) g ((L - n)) n (cap - (L - n)) (by omega) (fun j hj => by
          have hj2 : j < n * 1 := hj
          have hlt : (L - n) + j < c1.size := by rw [z1, q3]; omega
          rw [cell_of_row W1 g _ _ _ _ r1, Array.getElem?_eq_getElem hlt]; rfl) (fun j _ => frozen_of_row W1 g _ c1 _ r1)
        rw [hZ, show L - (L - n) = n by omega]
        exact this
      obtain ⟨W2, hW2⟩ : ∃ W2, W2 = W1.setCells g ((L - n)) Z := ⟨_, rfl⟩
      obtain ⟨c2, r2, z2, f2⟩ := setCells_block g Z ((L - n)) W1 c1 3 r1
      rw [← hW2] at r2
      have b2 : Chg (fun j => some g = some j) w W2 := by rw [hW2]; exact Chg.setCells g _ _ _ b1 (fun _ => rfl)
      have fin : Hid (Rw 3 1 encI B W2 (.slice (some ⟨g, 0, none⟩) (L - n) cap) (xs.drop n)) := by
        have hdl : (xs.drop n).length = L - n := by rw [List.length_drop, hL]
        refine ⟨by rw [← hnews, hdl]; exact s1.out, Or.inr ⟨g, cap, c2, by rw [hdl], hB, r2, by omega, q2, by rw [z2, z1, q3], ?_⟩⟩
        rw [hdl, ← hnews]
        apply List.ext_getElem?
        intro j
        have e1 := s1.out
        rw [List.getElem?_take]
        by_cases hj : j < (L - n) * 1
        · have hjc : j < cur.size := by rw [q3]; omega
          rw [if_pos hj, Array.getElem?_toList, f2 j (by rw [z1]; exact hjc), if_neg (by omega), f1 j hjc, if_pos (by omega), show j - (0 + 0 * 1) = j by omega]
        · rw [if_neg hj, List.getElem?_eq_none (by omega)]
      have chg : Hid (Chg (fun j => (Value.slice (some ⟨g, 0, none⟩) L cap).ownBlock = some j) w W2) := b2
      have hWa : Hid (W1 = w.drew.setCells g (0 + 0 * 1) news) := hW1
      have hic : n ≤ cap := by omega
      have hnL : n ≤ L := by omega
      have hm : cap ≤ 9223372036854775807 := q2
      rw [← hL] at q1
      rw [← hW2] at hcl
      rw [← hL]
      clear hW1 hW2 hget hnews hlen h hr q3 q4 r1 r2 z1 z2 f1 f2 b1 b2 hZ hZl hn hl hL
      go_enter Try.func27, Try.ntmps27
      go_wp2_with fail
      go_region_law (refine step_append_room rfl (.tmp 22) (.tmp 25) 27 rfl 3 i0 1 Try.underlying27 hi0 hz1 g 0 0 cap (by simp [Act.eval, Act.put]) A (L - n) (cap - n) news (by simp [Act.eval, Act.put]) s1.out hsrc.out s2.out (by omega) s3.out ?_; rw [← hWa.out])
      go_wp2
      go_ret
      exact ⟨_, rfl, by first | exact fin.out | (rw [Nat.zero_add]; exact fin.out), chg.out, rfl⟩

theorem kzeroS (w : World) : (zeroValue 9).run Try.prog w = .ok (.string ⟨#[]⟩) w := by
  obtain ⟨i, hi, hz, _, _⟩ := info_parts info9
  simp [zeroValue, typeInfo, hi, hz]
theorem anewS_any (B : Nat) (w : World) (v : Value) (xs : List (ByteArray)) (h : Rw 9 1 encS B w v xs) (hl : xs.length ≤ 100000) :
   Calls Try.prog 32 #[v] w fun e w' => ∃ u, e = .returned u ∧ Rw 9 1 encS w.heap.size w' u xs ∧ Below w.heap.size w w' := by
  have APP : Hid (∃ v' w', (Builtin.append_ #[53, 53] 53 #[.slice none 0 0, v]).run Try.prog w = .ok v' w' ∧ (Rw 9 1 encS w.heap.size w' v' xs ∧ Below w.heap.size w w')) := by
    obtain ⟨v', w', hr, hrow, hc⟩ := Rw.append kdS 53 (Rw.nil 9 1 encS w.heap.size w) h.src (lenS xs) (by simpa using hl) (Nat.le_refl _)
    rw [List.nil_append] at hrow
    exact ⟨v', w', hr, hrow, hc.below w.heap.size (Nat.le_refl _) (fun k _ e => by simp [Value.ownBlock] at e)⟩
  clear h
  go_enter Try.func32, Try.ntmps32
  go_wp2_with (at_builtin; refine wpList_append_known rfl (.const (.slice none 0 0)) (.tmp 3) 53 53 rfl _ _ rfl rfl APP.out ?_; rintro v1 w1 ⟨hrow, hb⟩; have R1 := hide hrow; have B1 := hide hb; clear hrow hb)
  go_ret
  exact ⟨_, rfl, R1.out, B1.out⟩

set_option maxHeartbeats 4000000 in
set_option maxRecDepth 1000000 in
theorem deleteS_any (B : Nat) (w : World) (v : Value) (xs : List (ByteArray)) (n : Nat) (h : Rw 9 1 encS B w v xs) (hl : xs.length ≤ 100000) (hn : n ≤ xs.length) :
   Calls Try.prog 33 #[v, .int .i64 0, .int .i64 (n : Int)] w fun e w' => ∃ v', e = .returned v' ∧ Rw 9 1 encS B w' v' (xs.drop n) ∧ Chg (fun j => v.ownBlock = some j) w w' ∧ v'.ownBlock = v.ownBlock := by
  have H := hide h
  obtain ⟨L, hL⟩ : ∃ L, L = xs.length := ⟨_, rfl⟩
  by_cases h0 : n = 0
  · subst h0
    have hfin : Hid (xs.drop 0 = xs) := List.drop_zero
    rcases h.2 with ⟨rfl, h1⟩ | ⟨g, cap, cur, rfl, hB, hr, q1, q2, q3, q4⟩
    · clear h
      go_enter Try.func33, Try.ntmps33
      go_wp2
      all_goals (go_ret; exact ⟨_, rfl, by rw [hfin.out]; exact H.out, Chg.refl _ _, rfl⟩)
    · rw [← hL] at q1 hl ⊢
      have hq : (L : Int) ≤ (cap : Int) := by omega
      have hm : cap ≤ 9223372036854775807 := q2
      have HL := hide hL
      clear h hr q3 q4 hL hn
      go_enter Try.func33, Try.ntmps33
      go_wp2
      all_goals (go_ret; exact ⟨_, rfl, by rw [hfin.out, HL.out]; exact H.out, Chg.refl _ _, rfl⟩)
  · obtain ⟨i0, hi0, hz0, hz1, hz2⟩ := info_parts info9
    rcases h.2 with ⟨rfl, h1⟩ | ⟨g, cap, cur, rfl, hB, hr, q1, q2, q3, q4⟩
    · omega
    · obtain ⟨news, hnews⟩ : ∃ news, news = (xs.drop n).flatMap encS := ⟨_, rfl⟩
      have hlen : news.length = (xs.length - n) * 1 := by rw [hnews, flat_gen _ (fun y hy => lenS xs y (List.mem_of_mem_drop hy)), List.length_drop]
      have hget : ∀ t u, news[t]? = some u → w.drew.cell? ⟨g, n * 1 + t, none⟩ = some u := fun t u hu => by
        have ht := (List.getElem?_eq_some_iff.1 hu).1
        rw [hnews, drop_flat xs (lenS xs) n hn, List.getElem?_drop, ← q4, List.getElem?_take, if_pos (by omega)] at hu
        show w.cell? _ = _
        rw [cell_of_row w g _ _ _ _ hr]
        simpa using hu
      obtain ⟨A, hA, hsrc⟩ : ∃ A : Addr, (if cap = n then some (⟨g, 0, none⟩ : Addr) else some ⟨g, n, none⟩) = some A ∧ Hid (∀ t u, news[t]? = some u → w.drew.cell? (A.add t) = some u) := by
        by_cases e : cap = n
        · refine ⟨⟨g, 0, none⟩, by simp [e], fun t u hu => ?_⟩
          have e0 : news.length = 0 := by rw [hlen]; omega
          rw [List.length_eq_zero_iff.1 e0] at hu
          simp at hu
        · refine ⟨⟨g, n, none⟩, by simp [e], fun t u hu => ?_⟩
          rw [Addr.add_lit]
          have := hget t u hu
          rw [Nat.mul_one] at this
          exact this
      have s1 : Hid (news.length = (L - n) * 1) := by rw [hL]; exact hlen
      have s2 : Hid (∀ u ∈ news, u.oneCell' = true) := fun u hu => by
        rw [hnews, List.mem_flatMap] at hu
        obtain ⟨y, _, hy⟩ := hu
        exact kdS.one y u hy
      have s3 : Hid (∀ t, t < news.length → (w.drew.cell? ⟨g, 0 + 0 * 1 + t, none⟩).isSome = true ∧ w.drew.frozen? ⟨g, 0 + 0 * 1 + t, none⟩ = false) := fun t ht => by
        refine ⟨?_, frozen_of_row w.drew g _ cur _ hr⟩
        have hlt : 0 + 0 * 1 + t < cur.size := by rw [q3]; omega
        rw [cell_of_row w.drew g _ _ _ _ hr, Array.getElem?_eq_getElem hlt]; rfl
      -- the world behind the append
      obtain ⟨W1, hW1⟩ : ∃ W1, W1 = w.drew.setCells g (0 + 0 * 1) news := ⟨_, rfl⟩
      obtain ⟨c1, r1, z1, f1⟩ := setCells_block g news (0 + 0 * 1) w.drew cur 9 hr
      rw [← hW1] at r1
      have b1 : Chg (fun j => some g = some j) w W1 := by rw [hW1]; exact Chg.setCells g _ _ _ (Chg.refl _ w).drew (fun _ => rfl)
      obtain ⟨Z, hZ, hZl⟩ : ∃ Z, Z = (Builtin.zeroCells (.string ⟨#[]⟩ : Value).cells n).toList ∧ Z.length = n * 1 := ⟨_, rfl, zeroCells_len _ _⟩
      have hcl : ∀ ty, (Builtin.clear_ #[53] ty #[.slice (some ⟨g, (L - n), none⟩) (L - (L - n)) (cap - (L - n))]).run Try.prog W1 = .ok (.tuple #[]) (W1.setCells g ((L - n)) Z) := fun ty => by
        have := run_clear_any (P := Try.prog) W1 53 9 ty (.string ⟨#[]⟩) Try.underlying53 kzeroS (by simp [Value.cells, Value.oneCell']) g ((L - n)) n (cap - (L - n)) (by omega) (fun j hj => by
          have hj2 : j < n * 1 := hj
          have hlt : (L - n) + j < c1.size := by rw [z1, q3]; omega
          rw [cell_of_row W1 g _ _ _ _ r1, Array.getElem?_eq_getElem hlt]; rfl) (fun j _ => frozen_of_row W1 g _ c1 _ r1)
        rw [hZ, show L - (L - n) = n by omega]
        exact this
      obtain ⟨W2, hW2⟩ : ∃ W2, W2 = W1.setCells g ((L - n)) Z := ⟨_, rfl⟩
      obtain ⟨c2, r2, z2, f2⟩ := setCells_block g Z ((L - n)) W1 c1 9 r1
      rw [← hW2] at r2
      have b2 : Chg (fun j => some g = some j) w W2 := by rw [hW2]; exact Chg.setCells g _ _ _ b1 (fun _ => rfl)
      have fin : Hid (Rw 9 1 encS B W2 (.slice (some ⟨g, 0, none⟩) (L - n) cap) (xs.drop n)) := by
        have hdl : (xs.drop n).length = L - n := by rw [List.length_drop, hL]
        refine ⟨by rw [← hnews, hdl]; exact s1.out, Or.inr ⟨g, cap, c2, by rw [hdl], hB, r2, by omega, q2, by rw [z2, z1, q3], ?_⟩⟩
        rw [hdl, ← hnews]
        apply List.ext_getElem?
        intro j
        have e1 := s1.out
        rw [List.getElem?_take]
        by_cases hj : j < (L - n) * 1
        · have hjc : j < cur.size := by rw [q3]; omega
          rw [if_pos hj, Array.getElem?_toList, f2 j (by rw [z1]; exact hjc), if_neg (by omega), f1 j hjc, if_pos (by omega), show j - (0 + 0 * 1) = j by omega]
        · rw [if_neg hj, List.getElem?_eq_none (by omega)]
      have chg : Hid (Chg (fun j => (Value.slice (some ⟨g, 0, none⟩) L cap).ownBlock = some j) w W2) := b2
      have hWa : Hid (W1 = w.drew.setCells g (0 + 0 * 1) news) := hW1
      have hic : n ≤ cap := by omega
      have hnL : n ≤ L := by omega
      have hm : cap ≤ 9223372036854775807 := q2
      rw [← hL] at q1
      rw [← hW2] at hcl
      rw [← hL]
      clear hW1 hW2 hget hnews hlen h hr q3 q4 r1 r2 z1 z2 f1 f2 b1 b2 hZ hZl hn hl hL
      go_enter Try.func33, Try.ntmps33
      go_wp2_with fail
      go_region_law (refine step_append_room rfl (.tmp 22) (.tmp 25) 53 rfl 9 i0 1 Try.underlying53 hi0 hz1 g 0 0 cap (by simp [Act.eval, Act.put]) A (L - n) (cap - n) news (by simp [Act.eval, Act.put]) s1.out hsrc.out s2.out (by omega) s3.out ?_; rw [← hWa.out])
      go_wp2
      go_ret
      exact ⟨_, rfl, by first | exact fin.out | (rw [Nat.zero_add]; exact fin.out), chg.out, rfl⟩

end Go.Proofs.Ytghcgkcojgmbkaa
