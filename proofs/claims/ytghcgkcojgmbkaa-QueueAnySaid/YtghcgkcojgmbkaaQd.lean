/- What a queue's methods do. -/
import Derived.Test.YtghcgkcojgmbkaaQc
import Derived.OneCell
import Derived.Great.BuildSlice
namespace Go.Proofs.Ytghcgkcojgmbkaa
open Go.RowKit
theorem Rw.append2 {α : Type} {el : TypeId} {k : Nat} {enc : α → List Value} {B : Nat} {w : World} {v : Value} {xs : List α} {t : TypeId} {bytes : Nat} (K : Kd Try.prog t el k bytes enc) (ty : TypeId) {u : Value} {ys : List α} (h : Rw el k enc B w v xs) (hu : Sce enc w u ys) (hk : ∀ y ∈ ys, (enc y).length = k) (hl : xs.length + ys.length ≤ 100000) (hB : B ≤ w.heap.size) :
    ∃ v' w', (Builtin.append_ #[t, t] ty #[v, u]).run Try.prog w = .ok v' w' ∧ (Rw el k enc B w' v' (xs ++ ys) ∧ w.grownBy w' v.ownBlock ∧ Chg (fun j => v.ownBlock = some j) w w' ∧ ∀ j, v'.ownBlock = some j → v.ownBlock = some j ∨ w.heap.size ≤ j) := by
  obtain ⟨i, z, hi, hz, hs, hby, hzs⟩ := K.hi
  have hb := K.hb
  have hlx := h.1
  rcases hu with ⟨rfl, rfl⟩ | ⟨a, c, rfl, hc⟩
  · exact ⟨v, w, run_append_owned_none (P := Try.prog) (w := w) B t ty el i k K.ht hi v xs.length (xs.flatMap enc) h, by rw [List.append_nil]; exact h, ⟨rfl, rfl, rfl, Nat.le_refl _, fun _ _ _ => rfl⟩, Chg.refl _ _, fun j hj => Or.inl hj⟩
  · have hone : ∀ x ∈ ys.flatMap enc, x.oneCell' = true := fun x hx => by
      rw [List.mem_flatMap] at hx
      obtain ⟨y, _, hy⟩ := hx
      exact K.one y x hy
    have hby2 : (xs.length + ys.length) * bytes ≤ 140737488355328 := by
      have : (xs.length + ys.length) * bytes ≤ 100000 * 1000 := Nat.mul_le_mul hl hb
      omega
    have hly := flat_gen ys hk
    obtain ⟨v', w', h1, h2, h3, h4⟩ := run_append_own (P := Try.prog) w B t ty el i z k bytes K.ht hi hz hs hby hzs K.hk v xs.length (xs.flatMap enc) h a ys.length c (ys.flatMap enc) hly hc hone (by simp [maxLen]; omega) hby2 hB
    refine ⟨v', w', h1, by unfold Rw; rw [List.length_append, List.flatMap_append]; exact h2, h3, (Chg.refl _ w).grown h3 (fun k _ e => e), fun j hj => ?_⟩
    rcases h.2 with ⟨rfl, h0⟩ | ⟨g, cap, cur, rfl, _, r1, r2, _, r3, r4⟩
    · have hx0 : xs = [] := List.length_eq_zero_iff.1 h0
      subst hx0
      obtain ⟨v2, w2, g1, g2, _, _⟩ := run_append_own (P := Try.prog) w w.heap.size t ty el i z k bytes K.ht hi hz hs hby hzs K.hk (.slice none 0 0) 0 [] (World.ownsRow_nil w w.heap.size el k) a ys.length c (ys.flatMap enc) hly hc hone (by simp [maxLen]; simp at hl; omega) (by simpa using hby2) (Nat.le_refl _)
      rw [h1] at g1
      simp only [Result.ok.injEq] at g1
      obtain ⟨rfl, rfl⟩ := g1
      exact Or.inr (World.ownsRow.lt g2 j hj).1
    · by_cases hroom : xs.length + ys.length ≤ cap
      · have hr2 := run_append_room (P := Try.prog) w t ty el i K.ht hi g xs.length cap cur r1 a ys.length c (ys.flatMap enc) (by rw [hly, hs]) hc hone hroom (by rw [hly, r3, hs, ← Nat.add_mul]; exact Nat.mul_le_mul_right _ hroom)
        rw [h1] at hr2
        simp only [Result.ok.injEq] at hr2
        rw [hr2.1] at hj
        exact Or.inl hj
      · have holds : ∀ j u, (xs.flatMap enc)[j]? = some u → w.cell? ((⟨g, 0, none⟩ : Addr).add j) = some u := fun j u hu => by
          have hj := (List.getElem?_eq_some_iff.1 hu).1
          rw [hlx] at hj
          rw [Addr.add_lit, Nat.zero_add, cell_of_row w g j _ _ _ r1]
          rw [← r4, List.getElem?_take, if_pos hj] at hu
          simpa using hu
        have hr2 := run_append_grow (P := Try.prog) w t ty el i z K.ht hi hz ⟨g, 0, none⟩ xs.length cap (xs.flatMap enc) (by rw [hlx, hs]) holds a ys.length c (ys.flatMap enc) (by rw [hly, hs]) hc (by omega) (by omega) (growslice_fits (by omega) (by rw [hby]; exact hby2))
        rw [h1] at hr2
        simp only [Result.ok.injEq] at hr2
        rw [hr2.1] at hj
        simp only [Value.ownBlock, Option.some.injEq] at hj
        exact Or.inr (by omega)

theorem newI_any (w : World) :
   Calls Try.prog 7 #[] w fun e w' => e = .returned (.pointer (some ⟨w.heap.size, 0, none⟩)) ∧ QAt 58 3 1 encI w.heap.size w' w.heap.size (.slice none 0 0) [] ∧ Below w.heap.size w w' := by
  have R : Hid ((w.alloc (.cells #[.slice none 0 0] 58)).heap[w.heap.size]? = some (.cells #[.slice none 0 0] 58 (0, 0))) := heap_alloc_new _ _
  have B1 : Hid (Below w.heap.size w (w.alloc (.cells #[.slice none 0 0] 58))) := (Below.refl _ _).alloc (Nat.le_refl _) _
  go_enter Try.func7, Try.ntmps7
  go_wp2
  go_ret
  exact ⟨rfl, ⟨R.out, Rw.nil _ _ _ _ _, by simp, Nat.le_refl _⟩, B1.out⟩

theorem lenI_any (B : Nat) (w : World) (g : Nat) (v : Value) (xs : List (Int)) (h : QAt 58 3 1 encI B w g v xs) :
   Calls Try.prog 12 #[.pointer (some ⟨g, 0, none⟩)] w fun e w' => e = .returned (.int .i64 (xs.length : Int)) ∧ Still w w' := by
  obtain ⟨ao, cap, rfl⟩ := h.list.form
  have c0 := cells1 h.row
  clear h
  go_enter Try.func12, Try.ntmps12
  go_wp2
  go_ret
  exact ⟨rfl, Still.refl _⟩

theorem placeI_any (B : Nat) (w : World) (g : Nat) (v : Value) (xs : List (Int)) (x : Int) (h : QAt 58 3 1 encI B w g v xs) :
   Calls Try.prog 10 #[.pointer (some ⟨g, 0, none⟩), .int .i64 x] w fun e w' => e = .returned (.tuple #[.int .i64 (S.placeA xs x).1, .bool (S.placeA xs x).2]) ∧ Below w.heap.size w w' := by
  have H := hide h
  have c0 := cells1 h.row
  have hf := h.few
  clear h
  by_cases hm : x ∈ xs
  · have e1 : Hid (S.idx xs x = ((S.ahead xs x : Nat) : Int)) := S.idx_yes hm
    rw [S.placeA_yes hm]
    obtain ⟨a, ha⟩ : ∃ a, a = S.ahead xs x := ⟨_, rfl⟩
    rw [← ha] at e1 ⊢
    have q1 : (0 : Int) ≤ (a : Int) := by omega
    clear ha
    go_enter Try.func10, Try.ntmps10
    go_wp2_with fail
    go_at_call 28
    refine (findI_any B w v xs x H.out.list (by omega)).mono ?_
    rintro e w1 ⟨rfl, hb⟩
    have B1 := hide hb
    clear hb
    rw [e1.out]
    go_wp2
    exact bodyPost_ret (v := .tuple #[.int .i64 (a : Int), .bool true]) (by simp [results, Try.results10]) rfl ⟨rfl, B1.out⟩
  · have e1 : Hid (S.idx xs x = -1) := S.idx_no hm
    rw [S.placeA_no hm]
    go_enter Try.func10, Try.ntmps10
    go_wp2_with fail
    go_at_call 28
    refine (findI_any B w v xs x H.out.list (by omega)).mono ?_
    rintro e w1 ⟨rfl, hb⟩
    have B1 := hide hb
    clear hb
    rw [e1.out]
    go_wp2
    exact bodyPost_ret (v := .tuple #[.int .i64 0, .bool false]) (by simp [results, Try.results10]) rfl ⟨rfl, B1.out⟩

theorem allI_any (B : Nat) (w : World) (g : Nat) (v : Value) (xs : List (Int)) (h : QAt 58 3 1 encI B w g v xs) :
   Calls Try.prog 14 #[.pointer (some ⟨g, 0, none⟩)] w fun e w' => ∃ u, e = .returned u ∧ Rw 3 1 encI w.heap.size w' u xs ∧ Below w.heap.size w w' := by
  have H := hide h
  have c0 := cells1 h.row
  have hf := h.few
  clear h
  go_enter Try.func14, Try.ntmps14
  go_wp2_with fail
  go_at_call 26
  refine (anewI_any B w v xs H.out.list (by omega)).mono ?_
  rintro e w1 ⟨u, rfl, hr, hb⟩
  have R1 := hide hr
  have B1 := hide hb
  clear hr hb
  go_wp2
  go_ret
  exact ⟨_, rfl, R1.out, B1.out⟩

theorem takeI_end (B : Nat) (w w1 w2 : World) (g : Nat) (v v' u : Value) (xs : List (Int)) (m : Nat) (H : QAt 58 3 1 encI B w g v xs) (hm : m ≤ xs.length)
    (R1 : Rw 3 1 encI w.heap.size w1 u (xs.take m)) (B1 : Below w.heap.size w w1) (R2 : Rw 3 1 encI B w2 v' (xs.drop m)) (C2 : Chg (fun j => v.ownBlock = some j) w1 w2) (O2 : v'.ownBlock = v.ownBlock)
    (g2 : w2.heap[g]? = some (.cells #[v] 58 (0, 0))) :
    ∃ u' v2, Ending.returned u = .returned u' ∧ Rw 3 1 encI w.heap.size (w2.setCell ⟨g, 0, none⟩ v') u' (xs.take m) ∧ QAt 58 3 1 encI B (w2.setCell ⟨g, 0, none⟩ v') g v2 (xs.drop m) ∧ QTo w g v (w2.setCell ⟨g, 0, none⟩ v') v2 ∧ v2.ownBlock = v.ownBlock := by
  have hng : v.ownBlock ≠ some g := H.list.apart H.row (by decide)
  have C3 : Chg (fun j => j = g) w2 (w2.setCell ⟨g, 0, none⟩ v') := (Chg.refl _ w2).setCell g 0 v' (fun _ => rfl)
  have hgl := H.g_lt
  refine ⟨u, v', rfl, ?_, ⟨?_, ?_, ?_, H.lo⟩, ⟨?_, fun j hj => Or.inl (by rw [← O2]; exact hj)⟩, O2⟩
  · refine (R1.chg C2 (fun j hj c => ?_)).chg C3 (fun j hj c => ?_)
    · have := (R1.blk hj).1; have := H.v_lt c; omega
    · have := (R1.blk hj).1; omega
  · exact one_setCell g2
  · exact R2.chg C3 (fun j hj c => hng (by rw [← O2, hj, c]))
  · have := H.few; rw [List.length_drop]; omega
  · have C1 : Chg (fun j => j = g ∨ v.ownBlock = some j) w w1 := Chg.ofBelow' B1
    exact (C1.trans C2 (fun j _ c => Or.inr c)).trans C3 (fun j _ c => Or.inl c)

set_option maxHeartbeats 1600000 in
theorem takeI_any (B : Nat) (w : World) (g : Nat) (v : Value) (xs : List (Int)) (n : Int) (h : QAt 58 3 1 encI B w g v xs) :
   Calls Try.prog 9 #[.pointer (some ⟨g, 0, none⟩), .int .i64 n] w fun e w' => ∃ u v', e = .returned u ∧ Rw 3 1 encI w.heap.size w' u (xs.take (S.many xs n)) ∧ QAt 58 3 1 encI B w' g v' (xs.drop (S.many xs n)) ∧ QTo w g v w' v' ∧ v'.ownBlock = v.ownBlock := by
  have H := hide h
  have hf := h.few
  obtain ⟨m, hm⟩ : ∃ m, m = S.many xs n := ⟨_, rfl⟩
  have hle : m ≤ xs.length := by rw [hm]; exact S.many_le xs n
  have e1 : min (max n 0) (xs.length : Int) = (m : Int) := by rw [hm]; exact S.many_eq xs n
  rw [← hm]
  clear hm
  obtain ⟨L, hL⟩ : ∃ L, L = xs.length := ⟨_, rfl⟩
  obtain ⟨ao, cap, rfl⟩ := h.list.form
  have hcap : L ≤ cap := by
    rcases h.list.2 with ⟨e, h0⟩ | ⟨g', cap', cur, e, _, _, q1, _⟩
    · omega
    · simp only [Value.slice.injEq] at e; omega
  have HT : Hid (Rw 3 1 encI B w (.slice ao m cap) (xs.take m)) := h.list.take (lenI xs) m hle
  have c0 := cells1 h.row
  have HROW := hide h.row
  have HG := hide h.g_lt
  rw [← hL] at c0 e1 hle
  have HL := hide hL
  have hng : Hid ((Value.slice ao xs.length cap).ownBlock ≠ some g) := h.list.apart h.row (by decide)
  clear h
  rw [← hL] at hf ⊢
  clear hL
  have q3 : (L : Int) ≤ (cap : Int) := by omega
  by_cases hn : n < 0
  · obtain rfl : m = 0 := by omega
    clear e1 hle
    go_enter Try.func9, Try.ntmps9
    go_wp2_with fail
    go_at_call 26
    refine (anewI_any B w (.slice ao 0 cap) (xs.take 0) HT.out (by rw [List.length_take]; have := HL.out; omega)).mono ?_
    rintro e w1 ⟨u, rfl, hr1, hb1⟩
    have c1 := cells1 ((hb1.block g HG.out).trans HROW.out)
    have R1 := hide hr1
    have B1 := hide hb1
    clear hr1 hb1
    rw [← HL.out] at c1
    go_wp2_with fail
    go_at_call 27
    refine (deleteI_any B w1 (.slice ao L cap) xs 0 (by rw [HL.out]; exact H.out.list.below B1.out) (by have := HL.out; omega) (by have := HL.out; omega)).mono ?_
    rintro e w2 ⟨v', rfl, hr2, hc2, ho2⟩
    obtain ⟨ao2, l2, cap2, rfl⟩ : ∃ a l c, v' = Value.slice a l c := by obtain ⟨a, c, e⟩ := hr2.form; exact ⟨a, _, c, e⟩
    have g1 : Hid (w1.heap[g]? = some (.cells #[.slice ao L cap] 58 (0, 0))) := by rw [HL.out]; exact (B1.out.block g HG.out).trans HROW.out
    have g2 : Hid (w2.heap[g]? = some (.cells #[.slice ao L cap] 58 (0, 0))) := hc2.row g1.out (by rw [HL.out]; exact hng.out)
    have c2 := cells1 g2.out
    have z2 : w2.frozen? ⟨g, 0, none⟩ = false := frozen_of_row w2 g 0 _ _ g2.out
    have R2 := hide hr2
    have C2 := hide hc2
    have O2 := hide ho2
    clear hr2 hc2 ho2
    go_wp2
    go_ret
    exact takeI_end B w w1 w2 g (.slice ao L cap) _ u xs 0 (by rw [HL.out]; exact H.out) (by have := HL.out; omega) R1.out B1.out R2.out C2.out O2.out g2.out
  · by_cases hn2 : n ≤ (L : Int)
    · obtain rfl : n = (m : Int) := by omega
      have q4 : (m : Int) ≤ (cap : Int) := by omega
      clear e1
      go_enter Try.func9, Try.ntmps9
      go_wp2_with fail
      go_at_call 26
      refine (anewI_any B w (.slice ao m cap) (xs.take m) HT.out (by rw [List.length_take]; have := HL.out; omega)).mono ?_
      rintro e w1 ⟨u, rfl, hr1, hb1⟩
      have c1 := cells1 ((hb1.block g HG.out).trans HROW.out)
      have R1 := hide hr1
      have B1 := hide hb1
      clear hr1 hb1
      rw [← HL.out] at c1
      go_wp2_with fail
      go_at_call 27
      refine (deleteI_any B w1 (.slice ao L cap) xs m (by rw [HL.out]; exact H.out.list.below B1.out) (by have := HL.out; omega) (by have := HL.out; omega)).mono ?_
      rintro e w2 ⟨v', rfl, hr2, hc2, ho2⟩
      obtain ⟨ao2, l2, cap2, rfl⟩ : ∃ a l c, v' = Value.slice a l c := by obtain ⟨a, c, e⟩ := hr2.form; exact ⟨a, _, c, e⟩
      have g1 : Hid (w1.heap[g]? = some (.cells #[.slice ao L cap] 58 (0, 0))) := by rw [HL.out]; exact (B1.out.block g HG.out).trans HROW.out
      have g2 : Hid (w2.heap[g]? = some (.cells #[.slice ao L cap] 58 (0, 0))) := hc2.row g1.out (by rw [HL.out]; exact hng.out)
      have c2 := cells1 g2.out
      have z2 : w2.frozen? ⟨g, 0, none⟩ = false := frozen_of_row w2 g 0 _ _ g2.out
      have R2 := hide hr2
      have C2 := hide hc2
      have O2 := hide ho2
      clear hr2 hc2 ho2
      go_wp2
      go_ret
      exact takeI_end B w w1 w2 g (.slice ao L cap) _ u xs m (by rw [HL.out]; exact H.out) (by have := HL.out; omega) R1.out B1.out R2.out C2.out O2.out g2.out
    · obtain rfl : m = L := by omega
      clear e1 hle
      go_enter Try.func9, Try.ntmps9
      go_wp2_with fail
      go_at_call 26
      refine (anewI_any B w (.slice ao m cap) (xs.take m) HT.out (by rw [List.length_take]; have := HL.out; omega)).mono ?_
      rintro e w1 ⟨u, rfl, hr1, hb1⟩
      have c1 := cells1 ((hb1.block g HG.out).trans HROW.out)
      have R1 := hide hr1
      have B1 := hide hb1
      clear hr1 hb1
      rw [← HL.out] at c1
      go_wp2_with fail
      go_at_call 27
      refine (deleteI_any B w1 (.slice ao m cap) xs m (by rw [HL.out]; exact H.out.list.below B1.out) (by have := HL.out; omega) (by have := HL.out; omega)).mono ?_
      rintro e w2 ⟨v', rfl, hr2, hc2, ho2⟩
      obtain ⟨ao2, l2, cap2, rfl⟩ : ∃ a l c, v' = Value.slice a l c := by obtain ⟨a, c, e⟩ := hr2.form; exact ⟨a, _, c, e⟩
      have g1 : Hid (w1.heap[g]? = some (.cells #[.slice ao m cap] 58 (0, 0))) := by rw [HL.out]; exact (B1.out.block g HG.out).trans HROW.out
      have g2 : Hid (w2.heap[g]? = some (.cells #[.slice ao m cap] 58 (0, 0))) := hc2.row g1.out (by rw [HL.out]; exact hng.out)
      have c2 := cells1 g2.out
      have z2 : w2.frozen? ⟨g, 0, none⟩ = false := frozen_of_row w2 g 0 _ _ g2.out
      have R2 := hide hr2
      have C2 := hide hc2
      have O2 := hide ho2
      clear hr2 hc2 ho2
      go_wp2
      go_ret
      exact takeI_end B w w1 w2 g (.slice ao m cap) _ u xs m (by rw [HL.out]; exact H.out) (by have := HL.out; omega) R1.out B1.out R2.out C2.out O2.out g2.out

theorem bsI (W : World) (x : Int) : (Instr.buildSlice 27 1 #[(0, .int .i64 x)]).run Try.prog W = .ok (.slice (some ⟨W.heap.size, 0, none⟩) 1 1) (W.alloc (.cells #[.int .i64 x] 3)) := by
  obtain ⟨i, hi, hz, hs, _⟩ := info_parts info3
  refine run_buildSlice W 27 3 1 _ _ i _ Try.underlying27 hi hz (by rw [hs]; omega) (by rw [hs]; omega) ?_
  have h := Great.fill_whole (s := 1) (by omega) [.int .i64 x] ((Array.range (1 * i.size)).map ((.int .i64 0 : Value).cells[· % (.int .i64 0 : Value).cells.size]!)) (fun v hv => by
    simp only [List.mem_singleton] at hv
    subst hv
    rfl) (by simp [hs])
  rw [hs] at h ⊢
  refine h.trans ?_
  simp [Value.cells]

theorem pushI_end (B : Nat) (w w1 W2 w3 : World) (g : Nat) (v v3 : Value) (xs : List (Int)) (x : Int) (H : QAt 58 3 1 encI B w g v xs) (hl : xs.length < 64) (B1 : Below w.heap.size w w1) (B2 : Below w1.heap.size w1 W2)
    (R3 : Rw 3 1 encI B w3 v3 (xs ++ [x])) (C3 : Chg (fun j => v.ownBlock = some j) W2 w3) (O3 : ∀ k, v3.ownBlock = some k → v.ownBlock = some k ∨ W2.heap.size ≤ k) (g3 : w3.heap[g]? = some (.cells #[v] 58 (0, 0))) :
    QAt 58 3 1 encI B (w3.setCell ⟨g, 0, none⟩ v3) g v3 (xs ++ [x]) ∧ QTo w g v (w3.setCell ⟨g, 0, none⟩ v3) v3 := by
  have hng : v.ownBlock ≠ some g := H.list.apart H.row (by decide)
  have C4 : Chg (fun j => j = g) w3 (w3.setCell ⟨g, 0, none⟩ v3) := (Chg.refl _ w3).setCell g 0 v3 (fun _ => rfl)
  have hgl := H.g_lt
  have s1 := B1.size
  have s2 := B2.size
  refine ⟨⟨one_setCell g3, R3.chg C4 (fun j hj c => ?_), by simp; omega, H.lo⟩, ⟨?_, fun j hj => ?_⟩⟩
  · rcases O3 j hj with e | e
    · rw [c] at e; exact hng e
    · omega
  · have C1 : Chg (fun j => j = g ∨ v.ownBlock = some j) w W2 := Chg.ofBelow' (B1.trans (B2.mono s1))
    exact (C1.trans C3 (fun j _ c => Or.inr c)).trans C4 (fun j _ c => Or.inl c)
  · rcases O3 j hj with e | e
    · exact Or.inl e
    · exact Or.inr (by omega)

set_option maxHeartbeats 1600000 in
theorem pushI_any (B : Nat) (w : World) (g : Nat) (v : Value) (xs : List (Int)) (x : Int) (h : QAt 58 3 1 encI B w g v xs) (hB : B ≤ w.heap.size) :
   Calls Try.prog 8 #[.pointer (some ⟨g, 0, none⟩), .int .i64 x] w fun e w' => ∃ v', e = .returned (.tuple #[.int .i64 (S.pushA xs x).1, .bool (S.pushA xs x).2.1, .int .i64 (S.pushA xs x).2.2]) ∧ QAt 58 3 1 encI B w' g v' (S.pushL xs x) ∧ QTo w g v w' v' := by
  have H := hide h
  have hf := h.few
  by_cases hm : x ∈ xs
  · have a1 : Hid (S.pushA xs x = ((S.ahead xs x : Int), true, 0)) := S.pushA_yes hm
    have a2 : Hid (S.pushL xs x = xs) := S.pushL_yes hm
    clear h
    go_enter Try.func8, Try.ntmps8
    go_wp2_with fail
    go_at_call 10
    refine (placeI_any B w g v xs x H.out).mono ?_
    rintro e w1 ⟨rfl, hb⟩
    have B1 := hide hb
    clear hb
    rw [S.placeA_yes hm]
    go_wp2
    refine bodyPost_ret (v := .tuple #[.int .i64 ((S.ahead xs x : Nat) : Int), .bool true, .int .i64 0]) (by simp [results, Try.results8]) rfl ?_
    refine ⟨v, by rw [a1.out], by rw [a2.out]; exact H.out.below B1.out, Chg.ofBelow' B1.out, fun j hj => Or.inl hj⟩
  · by_cases hfull : 64 ≤ xs.length
    · have a1 : Hid (S.pushA xs x = (0, false, 4)) := S.pushA_full hm hfull
      have a2 : Hid (S.pushL xs x = xs) := S.pushL_full hm hfull
      have c0 := fun (w1 : World) (hb : Below w.heap.size w w1) => cells1 (h.below hb).row
      obtain ⟨ao, cap, rfl⟩ := h.list.form
      clear h
      have q1 : ((xs.length : Nat) : Int) ≥ 64 := by omega
      go_enter Try.func8, Try.ntmps8
      go_wp2_with fail
      go_at_call 10
      refine (placeI_any B w g _ xs x H.out).mono ?_
      rintro e w1 ⟨rfl, hb⟩
      have B1 := hide hb
      have c1 := c0 w1 hb
      clear hb c0
      rw [S.placeA_no hm]
      go_wp2
      refine bodyPost_ret (v := .tuple #[.int .i64 0, .bool false, .int .i64 4]) (by simp [results, Try.results8]) rfl ?_
      refine ⟨_, by rw [a1.out], by rw [a2.out]; exact H.out.below B1.out, Chg.ofBelow' B1.out, fun j hj => Or.inl hj⟩
    · have a1 : Hid (S.pushA xs x = ((xs.length : Int), false, 0)) := S.pushA_new hm hfull
      have a2 : Hid (S.pushL xs x = xs ++ [x]) := S.pushL_new hm hfull
      have hbs := bsI
      have HL : Hid (xs.length < 64) := by show _ < _; omega
      obtain ⟨ao, cap, hv⟩ := h.list.form
      have HV := hide hv
      have hng : Hid (v.ownBlock ≠ some g) := h.list.apart h.row (by decide)
      subst hv
      clear h hf
      have q1 : ¬ ((xs.length : Nat) : Int) ≥ 64 := by omega
      go_enter Try.func8, Try.ntmps8
      go_wp2_with fail
      go_at_call 10
      refine (placeI_any B w g _ xs x H.out).mono ?_
      rintro e w1 ⟨rfl, hb⟩
      have B1 := hide hb
      have QA := hide (H.out.below hb)
      have c1 := cells1 QA.out.row
      clear hb
      rw [S.placeA_no hm]
      obtain ⟨W2, hW2⟩ : ∃ W2, W2 = w1.alloc (.cells #[.int .i64 x] 3) := ⟨_, rfl⟩
      have HW2 := hide hW2
      have r2 : Hid (W2.heap[w1.heap.size]? = some (.cells (encI x).toArray 3 (0, 0))) := by rw [hW2]; exact heap_alloc_new _ _
      have B2 : Hid (Below w1.heap.size w1 W2) := by rw [hW2]; exact (Below.refl _ _).alloc (Nat.le_refl _) _
      have APP : Hid (∃ v' w', (Builtin.append_ #[27, 27] 27 #[.slice ao xs.length cap, .slice (some ⟨w1.heap.size, 0, none⟩) 1 1]).run Try.prog W2 = .ok v' w' ∧ (Rw 3 1 encI B w' v' (xs ++ [x]) ∧ W2.grownBy w' (Value.slice ao xs.length cap).ownBlock ∧ Chg (fun j => (Value.slice ao xs.length cap).ownBlock = some j) W2 w' ∧ ∀ k, v'.ownBlock = some k → (Value.slice ao xs.length cap).ownBlock = some k ∨ W2.heap.size ≤ k)) :=
        Rw.append2 kdI 27 (QA.out.list.below B2.out) (Sce.of_row r2.out) (lenI [x]) (by have := HL.out; simp; omega) (by have := B1.out.size; have := B2.out.size; omega)
      clear hW2
      go_wp2_with (at_builtin; rw [← HW2.out]; refine wpList_append_known rfl (.tmp 27) (.tmp 29) 27 27 rfl _ _ rfl rfl APP.out ?_; rintro v3 w3 ⟨hr3, _, hc3, ho3⟩; obtain ⟨ao3, l3, cap3, rfl, hl3⟩ : ∃ a l c, v3 = Value.slice a l c ∧ l = xs.length + 1 := (by obtain ⟨a, c, e⟩ := hr3.form; exact ⟨a, _, c, e, by simp⟩); have q5 : IntKind.i64.wrap ((l3 : Int) - 1) = (xs.length : Int) := (by have := HL.out; rw [IntKind.wrap_i64]; omega); have R3 := hide hr3; have C3 := hide hc3; have O3 := hide ho3; have g3 := hide (hc3.row (B2.out.block g QA.out.g_lt ▸ QA.out.row) hng.out); have c3 := cells1 g3.out; have z3 := frozen_of_row w3 g 0 _ _ g3.out; clear hr3 hc3 ho3 hl3)
      go_wp2
      refine bodyPost_ret (v := .tuple #[.int .i64 (xs.length : Int), .bool false, .int .i64 0]) (by simp [results, Try.results8]) rfl ?_
      exact ⟨_, by rw [a1.out], by rw [a2.out]; exact pushI_end B w w1 W2 w3 g _ _ xs x H.out HL.out B1.out B2.out R3.out C3.out O3.out g3.out⟩

theorem newS_any (w : World) :
   Calls Try.prog 18 #[] w fun e w' => e = .returned (.pointer (some ⟨w.heap.size, 0, none⟩)) ∧ QAt 65 9 1 encS w.heap.size w' w.heap.size (.slice none 0 0) [] ∧ Below w.heap.size w w' := by
  have R : Hid ((w.alloc (.cells #[.slice none 0 0] 65)).heap[w.heap.size]? = some (.cells #[.slice none 0 0] 65 (0, 0))) := heap_alloc_new _ _
  have B1 : Hid (Below w.heap.size w (w.alloc (.cells #[.slice none 0 0] 65))) := (Below.refl _ _).alloc (Nat.le_refl _) _
  go_enter Try.func18, Try.ntmps18
  go_wp2
  go_ret
  exact ⟨rfl, ⟨R.out, Rw.nil _ _ _ _ _, by simp, Nat.le_refl _⟩, B1.out⟩

theorem lenS_any (B : Nat) (w : World) (g : Nat) (v : Value) (xs : List (ByteArray)) (h : QAt 65 9 1 encS B w g v xs) :
   Calls Try.prog 24 #[.pointer (some ⟨g, 0, none⟩)] w fun e w' => e = .returned (.int .i64 (xs.length : Int)) ∧ Still w w' := by
  obtain ⟨ao, cap, rfl⟩ := h.list.form
  have c0 := cells1 h.row
  clear h
  go_enter Try.func24, Try.ntmps24
  go_wp2
  go_ret
  exact ⟨rfl, Still.refl _⟩

theorem placeS_any (B : Nat) (w : World) (g : Nat) (v : Value) (xs : List (ByteArray)) (x : ByteArray) (h : QAt 65 9 1 encS B w g v xs) :
   Calls Try.prog 29 #[.pointer (some ⟨g, 0, none⟩), .string x] w fun e w' => e = .returned (.tuple #[.int .i64 (S.placeA xs x).1, .bool (S.placeA xs x).2]) ∧ Below w.heap.size w w' := by
  have H := hide h
  have c0 := cells1 h.row
  have hf := h.few
  clear h
  by_cases hm : x ∈ xs
  · have e1 : Hid (S.idx xs x = ((S.ahead xs x : Nat) : Int)) := S.idx_yes hm
    rw [S.placeA_yes hm]
    obtain ⟨a, ha⟩ : ∃ a, a = S.ahead xs x := ⟨_, rfl⟩
    rw [← ha] at e1 ⊢
    have q1 : (0 : Int) ≤ (a : Int) := by omega
    clear ha
    go_enter Try.func29, Try.ntmps29
    go_wp2_with fail
    go_at_call 38
    refine (findS_any B w v xs x H.out.list (by omega)).mono ?_
    rintro e w1 ⟨rfl, hb⟩
    have B1 := hide hb
    clear hb
    rw [e1.out]
    go_wp2
    exact bodyPost_ret (v := .tuple #[.int .i64 (a : Int), .bool true]) (by simp [results, Try.results29]) rfl ⟨rfl, B1.out⟩
  · have e1 : Hid (S.idx xs x = -1) := S.idx_no hm
    rw [S.placeA_no hm]
    go_enter Try.func29, Try.ntmps29
    go_wp2_with fail
    go_at_call 38
    refine (findS_any B w v xs x H.out.list (by omega)).mono ?_
    rintro e w1 ⟨rfl, hb⟩
    have B1 := hide hb
    clear hb
    rw [e1.out]
    go_wp2
    exact bodyPost_ret (v := .tuple #[.int .i64 0, .bool false]) (by simp [results, Try.results29]) rfl ⟨rfl, B1.out⟩

theorem takeS_end (B : Nat) (w w1 w2 : World) (g : Nat) (v v' u : Value) (xs : List (ByteArray)) (m : Nat) (H : QAt 65 9 1 encS B w g v xs) (hm : m ≤ xs.length)
    (R1 : Rw 9 1 encS w.heap.size w1 u (xs.take m)) (B1 : Below w.heap.size w w1) (R2 : Rw 9 1 encS B w2 v' (xs.drop m)) (C2 : Chg (fun j => v.ownBlock = some j) w1 w2) (O2 : v'.ownBlock = v.ownBlock)
    (g2 : w2.heap[g]? = some (.cells #[v] 65 (0, 0))) :
    ∃ u' v2, Ending.returned u = .returned u' ∧ Rw 9 1 encS w.heap.size (w2.setCell ⟨g, 0, none⟩ v') u' (xs.take m) ∧ QAt 65 9 1 encS B (w2.setCell ⟨g, 0, none⟩ v') g v2 (xs.drop m) ∧ QTo w g v (w2.setCell ⟨g, 0, none⟩ v') v2 ∧ v2.ownBlock = v.ownBlock := by
  have hng : v.ownBlock ≠ some g := H.list.apart H.row (by decide)
  have C3 : Chg (fun j => j = g) w2 (w2.setCell ⟨g, 0, none⟩ v') := (Chg.refl _ w2).setCell g 0 v' (fun _ => rfl)
  have hgl := H.g_lt
  refine ⟨u, v', rfl, ?_, ⟨?_, ?_, ?_, H.lo⟩, ⟨?_, fun j hj => Or.inl (by rw [← O2]; exact hj)⟩, O2⟩
  · refine (R1.chg C2 (fun j hj c => ?_)).chg C3 (fun j hj c => ?_)
    · have := (R1.blk hj).1; have := H.v_lt c; omega
    · have := (R1.blk hj).1; omega
  · exact one_setCell g2
  · exact R2.chg C3 (fun j hj c => hng (by rw [← O2, hj, c]))
  · have := H.few; rw [List.length_drop]; omega
  · have C1 : Chg (fun j => j = g ∨ v.ownBlock = some j) w w1 := Chg.ofBelow' B1
    exact (C1.trans C2 (fun j _ c => Or.inr c)).trans C3 (fun j _ c => Or.inl c)

set_option maxHeartbeats 1600000 in
theorem takeS_any (B : Nat) (w : World) (g : Nat) (v : Value) (xs : List (ByteArray)) (n : Int) (h : QAt 65 9 1 encS B w g v xs) :
   Calls Try.prog 22 #[.pointer (some ⟨g, 0, none⟩), .int .i64 n] w fun e w' => ∃ u v', e = .returned u ∧ Rw 9 1 encS w.heap.size w' u (xs.take (S.many xs n)) ∧ QAt 65 9 1 encS B w' g v' (xs.drop (S.many xs n)) ∧ QTo w g v w' v' ∧ v'.ownBlock = v.ownBlock := by
  have H := hide h
  have hf := h.few
  obtain ⟨m, hm⟩ : ∃ m, m = S.many xs n := ⟨_, rfl⟩
  have hle : m ≤ xs.length := by rw [hm]; exact S.many_le xs n
  have e1 : min (max n 0) (xs.length : Int) = (m : Int) := by rw [hm]; exact S.many_eq xs n
  rw [← hm]
  clear hm
  obtain ⟨L, hL⟩ : ∃ L, L = xs.length := ⟨_, rfl⟩
  obtain ⟨ao, cap, rfl⟩ := h.list.form
  have hcap : L ≤ cap := by
    rcases h.list.2 with ⟨e, h0⟩ | ⟨g', cap', cur, e, _, _, q1, _⟩
    · omega
    · simp only [Value.slice.injEq] at e; omega
  have HT : Hid (Rw 9 1 encS B w (.slice ao m cap) (xs.take m)) := h.list.take (lenS xs) m hle
  have c0 := cells1 h.row
  have HROW := hide h.row
  have HG := hide h.g_lt
  rw [← hL] at c0 e1 hle
  have HL := hide hL
  have hng : Hid ((Value.slice ao xs.length cap).ownBlock ≠ some g) := h.list.apart h.row (by decide)
  clear h
  rw [← hL] at hf ⊢
  clear hL
  have q3 : (L : Int) ≤ (cap : Int) := by omega
  by_cases hn : n < 0
  · obtain rfl : m = 0 := by omega
    clear e1 hle
    go_enter Try.func22, Try.ntmps22
    go_wp2_with fail
    go_at_call 32
    refine (anewS_any B w (.slice ao 0 cap) (xs.take 0) HT.out (by rw [List.length_take]; have := HL.out; omega)).mono ?_
    rintro e w1 ⟨u, rfl, hr1, hb1⟩
    have c1 := cells1 ((hb1.block g HG.out).trans HROW.out)
    have R1 := hide hr1
    have B1 := hide hb1
    clear hr1 hb1
    rw [← HL.out] at c1
    go_wp2_with fail
    go_at_call 33
    refine (deleteS_any B w1 (.slice ao L cap) xs 0 (by rw [HL.out]; exact H.out.list.below B1.out) (by have := HL.out; omega) (by have := HL.out; omega)).mono ?_
    rintro e w2 ⟨v', rfl, hr2, hc2, ho2⟩
    obtain ⟨ao2, l2, cap2, rfl⟩ : ∃ a l c, v' = Value.slice a l c := by obtain ⟨a, c, e⟩ := hr2.form; exact ⟨a, _, c, e⟩
    have g1 : Hid (w1.heap[g]? = some (.cells #[.slice ao L cap] 65 (0, 0))) := by rw [HL.out]; exact (B1.out.block g HG.out).trans HROW.out
    have g2 : Hid (w2.heap[g]? = some (.cells #[.slice ao L cap] 65 (0, 0))) := hc2.row g1.out (by rw [HL.out]; exact hng.out)
    have c2 := cells1 g2.out
    have z2 : w2.frozen? ⟨g, 0, none⟩ = false := frozen_of_row w2 g 0 _ _ g2.out
    have R2 := hide hr2
    have C2 := hide hc2
    have O2 := hide ho2
    clear hr2 hc2 ho2
    go_wp2
    go_ret
    exact takeS_end B w w1 w2 g (.slice ao L cap) _ u xs 0 (by rw [HL.out]; exact H.out) (by have := HL.out; omega) R1.out B1.out R2.out C2.out O2.out g2.out
  · by_cases hn2 : n ≤ (L : Int)
    · obtain rfl : n = (m : Int) := by omega
      have q4 : (m : Int) ≤ (cap : Int) := by omega
      clear e1
      go_enter Try.func22, Try.ntmps22
      go_wp2_with fail
      go_at_call 32
      refine (anewS_any B w (.slice ao m cap) (xs.take m) HT.out (by rw [List.length_take]; have := HL.out; omega)).mono ?_
      rintro e w1 ⟨u, rfl, hr1, hb1⟩
      have c1 := cells1 ((hb1.block g HG.out).trans HROW.out)
      have R1 := hide hr1
      have B1 := hide hb1
      clear hr1 hb1
      rw [← HL.out] at c1
      go_wp2_with fail
      go_at_call 33
      refine (deleteS_any B w1 (.slice ao L cap) xs m (by rw [HL.out]; exact H.out.list.below B1.out) (by have := HL.out; omega) (by have := HL.out; omega)).mono ?_
      rintro e w2 ⟨v', rfl, hr2, hc2, ho2⟩
      obtain ⟨ao2, l2, cap2, rfl⟩ : ∃ a l c, v' = Value.slice a l c := by obtain ⟨a, c, e⟩ := hr2.form; exact ⟨a, _, c, e⟩
      have g1 : Hid (w1.heap[g]? = some (.cells #[.slice ao L cap] 65 (0, 0))) := by rw [HL.out]; exact (B1.out.block g HG.out).trans HROW.out
      have g2 : Hid (w2.heap[g]? = some (.cells #[.slice ao L cap] 65 (0, 0))) := hc2.row g1.out (by rw [HL.out]; exact hng.out)
      have c2 := cells1 g2.out
      have z2 : w2.frozen? ⟨g, 0, none⟩ = false := frozen_of_row w2 g 0 _ _ g2.out
      have R2 := hide hr2
      have C2 := hide hc2
      have O2 := hide ho2
      clear hr2 hc2 ho2
      go_wp2
      go_ret
      exact takeS_end B w w1 w2 g (.slice ao L cap) _ u xs m (by rw [HL.out]; exact H.out) (by have := HL.out; omega) R1.out B1.out R2.out C2.out O2.out g2.out
    · obtain rfl : m = L := by omega
      clear e1 hle
      go_enter Try.func22, Try.ntmps22
      go_wp2_with fail
      go_at_call 32
      refine (anewS_any B w (.slice ao m cap) (xs.take m) HT.out (by rw [List.length_take]; have := HL.out; omega)).mono ?_
      rintro e w1 ⟨u, rfl, hr1, hb1⟩
      have c1 := cells1 ((hb1.block g HG.out).trans HROW.out)
      have R1 := hide hr1
      have B1 := hide hb1
      clear hr1 hb1
      rw [← HL.out] at c1
      go_wp2_with fail
      go_at_call 33
      refine (deleteS_any B w1 (.slice ao m cap) xs m (by rw [HL.out]; exact H.out.list.below B1.out) (by have := HL.out; omega) (by have := HL.out; omega)).mono ?_
      rintro e w2 ⟨v', rfl, hr2, hc2, ho2⟩
      obtain ⟨ao2, l2, cap2, rfl⟩ : ∃ a l c, v' = Value.slice a l c := by obtain ⟨a, c, e⟩ := hr2.form; exact ⟨a, _, c, e⟩
      have g1 : Hid (w1.heap[g]? = some (.cells #[.slice ao m cap] 65 (0, 0))) := by rw [HL.out]; exact (B1.out.block g HG.out).trans HROW.out
      have g2 : Hid (w2.heap[g]? = some (.cells #[.slice ao m cap] 65 (0, 0))) := hc2.row g1.out (by rw [HL.out]; exact hng.out)
      have c2 := cells1 g2.out
      have z2 : w2.frozen? ⟨g, 0, none⟩ = false := frozen_of_row w2 g 0 _ _ g2.out
      have R2 := hide hr2
      have C2 := hide hc2
      have O2 := hide ho2
      clear hr2 hc2 ho2
      go_wp2
      go_ret
      exact takeS_end B w w1 w2 g (.slice ao m cap) _ u xs m (by rw [HL.out]; exact H.out) (by have := HL.out; omega) R1.out B1.out R2.out C2.out O2.out g2.out

theorem bsS (W : World) (x : ByteArray) : (Instr.buildSlice 53 1 #[(0, .string x)]).run Try.prog W = .ok (.slice (some ⟨W.heap.size, 0, none⟩) 1 1) (W.alloc (.cells #[.string x] 9)) := by
  obtain ⟨i, hi, hz, hs, _⟩ := info_parts info9
  refine run_buildSlice W 53 9 1 _ _ i _ Try.underlying53 hi hz (by rw [hs]; omega) (by rw [hs]; omega) ?_
  have h := Great.fill_whole (s := 1) (by omega) [.string x] ((Array.range (1 * i.size)).map ((.string ⟨#[]⟩ : Value).cells[· % (.string ⟨#[]⟩ : Value).cells.size]!)) (fun v hv => by
    simp only [List.mem_singleton] at hv
    subst hv
    rfl) (by simp [hs])
  rw [hs] at h ⊢
  refine h.trans ?_
  simp [Value.cells]

theorem pushS_end (B : Nat) (w w1 W2 w3 : World) (g : Nat) (v v3 : Value) (xs : List (ByteArray)) (x : ByteArray) (H : QAt 65 9 1 encS B w g v xs) (hl : xs.length < 64) (B1 : Below w.heap.size w w1) (B2 : Below w1.heap.size w1 W2)
    (R3 : Rw 9 1 encS B w3 v3 (xs ++ [x])) (C3 : Chg (fun j => v.ownBlock = some j) W2 w3) (O3 : ∀ k, v3.ownBlock = some k → v.ownBlock = some k ∨ W2.heap.size ≤ k) (g3 : w3.heap[g]? = some (.cells #[v] 65 (0, 0))) :
    QAt 65 9 1 encS B (w3.setCell ⟨g, 0, none⟩ v3) g v3 (xs ++ [x]) ∧ QTo w g v (w3.setCell ⟨g, 0, none⟩ v3) v3 := by
  have hng : v.ownBlock ≠ some g := H.list.apart H.row (by decide)
  have C4 : Chg (fun j => j = g) w3 (w3.setCell ⟨g, 0, none⟩ v3) := (Chg.refl _ w3).setCell g 0 v3 (fun _ => rfl)
  have hgl := H.g_lt
  have s1 := B1.size
  have s2 := B2.size
  refine ⟨⟨one_setCell g3, R3.chg C4 (fun j hj c => ?_), by simp; omega, H.lo⟩, ⟨?_, fun j hj => ?_⟩⟩
  · rcases O3 j hj with e | e
    · rw [c] at e; exact hng e
    · omega
  · have C1 : Chg (fun j => j = g ∨ v.ownBlock = some j) w W2 := Chg.ofBelow' (B1.trans (B2.mono s1))
    exact (C1.trans C3 (fun j _ c => Or.inr c)).trans C4 (fun j _ c => Or.inl c)
  · rcases O3 j hj with e | e
    · exact Or.inl e
    · exact Or.inr (by omega)

set_option maxHeartbeats 1600000 in
theorem pushS_any (B : Nat) (w : World) (g : Nat) (v : Value) (xs : List (ByteArray)) (x : ByteArray) (h : QAt 65 9 1 encS B w g v xs) (hB : B ≤ w.heap.size) :
   Calls Try.prog 20 #[.pointer (some ⟨g, 0, none⟩), .string x] w fun e w' => ∃ v', e = .returned (.tuple #[.int .i64 (S.pushA xs x).1, .bool (S.pushA xs x).2.1, .int .i64 (S.pushA xs x).2.2]) ∧ QAt 65 9 1 encS B w' g v' (S.pushL xs x) ∧ QTo w g v w' v' := by
  have H := hide h
  have hf := h.few
  by_cases hm : x ∈ xs
  · have a1 : Hid (S.pushA xs x = ((S.ahead xs x : Int), true, 0)) := S.pushA_yes hm
    have a2 : Hid (S.pushL xs x = xs) := S.pushL_yes hm
    clear h
    go_enter Try.func20, Try.ntmps20
    go_wp2_with fail
    go_at_call 29
    refine (placeS_any B w g v xs x H.out).mono ?_
    rintro e w1 ⟨rfl, hb⟩
    have B1 := hide hb
    clear hb
    rw [S.placeA_yes hm]
    go_wp2
    refine bodyPost_ret (v := .tuple #[.int .i64 ((S.ahead xs x : Nat) : Int), .bool true, .int .i64 0]) (by simp [results, Try.results20]) rfl ?_
    refine ⟨v, by rw [a1.out], by rw [a2.out]; exact H.out.below B1.out, Chg.ofBelow' B1.out, fun j hj => Or.inl hj⟩
  · by_cases hfull : 64 ≤ xs.length
    · have a1 : Hid (S.pushA xs x = (0, false, 4)) := S.pushA_full hm hfull
      have a2 : Hid (S.pushL xs x = xs) := S.pushL_full hm hfull
      have c0 := fun (w1 : World) (hb : Below w.heap.size w w1) => cells1 (h.below hb).row
      obtain ⟨ao, cap, rfl⟩ := h.list.form
      clear h
      have q1 : ((xs.length : Nat) : Int) ≥ 64 := by omega
      go_enter Try.func20, Try.ntmps20
      go_wp2_with fail
      go_at_call 29
      refine (placeS_any B w g _ xs x H.out).mono ?_
      rintro e w1 ⟨rfl, hb⟩
      have B1 := hide hb
      have c1 := c0 w1 hb
      clear hb c0
      rw [S.placeA_no hm]
      go_wp2
      refine bodyPost_ret (v := .tuple #[.int .i64 0, .bool false, .int .i64 4]) (by simp [results, Try.results20]) rfl ?_
      refine ⟨_, by rw [a1.out], by rw [a2.out]; exact H.out.below B1.out, Chg.ofBelow' B1.out, fun j hj => Or.inl hj⟩
    · have a1 : Hid (S.pushA xs x = ((xs.length : Int), false, 0)) := S.pushA_new hm hfull
      have a2 : Hid (S.pushL xs x = xs ++ [x]) := S.pushL_new hm hfull
      have hbs := bsS
      have HL : Hid (xs.length < 64) := by show _ < _; omega
      obtain ⟨ao, cap, hv⟩ := h.list.form
      have HV := hide hv
      have hng : Hid (v.ownBlock ≠ some g) := h.list.apart h.row (by decide)
      subst hv
      clear h hf
      have q1 : ¬ ((xs.length : Nat) : Int) ≥ 64 := by omega
      go_enter Try.func20, Try.ntmps20
      go_wp2_with fail
      go_at_call 29
      refine (placeS_any B w g _ xs x H.out).mono ?_
      rintro e w1 ⟨rfl, hb⟩
      have B1 := hide hb
      have QA := hide (H.out.below hb)
      have c1 := cells1 QA.out.row
      clear hb
      rw [S.placeA_no hm]
      obtain ⟨W2, hW2⟩ : ∃ W2, W2 = w1.alloc (.cells #[.string x] 9) := ⟨_, rfl⟩
      have HW2 := hide hW2
      have r2 : Hid (W2.heap[w1.heap.size]? = some (.cells (encS x).toArray 9 (0, 0))) := by rw [hW2]; exact heap_alloc_new _ _
      have B2 : Hid (Below w1.heap.size w1 W2) := by rw [hW2]; exact (Below.refl _ _).alloc (Nat.le_refl _) _
      have APP : Hid (∃ v' w', (Builtin.append_ #[53, 53] 53 #[.slice ao xs.length cap, .slice (some ⟨w1.heap.size, 0, none⟩) 1 1]).run Try.prog W2 = .ok v' w' ∧ (Rw 9 1 encS B w' v' (xs ++ [x]) ∧ W2.grownBy w' (Value.slice ao xs.length cap).ownBlock ∧ Chg (fun j => (Value.slice ao xs.length cap).ownBlock = some j) W2 w' ∧ ∀ k, v'.ownBlock = some k → (Value.slice ao xs.length cap).ownBlock = some k ∨ W2.heap.size ≤ k)) :=
        Rw.append2 kdS 53 (QA.out.list.below B2.out) (Sce.of_row r2.out) (lenS [x]) (by have := HL.out; simp; omega) (by have := B1.out.size; have := B2.out.size; omega)
      clear hW2
      go_wp2_with (at_builtin; rw [← HW2.out]; refine wpList_append_known rfl (.tmp 27) (.tmp 29) 53 53 rfl _ _ rfl rfl APP.out ?_; rintro v3 w3 ⟨hr3, _, hc3, ho3⟩; obtain ⟨ao3, l3, cap3, rfl, hl3⟩ : ∃ a l c, v3 = Value.slice a l c ∧ l = xs.length + 1 := (by obtain ⟨a, c, e⟩ := hr3.form; exact ⟨a, _, c, e, by simp⟩); have q5 : IntKind.i64.wrap ((l3 : Int) - 1) = (xs.length : Int) := (by have := HL.out; rw [IntKind.wrap_i64]; omega); have R3 := hide hr3; have C3 := hide hc3; have O3 := hide ho3; have g3 := hide (hc3.row (B2.out.block g QA.out.g_lt ▸ QA.out.row) hng.out); have c3 := cells1 g3.out; have z3 := frozen_of_row w3 g 0 _ _ g3.out; clear hr3 hc3 ho3 hl3)
      go_wp2
      refine bodyPost_ret (v := .tuple #[.int .i64 (xs.length : Int), .bool false, .int .i64 0]) (by simp [results, Try.results20]) rfl ?_
      exact ⟨_, by rw [a1.out], by rw [a2.out]; exact pushS_end B w w1 W2 w3 g _ _ xs x H.out HL.out B1.out B2.out R3.out C3.out O3.out g3.out⟩

end Go.Proofs.Ytghcgkcojgmbkaa
