/- QueueAny's walk. -/
import Derived.Test.YtghcgkcojgmbkaaQl
import Derived.Laws.Runes
namespace Go.Proofs.Ytghcgkcojgmbkaa
open Go.RowKit
namespace S
variable {α β : Type} [DecidableEq α] [DecidableEq β]
theorem ahead_map {f : α → β} {x : α} : ∀ (l : List α), (∀ y ∈ l, f y = f x → y = x) → ahead (l.map f) (f x) = ahead l x
  | [], _ => rfl
  | y :: l, h => by
    have ih := ahead_map l (fun z hz => h z (by simp [hz]))
    by_cases e : y = x
    · simp [ahead, e]
    · have e2 : ¬ f y = f x := fun c => e (h y (by simp) c)
      simp [ahead, e, e2, ih]
omit [DecidableEq α] [DecidableEq β] in
theorem mem_map_iff {f : α → β} {x : α} {l : List α} (h : ∀ y ∈ l, f y = f x → y = x) : f x ∈ l.map f ↔ x ∈ l := by
  rw [List.mem_map]
  constructor
  · rintro ⟨y, hy, e⟩
    rw [← h y hy e]; exact hy
  · exact fun hx => ⟨x, hx, rfl⟩
theorem pushA_map {f : α → β} {x : α} {l : List α} (h : ∀ y ∈ l, f y = f x → y = x) : pushA (l.map f) (f x) = pushA l x := by
  unfold pushA
  rw [ahead_map l h, List.length_map]
  simp only [mem_map_iff h]
theorem pushL_map {f : α → β} {x : α} {l : List α} (h : ∀ y ∈ l, f y = f x → y = x) : pushL (l.map f) (f x) = (pushL l x).map f := by
  unfold pushL
  simp only [mem_map_iff h, List.length_map]
  split
  · rfl
  · split
    · rfl
    · simp
omit [DecidableEq α] [DecidableEq β] in
theorem many_map {f : α → β} (l : List α) (n : Int) : many (l.map f) n = many l n := by simp [many]
theorem pushL_mem {x y : α} {l : List α} (h : y ∈ pushL l x) : y ∈ l ∨ y = x := by
  unfold pushL at h
  split at h
  · exact Or.inl h
  · split at h
    · exact Or.inl h
    · simpa using h
/-- The text of a number. -/
def tx (x : Int) : ByteArray := Utf8.encode (1000 + x)
def pr (x : Int) : Int × Int := (x, -x)
def txs : List (List UInt8) := (List.range 139).map fun (i : Nat) => (tx ((i : Int) - 69)).data.toList
theorem txs_nodup : txs.Nodup := by decide +kernel
theorem txs_len : txs.length = 139 := by simp [txs]
theorem tx_inj {a b : Int} (ha : -70 < a ∧ a < 70) (hb : -70 < b ∧ b < 70) (h : tx a = tx b) : a = b := by
  have ia : (a + 69).toNat < txs.length := by rw [txs_len]; omega
  have ib : (b + 69).toNat < txs.length := by rw [txs_len]; omega
  have ga : txs[(a + 69).toNat] = (tx a).data.toList := by
    simp only [txs, List.getElem_map, List.getElem_range]
    rw [show (((a + 69).toNat : Nat) : Int) - 69 = a by omega]
  have gb : txs[(b + 69).toNat] = (tx b).data.toList := by
    simp only [txs, List.getElem_map, List.getElem_range]
    rw [show (((b + 69).toNat : Nat) : Int) - 69 = b by omega]
  have := (List.getElem_inj (h₀ := ia) (h₁ := ib) txs_nodup).1 (by rw [ga, gb, h])
  omega
theorem pr_inj {a b : Int} (h : pr a = pr b) : a = b := congrArg Prod.fst h
end S
/-- A queue of another kind stays. -/
theorem QAt.other {α β : Type} {q el q2 el2 : TypeId} {k k2 : Nat} {enc : α → List Value} {enc2 : β → List Value} {B : Nat} {w w' : World} {g g2 : Nat} {v v' v2 : Value} {xs : List α} {ys : List β} (h2 : QAt q2 el2 k2 enc2 B w g2 v2 ys) (h1 : QAt q el k enc B w g v xs) (t : QTo w g v w' v') (a : q2 ≠ q) (b : q2 ≠ el) (c : q ≠ el2) (d : el ≠ el2) : QAt q2 el2 k2 enc2 B w' g2 v2 ys := by
  refine h2.chg t.chg (fun e => ?_) (fun j hj e => ?_)
  · rcases e with e | e
    · have h := h2.row
      rw [e, h1.row] at h
      injection h with h
      injection h with _ h _
      exact a h.symm
    · exact h1.list.apart h2.row b e
  · rcases e with e | e
    · exact h2.list.apart h1.row c (by rw [hj, e])
    · obtain ⟨_, _, cur, hr⟩ := h1.list.blk e
      exact h2.list.apart hr d hj
/-- Three queues that wait alike. -/
structure Tri (w : World) (g g1 g2 g3 : Nat) (W : World) (v1 v2 v3 : Value) (xs ys zs : List Int) : Prop where
  a : QAt 58 3 1 encI g W g1 v1 xs
  b : QAt 65 9 1 encS g W g2 v2 (ys.map S.tx)
  c : QAt 67 50 2 encP g W g3 v3 (zs.map S.pr)
  lo : Below g w W
theorem Tri.below {w W Z : World} {g g1 g2 g3 : Nat} {v1 v2 v3 : Value} {xs ys zs : List Int} (h : Tri w g g1 g2 g3 W v1 v2 v3 xs ys zs) (hb : Below W.heap.size W Z) : Tri w g g1 g2 g3 Z v1 v2 v3 xs ys zs :=
  ⟨h.a.below hb, h.b.below hb, h.c.below hb, h.lo.trans (hb.mono (by have := h.a.lo; have := h.a.g_lt; omega))⟩
theorem Tri.le {w W : World} {g g1 g2 g3 : Nat} {v1 v2 v3 : Value} {xs ys zs : List Int} (h : Tri w g g1 g2 g3 W v1 v2 v3 xs ys zs) : g ≤ W.heap.size := by have := h.a.lo; have := h.a.g_lt; omega
theorem Tri.to1 {w W Z : World} {g g1 g2 g3 : Nat} {v1 v2 v3 v' : Value} {xs ys zs us : List Int} (h : Tri w g g1 g2 g3 W v1 v2 v3 xs ys zs) (hq : QAt 58 3 1 encI g Z g1 v' us) (t : QTo W g1 v1 Z v') : Tri w g g1 g2 g3 Z v' v2 v3 us ys zs :=
  ⟨hq, h.b.other h.a t (by decide) (by decide) (by decide) (by decide), h.c.other h.a t (by decide) (by decide) (by decide) (by decide), h.lo.trans (t.below h.le h.a.lo (fun _ hj => h.a.v_ge hj))⟩
theorem Tri.to2 {w W Z : World} {g g1 g2 g3 : Nat} {v1 v2 v3 v' : Value} {xs ys zs us : List Int} (h : Tri w g g1 g2 g3 W v1 v2 v3 xs ys zs) (hq : QAt 65 9 1 encS g Z g2 v' (us.map S.tx)) (t : QTo W g2 v2 Z v') : Tri w g g1 g2 g3 Z v1 v' v3 xs us zs :=
  ⟨h.a.other h.b t (by decide) (by decide) (by decide) (by decide), hq, h.c.other h.b t (by decide) (by decide) (by decide) (by decide), h.lo.trans (t.below h.le h.b.lo (fun _ hj => h.b.v_ge hj))⟩
theorem Tri.to3 {w W Z : World} {g g1 g2 g3 : Nat} {v1 v2 v3 v' : Value} {xs ys zs us : List Int} (h : Tri w g g1 g2 g3 W v1 v2 v3 xs ys zs) (hq : QAt 67 50 2 encP g Z g3 v' (us.map S.pr)) (t : QTo W g3 v3 Z v') : Tri w g g1 g2 g3 Z v1 v2 v' xs ys us :=
  ⟨h.a.other h.c t (by decide) (by decide) (by decide) (by decide), h.b.other h.c t (by decide) (by decide) (by decide) (by decide), hq, h.lo.trans (t.below h.le h.c.lo (fun _ hj => h.c.v_ge hj))⟩
/-- A row that lies apart from a queue of another kind stays. -/
theorem QAt.row3 {α β : Type} {q el el2 : TypeId} {k k2 : Nat} {enc : α → List Value} {enc2 : β → List Value} {B B2 : Nat} {w w' : World} {g : Nat} {v v' u : Value} {xs : List α} {ys : List β} (hu : Rw el2 k2 enc2 B2 w u ys) (h1 : QAt q el k enc B w g v xs) (t : QTo w g v w' v') (c : q ≠ el2) (d : el ≠ el2) : Rw el2 k2 enc2 B2 w' u ys := by
  refine hu.chg t.chg (fun j hj e => ?_)
  rcases e with e | e
  · exact hu.apart h1.row c (by rw [hj, e])
  · obtain ⟨_, _, cur, hr⟩ := h1.list.blk e
    exact hu.apart hr d hj
theorem bld50 (a b : Int) (W : World) : (Instr.build 50 #[(0, .int .i64 a), (1, .int .i64 b)]).run Try.prog W = .ok (.agg #[.int .i64 a, .int .i64 b]) W := by
  go_simp
/-- The numbers that wait are small. -/
def Sml (xs : List Int) : Prop := ∀ y ∈ xs, -70 < y ∧ y < 70
theorem Sml.push {xs : List Int} {x : Int} (h : Sml xs) (hx : -70 < x ∧ x < 70) : Sml (S.pushL xs x) := fun y hy => by
  rcases S.pushL_mem hy with e | e
  · exact h y e
  · rw [e]; exact hx
theorem Sml.tx {xs : List Int} {x : Int} (h : Sml xs) (hx : -70 < x ∧ x < 70) : ∀ y ∈ xs, S.tx y = S.tx x → y = x := fun y hy e => S.tx_inj (h y hy) hx e
theorem tmod_small (x : Int) : -70 < x.tmod 70 ∧ x.tmod 70 < 70 := by
  rcases (by omega : 0 ≤ x ∨ x < 0) with h | h
  · rw [Int.tmod_eq_emod_of_nonneg h]; omega
  · rw [show x = -(-x) by omega, Int.neg_tmod, Int.tmod_eq_emod_of_nonneg (by omega)]; omega
set_option maxHeartbeats 16000000 in
set_option maxRecDepth 100000 in
theorem queueAny_walk (a0 : Option Addr) (len cap : Nat) (zs : List Int) (w : World) (hz : 0 < len → ∃ b off, a0 = some ⟨b, off, none⟩ ∧ b < w.heap.size ∧ ∀ j, j < len → w.cell? ⟨b, off + j, none⟩ = some (.int .i64 (zs.getD j 0))) :
   Calls Try.prog 6 #[.slice a0 len cap] w fun e w' => e = .returned (.bool true) ∧ Below w.heap.size w w' := by
  have HZ := hide hz
  clear hz
  obtain ⟨g, hg⟩ : ∃ g, g = w.heap.size := ⟨_, rfl⟩
  have HG := hide hg
  clear hg
  go_enter Try.func6, Try.ntmps6
  go_wp2_with fail
  go_at_call 7
  refine (newI_any w).mono ?_
  rintro e w1 ⟨rfl, hq, hb⟩
  rw [← HG.out] at hq hb ⊢
  have Q1 := hide hq
  have B1 := hide hb
  clear hq hb
  go_wp2_with fail
  go_at_call 18
  refine (newS_any w1).mono ?_
  rintro e w2 ⟨rfl, hq, hb⟩
  obtain ⟨g2, hg2⟩ : ∃ g2, g2 = w1.heap.size := ⟨_, rfl⟩
  have G2 : Hid (g ≤ g2) := by show g ≤ g2; rw [hg2]; exact Nat.le_of_lt Q1.out.g_lt
  have Q2 : Hid (QAt 58 3 1 encI g w2 g (.slice none 0 0) []) := Q1.out.below hb
  rw [← hg2] at hq ⊢
  have R2 : Hid (QAt 65 9 1 encS g w2 g2 (.slice none 0 0) []) := ⟨hq.row, Rw.nil _ _ _ _ _, by simp, G2.out⟩
  have B2 := hide (B1.out.trans (hb.mono (Nat.le_of_lt Q1.out.g_lt)))
  clear hq hb B1 Q1 hg2
  go_wp2_with fail
  go_at_call 19
  refine (newP_any w2).mono ?_
  rintro e w3 ⟨rfl, hq, hb⟩
  obtain ⟨g3, hg3⟩ : ∃ g3, g3 = w2.heap.size := ⟨_, rfl⟩
  have T3 : Hid (Tri w g g g2 g3 w3 (.slice none 0 0) (.slice none 0 0) (.slice none 0 0) [] [] []) := by
    have hg : g ≤ g3 := by rw [hg3]; exact Nat.le_of_lt Q2.out.g_lt
    exact ⟨Q2.out.below hb, R2.out.below hb, ⟨by rw [hg3]; exact hq.row, Rw.nil _ _ _ _ _, by simp, hg⟩, B2.out.trans (hb.mono (Nat.le_of_lt Q2.out.g_lt))⟩
  rw [← hg3]
  clear hq hb B2 Q2 R2 hg3
  go_wp2_with fail
  go_loopw [6] (fun s6 wr => ∃ (i : Nat) (v1 v2 v3 : Value) (xs : List Int), i ≤ len ∧ s6 = .int .i64 (i : Int) ∧ Hid (i ≤ 90) ∧ Hid (Sml xs) ∧ Hid (Tri w g g g2 g3 wr v1 v2 v3 xs xs xs)) (fun s6 _ => 90 - (intOf s6).toNat)
  case atStart => exact ⟨0, _, _, _, [], by omega, rfl, by show (0 : Nat) ≤ 90; omega, fun y hy => by simp at hy, T3⟩
  case round =>
    obtain ⟨i, v1, v2, v3, xs, hi, rfl, H90, SM, T1⟩ := hrel
    clear T3
    by_cases hin : i < len ∧ i < 90
    · obtain ⟨h1, h2⟩ := hin
      have HH := hide (And.intro h1 h2)
      obtain ⟨b, off, rfl, hbl, hcs⟩ := HZ.out (by omega)
      obtain ⟨y, hy⟩ : ∃ y, y = zs.getD i 0 := ⟨_, rfl⟩
      obtain ⟨x, hx⟩ : ∃ x, x = y.tmod 70 := ⟨_, rfl⟩
      have XS : Hid (-70 < x ∧ x < 70) := by show -70 < x ∧ x < 70; rw [hx]; exact tmod_small y
      have c1 : wr.cell? ⟨b, off + i, none⟩ = some (.int .i64 y) := (T1.out.lo.cell (p := ⟨b, off + i, none⟩) (by show b < g; rw [HG.out]; exact hbl)).trans (by rw [hy]; exact hcs i h1)
      have r1 : (i : Int) < (len : Int) := by omega
      have r2 : (i : Int) < 90 := by omega
      have r3 : (0 : Int) ≤ (i : Int) := by omega
      have s3 : IntKind.i64.wrap ((i : Int) + 1) = (i : Int) + 1 := by rw [IntKind.wrap_i64]; omega
      have t2 : IntKind.i64.wrap (1000 + x) = 1000 + x := by rw [IntKind.wrap_i64]; have := XS.out; omega
      have t3 : IntKind.i32.wrap (1000 + x) = 1000 + x := by rw [IntKind.wrap_i32]; have := XS.out; omega
      have t4 : IntKind.i64.wrap (-x) = -x := by rw [IntKind.wrap_i64]; have := XS.out; omega
      have hbd := bld50
      have hx2 := hide hx
      clear hcs hbl h1 h2 hi hy hx
      go_wp2_with fail
      go_at_call 8
      rw [← hx2.out]
      refine (pushI_any g wr g v1 xs x T1.out.a T1.out.le).mono ?_
      rintro e w4 ⟨v4, rfl, hq, ht⟩
      have T4 := hide (T1.out.to1 hq ht)
      clear hq ht T1 c1
      go_wp2_with fail
      go_at_call 20
      refine (pushS_any g w4 g2 v2 (xs.map S.tx) (S.tx x) T4.out.b T4.out.le).mono ?_
      rintro e w5 ⟨v5, rfl, hq, ht⟩
      rw [S.pushL_map (SM.out.tx XS.out)] at hq
      rw [S.pushA_map (SM.out.tx XS.out)]
      have T5 := hide (T4.out.to2 hq ht)
      clear hq ht T4
      go_wp2_with fail
      go_at_call 21
      refine (pushP_any g w5 g3 v3 (xs.map S.pr) (S.pr x) T5.out.c T5.out.le).mono ?_
      rintro e w6 ⟨v6, rfl, hq, ht⟩
      rw [S.pushL_map (fun _ _ e => S.pr_inj e)] at hq
      rw [S.pushA_map (fun _ _ e => S.pr_inj e)]
      have T6 := hide (T5.out.to3 hq ht)
      have SP := hide (SM.out.push XS.out)
      clear hq ht T5
      obtain ⟨A, hA⟩ : ∃ A, A = S.pushA xs x := ⟨_, rfl⟩
      rw [← hA]
      obtain ⟨L, hL⟩ : ∃ L, L = S.pushL xs x := ⟨_, rfl⟩
      rw [← hL] at T6 SP
      obtain ⟨p1, p2, p3⟩ := A
      clear hA hL SM
      by_cases h7 : i % 7 = 6
      · have m7 : (((i : Int) % 7) == 6) = true := by simp; omega
        clear h7
        go_wp2_with fail
        go_at_call 9
        refine (takeI_any g w6 g v4 L 3 T6.out.a).mono ?_
        rintro e w7 ⟨u1, v7, rfl, hu, hq, ht, -⟩
        have T7 := hide (T6.out.to1 hq ht)
        obtain ⟨M, hM⟩ : ∃ M, M = L.take (S.many L 3) := ⟨_, rfl⟩
        obtain ⟨D, hD⟩ : ∃ D, D = L.drop (S.many L 3) := ⟨_, rfl⟩
        have MT := hide (show (L.map S.tx).take (S.many (L.map S.tx) 3) = M.map S.tx by rw [S.many_map, hM, List.map_take])
        have DT := hide (show (L.map S.tx).drop (S.many (L.map S.tx) 3) = D.map S.tx by rw [S.many_map, hD, List.map_drop])
        have MP := hide (show (L.map S.pr).take (S.many (L.map S.pr) 3) = M.map S.pr by rw [S.many_map, hM, List.map_take])
        have DP := hide (show (L.map S.pr).drop (S.many (L.map S.pr) 3) = D.map S.pr by rw [S.many_map, hD, List.map_drop])
        have SD : Hid (Sml D) := fun y hy => SP.out y (List.mem_of_mem_drop (by rw [← hD]; exact hy))
        have SMM : Hid (Sml M) := fun y hy => SP.out y (List.mem_of_mem_take (by rw [← hM]; exact hy))
        have LM : Hid (M.length ≤ 64) := by show M.length ≤ 64; rw [hM, List.length_take]; have := T6.out.a.few; omega
        rw [← hM] at hu
        rw [← hD] at T7
        have U1 := hide hu
        obtain ⟨q1, k1, rfl⟩ := hu.form
        clear hu hq ht T6 hM hD
        go_wp2_with fail
        go_at_call 22
        refine (takeS_any g w7 g2 v5 (L.map S.tx) 3 T7.out.b).mono ?_
        rintro e w8 ⟨u2, v8, rfl, hu, hq, ht, ho⟩
        rw [MT.out] at hu
        rw [DT.out] at hq
        have T8 := hide (T7.out.to2 hq ht)
        have U2 := hide hu
        have U1b := hide (QAt.row3 U1.out T7.out.b ht (by decide) (by decide))
        obtain ⟨q2, k2, rfl⟩ := hu.form
        rw [List.length_map]
        clear hu hq ht ho T7 MT DT U1
        go_wp2_with fail
        go_at_call 23
        refine (takeP_any g w8 g3 v6 (L.map S.pr) 3 T8.out.c).mono ?_
        rintro e w9 ⟨u3, v9, rfl, hu, hq, ht, ho⟩
        rw [MP.out] at hu
        rw [DP.out] at hq
        have T9 := hide (T8.out.to3 hq ht)
        have U3 := hide hu
        have U1c := hide (QAt.row3 U1b.out T8.out.c ht (by decide) (by decide))
        have U2c := hide (QAt.row3 U2.out T8.out.c ht (by decide) (by decide))
        obtain ⟨q3, k3, rfl⟩ := hu.form
        rw [List.length_map]
        clear hu hq ht ho T8 MP DP U1b U2
        obtain ⟨m, hm⟩ : ∃ m, m = M.length := ⟨_, rfl⟩
        have HM := hide hm
        rw [← hm]
        rw [List.length_map, ← hm] at U2c U3
        rw [← hm] at U1c
        clear hm
        go_wp2_with fail
        go_loopw [20] (fun s20 wr => ∃ k : Nat, k ≤ m ∧ s20 = .int .i64 (k : Int) ∧ Still w9 wr) (fun s20 _ => m - (intOf s20).toNat)
        case atStart => exact ⟨0, by omega, rfl, Still.refl _⟩
        case round =>
          obtain ⟨k, hk, rfl, hst⟩ := hrel
          have ST := hide hst
          by_cases hlt : k < m
          · have hkm : k < M.length := by rw [← HM.out]; exact hlt
            obtain ⟨y, hy⟩ : ∃ y, M[k]? = some y := ⟨_, List.getElem?_eq_getElem hkm⟩
            have YS := hide (SMM.out y (List.mem_of_getElem? hy))
            obtain ⟨ga, ca, e1, _, _, ra⟩ := U1c.out.at_ (lenI M) k y hy
            obtain ⟨gb, cb, e2, _, _, rb⟩ := U2c.out.at_ (lenS _) k (S.tx y) (by rw [List.getElem?_map, hy]; rfl)
            obtain ⟨gc, cc, e3, _, _, rc⟩ := U3.out.at_ (lenP _) k (S.pr y) (by rw [List.getElem?_map, hy]; rfl)
            simp only [Value.slice.injEq] at e1 e2 e3
            obtain ⟨rfl, -, rfl⟩ := e1
            obtain ⟨rfl, -, rfl⟩ := e2
            obtain ⟨rfl, -, rfl⟩ := e3
            have hbk : ∀ j : Nat, wr.heap[j]? = w9.heap[j]? := fun j => by rw [hst.1]
            have d1 : wr.cell? ⟨ga, k, none⟩ = some (.int .i64 y) := (World.cell?_of_block (hbk ga)).trans (by have := ra 0 _ rfl; simpa using this)
            have d2 : wr.cell? ⟨gb, k, none⟩ = some (.string (Utf8.encode (1000 + y))) := (World.cell?_of_block (hbk gb)).trans (by have := rb 0 _ rfl; simpa [S.tx] using this)
            have d3 : wr.cell? ⟨gc, k * 2, none⟩ = some (.int .i64 y) := (World.cell?_of_block (hbk gc)).trans (rc 0 _ rfl)
            have d4 : wr.cell? ⟨gc, k * 2 + 1, none⟩ = some (.int .i64 (-y)) := (World.cell?_of_block (hbk gc)).trans (rc 1 _ rfl)
            have z1 : (k : Int) < (m : Int) := by omega
            have z2 : (0 : Int) ≤ (k : Int) := by omega
            have z3 : IntKind.i64.wrap ((k : Int) + 1) = (k : Int) + 1 := by rw [IntKind.wrap_i64]; have := LM.out; have := HM.out; omega
            have t5 : IntKind.i64.wrap (1000 + y) = 1000 + y := by rw [IntKind.wrap_i64]; have := YS.out; omega
            have t6 : IntKind.i32.wrap (1000 + y) = 1000 + y := by rw [IntKind.wrap_i32]; have := YS.out; omega
            have t7 : IntKind.i64.wrap (-y) = -y := by rw [IntKind.wrap_i64]; have := YS.out; omega
            have hpn := pair_neq
            clear ra rb rc hbk hst hkm hy t2 t3 t4 m7
            go_wp2
            go_quiet (fail)
            go_wp2
            exact ⟨⟨k + 1, by omega, by simp, ST.out⟩, by simp [intOf]; omega⟩
          obtain rfl : m = k := by omega
          have TT := hide (T9.out.below (Still.blw hst _))
          clear hst ST T9
          go_wp2_with fail
          exact ⟨⟨i + 1, _, _, _, _, by have := HH.out.1; omega, by simp, by show i + 1 ≤ 90; have := HH.out.2; omega, SD, TT⟩, by simp [intOf]; have := HH.out.2; omega⟩
      · have m7 : (((i : Int) % 7) == 6) = false := by simp; omega
        clear h7
        go_wp2_with fail
        exact ⟨⟨i + 1, _, _, _, _, by have := HH.out.1; omega, by simp, by show i + 1 ≤ 90; have := HH.out.2; omega, SP, T6⟩, by simp [intOf]; have := HH.out.2; omega⟩
    · by_cases hl : (i : Int) < (len : Int)
      · have hl2 : ¬ (i : Int) < 90 := by omega
        clear hin
        go_wp2_with fail
        go_at_call 12
        refine (lenI_any g wr g v1 xs T1.out.a).mono ?_
        rintro e x1 ⟨rfl, hs⟩
        have TA := hide (T1.out.below (Still.blw hs _))
        clear hs T1
        go_wp2_with fail
        go_at_call 24
        refine (lenS_any g x1 g2 v2 _ TA.out.b).mono ?_
        rintro e x2 ⟨rfl, hs⟩
        rw [List.length_map]
        have TB := hide (TA.out.below (Still.blw hs _))
        clear hs TA
        go_wp2_with fail
        go_at_call 12
        refine (lenI_any g x2 g v1 xs TB.out.a).mono ?_
        rintro e x3 ⟨rfl, hs⟩
        have TC := hide (TB.out.below (Still.blw hs _))
        clear hs TB
        go_wp2_with fail
        go_at_call 25
        refine (lenP_any g x3 g3 v3 _ TC.out.c).mono ?_
        rintro e x4 ⟨rfl, hs⟩
        rw [List.length_map]
        have TD := hide (TC.out.below (Still.blw hs _))
        clear hs TC
        go_wp2_with fail
        go_at_call 13
        refine (known_any x4).mono ?_
        rintro e x5 ⟨rfl, hb⟩
        have TE := hide (TD.out.below hb)
        clear hb TD
        go_wp2
        go_ret
        exact ⟨rfl, by rw [← HG.out]; exact TE.out.lo⟩
      · clear hin
        go_wp2_with fail
        go_at_call 12
        refine (lenI_any g wr g v1 xs T1.out.a).mono ?_
        rintro e x1 ⟨rfl, hs⟩
        have TA := hide (T1.out.below (Still.blw hs _))
        clear hs T1
        go_wp2_with fail
        go_at_call 24
        refine (lenS_any g x1 g2 v2 _ TA.out.b).mono ?_
        rintro e x2 ⟨rfl, hs⟩
        rw [List.length_map]
        have TB := hide (TA.out.below (Still.blw hs _))
        clear hs TA
        go_wp2_with fail
        go_at_call 12
        refine (lenI_any g x2 g v1 xs TB.out.a).mono ?_
        rintro e x3 ⟨rfl, hs⟩
        have TC := hide (TB.out.below (Still.blw hs _))
        clear hs TB
        go_wp2_with fail
        go_at_call 25
        refine (lenP_any g x3 g3 v3 _ TC.out.c).mono ?_
        rintro e x4 ⟨rfl, hs⟩
        rw [List.length_map]
        have TD := hide (TC.out.below (Still.blw hs _))
        clear hs TC
        go_wp2_with fail
        go_at_call 13
        refine (known_any x4).mono ?_
        rintro e x5 ⟨rfl, hb⟩
        have TE := hide (TD.out.below hb)
        clear hb TD
        go_wp2
        go_ret
        exact ⟨rfl, by rw [← HG.out]; exact TE.out.lo⟩

end Go.Proofs.Ytghcgkcojgmbkaa
