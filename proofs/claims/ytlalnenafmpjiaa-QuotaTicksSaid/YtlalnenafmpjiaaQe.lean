/- Ticks add up; what was taken and is there again is what it was. -/
import Derived.Test.YtlalnenafmpjiaaQb
namespace Go.Proofs.Ytlalnenafmpjiaa
open Go.RowKit
namespace S
theorem tick_tick (b : Bk) (m n : Nat) : tick (tick b m) n = tick b (m + n) := by
  obtain ⟨r, s, t⟩ := b
  simp only [tick, Bk.mk.injEq, true_and]
  rcases Nat.eq_zero_or_pos r with h | h
  · subst h
    simp only [Nat.mul_zero, Nat.add_zero]
    omega
  · rcases Nat.le_total m s with h1 | h1
    · rw [Nat.min_eq_left h1]
      rcases Nat.le_total (m + n) s with h2 | h2
      · rw [Nat.min_eq_left h2, Nat.min_eq_left (show n ≤ s by omega), Nat.add_mul]
        omega
      · rw [Nat.min_eq_right h2]
        have h3 := Nat.le_mul_of_pos_right s h
        have h4 : s ≤ m * r + min n s * r := by
          rcases Nat.le_total n s with h5 | h5
          · rw [Nat.min_eq_left h5, ← Nat.add_mul]
            exact Nat.le_trans h2 (Nat.le_mul_of_pos_right _ h)
          · rw [Nat.min_eq_right h5]
            omega
        omega
    · rw [Nat.min_eq_right h1, Nat.min_eq_right (show s ≤ m + n by omega)]
      have h3 := Nat.le_mul_of_pos_right s h
      omega
theorem tick_le (b : Bk) (n : Nat) : (tick b n).tok ≤ b.burst := Nat.min_le_right _ _
theorem tick_up (b : Bk) (n : Nat) (h : b.tok ≤ b.burst) : b.tok ≤ (tick b n).tok := by
  simp only [tick]
  omega
end S
set_option maxHeartbeats 40000000 in
set_option maxRecDepth 10000 in
theorem quotaTicks_walk (r b t m n k : Nat) (w : World) (hr : r < 4294967296) (hb : b < 4294967296) (ht : t < 4294967296) (hm : m < 4294967296) (hn : n < 4294967296) (hk : k < 4294967296) :
   Calls Try.prog 5 #[.agg #[.int .u32 (r : Int), .int .u32 (b : Int), .int .u32 (t : Int)], .int .u32 (m : Int), .int .u32 (n : Int), .int .u32 (k : Int)] w fun e w' => e = .returned (.bool true) ∧ Below w.heap.size w w' := by
  obtain ⟨x, hx⟩ : ∃ x, x = (S.tick ⟨r, b, t⟩ m).tok := ⟨_, rfl⟩
  obtain ⟨y, hy⟩ : ∃ y, y = (S.tick ⟨r, b, t⟩ (m + n)).tok := ⟨_, rfl⟩
  have h1 : encB (S.tick ⟨r, b, t⟩ m) = #[.int .u32 (r : Int), .int .u32 (b : Int), .int .u32 (x : Int)] := by rw [hx]; rfl
  have hxb : x ≤ b := by rw [hx]; exact S.tick_le _ _
  have h2 : encB (S.tick ⟨r, b, x⟩ n) = #[.int .u32 (r : Int), .int .u32 (b : Int), .int .u32 (y : Int)] := by
    have e : (⟨r, b, x⟩ : S.Bk) = S.tick ⟨r, b, t⟩ m := by rw [hx]; rfl
    rw [e, S.tick_tick, hy]
    rfl
  have h3 : encB (S.tick ⟨r, b, t⟩ (m + n)) = #[.int .u32 (r : Int), .int .u32 (b : Int), .int .u32 (y : Int)] := by rw [hy]; rfl
  have hyb : y ≤ b := by rw [hy]; exact S.tick_le _ _
  have hty : t ≤ b → t ≤ y := fun h => by rw [hy]; exact S.tick_up ⟨r, b, t⟩ (m + n) h
  have H1 := hide h1
  have H2 := hide h2
  have H3 := hide h3
  have HB := hide (And.intro hr (And.intro hb (And.intro ht (And.intro hm (And.intro hn hk)))))
  have HX := hide (show x < 4294967296 by omega)
  have q0 : IntKind.u64.wrap ((m : Int) + (n : Int)) = ((m + n : Nat) : Int) := by rw [IntKind.wrap_u64]; omega
  generalize hmn : m + n = mn at q0 H3
  have Q0 := hide q0
  have HMN := hide (show mn < 18446744073709551616 by omega)
  clear h1 h2 h3 hx hy hm hn hk hmn q0
  go_enter Try.func5, Try.ntmps5
  go_upto_region 1 with fail
  generalize hA : w.alloc _ = A1
  have B1 := hide (show Below w.heap.size w A1 by rw [← hA]; exact one_below _ _)
  have HC : Hid (Cel A1 w.heap.size (.int .u32 (r : Int)) (.int .u32 (b : Int)) (.int .u32 (t : Int))) := by rw [← hA]; exact Cel.new _ _ _ _ _
  generalize w.heap.size = g0 at HC ⊢
  clear hA
  have qm : IntKind.u64.wrap (m : Int) = (m : Int) := by rw [IntKind.wrap_u64]; have := HB.out.2.2.2.1; omega
  have qn : IntKind.u64.wrap (n : Int) = (n : Int) := by rw [IntKind.wrap_u64]; have := HB.out.2.2.2.2.1; omega
  obtain ⟨-, c0, c1, c2⟩ := HC.out
  go_wp2_with fail
  refine (tick_is r b t m HB.out.1 HB.out.2.1 HB.out.2.2.1 rfl rfl rfl rfl H1.out _).mono ?_
  rintro e w2 ⟨rfl, b2⟩
  clear c0 c1 c2
  go_wp2_with fail
  refine (tick_is r b x n HB.out.1 HB.out.2.1 HX.out rfl rfl rfl rfl H2.out _).mono ?_
  rintro e w3 ⟨rfl, b3⟩
  have b4 := below_up b2 b3
  clear b2 b3
  go_upto_region 2 with fail
  generalize hA : w3.alloc _ = A2
  have b5 : Below A1.heap.size A1 A2 := by rw [← hA]; exact below_new b4 _
  have B2 := hide (below_up B1.out b5)
  have HC2 := hide (HC.out.up b5)
  have HP : Hid (Cel A2 w3.heap.size (.int .u32 (r : Int)) (.int .u32 (b : Int)) (.int .u32 (y : Int))) := by rw [← hA]; exact Cel.new _ _ _ _ _
  generalize w3.heap.size = g1 at HP ⊢
  clear hA b4 b5 B1 HC
  have q0 := Q0.out
  obtain ⟨-, c0, c1, c2⟩ := HC2.out
  go_wp2_with fail
  refine (tick_is r b t mn HB.out.1 HB.out.2.1 HB.out.2.2.1 rfl rfl rfl rfl H3.out _).mono ?_
  rintro e w4 ⟨rfl, b2⟩
  clear c0 c1 c2 q0 qm qn
  go_upto_region 3 with fail
  generalize hA : w4.alloc _ = A3
  have b5 : Below A2.heap.size A2 A3 := by rw [← hA]; exact below_new b2 _
  have B3 := hide (below_up B2.out b5)
  have HC3 := hide (HC2.out.up b5)
  have HP3 := hide (HP.out.up b5)
  have HQ3 : Hid (Cel A3 w4.heap.size (.int .u32 (r : Int)) (.int .u32 (b : Int)) (.int .u32 (y : Int))) := by rw [← hA]; exact Cel.new _ _ _ _ _
  generalize w4.heap.size = g2 at HQ3 ⊢
  clear hA b2 b5 B2 HC2 HP
  obtain ⟨-, c0, c1, c2⟩ := HC3.out
  obtain ⟨-, d0, d1, d2⟩ := HP3.out
  obtain ⟨-, e0, e1, e2⟩ := HQ3.out
  have q1 : ¬ (y : Int) > (b : Int) := by omega
  have q1' : ¬ (b : Int) < (y : Int) := by omega
  by_cases hJ : t ≤ b
  · have q2 : ¬ (y : Int) < (t : Int) := by have := hty hJ; omega
    have q3 : (t : Int) ≤ (b : Int) := by omega
    by_cases hk : k ≤ t
    · have HKT : Hid ((k : Int) ≤ (t : Int) ∧ IntKind.u32.wrap (((t - k : Nat) : Int) + (k : Int)) = (t : Int)) := ⟨by omega, by rw [IntKind.wrap_u32]; omega⟩
      have HE : Hid (encB (S.take ⟨r, b, t⟩ k).1 = #[.int .u32 (r : Int), .int .u32 (b : Int), .int .u32 ((t - k : Nat) : Int)]) := by show encB (S.take _ k).1 = _; simp only [S.take]; rw [if_neg (by omega)]; rfl
      have HF : Hid ((S.take ⟨r, b, t⟩ k).2 = true) := by show (S.take _ k).2 = _; simp only [S.take]; rw [if_neg (by omega)]
      clear hJ hk hty hxb hyb
      go_upto_region 5 with fail
      clear c0 c1 c2 d0 d1 d2 e0 e1 e2
      obtain ⟨-, c0, c1, c2⟩ := HC3.out
      go_wp2_with fail
      refine (take_is r b t k HB.out.2.2.1 rfl rfl rfl rfl HE.out HF.out _).mono ?_
      rintro e w5 ⟨rfl, b6⟩
      clear c0 c1 c2
      go_upto_region 6 with fail
      generalize hA : w5.alloc _ = A4
      have b7 : Below A3.heap.size A3 A4 := by rw [← hA]; exact below_new b6 _
      have B4 := hide (below_up B3.out b7)
      have HC4 := hide (HC3.out.up b7)
      have HZ : Hid (Cel A4 w5.heap.size (.int .u32 (r : Int)) (.int .u32 (b : Int)) (.int .u32 ((t - k : Nat) : Int))) := by rw [← hA]; exact Cel.new _ _ _ _ _
      generalize w5.heap.size = g3 at HZ ⊢
      clear hA b6 b7
      obtain ⟨-, c0, c1, c2⟩ := HC4.out
      obtain ⟨-, d0, d1, d2⟩ := HZ.out
      have q4 : (k : Int) ≤ (t : Int) := HKT.out.1
      have q5 : IntKind.u32.wrap (((t - k : Nat) : Int) + (k : Int)) = (t : Int) := HKT.out.2
      go_wp2_with fail
      refine (known_any _).mono ?_
      rintro e w6 ⟨rfl, b8⟩
      have B6 := hide (below_up B4.out b8)
      clear b8
      go_wp2_with fail
      go_ret
      exact ⟨rfl, B6.out⟩
    · have HKT : Hid (¬ (k : Int) ≤ (t : Int) ∧ True) := ⟨by omega, trivial⟩
      have HE : Hid (encB (S.take ⟨r, b, t⟩ k).1 = #[.int .u32 (r : Int), .int .u32 (b : Int), .int .u32 (t : Int)]) := by show encB (S.take _ k).1 = _; simp only [S.take]; rw [if_pos (by omega)]; rfl
      have HF : Hid ((S.take ⟨r, b, t⟩ k).2 = false) := by show (S.take _ k).2 = _; simp only [S.take]; rw [if_pos (by omega)]
      clear hJ hk hty hxb hyb
      go_upto_region 5 with fail
      clear c0 c1 c2 d0 d1 d2 e0 e1 e2
      obtain ⟨-, c0, c1, c2⟩ := HC3.out
      go_wp2_with fail
      refine (take_is r b t k HB.out.2.2.1 rfl rfl rfl rfl HE.out HF.out _).mono ?_
      rintro e w5 ⟨rfl, b6⟩
      clear c0 c1 c2
      go_upto_region 6 with fail
      generalize hA : w5.alloc _ = A4
      have b7 : Below A3.heap.size A3 A4 := by rw [← hA]; exact below_new b6 _
      have B4 := hide (below_up B3.out b7)
      have HC4 := hide (HC3.out.up b7)
      have HZ : Hid (Cel A4 w5.heap.size (.int .u32 (r : Int)) (.int .u32 (b : Int)) (.int .u32 (t : Int))) := by rw [← hA]; exact Cel.new _ _ _ _ _
      generalize w5.heap.size = g3 at HZ ⊢
      clear hA b6 b7
      obtain ⟨-, c0, c1, c2⟩ := HC4.out
      obtain ⟨-, d0, d1, d2⟩ := HZ.out
      have q4 : ¬ (k : Int) ≤ (t : Int) := by have := HKT.out.1; omega
      go_wp2_with fail
      refine (known_any _).mono ?_
      rintro e w6 ⟨rfl, b8⟩
      have B6 := hide (below_up B4.out b8)
      clear b8
      go_wp2_with fail
      go_ret
      exact ⟨rfl, B6.out⟩
  · skip
    have q3 : ¬ (t : Int) ≤ (b : Int) := by omega
    by_cases hk : k ≤ t
    · have HKT : Hid ((k : Int) ≤ (t : Int) ∧ IntKind.u32.wrap (((t - k : Nat) : Int) + (k : Int)) = (t : Int)) := ⟨by omega, by rw [IntKind.wrap_u32]; omega⟩
      have HE : Hid (encB (S.take ⟨r, b, t⟩ k).1 = #[.int .u32 (r : Int), .int .u32 (b : Int), .int .u32 ((t - k : Nat) : Int)]) := by show encB (S.take _ k).1 = _; simp only [S.take]; rw [if_neg (by omega)]; rfl
      have HF : Hid ((S.take ⟨r, b, t⟩ k).2 = true) := by show (S.take _ k).2 = _; simp only [S.take]; rw [if_neg (by omega)]
      clear hJ hk hty hxb hyb
      go_upto_region 5 with fail
      clear c0 c1 c2 d0 d1 d2 e0 e1 e2
      obtain ⟨-, c0, c1, c2⟩ := HC3.out
      go_wp2_with fail
      refine (take_is r b t k HB.out.2.2.1 rfl rfl rfl rfl HE.out HF.out _).mono ?_
      rintro e w5 ⟨rfl, b6⟩
      clear c0 c1 c2
      go_upto_region 6 with fail
      generalize hA : w5.alloc _ = A4
      have b7 : Below A3.heap.size A3 A4 := by rw [← hA]; exact below_new b6 _
      have B4 := hide (below_up B3.out b7)
      have HC4 := hide (HC3.out.up b7)
      have HZ : Hid (Cel A4 w5.heap.size (.int .u32 (r : Int)) (.int .u32 (b : Int)) (.int .u32 ((t - k : Nat) : Int))) := by rw [← hA]; exact Cel.new _ _ _ _ _
      generalize w5.heap.size = g3 at HZ ⊢
      clear hA b6 b7
      obtain ⟨-, c0, c1, c2⟩ := HC4.out
      obtain ⟨-, d0, d1, d2⟩ := HZ.out
      have q4 : (k : Int) ≤ (t : Int) := HKT.out.1
      have q5 : IntKind.u32.wrap (((t - k : Nat) : Int) + (k : Int)) = (t : Int) := HKT.out.2
      go_wp2_with fail
      refine (known_any _).mono ?_
      rintro e w6 ⟨rfl, b8⟩
      have B6 := hide (below_up B4.out b8)
      clear b8
      go_wp2_with fail
      go_ret
      exact ⟨rfl, B6.out⟩
    · have HKT : Hid (¬ (k : Int) ≤ (t : Int) ∧ True) := ⟨by omega, trivial⟩
      have HE : Hid (encB (S.take ⟨r, b, t⟩ k).1 = #[.int .u32 (r : Int), .int .u32 (b : Int), .int .u32 (t : Int)]) := by show encB (S.take _ k).1 = _; simp only [S.take]; rw [if_pos (by omega)]; rfl
      have HF : Hid ((S.take ⟨r, b, t⟩ k).2 = false) := by show (S.take _ k).2 = _; simp only [S.take]; rw [if_pos (by omega)]
      clear hJ hk hty hxb hyb
      go_upto_region 5 with fail
      clear c0 c1 c2 d0 d1 d2 e0 e1 e2
      obtain ⟨-, c0, c1, c2⟩ := HC3.out
      go_wp2_with fail
      refine (take_is r b t k HB.out.2.2.1 rfl rfl rfl rfl HE.out HF.out _).mono ?_
      rintro e w5 ⟨rfl, b6⟩
      clear c0 c1 c2
      go_upto_region 6 with fail
      generalize hA : w5.alloc _ = A4
      have b7 : Below A3.heap.size A3 A4 := by rw [← hA]; exact below_new b6 _
      have B4 := hide (below_up B3.out b7)
      have HC4 := hide (HC3.out.up b7)
      have HZ : Hid (Cel A4 w5.heap.size (.int .u32 (r : Int)) (.int .u32 (b : Int)) (.int .u32 (t : Int))) := by rw [← hA]; exact Cel.new _ _ _ _ _
      generalize w5.heap.size = g3 at HZ ⊢
      clear hA b6 b7
      obtain ⟨-, c0, c1, c2⟩ := HC4.out
      obtain ⟨-, d0, d1, d2⟩ := HZ.out
      have q4 : ¬ (k : Int) ≤ (t : Int) := by have := HKT.out.1; omega
      go_wp2_with fail
      refine (known_any _).mono ?_
      rintro e w6 ⟨rfl, b8⟩
      have B6 := hide (below_up B4.out b8)
      clear b8
      go_wp2_with fail
      go_ret
      exact ⟨rfl, B6.out⟩
end Go.Proofs.Ytlalnenafmpjiaa
