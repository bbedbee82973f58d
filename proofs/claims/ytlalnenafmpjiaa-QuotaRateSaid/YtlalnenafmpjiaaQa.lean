/- What the program's buckets do, and the document's. -/
import Derived.Test.YtlalnenafmpjiaaBase
namespace Go.Proofs.Ytlalnenafmpjiaa
open Go.RowKit
namespace S
def take (b : Bk) (n : Nat) : Bk × Bool := if b.tok < n then (b, false) else (⟨b.rate, b.burst, b.tok - n⟩, true)
def new (r b : Nat) : Bk × Int := if 1048576 < max r b then (⟨0, 0, 0⟩, 1) else (⟨r, b, b⟩, 0)
def tick (b : Bk) (n : Nat) : Bk := ⟨b.rate, b.burst, min (b.tok + min n b.burst * b.rate) b.burst⟩
def cost (op bytes : Int) : Nat := if op = 1 then 1 + (min (max bytes 0) 1048576).toNat / 64 else 1
def sum (x y : Nat) : Nat := min (x + y) 18446744073709551615
end S
theorem size24 : (Try.prog.info? 24).map (·.size) = some 3 := by kernel_rfl
theorem size35 : (Try.prog.info? 35).map (·.size) = some 3 := by kernel_rfl
theorem var24 {w : World} {g : Nat} {x y z : Value} (h : w.heap[g]? = some (.cells #[x, y, z] 24 (0, 0))) : (loadVar 24 ⟨g, 0, none⟩).run Try.prog w = .ok (.agg #[x, y, z]) w := run_loadVar_row w g 24 24 _ (0, 0) _ h Try.underlying24 rfl size24
theorem var35 {w : World} {g : Nat} {x y z : Value} (h : w.heap[g]? = some (.cells #[x, y, z] 35 (0, 0))) : (loadVar 35 ⟨g, 0, none⟩).run Try.prog w = .ok (.agg #[x, y, z]) w := run_loadVar_row w g 35 35 _ (0, 0) _ h Try.underlying35 rfl size35
theorem results_rt {fn : Func} {p q : Tmp} {ty : TypeId} (h : fn.results = #[.cell p ty, .tmp q]) (tmps : Array Value) (w : World) (g : Nat) (cs : Array Value)
    (hp : tmps.getD p undef = .pointer (some ⟨g, 0, none⟩)) (hl : (loadVar ty ⟨g, 0, none⟩).run Try.prog w = .ok (.agg cs) w) :
    (results fn tmps).run Try.prog w = .ok (.tuple #[.agg cs, tmps.getD q undef]) w := by
  have hp' : tmps[p]?.getD undef = .pointer (some ⟨g, 0, none⟩) := by simpa using hp
  simp [results, h, hp', asAddr, hl]
theorem results_c {fn : Func} {p : Tmp} {ty : TypeId} (h : fn.results = #[.cell p ty]) (tmps : Array Value) (w : World) (g : Nat) (cs : Array Value)
    (hp : tmps.getD p undef = .pointer (some ⟨g, 0, none⟩)) (hl : (loadVar ty ⟨g, 0, none⟩).run Try.prog w = .ok (.agg cs) w) :
    (results fn tmps).run Try.prog w = .ok (.agg cs) w := by
  have hp' : tmps[p]?.getD undef = .pointer (some ⟨g, 0, none⟩) := by simpa using hp
  simp [results, h, hp', asAddr, hl]
theorem two_below (w : World) (x y : Obj) : Below w.heap.size w ((w.alloc x).alloc y) := ((Below.refl _ _).alloc (Nat.le_refl _) _).alloc (by simp) _
theorem one_below (w : World) (x : Obj) : Below w.heap.size w (w.alloc x) := (Below.refl _ _).alloc (Nat.le_refl _) _
theorem two_top (w : World) (x y : Obj) : ((w.alloc x).alloc y).heap[w.heap.size + 1]? = some y := by
  have := heap_alloc_new (w.alloc x) y
  simpa using this
theorem one_top (w : World) (x : Obj) : (w.alloc x).heap[w.heap.size]? = some x := heap_alloc_new w x

theorem take_any (r b t n : Nat) (ht : t < 4294967296) (w : World) :
   Calls Try.prog 8 #[.agg #[.int .u32 (r : Int), .int .u32 (b : Int), .int .u32 (t : Int)], .int .u32 (n : Int)] w fun e w' => e = .returned (.tuple #[.agg (encB (S.take ⟨r, b, t⟩ n).1), .bool (S.take ⟨r, b, t⟩ n).2]) ∧ Below w.heap.size w w' := by
  by_cases h : t < n
  · have q : (t : Int) < (n : Int) := by omega
    have HE : Hid (S.take ⟨r, b, t⟩ n = (⟨r, b, t⟩, false)) := by show S.take _ _ = _; simp [S.take, h]
    go_enter Try.func8, Try.ntmps8
    go_wp2
    exact bodyPost_ret (results_rt Try.results8 _ _ (w.heap.size + 1) _ rfl (var24 (two_top _ _ _))) rfl ⟨by rw [HE.out]; rfl, two_below _ _ _⟩
  · have q : ¬ (t : Int) < (n : Int) := by omega
    have q2 : IntKind.u32.wrap ((t : Int) - (n : Int)) = ((t - n : Nat) : Int) := by rw [IntKind.wrap_u32]; omega
    have HE : Hid (S.take ⟨r, b, t⟩ n = (⟨r, b, t - n⟩, true)) := by show S.take _ _ = _; simp [S.take, h]
    go_enter Try.func8, Try.ntmps8
    go_wp2
    exact bodyPost_ret (results_rt Try.results8 _ _ (w.heap.size + 1) _ rfl (var24 (two_top _ _ _))) rfl ⟨by rw [HE.out]; rfl, two_below _ _ _⟩

theorem rtake_any (r b t n : Nat) (ht : t < 4294967296) (w : World) :
   Calls Try.prog 13 #[.agg #[.int .u32 (r : Int), .int .u32 (b : Int), .int .u32 (t : Int)], .int .u32 (n : Int)] w fun e w' => e = .returned (.tuple #[.agg (encB (S.take ⟨r, b, t⟩ n).1), .bool (S.take ⟨r, b, t⟩ n).2]) ∧ Below w.heap.size w w' := by
  by_cases h : t < n
  · have q : (t : Int) < (n : Int) := by omega
    have HE : Hid (S.take ⟨r, b, t⟩ n = (⟨r, b, t⟩, false)) := by show S.take _ _ = _; simp [S.take, h]
    go_enter Try.func13, Try.ntmps13
    go_wp2
    exact bodyPost_ret (results_rt Try.results13 _ _ (w.heap.size + 1) _ rfl (var35 (two_top _ _ _))) rfl ⟨by rw [HE.out]; rfl, two_below _ _ _⟩
  · have q : ¬ (t : Int) < (n : Int) := by omega
    have q2 : IntKind.u32.wrap ((t : Int) - (n : Int)) = ((t - n : Nat) : Int) := by rw [IntKind.wrap_u32]; omega
    have HE : Hid (S.take ⟨r, b, t⟩ n = (⟨r, b, t - n⟩, true)) := by show S.take _ _ = _; simp [S.take, h]
    go_enter Try.func13, Try.ntmps13
    go_wp2
    exact bodyPost_ret (results_rt Try.results13 _ _ (w.heap.size + 1) _ rfl (var35 (two_top _ _ _))) rfl ⟨by rw [HE.out]; rfl, two_below _ _ _⟩

theorem new_any (r b : Nat) (w : World) :
   Calls Try.prog 7 #[.int .u32 (r : Int), .int .u32 (b : Int)] w fun e w' => e = .returned (.tuple #[.agg (encB (S.new r b).1), .int .i64 (S.new r b).2]) ∧ Below w.heap.size w w' := by
  by_cases h : r < b
  · have q : r < b := h
    by_cases h1 : 1048576 < b
    · have q1 : (1048576 : Int) < (b : Int) := by omega
      have HE : Hid (S.new r b = (⟨0, 0, 0⟩, 1)) := by show S.new _ _ = _; simp only [S.new, if_pos (show 1048576 < max r b by omega)]
      clear h h1
      go_enter Try.func7, Try.ntmps7
      go_wp2
      exact bodyPost_ret (results_rt Try.results7 _ _ w.heap.size _ rfl (var24 (one_top _ _))) rfl ⟨by rw [HE.out]; rfl, one_below _ _⟩
    · have q1 : ¬ (1048576 : Int) < (b : Int) := by omega
      have HE : Hid (S.new r b = (⟨r, b, b⟩, 0)) := by show S.new _ _ = _; simp only [S.new, if_neg (show ¬ 1048576 < max r b by omega)]
      clear h h1
      go_enter Try.func7, Try.ntmps7
      go_wp2
      exact bodyPost_ret (results_rt Try.results7 _ _ w.heap.size _ rfl (var24 (one_top _ _))) rfl ⟨by rw [HE.out]; rfl, one_below _ _⟩
  · have q : ¬ r < b := h
    by_cases h1 : 1048576 < r
    · have q1 : (1048576 : Int) < (r : Int) := by omega
      have HE : Hid (S.new r b = (⟨0, 0, 0⟩, 1)) := by show S.new _ _ = _; simp only [S.new, if_pos (show 1048576 < max r b by omega)]
      clear h h1
      go_enter Try.func7, Try.ntmps7
      go_wp2
      exact bodyPost_ret (results_rt Try.results7 _ _ w.heap.size _ rfl (var24 (one_top _ _))) rfl ⟨by rw [HE.out]; rfl, one_below _ _⟩
    · have q1 : ¬ (1048576 : Int) < (r : Int) := by omega
      have HE : Hid (S.new r b = (⟨r, b, b⟩, 0)) := by show S.new _ _ = _; simp only [S.new, if_neg (show ¬ 1048576 < max r b by omega)]
      clear h h1
      go_enter Try.func7, Try.ntmps7
      go_wp2
      exact bodyPost_ret (results_rt Try.results7 _ _ w.heap.size _ rfl (var24 (one_top _ _))) rfl ⟨by rw [HE.out]; rfl, one_below _ _⟩
theorem mul_bound {a b : Nat} (ha : a < 4294967296) (hb : b < 4294967296) : a * b ≤ 18446744065119617025 := by
  have := Nat.mul_le_mul (show a ≤ 4294967295 by omega) (show b ≤ 4294967295 by omega)
  omega
theorem tick_any (r b t n : Nat) (hr : r < 4294967296) (hb : b < 4294967296) (ht : t < 4294967296) (w : World) :
   Calls Try.prog 9 #[.agg #[.int .u32 (r : Int), .int .u32 (b : Int), .int .u32 (t : Int)], .int .u64 (n : Int)] w fun e w' => e = .returned (.agg (encB (S.tick ⟨r, b, t⟩ n))) ∧ Below w.heap.size w w' := by
  have qb : (b : Int) % 4294967296 = (b : Int) := by omega
  by_cases h : b < n
  · have q : b < n := h
    obtain ⟨p, hp⟩ : ∃ p, p = b * r := ⟨_, rfl⟩
    have hm := mul_bound (show b < 4294967296 by omega) hr
    rw [← hp] at hm
    have q1 : IntKind.u64.wrap ((b : Int) * (r : Int)) = (p : Int) := by rw [hp, IntKind.wrap_u64, ← Int.natCast_mul, ← hp]; omega
    obtain ⟨s, hs⟩ : ∃ s, s = t + p := ⟨_, rfl⟩
    have q2 : IntKind.u64.wrap ((t : Int) + (p : Int)) = (s : Int) := by rw [IntKind.wrap_u64]; omega
    have HK : Hid (min n b * r = p) := by show min n b * r = p; rw [show min n b = b by omega, hp]
    by_cases h1 : b < s
    · have q3 : (b : Int) < (s : Int) := by omega
      have HE : Hid (S.tick ⟨r, b, t⟩ n = ⟨r, b, b⟩) := by show S.tick _ _ = _; simp only [S.tick, S.Bk.mk.injEq, true_and]; rw [HK.out]; omega
      clear h1 hs hp hm
      go_enter Try.func9, Try.ntmps9
      go_wp2
      exact bodyPost_ret (results_c Try.results9 _ _ (w.heap.size + 1) _ rfl (var24 (two_top _ _ _))) rfl ⟨by rw [HE.out]; rfl, two_below _ _ _⟩
    · have q3 : ¬ (b : Int) < (s : Int) := by omega
      have q4 : (s : Int) % 4294967296 = (s : Int) := by omega
      have HE : Hid (S.tick ⟨r, b, t⟩ n = ⟨r, b, s⟩) := by show S.tick _ _ = _; simp only [S.tick, S.Bk.mk.injEq, true_and]; rw [HK.out]; omega
      clear h1 hs hp hm
      go_enter Try.func9, Try.ntmps9
      go_wp2
      exact bodyPost_ret (results_c Try.results9 _ _ (w.heap.size + 1) _ rfl (var24 (two_top _ _ _))) rfl ⟨by rw [HE.out]; rfl, two_below _ _ _⟩
  · have q : ¬ b < n := h
    obtain ⟨p, hp⟩ : ∃ p, p = n * r := ⟨_, rfl⟩
    have hm := mul_bound (show n < 4294967296 by omega) hr
    rw [← hp] at hm
    have q1 : IntKind.u64.wrap ((n : Int) * (r : Int)) = (p : Int) := by rw [hp, IntKind.wrap_u64, ← Int.natCast_mul, ← hp]; omega
    obtain ⟨s, hs⟩ : ∃ s, s = t + p := ⟨_, rfl⟩
    have q2 : IntKind.u64.wrap ((t : Int) + (p : Int)) = (s : Int) := by rw [IntKind.wrap_u64]; omega
    have HK : Hid (min n b * r = p) := by show min n b * r = p; rw [show min n b = n by omega, hp]
    by_cases h1 : b < s
    · have q3 : (b : Int) < (s : Int) := by omega
      have HE : Hid (S.tick ⟨r, b, t⟩ n = ⟨r, b, b⟩) := by show S.tick _ _ = _; simp only [S.tick, S.Bk.mk.injEq, true_and]; rw [HK.out]; omega
      clear h1 hs hp hm
      go_enter Try.func9, Try.ntmps9
      go_wp2
      exact bodyPost_ret (results_c Try.results9 _ _ (w.heap.size + 1) _ rfl (var24 (two_top _ _ _))) rfl ⟨by rw [HE.out]; rfl, two_below _ _ _⟩
    · have q3 : ¬ (b : Int) < (s : Int) := by omega
      have q4 : (s : Int) % 4294967296 = (s : Int) := by omega
      have HE : Hid (S.tick ⟨r, b, t⟩ n = ⟨r, b, s⟩) := by show S.tick _ _ = _; simp only [S.tick, S.Bk.mk.injEq, true_and]; rw [HK.out]; omega
      clear h1 hs hp hm
      go_enter Try.func9, Try.ntmps9
      go_wp2
      exact bodyPost_ret (results_c Try.results9 _ _ (w.heap.size + 1) _ rfl (var24 (two_top _ _ _))) rfl ⟨by rw [HE.out]; rfl, two_below _ _ _⟩
theorem cost_any (op x : Int) (w : World) :
   Calls Try.prog 10 #[.int .i64 op, .int .i64 x] w fun e w' => e = .returned (.int .u32 (S.cost op x : Int)) ∧ Below w.heap.size w w' := by
  by_cases h : op = 1
  · subst h
    by_cases h1 : x < 0
    · have q1 := h1
      have HE : Hid ((S.cost 1 x : Int) = 1) := by show (S.cost 1 x : Int) = _; rw [S.cost, if_pos rfl]; omega
      go_enter Try.func10, Try.ntmps10
      go_wp2
      go_ret
      exact ⟨by rw [HE.out]; first | rfl | done, Below.refl _ _⟩
    by_cases h2 : 1048576 < x
    · have q1 : ¬ x < 0 := by omega
      have HE : Hid ((S.cost 1 x : Int) = 16385) := by show (S.cost 1 x : Int) = _; rw [S.cost, if_pos rfl]; omega
      go_enter Try.func10, Try.ntmps10
      go_wp2
      go_ret
      exact ⟨by rw [HE.out]; first | rfl | done, Below.refl _ _⟩
    have q1 : ¬ x < 0 := by omega
    have q2 : ¬ 1048576 < x := by omega
    have HE : Hid ((S.cost 1 x : Int) = 1 + x / 64) := by show (S.cost 1 x : Int) = _; rw [S.cost, if_pos rfl]; omega
    go_enter Try.func10, Try.ntmps10
    go_wp2
    go_ret
    exact ⟨by rw [HE.out]; first | rfl | done, Below.refl _ _⟩
  · have HE : Hid (S.cost op x = 1) := by show S.cost op x = 1; rw [S.cost, if_neg h]
    go_enter Try.func10, Try.ntmps10
    go_wp2
    go_ret
    exact ⟨by rw [HE.out]; rfl, Below.refl _ _⟩
theorem rcost_any (op x : Int) (w : World) :
   Calls Try.prog 17 #[.int .i64 op, .int .i64 x] w fun e w' => e = .returned (.int .u32 (S.cost op x : Int)) ∧ Below w.heap.size w w' := by
  by_cases h : op = 1
  · subst h
    by_cases h1 : x < 0
    · have q1 := h1
      have HE : Hid ((S.cost 1 x : Int) = 1) := by show (S.cost 1 x : Int) = _; rw [S.cost, if_pos rfl]; omega
      go_enter Try.func17, Try.ntmps17
      go_wp2
      go_ret
      exact ⟨by rw [HE.out]; first | rfl | done, Below.refl _ _⟩
    by_cases h2 : 1048576 < x
    · have q1 : ¬ x < 0 := by omega
      have HE : Hid ((S.cost 1 x : Int) = 16385) := by show (S.cost 1 x : Int) = _; rw [S.cost, if_pos rfl]; omega
      go_enter Try.func17, Try.ntmps17
      go_wp2
      go_ret
      exact ⟨by rw [HE.out]; first | rfl | done, Below.refl _ _⟩
    have q1 : ¬ x < 0 := by omega
    have q2 : ¬ 1048576 < x := by omega
    have HE : Hid ((S.cost 1 x : Int) = 1 + x / 64) := by show (S.cost 1 x : Int) = _; rw [S.cost, if_pos rfl]; omega
    go_enter Try.func17, Try.ntmps17
    go_wp2
    go_ret
    exact ⟨by rw [HE.out]; first | rfl | done, Below.refl _ _⟩
  · have HE : Hid (S.cost op x = 1) := by show S.cost op x = 1; rw [S.cost, if_neg h]
    go_enter Try.func17, Try.ntmps17
    go_wp2
    go_ret
    exact ⟨by rw [HE.out]; rfl, Below.refl _ _⟩
theorem sum_any (x y : Nat) (hx : x < 18446744073709551616) (hy : y < 18446744073709551616) (w : World) :
   Calls Try.prog 11 #[.int .u64 (x : Int), .int .u64 (y : Int)] w fun e w' => e = .returned (.int .u64 (S.sum x y : Int)) ∧ Below w.heap.size w w' := by
  have q1 : IntKind.u64.wrap (18446744073709551615 - (y : Int)) = ((18446744073709551615 - y : Nat) : Int) := by rw [IntKind.wrap_u64]; omega
  by_cases h : 18446744073709551615 - y < x
  · have q2 : (x : Int) > ((18446744073709551615 - y : Nat) : Int) := by omega
    have HE : Hid (S.sum x y = 18446744073709551615) := by show S.sum x y = _; rw [S.sum]; omega
    go_enter Try.func11, Try.ntmps11
    go_wp2
    go_ret
    exact ⟨by rw [HE.out]; rfl, Below.refl _ _⟩
  · have q2 : ¬ (x : Int) > ((18446744073709551615 - y : Nat) : Int) := by omega
    have HE : Hid (S.sum x y = x + y) := by show S.sum x y = _; rw [S.sum]; omega
    have q3 : IntKind.u64.wrap ((x : Int) + (y : Int)) = ((x + y : Nat) : Int) := by rw [IntKind.wrap_u64]; omega
    go_enter Try.func11, Try.ntmps11
    go_wp2
    go_ret
    exact ⟨by rw [HE.out]; rfl, Below.refl _ _⟩
theorem plain_any (r b t : Nat) (w : World) :
   Calls Try.prog 14 #[.agg #[.int .u32 (r : Int), .int .u32 (b : Int), .int .u32 (t : Int)]] w fun e w' => e = .returned (.agg (encB ⟨r, b, t⟩)) ∧ Below w.heap.size w w' := by
  go_enter Try.func14, Try.ntmps14
  go_wp2
  exact bodyPost_ret (results_c Try.results14 _ _ (w.heap.size + 1) _ rfl (var35 (two_top _ _ _))) rfl ⟨rfl, two_below _ _ _⟩
theorem same_any (r b t : Nat) (w : World) :
   Calls Try.prog 15 #[.agg #[.int .u32 (r : Int), .int .u32 (b : Int), .int .u32 (t : Int)], .agg #[.int .u32 (r : Int), .int .u32 (b : Int), .int .u32 (t : Int)]] w fun e w' => e = .returned (.bool true) ∧ Below w.heap.size w w' := by
  go_enter Try.func15, Try.ntmps15
  go_wp2
  go_ret
  exact ⟨rfl, two_below _ _ _⟩
theorem rtick_any (r b t n : Nat) (hr : r < 4294967296) (hb : b < 4294967296) (ht : t < 4294967296) (hn : n < 18446744073709551616) (w : World) :
   Calls Try.prog 16 #[.agg #[.int .u32 (r : Int), .int .u32 (b : Int), .int .u32 (t : Int)], .int .u64 (n : Int)] w fun e w' => e = .returned (.agg (encB (S.tick ⟨r, b, t⟩ n))) ∧ Below w.heap.size w w' := by
  by_cases h1 : b ≤ t
  · have q : (t : Int) ≥ (b : Int) := by omega
    have HE : Hid (S.tick ⟨r, b, t⟩ n = ⟨r, b, b⟩) := by show S.tick _ _ = _; simp only [S.tick, S.Bk.mk.injEq, true_and]; omega
    clear h1
    go_enter Try.func16, Try.ntmps16
    go_wp2
    exact bodyPost_ret (results_c Try.results16 _ _ (w.heap.size + 1) _ rfl (var35 (two_top _ _ _))) rfl ⟨by rw [HE.out]; rfl, two_below _ _ _⟩
  have q : ¬ (t : Int) ≥ (b : Int) := by omega
  by_cases h2 : r = 0
  · subst h2
    have HE : Hid (S.tick ⟨0, b, t⟩ n = ⟨0, b, t⟩) := by show S.tick _ _ = _; simp only [S.tick, S.Bk.mk.injEq, true_and]; omega
    clear h1
    go_enter Try.func16, Try.ntmps16
    go_wp2
    exact bodyPost_ret (results_c Try.results16 _ _ (w.heap.size + 1) _ rfl (var35 (two_top _ _ _))) rfl ⟨by rw [HE.out]; rfl, two_below _ _ _⟩
  have q2 : ¬ (r : Int) = 0 := by omega
  have q3 : IntKind.u32.wrap ((b : Int) - (t : Int)) = ((b - t : Nat) : Int) := by rw [IntKind.wrap_u32]; omega
  obtain ⟨l, hl⟩ : ∃ l, l = b - t := ⟨_, rfl⟩
  rw [← hl] at q3
  have q3b : IntKind.u64.wrap (l : Int) = (l : Int) := by rw [IntKind.wrap_u64]; omega
  have q4 : IntKind.u64.wrap ((l : Int) + (r : Int)) = ((l + r : Nat) : Int) := by rw [IntKind.wrap_u64]; omega
  obtain ⟨lr, hlr⟩ : ∃ lr, lr = l + r := ⟨_, rfl⟩
  rw [← hlr] at q4
  have q5 : IntKind.u64.wrap ((lr : Int) - 1) = ((lr - 1 : Nat) : Int) := by rw [IntKind.wrap_u64]; omega
  obtain ⟨l1, hl1⟩ : ∃ l1, l1 = lr - 1 := ⟨_, rfl⟩
  rw [← hl1] at q5
  obtain ⟨c, hc⟩ : ∃ c, c = l1 / r := ⟨_, rfl⟩
  have q6 : ((l1 : Int).tdiv (r : Int)) = (c : Int) := by rw [hc]; rfl
  have q7 : (l1 : Int) / (r : Int) = (c : Int) := by rw [hc]; rfl
  have hcl : c ≤ l1 := by rw [hc]; exact Nat.div_le_self _ _
  have q6b : IntKind.u64.wrap (c : Int) = (c : Int) := by rw [IntKind.wrap_u64]; omega
  clear hcl
  have hlc : c ≤ n ↔ l ≤ n * r := by
    rw [hc]
    constructor
    · intro h
      have e1 := Nat.div_add_mod l1 r
      have e2 := Nat.mod_lt l1 (show 0 < r by omega)
      have e3 := Nat.mul_le_mul_left r h
      rw [Nat.mul_comm n r]
      omega
    · intro h
      have : l1 / r < n + 1 := (Nat.div_lt_iff_lt_mul (by omega)).2 (by rw [Nat.add_mul, Nat.one_mul]; omega)
      omega
  by_cases h3 : c ≤ n
  · have q8 : (n : Int) ≥ (c : Int) := by omega
    have HE : Hid (S.tick ⟨r, b, t⟩ n = ⟨r, b, b⟩) := by
      show S.tick _ _ = _
      simp only [S.tick, S.Bk.mk.injEq, true_and]
      have h4 := hlc.1 h3
      rcases Nat.le_total n b with h5 | h5
      · rw [Nat.min_eq_left h5]; omega
      · rw [Nat.min_eq_right h5]
        have := Nat.le_mul_of_pos_right b (show 0 < r by omega)
        omega
    clear h1 hl hlr hl1 hc hlc h3 h2
    go_enter Try.func16, Try.ntmps16
    go_wp2
    exact bodyPost_ret (results_c Try.results16 _ _ (w.heap.size + 1) _ rfl (var35 (two_top _ _ _))) rfl ⟨by rw [HE.out]; rfl, two_below _ _ _⟩
  · have q8 : ¬ (n : Int) ≥ (c : Int) := by omega
    have h4 : n * r < l := by
      rcases Nat.lt_or_ge (n * r) l with h | h
      · exact h
      · exact absurd (hlc.2 h) h3
    have hnr := Nat.le_mul_of_pos_right n (show 0 < r by omega)
    obtain ⟨p, hp⟩ : ∃ p, p = n * r := ⟨_, rfl⟩
    rw [← hp] at h4 hnr
    have q9 : (n : Int) % 4294967296 = (n : Int) := by omega
    have q10 : IntKind.u32.wrap ((n : Int) * (r : Int)) = (p : Int) := by rw [hp, IntKind.wrap_u32, ← Int.natCast_mul, ← hp]; omega
    have q11 : IntKind.u32.wrap ((t : Int) + (p : Int)) = ((t + p : Nat) : Int) := by rw [IntKind.wrap_u32]; omega
    have q12 : (n : Int) * (r : Int) % 4294967296 = (p : Int) := by rw [hp, ← Int.natCast_mul, ← hp]; omega
    have q13 : ((t : Int) + (p : Int)) % 4294967296 = ((t + p : Nat) : Int) := by omega
    have HE : Hid (S.tick ⟨r, b, t⟩ n = ⟨r, b, t + p⟩) := by
      show S.tick _ _ = _
      simp only [S.tick, S.Bk.mk.injEq, true_and]
      rw [Nat.min_eq_left (show n ≤ b by omega), ← hp]
      omega
    clear h1 hl hlr hl1 hc hlc h3 h2 h4 hnr hp
    go_enter Try.func16, Try.ntmps16
    go_wp2
    exact bodyPost_ret (results_c Try.results16 _ _ (w.heap.size + 1) _ rfl (var35 (two_top _ _ _))) rfl ⟨by rw [HE.out]; rfl, two_below _ _ _⟩
end Go.Proofs.Ytlalnenafmpjiaa
