/- New answers a disk of noughts in new memory, or refuses a number that may not be. -/
import Derived.Test.YtjnbjgkcliaipaaDisk
namespace Go.Proofs.Ytjnbjgkcliaipaa
open Go.RowKit
theorem info_pair {P : Program} {e : TypeId} {a b : Nat} {z : Value} (h1 : (P.info? e).map (fun i => (i.size, i.bytes)) = some (a, b)) (h2 : (P.info? e).bind (·.zero) = some z) : ∃ i, P.info? e = some i ∧ i.zero = some z ∧ i.size = a ∧ i.bytes = b := by
  cases h : P.info? e with
  | none => rw [h] at h1; cases h1
  | some i =>
    rw [h] at h1 h2
    simp only [Option.map_some, Option.some.injEq, Prod.mk.injEq] at h1
    exact ⟨i, rfl, h2, h1.1, h1.2⟩
theorem zeros_getD (n j : Nat) : (S.zeros n).getD j 0 = 0 := by
  unfold S.zeros
  rw [List.getD_eq_getElem?_getD, List.getElem?_replicate]
  split <;> rfl
/-- The noughts that make lays. -/
def noughts (n : Nat) : Array Value := madeCells (S.v8 (S.zeros 128)) (n * 128)
theorem noughts_size (n : Nat) : (noughts n).size = n * 128 := size_madeCells _ _
theorem noughts_at (n j : Nat) (hj : j < n * 128) : (noughts n)[j]? = some (.int .u8 0) := by
  have hs : (S.v8 (S.zeros 128)).size = 128 := by rw [S.v8_size, S.zeros_length]
  simp only [noughts, madeCells, Array.getElem?_map]
  rw [Array.getElem?_eq_getElem (by simpa using hj)]
  simp only [Array.getElem_range, Option.map_some]
  have hm : j % (S.v8 (S.zeros 128)).size < (S.v8 (S.zeros 128)).size := by rw [hs]; omega
  rw [getElem!_pos (S.v8 (S.zeros 128)) _ hm]
  generalize j % (S.v8 (S.zeros 128)).size = k at hm
  rw [← Array.getElem?_eq_getElem hm, S.v8_eq, List.getElem?_toArray, v8l_get _ _ (by rw [S.v8_size] at hm; exact hm), zeros_getD]
  rfl
theorem make_secs (n : Nat) (hn : n ≤ 8192) (w : World) : (Instr.makeSlice 67 (.int .i64 (n : Int)) (.int .i64 (n : Int))).run Try.prog w = .ok (.slice (some ⟨w.heap.size, 0, none⟩) n n) (w.alloc (.cells (noughts n) 73)) := by
  obtain ⟨i, hi, hz, hsz, hby⟩ := info_pair info73 zero73
  have h := run_make (P := Try.prog) w 67 73 i _ Try.underlying67 hi hz .i64 .i64 (n : Int) (n : Int) (by omega) (Int.le_refl _) (by rw [hby]; omega) (by omega)
  rw [h, hsz]
  rfl
theorem secAt_noughts {w : World} {g n : Nat} (h : w.heap[g]? = some (.cells (noughts n) 73 (0, 0))) : SecAt w g (List.replicate n (S.zeros 128)) := by
  refine ⟨⟨_, h, by rw [noughts_size, List.length_replicate]; omega⟩, fun i hi => ?_, fun i hi => ?_⟩
  · have hi' : i < n := by simpa using hi
    simp [List.getD_eq_getElem?_getD, hi', S.zeros_length]
  · have hi' : i < n := by simpa using hi
    have e : (List.replicate n (S.zeros 128)).getD i [] = S.zeros 128 := by simp [List.getD_eq_getElem?_getD, hi']
    rw [e]
    intro j v hv
    obtain ⟨rfl, hj⟩ := S.v8l_at _ j v hv
    rw [S.zeros_length] at hj
    rw [cell_of_row w g _ _ 73 (0, 0) h, noughts_at n _ (by omega), zeros_getD]
    rfl
theorem new_no (n : Int) (w : World) (h : n < 1 ∨ 8192 < n) :
   Calls Try.prog 9 #[.int .i64 n] w fun e w' => e = .returned (.tuple #[.pointer none, .int .i64 1]) ∧ w = w' := by
  by_cases h1 : n < 1
  · go_enter Try.func9, Try.ntmps9
    go_wp2
    go_ret2
    exact ⟨rfl, rfl⟩
  · have h2 : 8192 < n := by omega
    go_enter Try.func9, Try.ntmps9
    go_wp2
    go_ret2
    exact ⟨rfl, rfl⟩
theorem dk_new {w W : World} {g gs ge n : Nat} (hn : n ≤ 8192) (h1 : W.heap[g]? = some (.cells #[.slice (some ⟨gs, 0, none⟩) n n, .slice (some ⟨ge, 0, none⟩) n n, .slice none 0 0, .bool false, .int .i64 0] 70 (0, 0))) (h2 : W.heap[gs]? = some (.cells (noughts n) 73 (0, 0))) (h3 : W.heap[ge]? = some (.cells (noughts n) 73 (0, 0))) (hs : g ≠ gs ∧ g ≠ ge ∧ gs ≠ ge) (hg : w.heap.size ≤ g) (hgs : w.heap.size ≤ gs) (hge : w.heap.size ≤ ge) (hb : Below w.heap.size w W) :
    ∃ o, o.g = g ∧ DkIs W o (S.Dk.new n) ∧ (∀ k, o.has k → w.heap.size ≤ k) ∧ Below w.heap.size w W := by
  have hl : (S.Dk.new n).safe.length = n := by simp [S.Dk.new]
  refine ⟨⟨g, gs, ge, n, n, .slice none 0 0, 0⟩, rfl, ⟨by rw [hl]; exact h1, secAt_noughts h2, secAt_noughts h3, prow_nil _, S.Dk.new_ok n hn, fun k hk => (by cases hk), hs, fun k hk => (by cases hk), by rw [hl]; exact ⟨Nat.le_refl _, Nat.le_refl _⟩⟩, ?_, hb⟩
  rintro k (rfl | rfl | rfl | hk)
  · exact hg
  · exact hgs
  · exact hge
  · cases hk
theorem new3 (w : World) (a b c : Obj) : (((w.alloc a).alloc b).alloc c).drew.heap[w.heap.size]? = some a ∧ (((w.alloc a).alloc b).alloc c).drew.heap[w.heap.size + 1]? = some b ∧ (((w.alloc a).alloc b).alloc c).drew.heap[w.heap.size + 1 + 1]? = some c := by
  have s1 : (w.alloc a).heap.size = w.heap.size + 1 := by simp
  have s2 : ((w.alloc a).alloc b).heap.size = w.heap.size + 1 + 1 := by simp
  refine ⟨?_, ?_, ?_⟩
  · exact (heap_alloc_old _ c (by omega)).trans ((heap_alloc_old _ b (by omega)).trans (heap_alloc_new w a))
  · have := heap_alloc_new (w.alloc a) b
    rw [s1] at this
    exact (heap_alloc_old _ c (by omega)).trans this
  · have := heap_alloc_new ((w.alloc a).alloc b) c
    rw [s2] at this
    exact this
theorem new3_below (w : World) (a b c : Obj) : Below w.heap.size w (((w.alloc a).alloc b).alloc c).drew :=
  (((Chg.refl (fun _ => False) w).alloc a).alloc b |>.alloc c).drew.below _ (Nat.le_refl _) (fun _ _ e => e)
set_option maxHeartbeats 800000 in
theorem new_any (n : Nat) (w : World) (h1 : 1 ≤ n) (h2 : n ≤ 8192) :
   Calls Try.prog 9 #[.int .i64 (n : Int)] w fun e w' => ∃ o, e = .returned (.tuple #[o.ptr, .int .i64 0]) ∧ DkIs w' o (S.Dk.new n) ∧ (∀ k, o.has k → w.heap.size ≤ k) ∧ Below w.heap.size w w' := by
  have hmk := make_secs n h2
  have q1 : ¬ ((n : Int) < 1) := by omega
  have q2 : ¬ ((8192 : Int) < (n : Int)) := by omega
  go_enter Try.func9, Try.ntmps9
  go_wp2_with fail
  go_region
  all_goals
    go_wp2_with fail
    go_ret2
  · obtain ⟨o, h3, h4, h5, h6⟩ := dk_new (w := w) (W := (((w.alloc (.cells (noughts n) 73)).alloc (.cells (noughts n) 73)).alloc (.cells #[.slice (some ⟨w.heap.size, 0, none⟩) n n, .slice (some ⟨w.heap.size + 1, 0, none⟩) n n, .slice none 0 0, .bool false, .int .i64 0] 70)).drew) (g := w.heap.size + 1 + 1) (gs := w.heap.size) (ge := w.heap.size + 1) h2
      (new3 w _ _ _).2.2 (new3 w _ _ _).1 (new3 w _ _ _).2.1 (by omega) (by omega) (by omega) (by omega) (new3_below w _ _ _)
    exact ⟨o, by rw [Ow.ptr, h3]; rfl, h4, h5, h6⟩
  · obtain ⟨o, h3, h4, h5, h6⟩ := dk_new (w := w) (W := (((w.alloc (.cells (noughts n) 73)).alloc (.cells (noughts n) 73)).alloc (.cells #[.slice (some ⟨w.heap.size + 1, 0, none⟩) n n, .slice (some ⟨w.heap.size, 0, none⟩) n n, .slice none 0 0, .bool false, .int .i64 0] 70)).drew) (g := w.heap.size + 1 + 1) (gs := w.heap.size + 1) (ge := w.heap.size) h2
      (new3 w _ _ _).2.2 (new3 w _ _ _).2.1 (new3 w _ _ _).1 (by omega) (by omega) (by omega) (by omega) (new3_below w _ _ _)
    exact ⟨o, by rw [Ow.ptr, h3]; rfl, h4, h5, h6⟩
end Go.Proofs.Ytjnbjgkcliaipaa
