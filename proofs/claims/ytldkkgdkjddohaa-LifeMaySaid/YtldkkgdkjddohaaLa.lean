/- What a tree goes through: the plain words, and the contracts of package life and of the document's answer. -/
import Derived.Test.YtldkkgdkjddohaaWap
import Derived.Great.BuildSlice
namespace Go.Proofs.Ytldkkgdkjddohaa
open Go.RowKit
theorem Still.blw {w W : World} (h : Still w W) (B : Nat) : Below B w W := ⟨h.2.1, h.2.2.1, h.2.2.2, by rw [h.1]; exact Nat.le_refl _, fun _ _ => by rw [h.1]⟩
theorem one_below (w : World) (x : Obj) : Below w.heap.size w (w.alloc x) := (Below.refl _ _).alloc (Nat.le_refl _) _
theorem two_below (w : World) (x y : Obj) : Below w.heap.size w ((w.alloc x).alloc y) := ((Below.refl _ _).alloc (Nat.le_refl _) _).alloc (by simp) _
theorem one_top (w : World) (x : Obj) : (w.alloc x).heap[w.heap.size]? = some x := heap_alloc_new w x
theorem two_top (w : World) (x y : Obj) : ((w.alloc x).alloc y).heap[w.heap.size + 1]? = some y := by
  have := heap_alloc_new (w.alloc x) y
  simpa using this
theorem two_fst (w : World) (x y : Obj) : ((w.alloc x).alloc y).heap[w.heap.size]? = some x := by
  have h : Below (w.heap.size + 1) (w.alloc x) ((w.alloc x).alloc y) := (Below.refl _ _).alloc (by simp) _
  exact (h.block w.heap.size (Nat.lt_succ_self _)).trans (heap_alloc_new w x)
namespace S
/-- The states that may follow. -/
def nxt (a b : Int) : List Int := if a = 1 then [2, 3] else if a = 2 then [1, 3, 4] else if a = 3 then (if b = 0 then [2, 4] else [2]) else []
def may (a c b : Int) : Bool := decide (c ∈ nxt a b)
def adds (a : Int) : Bool := a == 1
def runs (a : Int) : Bool := a == 1 || a == 3
def serves (a : Int) : Bool := a == 1 || a == 2 || a == 3
theorem nxt_len (a b : Int) : (nxt a b).length ≤ 3 := by
  unfold nxt
  repeat' split
  all_goals decide
theorem adds_runs (a : Int) (h : adds a = true) : runs a = true := by simp [adds, runs] at *; exact Or.inl h
theorem runs_serves (a : Int) (h : runs a = true) : serves a = true := by
  simp [runs, serves] at *
  rcases h with h | h
  · exact Or.inl (Or.inl h)
  · exact Or.inr h
end S
/-- Nil, or a row of one's own that is full. -/
def Nx (B : Nat) (w : World) (v : Value) (xs : List Int) : Prop :=
  (v = .slice none 0 0 ∧ xs = []) ∨ ∃ g, B ≤ g ∧ v = .slice (some ⟨g, 0, none⟩) xs.length xs.length ∧ w.heap[g]? = some (.cells (S.v8 xs) 3 (0, 0))
theorem Nx.room {w : World} {g : Nat} {xs : List Int} (h : w.heap[g]? = some (.cells (S.v8 xs) 3 (0, 0))) : Room w g xs.length xs :=
  ⟨S.v8 xs, h, S.v8_size xs, Nat.le_refl _, by simp [S.v8, S.v8l, List.take_of_length_le]⟩
theorem Nx.below {B : Nat} {w W : World} {v : Value} {xs : List Int} (h : Nx B w v xs) (hb : Below w.heap.size w W) : Nx B W v xs := by
  rcases h with h | ⟨g, h1, h2, h3⟩
  · exact Or.inl h
  · exact Or.inr ⟨g, h1, h2, (hb.block g (block_lt_of_row h3)).trans h3⟩
theorem Nx.sliceAt {B : Nat} {w : World} {v : Value} {xs : List Int} (h : Nx B w v xs) (hl : xs.length ≤ 100000) : SliceAt w v xs := by
  rcases h with ⟨rfl, rfl⟩ | ⟨g, h1, rfl, h3⟩
  · exact Or.inl ⟨rfl, rfl⟩
  · exact (Nx.room h3).sliceAt hl
theorem Nx.form {B : Nat} {w : World} {v : Value} {xs : List Int} (h : Nx B w v xs) : ∃ ao, v = .slice ao xs.length xs.length := by
  rcases h with ⟨rfl, rfl⟩ | ⟨g, h1, rfl, h3⟩
  · exact ⟨_, rfl⟩
  · exact ⟨_, rfl⟩
theorem info3 : (Try.prog.info? 3).map (fun i => (i.zero, i.size, i.bytes)) = some (some (.int .i64 0), 1, 8) := by kernel_rfl
theorem bs1 (W : World) (x : Int) : (Instr.buildSlice 22 1 #[(0, .int .i64 x)]).run Try.prog W = .ok (.slice (some ⟨W.heap.size, 0, none⟩) 1 1) (W.alloc (.cells #[.int .i64 x] 3)) := by
  obtain ⟨i, hi, hz, hs, _⟩ := info_parts info3
  refine run_buildSlice W 22 3 1 _ _ i _ Try.underlying22 hi hz (by rw [hs]; omega) (by rw [hs]; omega) ?_
  have h := Great.fill_whole (s := 1) (by omega) [.int .i64 x] ((Array.range (1 * i.size)).map ((.int .i64 0 : Value).cells[· % (.int .i64 0 : Value).cells.size]!)) (fun v hv => by
    simp only [List.mem_singleton] at hv
    subst hv
    rfl) (by simp [hs])
  rw [hs] at h ⊢
  refine h.trans ?_
  simp [Value.cells]
theorem bs2 (W : World) (x y : Int) : (Instr.buildSlice 22 2 #[(0, .int .i64 x), (1, .int .i64 y)]).run Try.prog W = .ok (.slice (some ⟨W.heap.size, 0, none⟩) 2 2) (W.alloc (.cells #[.int .i64 x, .int .i64 y] 3)) := by
  obtain ⟨i, hi, hz, hs, _⟩ := info_parts info3
  refine run_buildSlice W 22 3 2 _ _ i _ Try.underlying22 hi hz (by rw [hs]; omega) (by rw [hs]; omega) ?_
  have h := Great.fill_whole (s := 1) (by omega) [.int .i64 x, .int .i64 y] ((Array.range (2 * i.size)).map ((.int .i64 0 : Value).cells[· % (.int .i64 0 : Value).cells.size]!)) (fun v hv => by
    simp only [List.mem_cons, List.not_mem_nil, or_false] at hv
    rcases hv with rfl | rfl <;> rfl) (by simp [hs])
  rw [hs] at h ⊢
  refine h.trans ?_
  simp [Value.cells]
theorem bs3 (W : World) (x y z : Int) : (Instr.buildSlice 22 3 #[(0, .int .i64 x), (1, .int .i64 y), (2, .int .i64 z)]).run Try.prog W = .ok (.slice (some ⟨W.heap.size, 0, none⟩) 3 3) (W.alloc (.cells #[.int .i64 x, .int .i64 y, .int .i64 z] 3)) := by
  obtain ⟨i, hi, hz, hs, _⟩ := info_parts info3
  refine run_buildSlice W 22 3 3 _ _ i _ Try.underlying22 hi hz (by rw [hs]; omega) (by rw [hs]; omega) ?_
  have h := Great.fill_whole (s := 1) (by omega) [.int .i64 x, .int .i64 y, .int .i64 z] ((Array.range (3 * i.size)).map ((.int .i64 0 : Value).cells[· % (.int .i64 0 : Value).cells.size]!)) (fun v hv => by
    simp only [List.mem_cons, List.not_mem_nil, or_false] at hv
    rcases hv with rfl | rfl | rfl <;> rfl) (by simp [hs])
  rw [hs] at h ⊢
  refine h.trans ?_
  simp [Value.cells]
theorem nx_one (w : World) (xs : List Int) (n : Nat) (hn : n = xs.length) : Nx w.heap.size (w.alloc (.cells (S.v8 xs) 3)) (.slice (some ⟨w.heap.size, 0, none⟩) n n) xs := by
  subst hn
  exact Or.inr ⟨w.heap.size, Nat.le_refl _, rfl, one_top _ _⟩

set_option maxHeartbeats 800000 in
/-- Next: for any two numbers. -/
theorem next_any (a b : Int) (w : World) :
   Calls Try.prog 8 #[.int .i64 a, .int .i64 b] w fun e w' => ∃ v, e = .returned v ∧ Nx w.heap.size w' v (S.nxt a b) ∧ Below w.heap.size w w' := by
  have h1 := bs1
  have h2 := bs2
  have h3 := bs3
  by_cases ha1 : a = 1
  · subst ha1
    have HE : Hid (S.nxt 1 b = [2, 3]) := by show _ = _; simp [S.nxt]
    go_enter Try.func8, Try.ntmps8
    go_wp2
    go_ret
    exact ⟨_, rfl, by rw [HE.out]; exact nx_one w [2, 3] 2 rfl, one_below _ _⟩
  by_cases ha2 : a = 2
  · subst ha2
    have HE : Hid (S.nxt 2 b = [1, 3, 4]) := by show _ = _; simp [S.nxt]
    go_enter Try.func8, Try.ntmps8
    go_wp2
    go_ret
    exact ⟨_, rfl, by rw [HE.out]; exact nx_one w [1, 3, 4] 3 rfl, one_below _ _⟩
  by_cases ha3 : a = 3
  · subst ha3
    by_cases hb : b = 0
    · subst hb
      have HE : Hid (S.nxt 3 0 = [2, 4]) := by show _ = _; simp [S.nxt]
      go_enter Try.func8, Try.ntmps8
      go_wp2
      go_ret
      exact ⟨_, rfl, by rw [HE.out]; exact nx_one w [2, 4] 2 rfl, one_below _ _⟩
    · have HE : Hid (S.nxt 3 b = [2]) := by show _ = _; simp [S.nxt, hb]
      have e0 : (b == 0) = false := by simpa using hb
      go_enter Try.func8, Try.ntmps8
      go_wp2
      go_ret
      exact ⟨_, rfl, by rw [HE.out]; exact nx_one w [2] 1 rfl, one_below _ _⟩
  · have HE : Hid (S.nxt a b = []) := by show _ = _; simp [S.nxt, ha1, ha2, ha3]
    have e1 : (a == 1) = false := by simpa using ha1
    have e2 : (a == 2) = false := by simpa using ha2
    have e3 : (a == 3) = false := by simpa using ha3
    go_enter Try.func8, Try.ntmps8
    go_wp2
    go_ret
    exact ⟨_, rfl, by rw [HE.out]; exact Or.inl ⟨rfl, rfl⟩, Below.refl _ _⟩

set_option maxHeartbeats 800000 in
theorem index_any (v : Value) (xs : List Int) (x : Int) (w : World) (h : SliceAt w v xs) :
   Calls Try.prog 25 #[v, .int .i64 x] w fun e w' => (∃ n : Int, e = .returned (.int .i64 n) ∧ ((0 ≤ n ∧ x ∈ xs) ∨ (n = -1 ∧ ¬ x ∈ xs))) ∧ Still w w' := by
  have H := hide h
  obtain ⟨ao, len, cap, rfl, hlen, hmax⟩ := h.form
  clear h
  have HL := hide (And.intro hlen hmax)
  clear hlen hmax
  go_enter Try.func25, Try.ntmps25
  go_wp2
  go_loopw [8] (fun i wr => ∃ c : Nat, c ≤ len ∧ i = .int .i64 (c : Int) ∧ Still w wr ∧ Hid (∀ j, j < c → xs[j]? ≠ some x)) (fun i _ => len - (intOf i).toNat)
  case atStart => exact ⟨0, by omega, rfl, Still.refl _, fun j hj => by omega⟩
  case round =>
    obtain ⟨c, hc, rfl, hst, hno⟩ := hrel
    by_cases hlt : c < len
    · obtain ⟨b, off, rfl, _, _, hc2⟩ := H.out.src (by have := HL.out.1; omega)
      have c1 : wr.cell? ⟨b, off + c, none⟩ = some (.int .i64 (xs.getD c 0)) := by rw [← hc2 c (by have := HL.out.1; omega)]; exact World.cell?_of_block (by rw [hst.1])
      have hy : xs[c]? = some (xs.getD c 0) := by
        rw [List.getD_eq_getElem?_getD, List.getElem?_eq_getElem (by have := HL.out.1; omega)]; rfl
      generalize xs.getD c 0 = y at c1 hy
      have q1 : (0 : Int) ≤ (c : Int) := by omega
      have q2 : (c : Int) < (len : Int) := by omega
      have q4 : IntKind.i64.wrap ((c : Int) + 1) = (c : Int) + 1 := by have := HL.out.2; rw [IntKind.wrap_i64]; omega
      have ST := hide hst
      have HY := hide hy
      clear hst hy hc2
      by_cases hxy : x = y
      · subst hxy
        go_wp2
        go_ret
        exact ⟨⟨_, rfl, Or.inl ⟨by omega, List.mem_of_getElem? HY.out⟩⟩, ST.out⟩
      · go_wp2
        go_roundw
        case rel => exact ⟨c + 1, by omega, by go_num, ST.out, fun j hj => by
          by_cases e : j = c
          · subst e; rw [HY.out]; intro e2; injection e2 with e2; exact hxy e2.symm
          · exact hno.out j (by omega)⟩
        case measure => simp [intOf]; omega
    · obtain rfl : c = len := by omega
      go_wp2
      go_ret
      refine ⟨⟨_, rfl, Or.inr ⟨rfl, fun hm => ?_⟩⟩, hst⟩
      obtain ⟨j, hj, e⟩ := List.getElem_of_mem hm
      exact hno.out j (by have := HL.out.1; omega) (by rw [List.getElem?_eq_getElem hj, e])

set_option maxHeartbeats 800000 in
theorem contains_any (v : Value) (xs : List Int) (x : Int) (w : World) (h : SliceAt w v xs) :
   Calls Try.prog 21 #[v, .int .i64 x] w fun e w' => e = .returned (.bool (decide (x ∈ xs))) ∧ Still w w' := by
  have H := hide h
  clear h
  go_enter Try.func21, Try.ntmps21
  go_wp2_with fail
  go_at_call 25
  refine (index_any v xs x w H.out).mono ?_
  rintro e w1 ⟨⟨n, rfl, hn⟩, hs⟩
  have HS := hide hs
  clear hs
  rcases hn with ⟨h0, hm⟩ | ⟨rfl, hm⟩
  · have HE : Hid (decide (x ∈ xs) = true) := by show _ = _; simpa using hm
    go_wp2
    go_ret
    exact ⟨by rw [HE.out]; first | rfl | (simp; omega), HS.out⟩
  · have HE : Hid (decide (x ∈ xs) = false) := by show _ = _; simpa using hm
    go_wp2
    go_ret
    exact ⟨by rw [HE.out]; rfl, HS.out⟩

set_option maxHeartbeats 800000 in
theorem may_any (a c b : Int) (w : World) :
   Calls Try.prog 9 #[.int .i64 a, .int .i64 c, .int .i64 b] w fun e w' => e = .returned (.bool (S.may a c b)) ∧ Below w.heap.size w w' := by
  go_enter Try.func9, Try.ntmps9
  go_wp2_with fail
  go_at_call 8
  refine (next_any a b w).mono ?_
  rintro e w1 ⟨v, rfl, hx, hb⟩
  have HB := hide hb
  have HX := hide hx
  clear hb hx
  go_wp2_with fail
  go_at_call 21
  refine (contains_any v _ c w1 (HX.out.sliceAt (by have := S.nxt_len a b; omega))).mono ?_
  rintro e w2 ⟨rfl, hs⟩
  have HS := hide hs
  clear hs
  go_wp2
  go_ret
  exact ⟨rfl, HB.out.trans ((HS.out.blw _).mono HB.out.size)⟩
end Go.Proofs.Ytldkkgdkjddohaa
