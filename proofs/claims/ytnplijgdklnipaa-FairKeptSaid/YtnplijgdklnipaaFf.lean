/- Which lane has its turn. -/
import Derived.Test.YtnplijgdklnipaaFe
import Derived.Deep.LoopGhost
import Derived.WalkMore
namespace Go.Proofs.Ytnplijgdklnipaa
open Go.RowKit
namespace S
/-- The first place from lo on, of so many, at which a lane takes part. -/
def first (l : List Ln) : Nat → Nat → Option Nat
  | _, 0 => none
  | lo, f + 1 => if 1 ≤ (l.getD lo l0).w then some lo else first l (lo + 1) f
theorem first_some {l : List Ln} : ∀ (f lo k : Nat), lo ≤ k → k < lo + f → 1 ≤ (l.getD k l0).w → (∀ j, lo ≤ j → j < k → (l.getD j l0).w < 1) → first l lo f = some k
  | 0, lo, k, h1, h2, _, _ => by omega
  | f + 1, lo, k, h1, h2, h3, h4 => by
    unfold first
    by_cases e : lo = k
    · rw [e, if_pos h3]
    · rw [if_neg (by have := h4 lo (Nat.le_refl _) (by omega); omega)]
      exact first_some f (lo + 1) k (by omega) (by omega) h3 (fun j hj hk => h4 j (by omega) hk)
theorem first_none {l : List Ln} : ∀ (f lo : Nat), (∀ j, lo ≤ j → j < lo + f → (l.getD j l0).w < 1) → first l lo f = none
  | 0, _, _ => rfl
  | f + 1, lo, h => by
    unfold first
    rw [if_neg (by have := h lo (Nat.le_refl _) (by omega); omega)]
    exact first_none f (lo + 1) (fun j hj hk => h j (by omega) (by omega))
/-- The first lane that takes part, from a on and round. -/
def find (l : List Ln) (a : Nat) : Option Nat := match first l a (l.length - a) with
  | some k => some k
  | none => first l 0 a
theorem find_here {l : List Ln} {a k : Nat} (h1 : a ≤ k) (h2 : k < l.length) (h3 : 1 ≤ (l.getD k l0).w) (h4 : ∀ j, a ≤ j → j < k → (l.getD j l0).w < 1) : find l a = some k := by
  unfold find
  rw [first_some _ a k h1 (by omega) h3 h4]
theorem find_round {l : List Ln} {a k : Nat} (ha : a ≤ l.length) (h1 : ∀ j, a ≤ j → j < l.length → (l.getD j l0).w < 1) (h2 : k < a) (h3 : 1 ≤ (l.getD k l0).w) (h4 : ∀ j, j < k → (l.getD j l0).w < 1) : find l a = some k := by
  unfold find
  rw [first_none _ a (fun j hj hk => h1 j hj (by omega))]
  exact first_some a 0 k (by omega) (by omega) h3 (fun j _ hk => h4 j hk)
theorem find_none {l : List Ln} {a : Nat} (ha : a ≤ l.length) (h1 : ∀ j, j < l.length → (l.getD j l0).w < 1) : find l a = none := by
  unfold find
  rw [first_none _ a (fun j hj hk => h1 j (by omega))]
  exact first_none a 0 (fun j _ hk => h1 j (by omega))
/-- What a place is, or -1. -/
def num : Option Nat → Int
  | some k => (k : Int)
  | none => -1
/-- Where one begins to look. -/
def pos (at_ : Int) (n : Nat) : Nat := if 0 ≤ at_ ∧ at_ < n then at_.toNat else 0
theorem pos_le (at_ : Int) (n : Nat) : pos at_ n ≤ n := by unfold pos; split <;> omega
end S
theorem lane_at {w : World} {ao : Option Addr} {n cap : Nat} {l : List S.Ln} (h : LnAt w (.slice ao n cap) l) (j : Nat) (hj : j < l.length) : ∃ g off, ao = some ⟨g, off, none⟩ ∧ g < w.heap.size ∧ w.rangeAt g (off + j * 3) (encL (l.getD j S.l0)) := by
  obtain ⟨g, off, c, e, _, hg, hr⟩ := h.cells j _ (List.getElem?_eq_getElem hj)
  simp only [Value.slice.injEq] at e
  refine ⟨g, off, e.1, hg, ?_⟩
  rw [List.getD_eq_getElem?_getD, List.getElem?_eq_getElem hj]
  exact hr
theorem rangeAt_below {w W : World} {g o : Nat} {xs : List Value} (h : w.rangeAt g o xs) (hb : Below w.heap.size w W) (hg : g < w.heap.size) : W.rangeAt g o xs := fun i u hu => (World.cell?_of_block (a := ⟨g, o + i, none⟩) (hb.block g hg)).trans (h i u hu)
theorem rangeAt_below2 {w W : World} {g o : Nat} {xs : List Value} (h : w.rangeAt g o xs) (hb : Below w.heap.size w W) (hg : g < w.heap.size) (i : Nat) (u : Value) (hu : xs[i]? = some u) : W.cell? ⟨g, o + i, none⟩ = some u := rangeAt_below h hb hg i u hu
theorem index62_0 (a n : Int) (w : World) : (Instr.index 62 (.agg #[.int .i64 a, .int .i64 n, .int .i64 0, .int .i64 a]) (.int .i64 0)).run Try.prog w = .ok (.agg #[.int .i64 a, .int .i64 n]) w := by rfl
theorem index62_1 (a n : Int) (w : World) : (Instr.index 62 (.agg #[.int .i64 a, .int .i64 n, .int .i64 0, .int .i64 a]) (.int .i64 1)).run Try.prog w = .ok (.agg #[.int .i64 0, .int .i64 a]) w := by rfl
set_option maxHeartbeats 1600000 in
set_option maxRecDepth 100000 in
theorem find_any (v : Value) (l : List S.Ln) (a : Nat) (w : World) (hv : LnAt w v l) (ha : a ≤ l.length) (hl : l.length ≤ 140737488355328) :
   Calls Try.prog 23 #[v, .int .i64 (a : Int)] w fun e w' => e = .returned (.int .i64 (S.num (S.find l a))) ∧ Below w.heap.size w w' := by
  obtain ⟨ao, n, cap, rfl, hn, hncap⟩ := hv.form
  have HV := hide hv
  have HN := hide hn
  have HA : Hid (a ≤ n) := by show a ≤ n; omega
  have HB : Hid (n ≤ 140737488355328) := by show n ≤ _; omega
  clear hv hn ha hl hncap
  go_enter Try.func23, Try.ntmps23
  go_wp2
  go_step3
  go_wp2
  go_step3
  go_wp2_with fail
  go_loopg [5, 16] 2 (fun gk s5 s16 wr => ∃ i : Nat, i + gk = 2 ∧ s5 = .int .i64 (-1) ∧ s16 = .int .i64 (i : Int) ∧ Hid (Below w.heap.size w wr) ∧ Hid (1 ≤ i → ∀ j, a ≤ j → j < n → (l.getD j S.l0).w < 1) ∧ Hid (2 ≤ i → ∀ j, j < n → (l.getD j S.l0).w < 1))
  case atStart => exact ⟨0, by omega, rfl, rfl, Below.refl _ _, by show 1 ≤ 0 → _; omega, by show 2 ≤ 0 → _; omega⟩
  case round =>
    obtain ⟨i, hi, rfl, rfl, BW, H1, H2⟩ := hrel
    rcases (show i = 0 ∧ gk = 2 ∨ i = 1 ∧ gk = 1 ∨ i = 2 ∧ gk = 0 by omega) with ⟨rfl, rfl⟩ | ⟨rfl, rfl⟩ | ⟨rfl, rfl⟩
    · have ix := index62_0 (a : Int) (n : Int)
      go_upto_region 5 with fail
      generalize hX : World.alloc _ _ = X
      have XR : Hid (X.heap[wr.heap.size]? = some (.cells #[.int .i64 (a : Int), .int .i64 (n : Int)] 61 (0, 0)) ∧ Below w.heap.size w X) := by
        refine ⟨?_, ?_⟩
        · rw [← hX]; exact heap_alloc_new _ _
        · rw [← hX]; exact BW.out.trans ((one_below _ _).mono BW.out.size)
      clear hX ix
      generalize wr.heap.size = gb at XR ⊢
      have d0 : X.cell? ⟨gb, 0, none⟩ = some (.int .i64 (a : Int)) := by rw [cell_of_row X gb 0 _ _ _ XR.out.1]; rfl
      go_wp2_with fail
      clear d0
      go_loopw [5, 8] (fun s5 s8 wy => ∃ k : Nat, a ≤ k ∧ k ≤ n ∧ s8 = .int .i64 (k : Int) ∧ s5 = .int .i64 (-1) ∧ Hid (Still X wy) ∧ Hid (∀ j, a ≤ j → j < k → (l.getD j S.l0).w < 1)) (fun _ s8 _ => n - (intOf s8).toNat)
      case atStart => exact ⟨a, Nat.le_refl _, HA.out, rfl, rfl, Still.refl _, fun j hj hk => by omega⟩
      case round =>
        obtain ⟨k, hx1, hx2, rfl, rfl, ST, NJ⟩ := hrel
        have d1 : wr.cell? ⟨gb, 1, none⟩ = some (.int .i64 (n : Int)) := (show wr.cell? ⟨gb, 1, none⟩ = X.cell? ⟨gb, 1, none⟩ from World.cell?_of_block (by rw [ST.out.1])).trans (by rw [cell_of_row X gb 1 _ _ _ XR.out.1]; rfl)
        by_cases hlt : k < n
        · have hkl : k < l.length := by have := HN.out; have := HA.out; omega
          obtain ⟨g, off, rfl, hg, hra⟩ := lane_at HV.out k hkl
          have hc := (lane_cells (fun i u hu => (World.cell?_of_block (a := ⟨g, off + k * 3 + i, none⟩) (by rw [ST.out.1])).trans (rangeAt_below2 hra XR.out.2 hg i u hu) : wr.rangeAt g (off + k * 3) _)).1
          obtain ⟨y, hy⟩ : ∃ y, y = (l.getD k S.l0).w := ⟨_, rfl⟩
          rw [← hy] at hc
          have HW := hide hy
          have p1 : (k : Int) < (n : Int) := by omega
          have p2 : (0 : Int) ≤ (k : Int) := by omega
          have p3 : (k : Int) < (n : Int) := by have := HA.out; omega
          have p4 : IntKind.i64.wrap ((k : Int) + 1) = (k : Int) + 1 := by rw [IntKind.wrap_i64]; have := HB.out; have := HA.out; omega
          have BX : Hid (Below w.heap.size w wr) := XR.out.2.trans (Still.blw ST.out _)
          clear hra hy
          by_cases hp : 1 ≤ y
          · have HF : Hid (S.find l a = some k) := S.find_here hx1 (by rw [← HN.out]; exact hlt) (by rw [← HW.out]; exact hp) (fun j hj hk => NJ.out j hj hk)
            have hp2 : y ≥ 1 := hp
            clear hp hkl hx1 hx2 hlt
            go_wp2
            try rw [Exit.noGoto_ret]
            go_ret
            exact ⟨by rw [HF.out]; rfl, BX.out⟩
          · have hp2 : ¬ y ≥ 1 := hp
            have HLT := hide hlt
            have HX1 := hide hx1
            have HP := hide hp
            clear hp hkl hx1 hx2 hlt
            go_wp2
            go_roundw
            case rel => exact ⟨k + 1, by have := HX1.out; omega, by have := HLT.out; omega, by simp, rfl, ST, fun j hj hk => by by_cases e : j = k; rw [e, ← HW.out]; have := HP.out; omega; exact NJ.out j hj (by omega)⟩
            case measure => simp [intOf]; have := HLT.out; omega
        · obtain rfl : n = k := by omega
          have BX : Hid (Below w.heap.size w wr) := XR.out.2.trans (Still.blw ST.out _)
          clear hlt
          go_wp2_with fail
          go_roundg 1
          case rel => exact ⟨1, by omega, by simp, rfl, BX, fun _ j hj hk => NJ.out j hj hk, by show 2 ≤ 1 → _; omega⟩
          case measure => omega
    · have ix := index62_1 (a : Int) (n : Int)
      go_upto_region 5 with fail
      generalize hX : World.alloc _ _ = X
      have XR : Hid (X.heap[wr.heap.size]? = some (.cells #[.int .i64 (0 : Int), .int .i64 (a : Int)] 61 (0, 0)) ∧ Below w.heap.size w X) := by
        refine ⟨?_, ?_⟩
        · rw [← hX]; exact heap_alloc_new _ _
        · rw [← hX]; exact BW.out.trans ((one_below _ _).mono BW.out.size)
      clear hX ix
      generalize wr.heap.size = gb at XR ⊢
      have d0 : X.cell? ⟨gb, 0, none⟩ = some (.int .i64 (0 : Int)) := by rw [cell_of_row X gb 0 _ _ _ XR.out.1]; rfl
      go_wp2_with fail
      clear d0
      go_loopw [5, 8] (fun s5 s8 wy => ∃ k : Nat, 0 ≤ k ∧ k ≤ a ∧ s8 = .int .i64 (k : Int) ∧ s5 = .int .i64 (-1) ∧ Hid (Still X wy) ∧ Hid (∀ j, 0 ≤ j → j < k → (l.getD j S.l0).w < 1)) (fun _ s8 _ => a - (intOf s8).toNat)
      case atStart => exact ⟨0, Nat.le_refl _, Nat.zero_le _, rfl, rfl, Still.refl _, fun j hj hk => by omega⟩
      case round =>
        obtain ⟨k, hx1, hx2, rfl, rfl, ST, NJ⟩ := hrel
        have d1 : wr.cell? ⟨gb, 1, none⟩ = some (.int .i64 (a : Int)) := (show wr.cell? ⟨gb, 1, none⟩ = X.cell? ⟨gb, 1, none⟩ from World.cell?_of_block (by rw [ST.out.1])).trans (by rw [cell_of_row X gb 1 _ _ _ XR.out.1]; rfl)
        by_cases hlt : k < a
        · have hkl : k < l.length := by have := HN.out; have := HA.out; omega
          obtain ⟨g, off, rfl, hg, hra⟩ := lane_at HV.out k hkl
          have hc := (lane_cells (fun i u hu => (World.cell?_of_block (a := ⟨g, off + k * 3 + i, none⟩) (by rw [ST.out.1])).trans (rangeAt_below2 hra XR.out.2 hg i u hu) : wr.rangeAt g (off + k * 3) _)).1
          obtain ⟨y, hy⟩ : ∃ y, y = (l.getD k S.l0).w := ⟨_, rfl⟩
          rw [← hy] at hc
          have HW := hide hy
          have p1 : (k : Int) < (a : Int) := by omega
          have p2 : (0 : Int) ≤ (k : Int) := by omega
          have p3 : (k : Int) < (n : Int) := by have := HA.out; omega
          have p4 : IntKind.i64.wrap ((k : Int) + 1) = (k : Int) + 1 := by rw [IntKind.wrap_i64]; have := HB.out; have := HA.out; omega
          have BX : Hid (Below w.heap.size w wr) := XR.out.2.trans (Still.blw ST.out _)
          clear hra hy
          by_cases hp : 1 ≤ y
          · have HF : Hid (S.find l a = some k) := S.find_round (by rw [← HN.out]; exact HA.out) (fun j hj hk => H1.out (Nat.le_refl _) j hj (by rw [HN.out]; exact hk)) hlt (by rw [← HW.out]; exact hp) (fun j hk => NJ.out j (Nat.zero_le _) hk)
            have hp2 : y ≥ 1 := hp
            clear hp hkl hx1 hx2 hlt
            go_wp2
            try rw [Exit.noGoto_ret]
            go_ret
            exact ⟨by rw [HF.out]; rfl, BX.out⟩
          · have hp2 : ¬ y ≥ 1 := hp
            have HLT := hide hlt
            have HX1 := hide hx1
            have HP := hide hp
            clear hp hkl hx1 hx2 hlt
            go_wp2
            go_roundw
            case rel => exact ⟨k + 1, by have := HX1.out; omega, by have := HLT.out; omega, by simp, rfl, ST, fun j hj hk => by by_cases e : j = k; rw [e, ← HW.out]; have := HP.out; omega; exact NJ.out j hj (by omega)⟩
            case measure => simp [intOf]; have := HLT.out; omega
        · obtain rfl : a = k := by omega
          have BX : Hid (Below w.heap.size w wr) := XR.out.2.trans (Still.blw ST.out _)
          clear hlt
          go_wp2_with fail
          go_roundg 0
          case rel => exact ⟨2, by omega, by simp, rfl, BX, fun _ j hj hk => H1.out (Nat.le_refl _) j hj hk, fun _ j hj => by by_cases e : j < a; exact NJ.out j (Nat.zero_le _) e; exact H1.out (Nat.le_refl _) j (by omega) hj⟩
          case measure => omega
    · go_wp2
      try rw [Exit.noGoto_ret]
      go_ret
      exact ⟨by rw [S.find_none (by rw [← HN.out]; exact HA.out) (fun j hj => H2.out (Nat.le_refl _) j (by rw [HN.out]; exact hj))]; rfl, BW.out⟩
end Go.Proofs.Ytnplijgdklnipaa
