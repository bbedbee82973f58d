/- What a role may: its list, and whether an operation is in it. -/
import Derived.Test.YtkdpdkfhhpekaaaDoorPc
namespace Go.Proofs.YtkdpdkfhhpekaaaDoor
open Go.RowKit

namespace S
/-- What the roles may, rising. -/
def ops (role : Int) : List Int := if role = 4 then [1, 2, 3, 4, 5, 6, 7, 8, 9, 10, 11, 12] else if role = 3 then [1, 2, 3, 4, 5, 7, 8, 9] else if role = 2 then [1, 2, 3, 4, 5] else if role = 1 then [2, 3, 4, 5] else []
theorem ops_length (role : Int) : (ops role).length ≤ 12 := by
  unfold ops
  repeat' split
  all_goals decide
def may (role op : Int) : Bool := (ops role).contains op
def decide_ (role op owner tenant : Int) : Bool := may role op && (decide (owner = tenant) || decide (role = 4))
/-- What the document says. -/
def least (op : Int) : Int := if op = 2 ∨ op = 3 ∨ op = 4 ∨ op = 5 then 1 else if op = 1 then 2 else if op = 7 ∨ op = 8 ∨ op = 9 then 3 else if op = 6 ∨ op = 10 ∨ op = 11 ∨ op = 12 then 4 else 0
end S
theorem lit_at (w : World) (l : List Int) (n : Nat) (hn : n = l.length) (hl : l.length ≤ 1000) : SliceAt (w.alloc (.cells (S.v8 l) 3)) (.slice (some ⟨w.heap.size, 0, none⟩) n n) l := by
  subst hn
  have h : URow (w.alloc (.cells (S.v8 l) 3)) (.slice (some ⟨w.heap.size, 0, none⟩) l.length l.length) l := by
    have := World.ownsRow_lit (base := 0) (e := 3) (size := 1) w (S.v8 l) l.length (Nat.zero_le _) (by simp [maxLen]; omega) (by simp [S.v8])
    simpa [URow, S.v8, S.v8l] using this
  exact h.sliceAt (by omega)
theorem app_lit (w : World) (v : Value) (bs l : List Int) (ty : TypeId) (h : URow w v bs) (hl : bs.length ≤ 100 ∧ l.length ≤ 100) :
    ∃ v' w', (Builtin.append_ #[22, 22] ty #[v, .slice (some ⟨w.heap.size, 0, none⟩) l.length l.length]).run Tryd.prog (w.alloc (.cells (S.v8 l) 3)) = .ok v' w' ∧ (URow w' v' (bs ++ l) ∧ (w.alloc (.cells (S.v8 l) 3)).grownBy w' v.ownBlock ∧ ∀ k, v'.ownBlock = some k → v.ownBlock = some k ∨ w.heap.size ≤ k) := by
  have hb : Below w.heap.size w (w.alloc (.cells (S.v8 l) 3)) := (Below.refl _ _).alloc (Nat.le_refl _) _
  obtain ⟨v', w', h1, h2, h3, h4⟩ := run_append_row (w.alloc (.cells (S.v8 l) 3)) v _ bs l ty (h.chg (Chg.ofBelow' (p := fun _ => False) hb) (fun _ _ e => e)) (lit_at w l l.length rfl (by omega)) (by omega)
  exact ⟨v', w', h1, h2, h3, fun k hk => (h4 k hk).imp id (fun e => Nat.le_trans (by simp) e)⟩
theorem app_below {w W w' : World} {v : Value} {l : List Int} (hb : Below w.heap.size w W) (hg : (W.alloc (.cells (S.v8 l) 3)).grownBy w' v.ownBlock) (ho : ∀ k, v.ownBlock = some k → w.heap.size ≤ k) : Below w.heap.size w w' :=
  (hb.trans ((Below.refl _ _).alloc hb.size _)).grown hg (Nat.le_trans hb.size (by simp)) ho
set_option maxHeartbeats 1600000 in
set_option maxRecDepth 100000 in
theorem ops_any (role : Int) (w : World) : Calls Tryd.prog 8 #[.int .i64 role] w fun e w' => ∃ v, e = .returned v ∧ URow w' v (S.ops role) ∧ (∀ k, v.ownBlock = some k → w.heap.size ≤ k) ∧ Below w.heap.size w w' := by
  rcases (by omega : role = 4 ∨ role = 3 ∨ role = 2 ∨ role = 1 ∨ (role ≠ 4 ∧ role ≠ 3 ∧ role ≠ 2 ∧ role ≠ 1)) with h | h | h | h | ⟨h1, h2, h3, h4⟩
  · subst h
    go_enter Tryd.func8, Tryd.ntmps8
    have U0 : URow w (.slice none 0 0) [] := urow_nil w
    have O0 : ∀ k, (Value.slice none 0 0).ownBlock = some k → w.heap.size ≤ k := fun k hk => by cases hk
    have B0 : Below w.heap.size w w := Below.refl _ _
    have HU0 := hide U0
    have HO0 := hide O0
    have HB0 := hide B0
    clear U0 O0 B0
    go_upto_region 8 with (at_builtin; (refine wpList_append_known rfl (.tmp 13) (.tmp 14) 22 22 rfl _ _ rfl rfl (app_lit w _ [] [6, 10, 11, 12] _ HU0.out (by decide)) ?_; rintro v1 w1 ⟨u, h1, h2⟩))
    have U1 : URow w1 v1 [6, 10, 11, 12] := u
    have O1 : ∀ k, v1.ownBlock = some k → w.heap.size ≤ k := fun k hk => (h2 k hk).elim (HO0.out k) (fun h => Nat.le_trans HB0.out.size h)
    have B1 : Below w.heap.size w w1 := app_below HB0.out h1 HO0.out
    obtain ⟨a1, c1, hv⟩ := U1.shape
    replace hv : v1 = .slice a1 4 c1 := hv
    subst hv
    clear u h1 h2 HU0 HO0 HB0
    have HU1 := hide U1
    have HO1 := hide O1
    have HB1 := hide B1
    clear U1 O1 B1
    go_upto_region 9 with (at_builtin; (refine wpList_append_known rfl (.tmp 16) (.tmp 17) 22 22 rfl _ _ rfl rfl (app_lit w1 _ [6, 10, 11, 12] [7, 8, 9] _ HU1.out (by decide)) ?_; rintro v2 w2 ⟨u, h1, h2⟩))
    have U2 : URow w2 v2 [6, 10, 11, 12, 7, 8, 9] := u
    have O2 : ∀ k, v2.ownBlock = some k → w.heap.size ≤ k := fun k hk => (h2 k hk).elim (HO1.out k) (fun h => Nat.le_trans HB1.out.size h)
    have B2 : Below w.heap.size w w2 := app_below HB1.out h1 HO1.out
    obtain ⟨a2, c2, hv⟩ := U2.shape
    replace hv : v2 = .slice a2 7 c2 := hv
    subst hv
    clear u h1 h2 HU1 HO1 HB1
    have HU2 := hide U2
    have HO2 := hide O2
    have HB2 := hide B2
    clear U2 O2 B2
    go_upto_region 10 with (at_builtin; (refine wpList_append_known rfl (.tmp 19) (.tmp 20) 22 22 rfl _ _ rfl rfl (app_lit w2 _ [6, 10, 11, 12, 7, 8, 9] [1] _ HU2.out (by decide)) ?_; rintro v3 w3 ⟨u, h1, h2⟩))
    have U3 : URow w3 v3 [6, 10, 11, 12, 7, 8, 9, 1] := u
    have O3 : ∀ k, v3.ownBlock = some k → w.heap.size ≤ k := fun k hk => (h2 k hk).elim (HO2.out k) (fun h => Nat.le_trans HB2.out.size h)
    have B3 : Below w.heap.size w w3 := app_below HB2.out h1 HO2.out
    obtain ⟨a3, c3, hv⟩ := U3.shape
    replace hv : v3 = .slice a3 8 c3 := hv
    subst hv
    clear u h1 h2 HU2 HO2 HB2
    have HU3 := hide U3
    have HO3 := hide O3
    have HB3 := hide B3
    clear U3 O3 B3
    go_upto_region 11 with (at_builtin; (refine wpList_append_known rfl (.tmp 22) (.tmp 23) 22 22 rfl _ _ rfl rfl (app_lit w3 _ [6, 10, 11, 12, 7, 8, 9, 1] [2, 3, 4, 5] _ HU3.out (by decide)) ?_; rintro v4 w4 ⟨u, h1, h2⟩))
    have U4 : URow w4 v4 [6, 10, 11, 12, 7, 8, 9, 1, 2, 3, 4, 5] := u
    have O4 : ∀ k, v4.ownBlock = some k → w.heap.size ≤ k := fun k hk => (h2 k hk).elim (HO3.out k) (fun h => Nat.le_trans HB3.out.size h)
    have B4 : Below w.heap.size w w4 := app_below HB3.out h1 HO3.out
    obtain ⟨a4, c4, hv⟩ := U4.shape
    replace hv : v4 = .slice a4 12 c4 := hv
    subst hv
    clear u h1 h2 HU3 HO3 HB3
    have HU := hide U4
    have HO := hide O4
    have HB := hide B4
    clear U4 O4 B4
    go_wp2_with fail
    refine (sort_any _ [6, 10, 11, 12, 7, 8, 9, 1, 2, 3, 4, 5] w4 HU.out (by decide) w.heap.size HB.out.size HO.out).mono ?_
    rintro e w9 ⟨rfl, hu, hb⟩
    have e9 : (([6, 10, 11, 12, 7, 8, 9, 1, 2, 3, 4, 5] : List Int).mergeSort fun x y => decide (x ≤ y)) = [1, 2, 3, 4, 5, 6, 7, 8, 9, 10, 11, 12] := by simp [List.mergeSort, List.MergeSort.Internal.splitInTwo]
    rw [e9] at hu
    have HU2 := hide hu
    have HB2 := hide (HB.out.trans hb)
    clear hu hb e9 HU HB
    go_wp2_with fail
    go_ret
    exact ⟨_, rfl, HU2.out, HO.out, HB2.out⟩
  · subst h
    go_enter Tryd.func8, Tryd.ntmps8
    have U0 : URow w (.slice none 0 0) [] := urow_nil w
    have O0 : ∀ k, (Value.slice none 0 0).ownBlock = some k → w.heap.size ≤ k := fun k hk => by cases hk
    have B0 : Below w.heap.size w w := Below.refl _ _
    have HU0 := hide U0
    have HO0 := hide O0
    have HB0 := hide B0
    clear U0 O0 B0
    go_upto_region 9 with (at_builtin; (refine wpList_append_known rfl (.tmp 16) (.tmp 17) 22 22 rfl _ _ rfl rfl (app_lit w _ [] [7, 8, 9] _ HU0.out (by decide)) ?_; rintro v1 w1 ⟨u, h1, h2⟩))
    have U1 : URow w1 v1 [7, 8, 9] := u
    have O1 : ∀ k, v1.ownBlock = some k → w.heap.size ≤ k := fun k hk => (h2 k hk).elim (HO0.out k) (fun h => Nat.le_trans HB0.out.size h)
    have B1 : Below w.heap.size w w1 := app_below HB0.out h1 HO0.out
    obtain ⟨a1, c1, hv⟩ := U1.shape
    replace hv : v1 = .slice a1 3 c1 := hv
    subst hv
    clear u h1 h2 HU0 HO0 HB0
    have HU1 := hide U1
    have HO1 := hide O1
    have HB1 := hide B1
    clear U1 O1 B1
    go_upto_region 10 with (at_builtin; (refine wpList_append_known rfl (.tmp 19) (.tmp 20) 22 22 rfl _ _ rfl rfl (app_lit w1 _ [7, 8, 9] [1] _ HU1.out (by decide)) ?_; rintro v2 w2 ⟨u, h1, h2⟩))
    have U2 : URow w2 v2 [7, 8, 9, 1] := u
    have O2 : ∀ k, v2.ownBlock = some k → w.heap.size ≤ k := fun k hk => (h2 k hk).elim (HO1.out k) (fun h => Nat.le_trans HB1.out.size h)
    have B2 : Below w.heap.size w w2 := app_below HB1.out h1 HO1.out
    obtain ⟨a2, c2, hv⟩ := U2.shape
    replace hv : v2 = .slice a2 4 c2 := hv
    subst hv
    clear u h1 h2 HU1 HO1 HB1
    have HU2 := hide U2
    have HO2 := hide O2
    have HB2 := hide B2
    clear U2 O2 B2
    go_upto_region 11 with (at_builtin; (refine wpList_append_known rfl (.tmp 22) (.tmp 23) 22 22 rfl _ _ rfl rfl (app_lit w2 _ [7, 8, 9, 1] [2, 3, 4, 5] _ HU2.out (by decide)) ?_; rintro v3 w3 ⟨u, h1, h2⟩))
    have U3 : URow w3 v3 [7, 8, 9, 1, 2, 3, 4, 5] := u
    have O3 : ∀ k, v3.ownBlock = some k → w.heap.size ≤ k := fun k hk => (h2 k hk).elim (HO2.out k) (fun h => Nat.le_trans HB2.out.size h)
    have B3 : Below w.heap.size w w3 := app_below HB2.out h1 HO2.out
    obtain ⟨a3, c3, hv⟩ := U3.shape
    replace hv : v3 = .slice a3 8 c3 := hv
    subst hv
    clear u h1 h2 HU2 HO2 HB2
    have HU := hide U3
    have HO := hide O3
    have HB := hide B3
    clear U3 O3 B3
    go_wp2_with fail
    refine (sort_any _ [7, 8, 9, 1, 2, 3, 4, 5] w3 HU.out (by decide) w.heap.size HB.out.size HO.out).mono ?_
    rintro e w9 ⟨rfl, hu, hb⟩
    have e9 : (([7, 8, 9, 1, 2, 3, 4, 5] : List Int).mergeSort fun x y => decide (x ≤ y)) = [1, 2, 3, 4, 5, 7, 8, 9] := by simp [List.mergeSort, List.MergeSort.Internal.splitInTwo]
    rw [e9] at hu
    have HU2 := hide hu
    have HB2 := hide (HB.out.trans hb)
    clear hu hb e9 HU HB
    go_wp2_with fail
    go_ret
    exact ⟨_, rfl, HU2.out, HO.out, HB2.out⟩
  · subst h
    go_enter Tryd.func8, Tryd.ntmps8
    have U0 : URow w (.slice none 0 0) [] := urow_nil w
    have O0 : ∀ k, (Value.slice none 0 0).ownBlock = some k → w.heap.size ≤ k := fun k hk => by cases hk
    have B0 : Below w.heap.size w w := Below.refl _ _
    have HU0 := hide U0
    have HO0 := hide O0
    have HB0 := hide B0
    clear U0 O0 B0
    go_upto_region 10 with (at_builtin; (refine wpList_append_known rfl (.tmp 19) (.tmp 20) 22 22 rfl _ _ rfl rfl (app_lit w _ [] [1] _ HU0.out (by decide)) ?_; rintro v1 w1 ⟨u, h1, h2⟩))
    have U1 : URow w1 v1 [1] := u
    have O1 : ∀ k, v1.ownBlock = some k → w.heap.size ≤ k := fun k hk => (h2 k hk).elim (HO0.out k) (fun h => Nat.le_trans HB0.out.size h)
    have B1 : Below w.heap.size w w1 := app_below HB0.out h1 HO0.out
    obtain ⟨a1, c1, hv⟩ := U1.shape
    replace hv : v1 = .slice a1 1 c1 := hv
    subst hv
    clear u h1 h2 HU0 HO0 HB0
    have HU1 := hide U1
    have HO1 := hide O1
    have HB1 := hide B1
    clear U1 O1 B1
    go_upto_region 11 with (at_builtin; (refine wpList_append_known rfl (.tmp 22) (.tmp 23) 22 22 rfl _ _ rfl rfl (app_lit w1 _ [1] [2, 3, 4, 5] _ HU1.out (by decide)) ?_; rintro v2 w2 ⟨u, h1, h2⟩))
    have U2 : URow w2 v2 [1, 2, 3, 4, 5] := u
    have O2 : ∀ k, v2.ownBlock = some k → w.heap.size ≤ k := fun k hk => (h2 k hk).elim (HO1.out k) (fun h => Nat.le_trans HB1.out.size h)
    have B2 : Below w.heap.size w w2 := app_below HB1.out h1 HO1.out
    obtain ⟨a2, c2, hv⟩ := U2.shape
    replace hv : v2 = .slice a2 5 c2 := hv
    subst hv
    clear u h1 h2 HU1 HO1 HB1
    have HU := hide U2
    have HO := hide O2
    have HB := hide B2
    clear U2 O2 B2
    go_wp2_with fail
    refine (sort_any _ [1, 2, 3, 4, 5] w2 HU.out (by decide) w.heap.size HB.out.size HO.out).mono ?_
    rintro e w9 ⟨rfl, hu, hb⟩
    have e9 : (([1, 2, 3, 4, 5] : List Int).mergeSort fun x y => decide (x ≤ y)) = [1, 2, 3, 4, 5] := by simp [List.mergeSort, List.MergeSort.Internal.splitInTwo]
    rw [e9] at hu
    have HU2 := hide hu
    have HB2 := hide (HB.out.trans hb)
    clear hu hb e9 HU HB
    go_wp2_with fail
    go_ret
    exact ⟨_, rfl, HU2.out, HO.out, HB2.out⟩
  · subst h
    go_enter Tryd.func8, Tryd.ntmps8
    have U0 : URow w (.slice none 0 0) [] := urow_nil w
    have O0 : ∀ k, (Value.slice none 0 0).ownBlock = some k → w.heap.size ≤ k := fun k hk => by cases hk
    have B0 : Below w.heap.size w w := Below.refl _ _
    have HU0 := hide U0
    have HO0 := hide O0
    have HB0 := hide B0
    clear U0 O0 B0
    go_upto_region 11 with (at_builtin; (refine wpList_append_known rfl (.tmp 22) (.tmp 23) 22 22 rfl _ _ rfl rfl (app_lit w _ [] [2, 3, 4, 5] _ HU0.out (by decide)) ?_; rintro v1 w1 ⟨u, h1, h2⟩))
    have U1 : URow w1 v1 [2, 3, 4, 5] := u
    have O1 : ∀ k, v1.ownBlock = some k → w.heap.size ≤ k := fun k hk => (h2 k hk).elim (HO0.out k) (fun h => Nat.le_trans HB0.out.size h)
    have B1 : Below w.heap.size w w1 := app_below HB0.out h1 HO0.out
    obtain ⟨a1, c1, hv⟩ := U1.shape
    replace hv : v1 = .slice a1 4 c1 := hv
    subst hv
    clear u h1 h2 HU0 HO0 HB0
    have HU := hide U1
    have HO := hide O1
    have HB := hide B1
    clear U1 O1 B1
    go_wp2_with fail
    refine (sort_any _ [2, 3, 4, 5] w1 HU.out (by decide) w.heap.size HB.out.size HO.out).mono ?_
    rintro e w9 ⟨rfl, hu, hb⟩
    have e9 : (([2, 3, 4, 5] : List Int).mergeSort fun x y => decide (x ≤ y)) = [2, 3, 4, 5] := by simp [List.mergeSort, List.MergeSort.Internal.splitInTwo]
    rw [e9] at hu
    have HU2 := hide hu
    have HB2 := hide (HB.out.trans hb)
    clear hu hb e9 HU HB
    go_wp2_with fail
    go_ret
    exact ⟨_, rfl, HU2.out, HO.out, HB2.out⟩
  · have e0 : S.ops role = [] := by simp [S.ops, h1, h2, h3, h4]
    have b1 : (role == 4) = false := by simp [h1]
    have b2 : (role == 3) = false := by simp [h2]
    have b3 : (role == 2) = false := by simp [h3]
    have b4 : (role == 1) = false := by simp [h4]
    rw [e0]
    clear h1 h2 h3 h4 e0
    go_enter Tryd.func8, Tryd.ntmps8
    go_wp2_with fail
    refine (sort_any (.slice none 0 0) [] w (urow_nil w) (by decide) w.heap.size (Nat.le_refl _) (fun k hk => by cases hk)).mono ?_
    rintro e w9 ⟨rfl, hu, hb⟩
    have HU2 := hide hu
    have HB2 := hide hb
    clear hu hb
    go_wp2_with fail
    go_ret
    exact ⟨.slice none 0 0, rfl, by simpa using HU2.out, fun k hk => (by cases hk), HB2.out⟩
set_option maxHeartbeats 800000 in
theorem may_any (role op : Int) (w : World) : Calls Tryd.prog 9 #[.int .i64 role, .int .i64 op] w fun e w' => e = .returned (.bool (S.may role op)) ∧ Below w.heap.size w w' := by
  go_enter Tryd.func9, Tryd.ntmps9
  go_wp2_with fail
  refine (ops_any role w).mono ?_
  rintro e w1 ⟨v, rfl, hu, ho, hb⟩
  have HS := hide (hu.sliceAt (by have := S.ops_length role; omega))
  have HB := hide hb
  obtain ⟨ao, c, rfl⟩ := hu.shape
  obtain ⟨n, hn⟩ : ∃ n, n = (S.ops role).length := ⟨_, rfl⟩
  rw [← hn] at HS ⊢
  clear hu ho hb hn
  go_wp2_with fail
  refine (has_any _ (S.ops role) op w1 HS.out).mono ?_
  rintro e w2 ⟨rfl, rfl⟩
  rw [show (S.ops role).contains op = S.may role op from rfl]
  obtain ⟨b, hb⟩ : ∃ b, b = S.may role op := ⟨_, rfl⟩
  rw [← hb]
  have HM := hide hb
  clear hb
  go_wp2_with fail
  go_ret
  exact ⟨by rw [← HM.out]; rfl, HB.out⟩
end Go.Proofs.YtkdpdkfhhpekaaaDoor
