/- What KeysRing calls: over, turned; the draws, in memory. -/
import Derived.Test.YtllcnppcncegpaaDoorKu
namespace Go.Proofs.YtllcnppcncegpaaDoor
open Go.RowKit

/-- over: only the text's own block changes. -/
theorem over_any (g n c : Nat) (cur0 : Array Value) (w : World) (h0 : w.heap[g]? = some (.cells cur0 5 (0, 0))) (hn : n ≤ cur0.size) (hnb : n ≤ 1000000) :
   Calls Tryd.prog 25 #[.slice (some ⟨g, 0, none⟩) n c] w fun e w' => e = .returned (.tuple #[]) ∧ Chg (fun k => k = g) w w' := by
  have H0 := hide h0
  have HN := hide hn
  clear h0 hn
  go_enter Tryd.func25, Tryd.ntmps25
  go_wp2_with fail
  go_loopg [2] n (fun gk s2 wr => ∃ (i : Nat) (cur : Array Value), i + gk = n ∧ s2 = .int .i64 (i : Int) ∧ Hid (wr.heap[g]? = some (.cells cur 5 (0, 0))) ∧ Hid (n ≤ cur.size) ∧ Hid (Chg (fun k => k = g) w wr))
  case atStart => exact ⟨0, cur0, by omega, rfl, H0, HN, Chg.refl _ _⟩
  case round =>
    clear H0 HN
    obtain ⟨i, cur, hi, rfl, HR, HC, CW⟩ := hrel
    cases gk with
    | zero =>
      obtain rfl : i = n := by omega
      have q : ¬ (i : Int) < (i : Int) := by omega
      clear hi
      go_wp2_with fail
      go_end0
      exact ⟨rfl, CW.out⟩
    | succ gO =>
      have q : (i : Int) < (n : Int) := by omega
      have q0 : (0 : Int) ≤ (i : Int) := by omega
      have q1 : IntKind.i64.wrap ((i : Int) + 1) = (i : Int) + 1 := by rw [IntKind.wrap_i64]; omega
      have hlt : i < cur.size := by have := HC.out; omega
      have c1 : wr.cell? ⟨g, i, none⟩ = some (cur[i]'hlt) := by rw [cell_of_row wr g i _ _ _ HR.out, Array.getElem?_eq_getElem hlt]
      have f1 := frozen_of_row _ _ i _ _ HR.out
      have NX : Hid ((wr.setCell ⟨g, i, none⟩ (.int .u8 9)).heap[g]? = some (.cells (cur.setIfInBounds i (.int .u8 9)) 5 (0, 0))) := heap_setCell_same _ _ _ _ _ _ HR.out
      have NC : Hid (n ≤ (cur.setIfInBounds i (.int .u8 9)).size) := by show n ≤ _; rw [Array.size_setIfInBounds]; exact HC.out
      have NW : Hid (Chg (fun k => k = g) w (wr.setCell ⟨g, i, none⟩ (.int .u8 9))) := CW.out.setCell _ _ _ (fun _ => rfl)
      clear HR HC CW
      go_wp2_with fail
      go_roundg gO
      case measure => omega
      case rel => exact ⟨i + 1, _, by omega, by first | rfl | simp, NX, NC, NW⟩
theorem turned_any (T : List (List (List UInt8))) (t : Int) (ht : S.isT t = true) (hf : S.eps T t ≤ 32) (w : World) :
   Calls Tryd.prog 26 #[.int .i64 (S.turnN T t), .int .i64 (S.turnE T t), .int .i64 (S.eps T t : Int)] w fun e w' => e = .returned (.bool true) ∧ w = w' := by
  by_cases h : S.eps T t = 32
  · have e1 : S.turnE T t = 4 := by rw [S.turnE, if_pos ht, if_pos h]
    have e2 : S.turnN T t = 0 := by rw [S.turnN, e1]; rfl
    rw [e1, e2, h]
    go_enter Tryd.func26, Tryd.ntmps26
    go_wp2
    go_ret
    exact ⟨rfl, rfl⟩
  · have e1 : S.turnE T t = 0 := by rw [S.turnE, if_pos ht, if_neg h]
    have e2 : S.turnN T t = (S.eps T t : Int) := by rw [S.turnN, e1]; rfl
    rw [e1, e2]
    obtain ⟨m, hm⟩ : ∃ m, m = S.eps T t := ⟨_, rfl⟩
    rw [← hm] at hf h ⊢
    have q : ¬ (32 : Int) ≤ (m : Int) := by omega
    clear hm
    go_enter Tryd.func26, Tryd.ntmps26
    go_wp2
    go_ret
    exact ⟨rfl, rfl⟩
abbrev VRow := Rw 27 1 encN
/-- The draws of each tree, in memory. -/
structure DwIs (w : World) (gd : Nat) (vs : List Value) (D : List (List Nat)) : Prop where
  row : w.heap[gd]? = some (.cells vs.toArray 57 (0, 0))
  vn : vs.length = 16
  dn : D.length = 16
  rows : ∀ i, i < 16 → VRow 0 w (vs.getD i undef) (D.getD i [])
  few : ∀ i, (D.getD i []).length ≤ 32
  ok : ∀ i, ∀ d ∈ D.getD i [], d < 4294967296
  sep : ∀ i j k, i < 16 → j < 16 → (vs.getD i undef).ownBlock = some k → (vs.getD j undef).ownBlock = some k → i = j
def dfoot (gd : Nat) (vs : List Value) (k : Nat) : Prop := k = gd ∨ ∃ i, i < 16 ∧ (vs.getD i undef).ownBlock = some k
theorem DwIs.chg {p : Nat → Prop} {w W : World} {gd : Nat} {vs : List Value} {D : List (List Nat)} (h : DwIs w gd vs D) (hc : Chg p w W) (hp : ∀ k, dfoot gd vs k → ¬ p k) : DwIs W gd vs D :=
  ⟨hc.row h.row (hp _ (Or.inl rfl)), h.vn, h.dn, fun i hi => (h.rows i hi).chg hc (fun k hk => hp k (Or.inr ⟨i, hi, hk⟩)), h.few, h.ok, h.sep⟩
/-- What keeps all but rings and digests keeps the draws. -/
theorem DwIs.keeps {w W : World} {gd : Nat} {vs : List Value} {D : List (List Nat)} (h : DwIs w gd vs D) (hk : Keeps w W) : DwIs W gd vs D := by
  refine ⟨hk _ _ _ _ (by decide) (by decide) h.row, h.vn, h.dn, fun i hi => ?_, h.few, h.ok, h.sep⟩
  have hr := h.rows i hi
  refine ⟨hr.1, ?_⟩
  rcases hr.2 with h2 | ⟨g, cap, cur, h2, h3, h4, h5⟩
  · exact Or.inl h2
  · exact Or.inr ⟨g, cap, cur, h2, h3, hk _ _ _ _ (by decide) (by decide) h4, h5⟩
theorem DwIs.cell {w : World} {gd : Nat} {vs : List Value} {D : List (List Nat)} (h : DwIs w gd vs D) (i : Nat) (hi : i < 16) : w.cell? ⟨gd, i, none⟩ = some (vs.getD i undef) := by
  have hv := h.vn
  rw [cell_of_row w gd i _ _ _ h.row]
  simp [List.getD_eq_getElem?_getD, List.getElem?_eq_getElem (show i < vs.length by omega)]
theorem getD_app_lt {α : Type} (l : List α) (x e : α) (j : Nat) (h : j < l.length) : (l ++ [x]).getD j e = l.getD j e := by
  rw [List.getD_eq_getElem?_getD, List.getElem?_append_left h, ← List.getD_eq_getElem?_getD]
theorem getD_app_eq {α : Type} (l : List α) (x e : α) (j : Nat) (h : j = l.length) : (l ++ [x]).getD j e = x := by
  subst h
  simp [List.getD_eq_getElem?_getD]
/-- The keys are those of the draws. -/
structure S.Match (ks : List UInt8) (T : List (List (List UInt8))) (D : List (List Nat)) : Prop where
  tn : T.length = 16
  dn : D.length = 16
  len : ∀ t, t < 16 → (T.getD t []).length = (D.getD t []).length
  at_ : ∀ t j, t < 16 → j < (D.getD t []).length → (T.getD t []).getD j [] = S.key ks (t : Int) (j : Int) ((D.getD t []).getD j 0)
theorem S.Match.start (ks : List UInt8) : S.Match ks S.T0 (List.replicate 16 []) := by
  have hT : ∀ {α : Type} (i : Nat), ((List.replicate 16 ([] : List α)).getD i []) = [] := fun i => by
    by_cases hi : i < 16
    · rw [List.getD_eq_getElem?_getD, List.getElem?_replicate, if_pos hi]; rfl
    · rw [List.getD_eq_getElem?_getD, List.getElem?_eq_none (by simp; omega)]; rfl
  exact ⟨by simp [S.T0], by simp, fun t _ => by rw [S.T0, hT, hT]; rfl, fun t j _ hj => by rw [hT] at hj; simp at hj⟩
theorem S.Match.eps {ks : List UInt8} {T : List (List (List UInt8))} {D : List (List Nat)} (h : S.Match ks T D) (n : Nat) (hn : n < 16) : S.eps T (n : Int) = (D.getD n []).length := by
  rw [S.eps]; exact h.len n hn
theorem S.Match.turn {ks : List UInt8} {T : List (List (List UInt8))} {D : List (List Nat)} (h : S.Match ks T D) (n d : Nat) (hn : n < 16) (hE : S.turnE T (n : Int) = 0) : S.Match ks (S.turnT ks T (n : Int) d) (D.set n (D.getD n [] ++ [d])) := by
  have gT : ∀ i, i < 16 → (S.turnT ks T (n : Int) d).getD i [] = if i = n then T.getD n [] ++ [S.key ks (n : Int) (S.eps T (n : Int) : Int) d] else T.getD i [] := fun i hi => by
    have := S.turnT_at (ks := ks) (d := d) hE h.tn (i : Int) (by simp only [S.isT, decide_eq_true_eq]; omega)
    simp only [Int.toNat_natCast, Int.natCast_inj] at this
    exact this
  have gD : ∀ i, (D.set n (D.getD n [] ++ [d])).getD i [] = if i = n then D.getD n [] ++ [d] else D.getD i [] := fun i => getD_set' _ _ _ _ _ (by rw [h.dn]; exact hn)
  refine ⟨by rw [S.turnT, if_pos hE, List.length_set, h.tn], by rw [List.length_set, h.dn], fun t ht => ?_, fun t j ht hj => ?_⟩
  · rw [gT t ht, gD]
    by_cases e : t = n
    · rw [if_pos e, if_pos e, List.length_append, List.length_append, h.len n hn, List.length_singleton, List.length_singleton]
    · rw [if_neg e, if_neg e]; exact h.len t ht
  · rw [gT t ht]
    rw [gD] at hj ⊢
    by_cases e : t = n
    · subst e
      rw [if_pos rfl] at hj ⊢
      rw [if_pos rfl]
      have hl := h.len t hn
      by_cases hj2 : j < (D.getD t []).length
      · rw [getD_app_lt _ _ _ _ (by omega), getD_app_lt _ _ _ _ hj2, h.at_ t j hn hj2]
      · have ej : j = (D.getD t []).length := by
          have h2 : (D.getD t [] ++ [d]).length = (D.getD t []).length + 1 := by rw [List.length_append, List.length_singleton]
          omega
        rw [getD_app_eq _ _ _ _ (by omega), getD_app_eq _ _ _ _ ej, h.eps t hn, ej]
    · rw [if_neg e] at hj ⊢
      rw [if_neg e]
      exact h.at_ t j ht hj
end Go.Proofs.YtllcnppcncegpaaDoor
