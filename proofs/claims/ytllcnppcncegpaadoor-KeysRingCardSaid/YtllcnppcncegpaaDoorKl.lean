/- A ring, in memory; NewRing, Epoch. -/
import Derived.Test.YtllcnppcncegpaaDoorKh
namespace Go.Proofs.YtllcnppcncegpaaDoor
open Go.RowKit

/-- Where a ring lies: its block, its seed, its trees' keys. -/
structure Rn where
  gr : Nat
  sv : Value
  vs : List Value
/-- The blocks that a ring may change. -/
def Rn.foot (o : Rn) (k : Nat) : Prop := k = o.gr ∨ ∃ i, i < 16 ∧ (o.vs.getD i undef).ownBlock = some k
/-- A ring that reads so: its seed, the keys of each tree. -/
structure RgIs (w : World) (o : Rn) (ks : List UInt8) (T : List (List (List UInt8))) : Prop where
  row : w.heap[o.gr]? = some (.cells (o.sv :: o.vs).toArray 72 (0, 0))
  vn : o.vs.length = 16
  tn : T.length = 16
  seed : URow w o.sv ks
  sl : ks.length ≤ 140737488355000
  rows : ∀ i, i < 16 → DgRow 0 w (o.vs.getD i undef) (T.getD i [])
  d32 : ∀ i, ∀ d ∈ T.getD i [], d.length = 32
  few : ∀ i, (T.getD i []).length ≤ 32
  sep : ∀ i j k, i < 16 → j < 16 → (o.vs.getD i undef).ownBlock = some k → (o.vs.getD j undef).ownBlock = some k → i = j
theorem RgIs.lt {w : World} {o : Rn} {ks : List UInt8} {T : List (List (List UInt8))} (h : RgIs w o ks T) : o.gr < w.heap.size := block_lt_of_row h.row
theorem RgIs.foot_lt {w : World} {o : Rn} {ks : List UInt8} {T : List (List (List UInt8))} (h : RgIs w o ks T) {k : Nat} (hk : o.foot k) : k < w.heap.size := by
  rcases hk with rfl | ⟨i, hi, hk⟩
  · exact h.lt
  · exact ((h.rows i hi).blk hk).2.1
/-- A ring stays as it is where nothing of it changes. -/
theorem RgIs.chg {p : Nat → Prop} {w W : World} {o : Rn} {ks : List UInt8} {T : List (List (List UInt8))} (h : RgIs w o ks T) (hc : Chg p w W) (hp : ∀ k, o.foot k → ¬ p k) (hs : ∀ k, o.sv.ownBlock = some k → ¬ p k) : RgIs W o ks T :=
  ⟨hc.row h.row (hp _ (Or.inl rfl)), h.vn, h.tn, h.seed.chg hc hs, h.sl, fun i hi => (h.rows i hi).chg hc (fun k hk => hp k (Or.inr ⟨i, hi, hk⟩)), h.d32, h.few, h.sep⟩
theorem RgIs.below {w W : World} {o : Rn} {ks : List UInt8} {T : List (List (List UInt8))} (h : RgIs w o ks T) (hb : Below w.heap.size w W) : RgIs W o ks T := h.chg (p := fun _ => False) (Chg.ofBelow' hb) (fun _ _ e => e) (fun _ _ e => e)
/-- What a ring's calls change. -/
structure RgTo (o : Rn) (w : World) (o' : Rn) (w' : World) : Prop where
  chg : Chg o.foot w w'
  gr : o'.gr = o.gr
  sv : o'.sv = o.sv
  own : ∀ k, o'.foot k → o.foot k ∨ w.heap.size ≤ k
theorem RgTo.refl (o : Rn) (w : World) : RgTo o w o w := ⟨Chg.refl _ _, rfl, rfl, fun _ h => Or.inl h⟩
theorem RgTo.of {o : Rn} {w w' : World} (h : Below w.heap.size w w') : RgTo o w o w' := ⟨Chg.ofBelow' h, rfl, rfl, fun _ h => Or.inl h⟩
theorem RgTo.trans {o o1 o2 : Rn} {w w1 w2 : World} (h : RgTo o w o1 w1) (k : RgTo o1 w1 o2 w2) : RgTo o w o2 w2 :=
  ⟨h.chg.trans k.chg (fun j hj e => by rcases h.own j e with h' | h'; exact h'; omega), k.gr.trans h.gr, k.sv.trans h.sv, fun j e => by
    rcases k.own j e with e | e
    · exact h.own j e
    · exact Or.inr (Nat.le_trans h.chg.size e)⟩
/-- The cells of a ring. -/
theorem RgIs.cell {w : World} {o : Rn} {ks : List UInt8} {T : List (List (List UInt8))} (h : RgIs w o ks T) (i : Nat) (hi : i < 16) : w.cell? ⟨o.gr, 1 + i, none⟩ = some (o.vs.getD i undef) := by
  have hv := h.vn
  rw [cell_of_row w o.gr (1 + i) _ _ _ h.row, show 1 + i = i + 1 by omega]
  simp [List.getD_eq_getElem?_getD, List.getElem?_eq_getElem (show i < o.vs.length by omega)]
theorem RgIs.cell0 {w : World} {o : Rn} {ks : List UInt8} {T : List (List (List UInt8))} (h : RgIs w o ks T) : w.cell? ⟨o.gr, 0, none⟩ = some o.sv := by
  rw [cell_of_row w o.gr 0 _ _ _ h.row]; simp
theorem eql_nil (a : Addr) (n cap : Nat) (W : World) : (binOp .eql 41 (.slice (some a) n cap) (.slice none 0 0)).run Tryd.prog W = .ok (.bool false) W := by
  have h : ∀ d : Nat, (Op.equalIn (d + 1) 41 (.slice (some a) n cap) (.slice none 0 0)).run Tryd.prog W = .ok false W := fun d => by
    simp [Op.equalIn, run_underlying Tryd.underlying41]
  simp only [binOp]
  simp [Op.equal, Op.maxDepth, h 9999]
theorem eql_nn (W : World) : (binOp .eql 41 (.slice none 0 0) (.slice none 0 0)).run Tryd.prog W = .ok (.bool true) W := by
  have h : ∀ d : Nat, (Op.equalIn (d + 1) 41 (.slice none 0 0) (.slice none 0 0)).run Tryd.prog W = .ok true W := fun d => by
    simp [Op.equalIn, run_underlying Tryd.underlying41]
  simp only [binOp]
  simp [Op.equal, Op.maxDepth, h 9999]
theorem own_none (w : World) : Own (w.alloc (.cells #[] 5)) w.heap.size (.slice (some ⟨w.heap.size, 0, none⟩) 0 0) [] :=
  ⟨⟨rfl, Or.inr ⟨w.heap.size, 0, #[], rfl, Nat.le_refl _, heap_alloc_new _ _, Nat.le_refl _, by simp [maxLen], rfl, rfl⟩⟩, w.heap.size, 0, rfl⟩
theorem Own.urow {w : World} {B : Nat} {v : Value} {bs : List UInt8} (h : Own w B v bs) : URow w v bs ∧ ∀ k, v.ownBlock = some k → B ≤ k := by
  refine ⟨⟨h.1.1, ?_⟩, fun k hk => (h.1.lt k hk).1⟩
  rcases h.1.2 with h2 | ⟨g, cap, cur, h2, h3, h4⟩
  · exact Or.inl h2
  · exact Or.inr ⟨g, cap, cur, h2, Nat.zero_le _, h4⟩
set_option maxRecDepth 10000 in
theorem clone_all (v : Value) (xs : List UInt8) (w : World) (h1 : SliceAt w v xs) (hl : xs.length ≤ 140737488355328) :
   Calls Tryd.prog 29 #[v] w fun e w' => ∃ u, e = .returned u ∧ URow w' u xs ∧ (∀ k, u.ownBlock = some k → w.heap.size ≤ k) ∧ Below w.heap.size w w' := by
  obtain ⟨ao, n, cap, rfl, hn, hm⟩ := h1.form
  cases ao with
  | none =>
    have hx : xs = [] ∧ n = 0 ∧ cap = 0 := by
      rcases h1 with ⟨h, rfl⟩ | ⟨a, c, h, _, rfl⟩ | ⟨b, off, c, h, _⟩
      · simp only [Value.slice.injEq] at h; exact ⟨rfl, h.2.1, h.2.2⟩
      · simp at h
      · simp at h
    obtain ⟨rfl, rfl, rfl⟩ := hx
    have hnn := eql_nn
    clear h1 hn hm hl
    go_enter Tryd.func29, Tryd.ntmps29
    go_wp2
    go_ret
    exact ⟨.slice none 0 0, rfl, urow_nil _, nil_base _, Below.refl _ _⟩
  | some a =>
    have hnil := eql_nil a n cap
    have hb0 : Below w.heap.size w (w.alloc (.cells #[] 5)) := (Below.refl _ _).alloc (Nat.le_refl _) _
    have HR := hide (run_append_bytes (w.alloc (.cells #[] 5)) w.heap.size _ (.slice (some a) n cap) [] xs 41 (own_none w) (h1.below hb0 (Nat.le_refl _)) (by simpa using hl) (by simp))
    have HB := hide hb0
    clear h1 hn hm hb0 hl
    go_enter Tryd.func29, Tryd.ntmps29
    go_wp2_with (refine wpList_append_known rfl (.tmp 5) (.tmp 6) 41 41 rfl _ _ rfl rfl HR.out ?_)
    intro v' w' hown hbel
    obtain ⟨hu, ho⟩ := hown.urow
    obtain ⟨uo, uc, rfl⟩ := hu.shape
    have HF : Hid (Below w.heap.size w w') := HB.out.trans (hbel.mono (by simp))
    have HU := hide hu
    have HO := hide ho
    clear hown hbel hu ho
    obtain ⟨m, hm⟩ : ∃ m, m = xs.length := ⟨_, rfl⟩
    rw [← hm] at HU HO ⊢
    have HM := hide hm
    clear hm hnil HR
    go_wp2_with fail
    go_ret
    exact ⟨_, rfl, HU.out, HO.out, HF.out⟩
set_option maxHeartbeats 800000 in
set_option maxRecDepth 10000 in
theorem newRing_any (v : Value) (ks : List UInt8) (w : World) (hv : SliceAt w v ks) (hl : ks.length ≤ 140737488355000) :
   Calls Tryd.prog 8 #[v] w fun e w' => ∃ o, e = .returned (.pointer (some ⟨o.gr, 0, none⟩)) ∧ RgIs w' o ks (List.replicate 16 []) ∧ (∀ k, o.foot k ∨ o.sv.ownBlock = some k → w.heap.size ≤ k) ∧ (∀ k, o.foot k → k = o.gr) ∧ Below w.heap.size w w' := by
  obtain ⟨ao, n, cap, rfl, hn, hm⟩ := hv.form
  have HV := hide hv
  have HL := hide hl
  clear hv hn hm hl
  go_enter Tryd.func8, Tryd.ntmps8
  go_wp2_with fail
  refine (clone_all (.slice ao n cap) ks w HV.out (by have := HL.out; omega)).mono ?_
  rintro e w1 ⟨u, rfl, hu, ho, hb⟩
  obtain ⟨uo, uc, rfl⟩ := hu.shape
  obtain ⟨m, hm⟩ : ∃ m, m = ks.length := ⟨_, rfl⟩
  rw [← hm] at hu ho ⊢
  have HU := hide hu
  have HO := hide ho
  have HB := hide hb
  clear hu ho hb hm
  go_wp2_with fail
  generalize hW : w1.alloc _ = W
  have hr : W.heap[w1.heap.size]? = some (.cells (Value.slice uo m uc :: List.replicate 16 (.slice none 0 0)).toArray 72 (0, 0)) := by rw [← hW]; exact heap_alloc_new _ _
  have hbW : Below w1.heap.size w1 W := by rw [← hW]; exact (Below.refl _ _).alloc (Nat.le_refl _) _
  have HR := hide hr
  have HW := hide hbW
  clear hW hr hbW
  go_wp2_with fail
  go_ret
  have hg : ∀ i, i < 16 → ((List.replicate 16 (Value.slice none 0 0)).getD i undef) = .slice none 0 0 := fun i hi => by rw [List.getD_eq_getElem?_getD, List.getElem?_replicate, if_pos hi]; rfl
  have hT : ∀ i, ((List.replicate 16 ([] : List (List UInt8))).getD i []) = [] := fun i => by
    by_cases hi : i < 16
    · rw [List.getD_eq_getElem?_getD, List.getElem?_replicate, if_pos hi]; rfl
    · rw [List.getD_eq_getElem?_getD, List.getElem?_eq_none (by simp; omega)]; rfl
  have hfo : ∀ k, (⟨w1.heap.size, .slice uo m uc, List.replicate 16 (.slice none 0 0)⟩ : Rn).foot k → k = w1.heap.size := fun k hk => by
    rcases hk with hk | ⟨i, hi, hk⟩
    · exact hk
    · rw [hg i hi] at hk; cases hk
  refine ⟨⟨w1.heap.size, .slice uo m uc, List.replicate 16 (.slice none 0 0)⟩, rfl, ⟨HR.out, by simp, by simp, HU.out.chg (p := fun _ => False) (Chg.ofBelow' HW.out) (fun _ _ e => e), HL.out, fun i hi => ?_, fun i d hd => ?_, fun i => ?_, fun i j k hi hj h1 h2 => ?_⟩, fun k hk => ?_, hfo, HB.out.trans (HW.out.mono HB.out.size)⟩
  · rw [hg i hi, hT i]; exact DgRow.nil _ _
  · rw [hT i] at hd; cases hd
  · rw [hT i]; simp
  · rw [hg i hi] at h1; cases h1
  · rcases hk with hk | hk
    · rw [hfo k hk]; exact HB.out.size
    · exact HO.out k hk
end Go.Proofs.YtllcnppcncegpaaDoor
namespace Go.Proofs.YtllcnppcncegpaaDoor
open Go.RowKit

namespace S
/-- How many epochs a tree has. -/
def eps (T : List (List (List UInt8))) (t : Int) : Nat := (T.getD t.toNat []).length
def epB (T : List (List (List UInt8))) (t : Int) : Bool := isT t && decide (0 < eps T t)
def epN (T : List (List (List UInt8))) (t : Int) : Int := if epB T t = true then (eps T t : Int) - 1 else 0
def turnE (T : List (List (List UInt8))) (t : Int) : Int := if isT t = true then (if eps T t = 32 then 4 else 0) else 1
def turnN (T : List (List (List UInt8))) (t : Int) : Int := if turnE T t = 0 then (eps T t : Int) else 0
def turnT (ks : List UInt8) (T : List (List (List UInt8))) (t : Int) (draw : Nat) : List (List (List UInt8)) := if turnE T t = 0 then T.set t.toNat (T.getD t.toNat [] ++ [key ks t (eps T t : Int) draw]) else T
theorem isT_nat {t : Int} (h : isT t = true) : ∃ n : Nat, t = (n : Int) ∧ n < 16 := by
  simp only [isT, decide_eq_true_eq] at h
  exact ⟨t.toNat, by omega, by omega⟩
end S
theorem DgRow.le_cap' {B : Nat} {w : World} {ao : Option Addr} {n c : Nat} {hs : List (List UInt8)} (h : DgRow B w (.slice ao n c) hs) : n ≤ c := by
  rcases h.2 with ⟨e', h0⟩ | ⟨g, cap, cur, e', hB, hr, q1, q2, q3, q4⟩
  · simp only [Value.slice.injEq] at e'; omega
  · simp only [Value.slice.injEq] at e'; omega
set_option maxHeartbeats 800000 in
set_option maxRecDepth 10000 in
theorem epoch_any (o : Rn) (ks : List UInt8) (T : List (List (List UInt8))) (t : Int) (w : World) (ho : RgIs w o ks T) :
   Calls Tryd.prog 11 #[.pointer (some ⟨o.gr, 0, none⟩), .int .i64 t] w fun e w' => e = .returned (.tuple #[.int .i64 (S.epN T t), .bool (S.epB T t)]) ∧ w = w' := by
  have HO := hide ho
  obtain ⟨gr, sv, vs⟩ := o
  clear ho
  by_cases hT : S.isT t = true
  · obtain ⟨n, rfl, hn⟩ := S.isT_nat hT
    obtain ⟨vo, vc, hv⟩ := (HO.out.rows n hn).form
    have hl : (T.getD n []).length = S.eps T (n : Int) := by simp [S.eps]
    have c1 := HO.out.cell n hn
    simp only at c1 hv
    rw [hv, hl] at c1
    have h32 := HO.out.few n
    rw [hl] at h32
    obtain ⟨m, hm⟩ : ∃ m, m = S.eps T (n : Int) := ⟨_, rfl⟩
    rw [← hm] at c1 h32
    have q1 : (0 : Int) ≤ (n : Int) := by omega
    have q2 : (n : Int) < 16 := by omega
    have q3 : IntKind.i64.wrap ((m : Int) - 1) = (m : Int) - 1 := by rw [IntKind.wrap_i64]; omega
    have HM := hide hm
    have HT := hide hT
    clear hm hl hv hT HO
    go_enter Tryd.func11, Tryd.ntmps11
    by_cases h0 : m = 0
    · have EB : Hid (S.epB T (n : Int) = false) := by show S.epB T (n : Int) = false; simp [S.epB, ← HM.out, h0]
      have EN : Hid (S.epN T (n : Int) = 0) := by show S.epN T (n : Int) = 0; rw [S.epN, EB.out]; rfl
      clear HM
      subst h0
      go_wp2_with fail
      refine (isTree_any (n : Int) w).mono ?_
      rintro r _ ⟨rfl, rfl⟩
      rw [HT.out]
      go_wp2_with fail
      go_ret2
      exact ⟨by rw [EN.out, EB.out]; rfl, rfl⟩
    · have EB : Hid (S.epB T (n : Int) = true) := by show S.epB T (n : Int) = true; simp [S.epB, ← HM.out, HT.out]; omega
      have EN : Hid (S.epN T (n : Int) = (m : Int) - 1) := by show S.epN T (n : Int) = (m : Int) - 1; rw [S.epN, EB.out, HM.out]; rfl
      have q0 : ¬ (m : Int) = 0 := by omega
      clear HM
      go_wp2_with fail
      refine (isTree_any (n : Int) w).mono ?_
      rintro r _ ⟨rfl, rfl⟩
      rw [HT.out]
      go_wp2_with fail
      go_ret2
      exact ⟨by rw [EN.out, EB.out]; rfl, rfl⟩
  · have hT2 : S.isT t = false := by simpa using hT
    have HT := hide hT2
    have EB : Hid (S.epB T t = false) := by show S.epB T t = false; simp [S.epB, hT2]
    have EN : Hid (S.epN T t = 0) := by show S.epN T t = 0; rw [S.epN, EB.out]; rfl
    clear hT hT2
    go_enter Tryd.func11, Tryd.ntmps11
    go_wp2_with fail
    refine (isTree_any t w).mono ?_
    rintro r _ ⟨rfl, rfl⟩
    rw [HT.out]
    go_wp2_with fail
    go_ret2
    exact ⟨by rw [EN.out, EB.out]; rfl, rfl⟩
end Go.Proofs.YtllcnppcncegpaaDoor
namespace Go.Proofs.YtllcnppcncegpaaDoor
open Go.RowKit

theorem getD_set' {α : Type} (l : List α) (t i : Nat) (a d : α) (ht : t < l.length) : (l.set t a).getD i d = if i = t then a else l.getD i d := by
  rw [List.getD_eq_getElem?_getD, List.getElem?_set]
  by_cases h : t = i
  · subst h; simp [ht]
  · rw [if_neg h, if_neg (fun e => h e.symm), List.getD_eq_getElem?_getD]
theorem run_append_ky (w : World) (g : Nat) (v : Value) (ds : List (List UInt8)) (D : List UInt8) (ty : TypeId) (hown : DgRow 0 w v ds) (hD : D.length = 32) (hu : w.heap[g]? = some (.cells (S.v8 D) 30 (0, 0))) (hl : ds.length ≤ 100000) :
    ∃ v' w', (Builtin.append_ #[69, 69] ty #[v, .slice (some ⟨g, 0, none⟩) 1 1]).run Tryd.prog w = .ok v' w' ∧ (DgRow 0 w' v' (ds ++ [D]) ∧ Chg (fun j => v.ownBlock = some j) w w' ∧ ∀ k, v'.ownBlock = some k → v.ownBlock = some k ∨ w.heap.size ≤ k) := by
  obtain ⟨i, hi, hz0, hz1, hz2⟩ := info_parts info31
  have hc : ∀ j x, (S.v8l D)[j]? = some x → w.cell? ((⟨g, 0, none⟩ : Addr).add j) = some x := fun j x hx => by
    rw [Addr.add_lit, Nat.zero_add, cell_of_row w g j _ _ _ hu]
    simpa [S.v8_eq] using hx
  have hzc : (Value.agg (S.v8 (S.zeros 32))).cells.size = 32 := by rw [Value.cells, S.v8_size]; rfl
  have h32 : (S.v8l D).length = 32 := by rw [S.v8l_length, hD]
  obtain ⟨v', w', h1, h2, h3, h4⟩ := run_append_own (P := Tryd.prog) w 0 69 ty 30 i (.agg (S.v8 (S.zeros 32))) 32 32 Tryd.underlying69 hi hz0 hz1 hz2 hzc (by omega) v ds.length (ds.flatMap S.v8l) hown ⟨g, 0, none⟩ 1 1 (S.v8l D) (by rw [h32]) hc (S.v8l_one D) (by simp [maxLen]; omega) (by omega) (Nat.zero_le _)
  have h2b : DgRow 0 w' v' (ds ++ [D]) := by unfold DgRow; rw [List.length_append, List.flatMap_append]; simpa using h2
  refine ⟨v', w', h1, h2b, (Chg.refl _ _).grown h3 (fun k _ hk => hk), fun k hk => ?_⟩
  rcases hown.2 with ⟨rfl, hn0⟩ | ⟨g0, cap, cur, rfl, _, q4, q5, _, q6, q7⟩
  · obtain ⟨v2, w2, hr2, ho2, _, _⟩ := run_append_own (P := Tryd.prog) w w.heap.size 69 ty 30 i (.agg (S.v8 (S.zeros 32))) 32 32 Tryd.underlying69 hi hz0 hz1 hz2 hzc (by omega) (.slice none 0 0) 0 [] (World.ownsRow_nil w w.heap.size 30 32) ⟨g, 0, none⟩ 1 1 (S.v8l D) (by rw [h32]) hc (S.v8l_one D) (by simp [maxLen]) (by omega) (Nat.le_refl _)
    rw [h1] at hr2
    simp only [Result.ok.injEq] at hr2
    obtain ⟨rfl, rfl⟩ := hr2
    exact Or.inr (ho2.lt k hk).1
  · by_cases hroom : ds.length + 1 ≤ cap
    · have hr2 := run_append_room (P := Tryd.prog) w 69 ty 30 i Tryd.underlying69 hi g0 ds.length cap cur q4 ⟨g, 0, none⟩ 1 1 (S.v8l D) (by rw [h32, hz1]) hc (S.v8l_one _) hroom (by rw [h32, hz1, q6]; omega)
      rw [h1] at hr2
      simp only [Result.ok.injEq] at hr2
      rw [hr2.1] at hk
      exact Or.inl hk
    · have holds := hown.cells (g := g0) rfl
      have hr2 := run_append_grow (P := Tryd.prog) w 69 ty 30 i _ Tryd.underlying69 hi hz0 ⟨g0, 0, none⟩ ds.length cap (ds.flatMap S.v8l) (by rw [hz1]; exact hown.1) holds ⟨g, 0, none⟩ 1 1 (S.v8l D) (by rw [h32, hz1]) hc (by omega) (by omega) (growslice_fits (by omega) (by rw [hz2]; omega))
      rw [h1] at hr2
      simp only [Result.ok.injEq] at hr2
      rw [hr2.1] at hk
      simp only [Value.ownBlock, Option.some.injEq] at hk
      exact Or.inr (by omega)
theorem RgIs.turned {w X : World} {o : Rn} {ks : List UInt8} {T : List (List (List UInt8))} (h : RgIs w o ks T) (t : Nat) (ht : t < 16) (v' : Value) (D : List UInt8) (hD : D.length = 32) (hf : (T.getD t []).length < 32)
    (hc : Chg (fun j => (o.vs.getD t undef).ownBlock = some j) w X) (hr : DgRow 0 X v' (T.getD t [] ++ [D])) (hown : ∀ k, v'.ownBlock = some k → (o.vs.getD t undef).ownBlock = some k ∨ w.heap.size ≤ k) :
    RgIs (X.setCell ⟨o.gr, 1 + t, none⟩ v') ⟨o.gr, o.sv, o.vs.set t v'⟩ ks (T.set t (T.getD t [] ++ [D])) ∧ RgTo o w ⟨o.gr, o.sv, o.vs.set t v'⟩ (X.setCell ⟨o.gr, 1 + t, none⟩ v') := by
  have hg : ∀ i, i < 16 → (o.vs.getD i undef).ownBlock ≠ some o.gr := fun i hi => Rw.apart (h.rows i hi) h.row (by decide)
  have rX : X.heap[o.gr]? = some (.cells (o.sv :: o.vs).toArray 72 (0, 0)) := hc.row h.row (hg t ht)
  have hv' : v'.ownBlock ≠ some o.gr := Rw.apart hr rX (by decide)
  have hsv : ∀ k, o.sv.ownBlock = some k → k ≠ o.gr ∧ (o.vs.getD t undef).ownBlock ≠ some k := fun k hk => by
    rcases h.seed.2 with ⟨e, _⟩ | ⟨g, cap, cur, e, _, hgr, _⟩
    · rw [e] at hk; cases hk
    · rw [e] at hk
      simp only [Value.ownBlock, Option.some.injEq] at hk
      subst hk
      refine ⟨fun e2 => ?_, Rw.apart (h.rows t ht) hgr (by decide)⟩
      rw [e2, h.row] at hgr
      simp at hgr
  have gvs : ∀ i, (o.vs.set t v').getD i undef = if i = t then v' else o.vs.getD i undef := fun i => getD_set' _ _ _ _ _ (by rw [h.vn]; exact ht)
  have gT : ∀ i, (T.set t (T.getD t [] ++ [D])).getD i [] = if i = t then T.getD t [] ++ [D] else T.getD i [] := fun i => getD_set' _ _ _ _ _ (by rw [h.tn]; exact ht)
  refine ⟨⟨?_, by simp [h.vn], by simp [h.tn], ?_, h.sl, fun i hi => ?_, fun i d hd => ?_, fun i => ?_, fun i j k hi hj h1 h2 => ?_⟩, ⟨?_, rfl, rfl, fun k hk => ?_⟩⟩
  · rw [heap_setCell_same _ _ _ _ _ _ rX]
    congr 2
    rw [show 1 + t = t + 1 by omega]
    apply Array.ext'
    simp
  · exact (h.seed.chg hc (fun k hk => (hsv k hk).2)).kept fun k hk => heap_setCell_other _ _ _ _ (hsv k hk).1
  · simp only [gvs, gT]
    by_cases e : i = t
    · rw [if_pos e, if_pos e]
      exact hr.chg (p := fun k => k = o.gr) ((Chg.refl _ _).setCell _ _ _ (fun _ => rfl)) (fun k hk e2 => hv' (e2 ▸ hk))
    · rw [if_neg e, if_neg e]
      exact ((h.rows i hi).chg hc (fun k hk hk2 => e (h.sep i t k hi ht hk hk2))).chg (p := fun k => k = o.gr) ((Chg.refl _ _).setCell _ _ _ (fun _ => rfl)) (fun k hk e2 => hg i hi (e2 ▸ hk))
  · rw [gT] at hd
    by_cases e : i = t
    · rw [if_pos e] at hd
      rcases List.mem_append.1 hd with hd | hd
      · exact h.d32 t d hd
      · rw [List.mem_singleton.1 hd]; exact hD
    · rw [if_neg e] at hd; exact h.d32 i d hd
  · rw [gT]
    by_cases e : i = t
    · rw [if_pos e, List.length_append]; show _ + 1 ≤ 32; omega
    · rw [if_neg e]; exact h.few i
  · simp only [gvs] at h1 h2
    by_cases e : i = t
    · by_cases e2 : j = t
      · omega
      · rw [if_pos e] at h1
        rw [if_neg e2] at h2
        rcases hown k h1 with q | q
        · exact absurd (h.sep j t k hj ht h2 q) e2
        · have := ((h.rows j hj).blk h2).2.1; omega
    · by_cases e2 : j = t
      · rw [if_neg e] at h1
        rw [if_pos e2] at h2
        rcases hown k h2 with q | q
        · exact absurd (h.sep i t k hi ht h1 q) e
        · have := ((h.rows i hi).blk h1).2.1; omega
      · rw [if_neg e] at h1
        rw [if_neg e2] at h2
        exact h.sep i j k hi hj h1 h2
  · exact (hc.mono (fun k _ hk => Or.inr ⟨t, ht, hk⟩)).setCell _ _ _ (fun _ => Or.inl rfl)
  · rcases hk with hk | ⟨i, hi, hk⟩
    · exact Or.inl (Or.inl hk)
    · simp only [gvs] at hk
      by_cases e : i = t
      · rw [if_pos e] at hk
        rcases hown k hk with q | q
        · exact Or.inl (Or.inr ⟨t, ht, q⟩)
        · exact Or.inr q
      · rw [if_neg e] at hk
        exact Or.inl (Or.inr ⟨i, hi, hk⟩)
theorem load_sl69 {w : World} {p : Addr} {v : Value} (h : w.cell? p = some v) : (Instr.loadAt 69 (.pointer (some p))).run Tryd.prog w = .ok v w := by
  go_simp
theorem load_sl41 {w : World} {p : Addr} {v : Value} (h : w.cell? p = some v) : (Instr.loadAt 41 (.pointer (some p))).run Tryd.prog w = .ok v w := by
  go_simp
end Go.Proofs.YtllcnppcncegpaaDoor
namespace Go.Proofs.YtllcnppcncegpaaDoor
open Go.RowKit

theorem row_cell {w : World} {gr : Nat} {sv : Value} {vs : List Value} (h : w.heap[gr]? = some (.cells (sv :: vs).toArray 72 (0, 0))) (hv : vs.length = 16) (i : Nat) (hi : i < 16) : w.cell? ⟨gr, 1 + i, none⟩ = some (vs.getD i undef) := by
  rw [cell_of_row w gr (1 + i) _ _ _ h, show 1 + i = i + 1 by omega]
  simp [List.getD_eq_getElem?_getD, List.getElem?_eq_getElem (show i < vs.length by omega)]
theorem row_cell0 {w : World} {gr : Nat} {sv : Value} {vs : List Value} (h : w.heap[gr]? = some (.cells (sv :: vs).toArray 72 (0, 0))) : w.cell? ⟨gr, 0, none⟩ = some sv := by
  rw [cell_of_row w gr 0 _ _ _ h]; simp
set_option maxHeartbeats 8000000 in
set_option maxRecDepth 10000 in
theorem turn_any (o : Rn) (ks : List UInt8) (T : List (List (List UInt8))) (t : Int) (draw : Nat) (w : World) (ho : RgIs w o ks T) (hd : draw < 4294967296) (hK : KAt w) :
   Calls Tryd.prog 9 #[.pointer (some ⟨o.gr, 0, none⟩), .int .i64 t, .int .u32 (draw : Int)] w fun e w' => ∃ o', e = .returned (.tuple #[.int .i64 (S.turnN T t), .int .i64 (S.turnE T t)]) ∧ RgIs w' o' ks (S.turnT ks T t draw) ∧ RgTo o w o' w' := by
  have HO := hide ho
  have KK := hide hK
  have HDR := hide hd
  obtain ⟨gr, sv, vs⟩ := o
  clear ho hK hd
  by_cases hT : S.isT t = true
  · obtain ⟨n, rfl, hn⟩ := S.isT_nat hT
    obtain ⟨vo, vc, hv⟩ := (HO.out.rows n hn).form
    obtain ⟨so, sc, hsv⟩ := HO.out.seed.shape
    have hl : (T.getD n []).length = S.eps T (n : Int) := by simp [S.eps]
    have c1 := HO.out.cell n hn
    simp only at c1 hv hsv
    subst hsv
    rw [hv, hl] at c1
    have h32 := HO.out.few n
    rw [hl] at h32
    have HD := hide (HO.out.rows n hn)
    simp only at HD
    rw [hv, hl] at HD
    rw [hl] at hv
    obtain ⟨m, hm⟩ : ∃ m, m = S.eps T (n : Int) := ⟨_, rfl⟩
    rw [← hm] at c1 h32 HD hv hl
    have HV := hide hv
    have q1 : (0 : Int) ≤ (n : Int) := by omega
    have q2 : (n : Int) < 16 := by omega
    have HM := hide hm
    have HT := hide hT
    have RR := hide HO.out.row
    have SS := hide (HO.out.seed.sliceAt (by have := HO.out.sl; omega))
    simp only at RR SS
    obtain ⟨sn, hsn⟩ : ∃ n, n = ks.length := ⟨_, rfl⟩
    rw [← hsn] at HO RR SS ⊢
    have HSN := hide hsn
    have BW : Hid (Below w.heap.size w w) := Below.refl _ _
    clear hsn hm hv hT
    obtain ⟨ds, hds⟩ : ∃ ds, ds = T.getD n [] := ⟨_, rfl⟩
    rw [← hds] at HD hl
    have HDS := hide hds
    have HLD := hide hl
    have VN := hide HO.out.vn
    clear hds hl
    go_enter Tryd.func9, Tryd.ntmps9
    by_cases h0 : m = 32
    · have EE : Hid (S.turnE T (n : Int) = 4) := by show S.turnE T (n : Int) = 4; rw [S.turnE, if_pos HT.out, if_pos (by rw [← HM.out, h0])]
      have EN : Hid (S.turnN T (n : Int) = 0) := by show S.turnN T (n : Int) = 0; rw [S.turnN, EE.out]; rfl
      have ET : Hid (S.turnT ks T (n : Int) draw = T) := by show S.turnT ks T (n : Int) draw = T; rw [S.turnT, EE.out]; rfl
      clear HM HD HV HLD h32
      subst h0
      go_wp2_with fail
      refine (isTree_any (n : Int) w).mono ?_
      rintro r _ ⟨rfl, rfl⟩
      rw [HT.out]
      go_wp2_with fail
      go_ret2
      exact ⟨_, by rw [EN.out, EE.out]; rfl, by rw [ET.out]; exact HO.out, RgTo.refl _ _⟩
    · have EE : Hid (S.turnE T (n : Int) = 0) := by show S.turnE T (n : Int) = 0; rw [S.turnE, if_pos HT.out, if_neg (by rw [← HM.out]; exact h0)]
      have EN : Hid (S.turnN T (n : Int) = (m : Int)) := by show S.turnN T (n : Int) = (m : Int); rw [S.turnN, EE.out, HM.out]; rfl
      have ET : Hid (S.turnT ks T (n : Int) draw = T.set n (ds ++ [S.key ks (n : Int) (m : Int) draw])) := by show S.turnT ks T (n : Int) draw = _; rw [S.turnT, EE.out, HM.out, HDS.out]; rfl
      have q0 : ¬ (m : Int) = 32 := by omega
      have LT : Hid (m < 32) := by show m < 32; omega
      clear HM
      go_wp2_with fail
      refine (isTree_any (n : Int) w).mono ?_
      rintro r _ ⟨rfl, rfl⟩
      rw [HT.out]
      go_upto_region 6 with fail
      clear c1 h32 q0 h0
      refine wp_region_noPanic ?_
      refine wp_region_held_drew (S := (fun W => Chg (fun k => k = gr ∨ (Value.slice vo m vc).ownBlock = some k) w W)) follows ((Chg.refl _ _).drew) (fun hHeld => ?_)
      clear hHeld
      have hHeld : Chg (fun k => k = gr ∨ (Value.slice vo m vc).ownBlock = some k) w w.drew := (Chg.refl _ _).drew
      have CZ0 := hide hHeld
      have RR' : Hid (w.drew.heap[gr]? = some (.cells (Value.slice so sn sc :: vs).toArray 72 (0, 0))) := RR.out
      have HD' : Hid (DgRow 0 w.drew (.slice vo m vc) ds) := HD.out.below ((Below.refl _ _).drew)
      have SS' : Hid (SliceAt w.drew (.slice so sn sc) ks) := SS.out.below ((Below.refl _ _).drew) (Nat.le_refl _)
      have KK' : Hid (KAt w.drew) := KK.out.below ((Below.refl _ _).drew) KK.out.pos
      have BW' : Hid (Below w.heap.size w w.drew) := BW.out.trans (((Below.refl _ _).drew).mono BW.out.size)
      generalize w.drew = Z0 at CZ0 hHeld RR' HD' SS' KK' BW' ⊢
      refine wpAnyH_take (i := 0) (oi := { dst := some 21, op := Op.move (Operand.tmp 0), type := 22, pos := "ring.go:27", after := #[], guard := none }) (v := ?_) rfl (by kernel_rfl) (by kernel_rfl) (by kernel_rfl) (fun _ _ _ h => h) (Or.inl ⟨by rfl, ?_⟩) (by assumption) ?_
      rotate_left
      · intro w hSw
        clear hSw
        go_simp
        all_goals with_reducible rfl
      simp only [Act.put, List.setIfInBounds_toArray, List.set_cons_zero, List.set_cons_succ]
      refine wpAnyH_take (i := 1) (oi := { dst := some 22, op := Op.move (Operand.tmp 1), type := 3, pos := "ring.go:27", after := #[], guard := none }) (v := ?_) rfl (by kernel_rfl) (by kernel_rfl) (by kernel_rfl) (fun _ _ _ h => h) (Or.inl ⟨by rfl, ?_⟩) (by assumption) ?_
      rotate_left
      · intro w hSw
        clear hSw
        go_simp
        all_goals with_reducible rfl
      simp only [Act.put, List.setIfInBounds_toArray, List.set_cons_zero, List.set_cons_succ]
      refine wpAnyH_take (i := 2) (oi := { dst := some 23, op := Op.move (Operand.tmp 0), type := 22, pos := "ring.go:27", after := #[], guard := none }) (v := ?_) rfl (by kernel_rfl) (by kernel_rfl) (by kernel_rfl) (fun _ _ _ h => h) (Or.inl ⟨by rfl, ?_⟩) (by assumption) ?_
      rotate_left
      · intro w hSw
        clear hSw
        go_simp
        all_goals with_reducible rfl
      simp only [Act.put, List.setIfInBounds_toArray, List.set_cons_zero, List.set_cons_succ]
      refine wpAnyH_take (i := 3) (oi := { dst := some 24, op := Op.move (Operand.tmp 1), type := 3, pos := "ring.go:27", after := #[], guard := none }) (v := ?_) rfl (by kernel_rfl) (by kernel_rfl) (by kernel_rfl) (fun _ _ _ h => h) (Or.inl ⟨by rfl, ?_⟩) (by assumption) ?_
      rotate_left
      · intro w hSw
        clear hSw
        go_simp
        all_goals with_reducible rfl
      simp only [Act.put, List.setIfInBounds_toArray, List.set_cons_zero, List.set_cons_succ]
      refine wpAnyH_take (i := 4) (oi := { dst := some 25, op := Op.nilCheck (Operand.tmp 23), type := 0, pos := "ring.go:27", after := #[{ on := 2, ground := Ground.data }], guard := none }) (v := ?_) rfl (by kernel_rfl) (by kernel_rfl) (by kernel_rfl) (fun _ _ _ h => h) (Or.inl ⟨by rfl, ?_⟩) (by assumption) ?_
      rotate_left
      · intro w hSw
        clear hSw
        go_simp
        all_goals with_reducible rfl
      simp only [Act.put, List.setIfInBounds_toArray, List.set_cons_zero, List.set_cons_succ]
      refine wpAnyH_take (i := 5) (oi := { dst := some 26, op := Op.fieldAddr 72 (Operand.tmp 25) 1, type := 0, pos := "ring.go:27", after := #[{ on := 4, ground := Ground.data }], guard := none }) (v := ?_) rfl (by kernel_rfl) (by kernel_rfl) (by kernel_rfl) (fun _ _ _ h => h) (Or.inl ⟨by rfl, ?_⟩) (by assumption) ?_
      rotate_left
      · intro w hSw
        clear hSw
        go_simp
        all_goals with_reducible rfl
      simp only [Act.put, List.setIfInBounds_toArray, List.set_cons_zero, List.set_cons_succ]
      refine wpAnyH_take (i := 6) (oi := { dst := some 27, op := Op.indexAddr 70 (Operand.tmp 26) (Operand.tmp 24), type := 0, pos := "ring.go:27", after := #[{ on := 5, ground := Ground.data }, { on := 3, ground := Ground.data }], guard := none }) (v := ?_) rfl (by kernel_rfl) (by kernel_rfl) (by kernel_rfl) (fun _ _ _ h => h) (Or.inl ⟨by rfl, ?_⟩) (by assumption) ?_
      rotate_left
      · intro w hSw
        clear hSw
        go_simp
        all_goals with_reducible rfl
      simp only [Act.put, List.setIfInBounds_toArray, List.set_cons_zero, List.set_cons_succ]
      refine wpAnyH_take (i := 8) (oi := { dst := some 29, op := Op.move (Operand.tmp 0), type := 22, pos := "ring.go:27", after := #[], guard := none }) (v := ?_) rfl (by kernel_rfl) (by kernel_rfl) (by kernel_rfl) (fun _ _ _ h => h) (Or.inl ⟨by rfl, ?_⟩) (by assumption) ?_
      rotate_left
      · intro w hSw
        clear hSw
        go_simp
        all_goals with_reducible rfl
      simp only [Act.put, List.setIfInBounds_toArray, List.set_cons_zero, List.set_cons_succ]
      refine wpAnyH_take (i := 9) (oi := { dst := some 30, op := Op.nilCheck (Operand.tmp 29), type := 0, pos := "ring.go:27", after := #[{ on := 8, ground := Ground.data }], guard := none }) (v := ?_) rfl (by kernel_rfl) (by kernel_rfl) (by kernel_rfl) (fun _ _ _ h => h) (Or.inl ⟨by rfl, ?_⟩) (by assumption) ?_
      rotate_left
      · intro w hSw
        clear hSw
        go_simp
        all_goals with_reducible rfl
      simp only [Act.put, List.setIfInBounds_toArray, List.set_cons_zero, List.set_cons_succ]
      refine wpAnyH_take (i := 10) (oi := { dst := some 31, op := Op.fieldAddr 72 (Operand.tmp 30) 0, type := 0, pos := "ring.go:27", after := #[{ on := 9, ground := Ground.data }], guard := none }) (v := ?_) rfl (by kernel_rfl) (by kernel_rfl) (by kernel_rfl) (fun _ _ _ h => h) (Or.inl ⟨by rfl, ?_⟩) (by assumption) ?_
      rotate_left
      · intro w hSw
        clear hSw
        go_simp
        all_goals with_reducible rfl
      simp only [Act.put, List.setIfInBounds_toArray, List.set_cons_zero, List.set_cons_succ]
      refine wpAnyH_take (i := 12) (oi := { dst := some 33, op := Op.move (Operand.tmp 1), type := 3, pos := "ring.go:27", after := #[], guard := none }) (v := ?_) rfl (by kernel_rfl) (by kernel_rfl) (by kernel_rfl) (fun _ _ _ h => h) (Or.inl ⟨by rfl, ?_⟩) (by assumption) ?_
      rotate_left
      · intro w hSw
        clear hSw
        go_simp
        all_goals with_reducible rfl
      simp only [Act.put, List.setIfInBounds_toArray, List.set_cons_zero, List.set_cons_succ]
      refine wpAnyH_take (i := 13) (oi := { dst := some 34, op := Op.move (Operand.tmp 8), type := 3, pos := "ring.go:27", after := #[], guard := none }) (v := ?_) rfl (by kernel_rfl) (by kernel_rfl) (by kernel_rfl) (fun _ _ _ h => h) (Or.inl ⟨by rfl, ?_⟩) (by assumption) ?_
      rotate_left
      · intro w hSw
        clear hSw
        go_simp
        all_goals with_reducible rfl
      simp only [Act.put, List.setIfInBounds_toArray, List.set_cons_zero, List.set_cons_succ]
      refine wpAnyH_take (i := 14) (oi := { dst := some 35, op := Op.move (Operand.tmp 2), type := 27, pos := "ring.go:27", after := #[], guard := none }) (v := ?_) rfl (by kernel_rfl) (by kernel_rfl) (by kernel_rfl) (fun _ _ _ h => h) (Or.inl ⟨by rfl, ?_⟩) (by assumption) ?_
      rotate_left
      · intro w hSw
        clear hSw
        go_simp
        all_goals with_reducible rfl
      simp only [Act.put, List.setIfInBounds_toArray, List.set_cons_zero, List.set_cons_succ]
      refine wpAnyH_take (i := 18) (oi := { dst := some 39, op := Op.nilCheck (Operand.tmp 21), type := 0, pos := "ring.go:27", after := #[{ on := 0, ground := Ground.data }], guard := none }) (v := ?_) rfl (by kernel_rfl) (by kernel_rfl) (by kernel_rfl) (fun _ _ _ h => h) (Or.inl ⟨by rfl, ?_⟩) (by assumption) ?_
      rotate_left
      · intro w hSw
        clear hSw
        go_simp
        all_goals with_reducible rfl
      simp only [Act.put, List.setIfInBounds_toArray, List.set_cons_zero, List.set_cons_succ]
      refine wpAnyH_take (i := 19) (oi := { dst := some 40, op := Op.fieldAddr 72 (Operand.tmp 39) 1, type := 0, pos := "ring.go:27", after := #[{ on := 18, ground := Ground.data }], guard := none }) (v := ?_) rfl (by kernel_rfl) (by kernel_rfl) (by kernel_rfl) (fun _ _ _ h => h) (Or.inl ⟨by rfl, ?_⟩) (by assumption) ?_
      rotate_left
      · intro w hSw
        clear hSw
        go_simp
        all_goals with_reducible rfl
      simp only [Act.put, List.setIfInBounds_toArray, List.set_cons_zero, List.set_cons_succ]
      refine wpAnyH_ready (rs := [7, 11]) (by kernel_rfl) (by simp) ?_
      refine step_load (o := { dst := some 28, op := Op.load 69 (Operand.tmp 27), type := 69, pos := "ring.go:27", after := #[{ on := 6, ground := Ground.data }], guard := none }) rfl rfl 69 (.tmp 27) rfl (.slice vo m vc) (load_sl69 ((row_cell RR'.out VN.out n hn).trans (by rw [HV.out]))) ?_ ⟨CZ0.out, fun hHeld => ?_⟩
      rotate_left
      · skip
        simp only [Act.put, List.setIfInBounds_toArray, List.set_cons_zero, List.set_cons_succ]
        refine wpAnyH_ready (rs := [11]) (by kernel_rfl) (by simp) ?_
        refine step_load (o := { dst := some 32, op := Op.load 41 (Operand.tmp 31), type := 41, pos := "ring.go:27", after := #[{ on := 10, ground := Ground.data }], guard := none }) rfl rfl 41 (.tmp 31) rfl (.slice so sn sc) (load_sl41 (row_cell0 RR'.out)) AllReadyH.nil ⟨CZ0.out, fun hHeld => ?_⟩
        simp only [Act.put, List.setIfInBounds_toArray, List.set_cons_zero, List.set_cons_succ]
        refine wpAnyH_ready (rs := [15]) (by kernel_rfl) (by simp) ?_
        refine AllReadyH.cons (o := { dst := some 36, op := Op.call { callee := Callee.value (Operand.func 16), args := #[Operand.tmp 32, Operand.tmp 33, Operand.tmp 34, Operand.tmp 35], argTypes := #[41, 3, 3, 27] }, type := 30, pos := "ring.go:27", after := #[{ on := 11, ground := Ground.data }, { on := 12, ground := Ground.data }, { on := 13, ground := Ground.data }, { on := 14, ground := Ground.data }], guard := none }) rfl (fun K hK => ?_) AllReadyH.nil
        go_simp
        refine (key_any (.slice so sn sc) ks (n : Int) (m : Int) draw Z0 HDR.out SS'.out KK'.out).mono ?_
        rintro e Z1 ⟨rfl, hb2⟩
        obtain ⟨D, hD⟩ : ∃ DD, DD = S.key ks (n : Int) (m : Int) draw := ⟨_, rfl⟩
        rw [← hD]
        have LD := hide (show D.length = 32 by rw [hD]; exact S.key_length _ _ _ _)
        have ED := hide hD
        clear hD
        replace RR' : Hid (Z1.heap[gr]? = some (.cells (Value.slice so sn sc :: vs).toArray 72 (0, 0))) := (hb2.block _ (block_lt_of_row RR'.out)).trans RR'.out
        replace HD' : Hid (DgRow 0 Z1 (.slice vo m vc) ds) := HD'.out.below hb2
        replace SS' : Hid (SliceAt Z1 (.slice so sn sc) ks) := SS'.out.below hb2 (Nat.le_refl _)
        replace KK' : Hid (KAt Z1) := KK'.out.below hb2 KK'.out.pos
        replace BW' : Hid (Below w.heap.size w Z1) := BW'.out.trans (hb2.mono BW'.out.size)
        have CZ1 : Hid (Chg (fun k => k = gr ∨ (Value.slice vo m vc).ownBlock = some k) w Z1) := CZ0.out.then hb2
        clear hb2 CZ0
        clear hHeld
        refine hK.out _ _ CZ1.out (fun hHeld => ?_)
        clear hK K
        try simp only [Act.put, List.setIfInBounds_toArray, List.set_cons_zero, List.set_cons_succ]
        refine wpAnyH_ready (rs := [16]) (by kernel_rfl) (by simp) ?_
        refine step_buildSlice_as (o := { dst := some 37, op := Op.buildSlice 69 1 #[(0, Operand.tmp 36)], type := 69, pos := "ring.go:27", after := #[{ on := 15, ground := Ground.data }], guard := none }) rfl rfl 69 1 [(0, .tmp 36)] rfl [(0, .agg (S.v8 D))] rfl _ _ (bs24one Z1 D LD.out) AllReadyH.nil ⟨CZ1.out.alloc _, fun hHeld => ?_⟩
        clear hHeld
        simp only [Act.put, List.setIfInBounds_toArray, List.set_cons_zero, List.set_cons_succ]
        obtain ⟨gx, hgx⟩ : ∃ gg, gg = Z1.heap.size := ⟨_, rfl⟩
        rw [← hgx]
        generalize hZ : Z1.alloc _ = Z2
        have hb2 : Below Z1.heap.size Z1 Z2 := by rw [← hZ]; exact (Below.refl _ _).alloc (Nat.le_refl _) _
        have Rgx : Hid (Z2.heap[gx]? = some (.cells (S.v8 D) 30 (0, 0))) := by rw [← hZ, hgx]; exact heap_alloc_new _ _
        have Ggx := hide (show w.heap.size ≤ gx by rw [hgx]; exact CZ1.out.size)
        clear hZ hgx
        replace RR' : Hid (Z2.heap[gr]? = some (.cells (Value.slice so sn sc :: vs).toArray 72 (0, 0))) := (hb2.block _ (block_lt_of_row RR'.out)).trans RR'.out
        replace HD' : Hid (DgRow 0 Z2 (.slice vo m vc) ds) := HD'.out.below hb2
        replace SS' : Hid (SliceAt Z2 (.slice so sn sc) ks) := SS'.out.below hb2 (Nat.le_refl _)
        replace KK' : Hid (KAt Z2) := KK'.out.below hb2 KK'.out.pos
        replace BW' : Hid (Below w.heap.size w Z2) := BW'.out.trans (hb2.mono BW'.out.size)
        have CZ2 : Hid (Chg (fun k => k = gr ∨ (Value.slice vo m vc).ownBlock = some k) w Z2) := CZ1.out.then hb2
        clear hb2 CZ1
        have hHeld := CZ2.out
        refine wpAnyH_ready (rs := [17]) (by kernel_rfl) (by simp) ?_
        obtain ⟨vn, Z3, hst, hd2, C6, ho2⟩ := run_append_ky Z2 gx (.slice vo m vc) ds D 69 HD'.out LD.out Rgx.out (by have := HLD.out; have := LT.out; omega)
        refine step_append_as (o := { dst := some 38, op := Op.call { callee := Callee.builtin Builtin.append, args := #[Operand.tmp 28, Operand.tmp 37], argTypes := #[69, 69] }, type := 69, pos := "ring.go:27", after := #[{ on := 7, ground := Ground.data }, { on := 16, ground := Ground.data }, { on := 15, ground := Ground.chain }], guard := none }) rfl rfl (.tmp 28) (.tmp 37) 69 69 rfl (.slice vo m vc) (.slice (some ⟨gx, 0, none⟩) 1 1) rfl rfl vn Z3 hst AllReadyH.nil ⟨CZ2.out.trans C6 (fun k hk e => Or.inr e), fun hHeld => ?_⟩
        have CZ3 : Hid (Chg (fun k => k = gr ∨ (Value.slice vo m vc).ownBlock = some k) w Z3) := CZ2.out.trans C6 (fun k hk e => Or.inr e)
        have HC : Hid (Chg (fun j => (Value.slice vo m vc).ownBlock = some j) w Z3) := (Chg.ofBelow' BW'.out).trans C6 (fun k hk e => e)
        have HOW : Hid (∀ k, vn.ownBlock = some k → (Value.slice vo m vc).ownBlock = some k ∨ w.heap.size ≤ k) := fun k hk => (ho2 k hk).imp id (fun h => Nat.le_trans BW'.out.size h)
        replace RR' : Hid (Z3.heap[gr]? = some (.cells (Value.slice so sn sc :: vs).toArray 72 (0, 0))) := C6.row RR'.out (Rw.apart HD'.out RR'.out (by decide))
        obtain ⟨vo2, vc2, rfl⟩ := hd2.form
        obtain ⟨L, hL⟩ : ∃ L, L = (ds ++ [D]).length := ⟨_, rfl⟩
        rw [← hL] at hd2 HOW ⊢
        have HD2 := hide hd2
        clear hst C6 CZ2 ho2 hd2 hL Rgx HD' SS' KK' BW'
        simp only [Act.put, List.setIfInBounds_toArray, List.set_cons_zero, List.set_cons_succ]
        refine wpAnyH_take (i := 20) (oi := { dst := some 41, op := Op.indexAddr 70 (Operand.tmp 40) (Operand.tmp 22), type := 0, pos := "ring.go:27", after := #[{ on := 19, ground := Ground.data }, { on := 1, ground := Ground.data }, { on := 0, ground := Ground.phase }, { on := 1, ground := Ground.phase }, { on := 2, ground := Ground.phase }, { on := 3, ground := Ground.phase }, { on := 4, ground := Ground.phase }, { on := 5, ground := Ground.phase }, { on := 6, ground := Ground.phase }, { on := 7, ground := Ground.phase }, { on := 8, ground := Ground.phase }, { on := 9, ground := Ground.phase }, { on := 10, ground := Ground.phase }, { on := 11, ground := Ground.phase }, { on := 12, ground := Ground.phase }, { on := 13, ground := Ground.phase }, { on := 14, ground := Ground.phase }, { on := 15, ground := Ground.phase }, { on := 16, ground := Ground.phase }, { on := 17, ground := Ground.phase }], guard := none }) (v := ?_) rfl (by kernel_rfl) (by kernel_rfl) (by kernel_rfl) (fun _ _ _ h => h) (Or.inl ⟨by rfl, ?_⟩) (by assumption) ?_
        rotate_left
        · intro w hSw
          clear hSw
          go_simp
          all_goals with_reducible rfl
        simp only [Act.put, List.setIfInBounds_toArray, List.set_cons_zero, List.set_cons_succ]
        refine wpAnyH_ready (rs := [21]) (by kernel_rfl) (by simp) ?_
        refine AllReadyH.cons (o := { dst := none, op := Op.store 69 (Operand.tmp 41) (Operand.tmp 38), type := 0, pos := "ring.go:27", after := #[{ on := 20, ground := Ground.data }, { on := 17, ground := Ground.data }, { on := 17, ground := Ground.chain }, { on := 0, ground := Ground.phase }, { on := 1, ground := Ground.phase }, { on := 2, ground := Ground.phase }, { on := 3, ground := Ground.phase }, { on := 4, ground := Ground.phase }, { on := 5, ground := Ground.phase }, { on := 6, ground := Ground.phase }, { on := 7, ground := Ground.phase }, { on := 8, ground := Ground.phase }, { on := 9, ground := Ground.phase }, { on := 10, ground := Ground.phase }, { on := 11, ground := Ground.phase }, { on := 12, ground := Ground.phase }, { on := 13, ground := Ground.phase }, { on := 14, ground := Ground.phase }, { on := 15, ground := Ground.phase }, { on := 16, ground := Ground.phase }, { on := 17, ground := Ground.phase }], guard := none }) rfl (fun K hK => ?_) AllReadyH.nil
        have c1 := row_cell RR'.out VN.out n hn
        rw [HV.out] at c1
        have f1 := frozen_of_row _ _ (1 + n) _ _ RR'.out
        go_simp
        refine hK.out _ _ (CZ3.out.setCell _ _ _ (fun _ => Or.inl rfl)) (fun hHeld => ?_)
        clear hK K c1 f1 hHeld
        try simp only [Act.put, List.setIfInBounds_toArray, List.set_cons_zero, List.set_cons_succ]
        refine wpAnyH_done (by kernel_rfl) ?_ _
        refine NoPanic.normal ?_
        have FN := hide (HO.out.turned n hn (.slice vo2 L vc2) D LD.out (by rw [← HDS.out, HLD.out]; exact LT.out) (by simp only; rw [HV.out]; exact HC.out) (by rw [← HDS.out]; exact HD2.out) (by simp only; rw [HV.out]; exact HOW.out))
        simp only at FN
        rw [← HDS.out, ED.out, ← ET.out] at FN
        generalize Z3.setCell _ _ = Y at FN ⊢
        clear CZ3 HC HD2 HOW RR'
        go_wp2_with fail
        go_ret2
        exact ⟨_, by rw [EN.out, EE.out]; rfl, FN.out.1, FN.out.2⟩
      refine step_load (o := { dst := some 32, op := Op.load 41 (Operand.tmp 31), type := 41, pos := "ring.go:27", after := #[{ on := 10, ground := Ground.data }], guard := none }) rfl rfl 41 (.tmp 31) rfl (.slice so sn sc) (load_sl41 (row_cell0 RR'.out)) AllReadyH.nil ⟨CZ0.out, fun hHeld => ?_⟩
      simp only [Act.put, List.setIfInBounds_toArray, List.set_cons_zero, List.set_cons_succ]
      refine wpAnyH_ready (rs := [7, 15]) (by kernel_rfl) (by simp) ?_
      refine step_load (o := { dst := some 28, op := Op.load 69 (Operand.tmp 27), type := 69, pos := "ring.go:27", after := #[{ on := 6, ground := Ground.data }], guard := none }) rfl rfl 69 (.tmp 27) rfl (.slice vo m vc) (load_sl69 ((row_cell RR'.out VN.out n hn).trans (by rw [HV.out]))) ?_ ⟨CZ0.out, fun hHeld => ?_⟩
      rotate_left
      · skip
        simp only [Act.put, List.setIfInBounds_toArray, List.set_cons_zero, List.set_cons_succ]
        refine wpAnyH_ready (rs := [15]) (by kernel_rfl) (by simp) ?_
        refine AllReadyH.cons (o := { dst := some 36, op := Op.call { callee := Callee.value (Operand.func 16), args := #[Operand.tmp 32, Operand.tmp 33, Operand.tmp 34, Operand.tmp 35], argTypes := #[41, 3, 3, 27] }, type := 30, pos := "ring.go:27", after := #[{ on := 11, ground := Ground.data }, { on := 12, ground := Ground.data }, { on := 13, ground := Ground.data }, { on := 14, ground := Ground.data }], guard := none }) rfl (fun K hK => ?_) AllReadyH.nil
        go_simp
        refine (key_any (.slice so sn sc) ks (n : Int) (m : Int) draw Z0 HDR.out SS'.out KK'.out).mono ?_
        rintro e Z1 ⟨rfl, hb2⟩
        obtain ⟨D, hD⟩ : ∃ DD, DD = S.key ks (n : Int) (m : Int) draw := ⟨_, rfl⟩
        rw [← hD]
        have LD := hide (show D.length = 32 by rw [hD]; exact S.key_length _ _ _ _)
        have ED := hide hD
        clear hD
        replace RR' : Hid (Z1.heap[gr]? = some (.cells (Value.slice so sn sc :: vs).toArray 72 (0, 0))) := (hb2.block _ (block_lt_of_row RR'.out)).trans RR'.out
        replace HD' : Hid (DgRow 0 Z1 (.slice vo m vc) ds) := HD'.out.below hb2
        replace SS' : Hid (SliceAt Z1 (.slice so sn sc) ks) := SS'.out.below hb2 (Nat.le_refl _)
        replace KK' : Hid (KAt Z1) := KK'.out.below hb2 KK'.out.pos
        replace BW' : Hid (Below w.heap.size w Z1) := BW'.out.trans (hb2.mono BW'.out.size)
        have CZ1 : Hid (Chg (fun k => k = gr ∨ (Value.slice vo m vc).ownBlock = some k) w Z1) := CZ0.out.then hb2
        clear hb2 CZ0
        clear hHeld
        refine hK.out _ _ CZ1.out (fun hHeld => ?_)
        clear hK K
        try simp only [Act.put, List.setIfInBounds_toArray, List.set_cons_zero, List.set_cons_succ]
        refine wpAnyH_ready (rs := [16]) (by kernel_rfl) (by simp) ?_
        refine step_buildSlice_as (o := { dst := some 37, op := Op.buildSlice 69 1 #[(0, Operand.tmp 36)], type := 69, pos := "ring.go:27", after := #[{ on := 15, ground := Ground.data }], guard := none }) rfl rfl 69 1 [(0, .tmp 36)] rfl [(0, .agg (S.v8 D))] rfl _ _ (bs24one Z1 D LD.out) AllReadyH.nil ⟨CZ1.out.alloc _, fun hHeld => ?_⟩
        clear hHeld
        simp only [Act.put, List.setIfInBounds_toArray, List.set_cons_zero, List.set_cons_succ]
        obtain ⟨gx, hgx⟩ : ∃ gg, gg = Z1.heap.size := ⟨_, rfl⟩
        rw [← hgx]
        generalize hZ : Z1.alloc _ = Z2
        have hb2 : Below Z1.heap.size Z1 Z2 := by rw [← hZ]; exact (Below.refl _ _).alloc (Nat.le_refl _) _
        have Rgx : Hid (Z2.heap[gx]? = some (.cells (S.v8 D) 30 (0, 0))) := by rw [← hZ, hgx]; exact heap_alloc_new _ _
        have Ggx := hide (show w.heap.size ≤ gx by rw [hgx]; exact CZ1.out.size)
        clear hZ hgx
        replace RR' : Hid (Z2.heap[gr]? = some (.cells (Value.slice so sn sc :: vs).toArray 72 (0, 0))) := (hb2.block _ (block_lt_of_row RR'.out)).trans RR'.out
        replace HD' : Hid (DgRow 0 Z2 (.slice vo m vc) ds) := HD'.out.below hb2
        replace SS' : Hid (SliceAt Z2 (.slice so sn sc) ks) := SS'.out.below hb2 (Nat.le_refl _)
        replace KK' : Hid (KAt Z2) := KK'.out.below hb2 KK'.out.pos
        replace BW' : Hid (Below w.heap.size w Z2) := BW'.out.trans (hb2.mono BW'.out.size)
        have CZ2 : Hid (Chg (fun k => k = gr ∨ (Value.slice vo m vc).ownBlock = some k) w Z2) := CZ1.out.then hb2
        clear hb2 CZ1
        have hHeld := CZ2.out
        refine wpAnyH_ready (rs := [17]) (by kernel_rfl) (by simp) ?_
        obtain ⟨vn, Z3, hst, hd2, C6, ho2⟩ := run_append_ky Z2 gx (.slice vo m vc) ds D 69 HD'.out LD.out Rgx.out (by have := HLD.out; have := LT.out; omega)
        refine step_append_as (o := { dst := some 38, op := Op.call { callee := Callee.builtin Builtin.append, args := #[Operand.tmp 28, Operand.tmp 37], argTypes := #[69, 69] }, type := 69, pos := "ring.go:27", after := #[{ on := 7, ground := Ground.data }, { on := 16, ground := Ground.data }, { on := 15, ground := Ground.chain }], guard := none }) rfl rfl (.tmp 28) (.tmp 37) 69 69 rfl (.slice vo m vc) (.slice (some ⟨gx, 0, none⟩) 1 1) rfl rfl vn Z3 hst AllReadyH.nil ⟨CZ2.out.trans C6 (fun k hk e => Or.inr e), fun hHeld => ?_⟩
        have CZ3 : Hid (Chg (fun k => k = gr ∨ (Value.slice vo m vc).ownBlock = some k) w Z3) := CZ2.out.trans C6 (fun k hk e => Or.inr e)
        have HC : Hid (Chg (fun j => (Value.slice vo m vc).ownBlock = some j) w Z3) := (Chg.ofBelow' BW'.out).trans C6 (fun k hk e => e)
        have HOW : Hid (∀ k, vn.ownBlock = some k → (Value.slice vo m vc).ownBlock = some k ∨ w.heap.size ≤ k) := fun k hk => (ho2 k hk).imp id (fun h => Nat.le_trans BW'.out.size h)
        replace RR' : Hid (Z3.heap[gr]? = some (.cells (Value.slice so sn sc :: vs).toArray 72 (0, 0))) := C6.row RR'.out (Rw.apart HD'.out RR'.out (by decide))
        obtain ⟨vo2, vc2, rfl⟩ := hd2.form
        obtain ⟨L, hL⟩ : ∃ L, L = (ds ++ [D]).length := ⟨_, rfl⟩
        rw [← hL] at hd2 HOW ⊢
        have HD2 := hide hd2
        clear hst C6 CZ2 ho2 hd2 hL Rgx HD' SS' KK' BW'
        simp only [Act.put, List.setIfInBounds_toArray, List.set_cons_zero, List.set_cons_succ]
        refine wpAnyH_take (i := 20) (oi := { dst := some 41, op := Op.indexAddr 70 (Operand.tmp 40) (Operand.tmp 22), type := 0, pos := "ring.go:27", after := #[{ on := 19, ground := Ground.data }, { on := 1, ground := Ground.data }, { on := 0, ground := Ground.phase }, { on := 1, ground := Ground.phase }, { on := 2, ground := Ground.phase }, { on := 3, ground := Ground.phase }, { on := 4, ground := Ground.phase }, { on := 5, ground := Ground.phase }, { on := 6, ground := Ground.phase }, { on := 7, ground := Ground.phase }, { on := 8, ground := Ground.phase }, { on := 9, ground := Ground.phase }, { on := 10, ground := Ground.phase }, { on := 11, ground := Ground.phase }, { on := 12, ground := Ground.phase }, { on := 13, ground := Ground.phase }, { on := 14, ground := Ground.phase }, { on := 15, ground := Ground.phase }, { on := 16, ground := Ground.phase }, { on := 17, ground := Ground.phase }], guard := none }) (v := ?_) rfl (by kernel_rfl) (by kernel_rfl) (by kernel_rfl) (fun _ _ _ h => h) (Or.inl ⟨by rfl, ?_⟩) (by assumption) ?_
        rotate_left
        · intro w hSw
          clear hSw
          go_simp
          all_goals with_reducible rfl
        simp only [Act.put, List.setIfInBounds_toArray, List.set_cons_zero, List.set_cons_succ]
        refine wpAnyH_ready (rs := [21]) (by kernel_rfl) (by simp) ?_
        refine AllReadyH.cons (o := { dst := none, op := Op.store 69 (Operand.tmp 41) (Operand.tmp 38), type := 0, pos := "ring.go:27", after := #[{ on := 20, ground := Ground.data }, { on := 17, ground := Ground.data }, { on := 17, ground := Ground.chain }, { on := 0, ground := Ground.phase }, { on := 1, ground := Ground.phase }, { on := 2, ground := Ground.phase }, { on := 3, ground := Ground.phase }, { on := 4, ground := Ground.phase }, { on := 5, ground := Ground.phase }, { on := 6, ground := Ground.phase }, { on := 7, ground := Ground.phase }, { on := 8, ground := Ground.phase }, { on := 9, ground := Ground.phase }, { on := 10, ground := Ground.phase }, { on := 11, ground := Ground.phase }, { on := 12, ground := Ground.phase }, { on := 13, ground := Ground.phase }, { on := 14, ground := Ground.phase }, { on := 15, ground := Ground.phase }, { on := 16, ground := Ground.phase }, { on := 17, ground := Ground.phase }], guard := none }) rfl (fun K hK => ?_) AllReadyH.nil
        have c1 := row_cell RR'.out VN.out n hn
        rw [HV.out] at c1
        have f1 := frozen_of_row _ _ (1 + n) _ _ RR'.out
        go_simp
        refine hK.out _ _ (CZ3.out.setCell _ _ _ (fun _ => Or.inl rfl)) (fun hHeld => ?_)
        clear hK K c1 f1 hHeld
        try simp only [Act.put, List.setIfInBounds_toArray, List.set_cons_zero, List.set_cons_succ]
        refine wpAnyH_done (by kernel_rfl) ?_ _
        refine NoPanic.normal ?_
        have FN := hide (HO.out.turned n hn (.slice vo2 L vc2) D LD.out (by rw [← HDS.out, HLD.out]; exact LT.out) (by simp only; rw [HV.out]; exact HC.out) (by rw [← HDS.out]; exact HD2.out) (by simp only; rw [HV.out]; exact HOW.out))
        simp only at FN
        rw [← HDS.out, ED.out, ← ET.out] at FN
        generalize Z3.setCell _ _ = Y at FN ⊢
        clear CZ3 HC HD2 HOW RR'
        go_wp2_with fail
        go_ret2
        exact ⟨_, by rw [EN.out, EE.out]; rfl, FN.out.1, FN.out.2⟩
      refine AllReadyH.cons (o := { dst := some 36, op := Op.call { callee := Callee.value (Operand.func 16), args := #[Operand.tmp 32, Operand.tmp 33, Operand.tmp 34, Operand.tmp 35], argTypes := #[41, 3, 3, 27] }, type := 30, pos := "ring.go:27", after := #[{ on := 11, ground := Ground.data }, { on := 12, ground := Ground.data }, { on := 13, ground := Ground.data }, { on := 14, ground := Ground.data }], guard := none }) rfl (fun K hK => ?_) AllReadyH.nil
      go_simp
      refine (key_any (.slice so sn sc) ks (n : Int) (m : Int) draw Z0 HDR.out SS'.out KK'.out).mono ?_
      rintro e Z1 ⟨rfl, hb2⟩
      obtain ⟨D, hD⟩ : ∃ DD, DD = S.key ks (n : Int) (m : Int) draw := ⟨_, rfl⟩
      rw [← hD]
      have LD := hide (show D.length = 32 by rw [hD]; exact S.key_length _ _ _ _)
      have ED := hide hD
      clear hD
      replace RR' : Hid (Z1.heap[gr]? = some (.cells (Value.slice so sn sc :: vs).toArray 72 (0, 0))) := (hb2.block _ (block_lt_of_row RR'.out)).trans RR'.out
      replace HD' : Hid (DgRow 0 Z1 (.slice vo m vc) ds) := HD'.out.below hb2
      replace SS' : Hid (SliceAt Z1 (.slice so sn sc) ks) := SS'.out.below hb2 (Nat.le_refl _)
      replace KK' : Hid (KAt Z1) := KK'.out.below hb2 KK'.out.pos
      replace BW' : Hid (Below w.heap.size w Z1) := BW'.out.trans (hb2.mono BW'.out.size)
      have CZ1 : Hid (Chg (fun k => k = gr ∨ (Value.slice vo m vc).ownBlock = some k) w Z1) := CZ0.out.then hb2
      clear hb2 CZ0
      clear hHeld
      refine hK.out _ _ CZ1.out (fun hHeld => ?_)
      clear hK K
      try simp only [Act.put, List.setIfInBounds_toArray, List.set_cons_zero, List.set_cons_succ]
      refine wpAnyH_ready (rs := [7, 16]) (by kernel_rfl) (by simp) ?_
      refine step_load (o := { dst := some 28, op := Op.load 69 (Operand.tmp 27), type := 69, pos := "ring.go:27", after := #[{ on := 6, ground := Ground.data }], guard := none }) rfl rfl 69 (.tmp 27) rfl (.slice vo m vc) (load_sl69 ((row_cell RR'.out VN.out n hn).trans (by rw [HV.out]))) ?_ ⟨CZ1.out, fun hHeld => ?_⟩
      rotate_left
      · skip
        simp only [Act.put, List.setIfInBounds_toArray, List.set_cons_zero, List.set_cons_succ]
        refine wpAnyH_ready (rs := [16]) (by kernel_rfl) (by simp) ?_
        refine step_buildSlice_as (o := { dst := some 37, op := Op.buildSlice 69 1 #[(0, Operand.tmp 36)], type := 69, pos := "ring.go:27", after := #[{ on := 15, ground := Ground.data }], guard := none }) rfl rfl 69 1 [(0, .tmp 36)] rfl [(0, .agg (S.v8 D))] rfl _ _ (bs24one Z1 D LD.out) AllReadyH.nil ⟨CZ1.out.alloc _, fun hHeld => ?_⟩
        clear hHeld
        simp only [Act.put, List.setIfInBounds_toArray, List.set_cons_zero, List.set_cons_succ]
        obtain ⟨gx, hgx⟩ : ∃ gg, gg = Z1.heap.size := ⟨_, rfl⟩
        rw [← hgx]
        generalize hZ : Z1.alloc _ = Z2
        have hb2 : Below Z1.heap.size Z1 Z2 := by rw [← hZ]; exact (Below.refl _ _).alloc (Nat.le_refl _) _
        have Rgx : Hid (Z2.heap[gx]? = some (.cells (S.v8 D) 30 (0, 0))) := by rw [← hZ, hgx]; exact heap_alloc_new _ _
        have Ggx := hide (show w.heap.size ≤ gx by rw [hgx]; exact CZ1.out.size)
        clear hZ hgx
        replace RR' : Hid (Z2.heap[gr]? = some (.cells (Value.slice so sn sc :: vs).toArray 72 (0, 0))) := (hb2.block _ (block_lt_of_row RR'.out)).trans RR'.out
        replace HD' : Hid (DgRow 0 Z2 (.slice vo m vc) ds) := HD'.out.below hb2
        replace SS' : Hid (SliceAt Z2 (.slice so sn sc) ks) := SS'.out.below hb2 (Nat.le_refl _)
        replace KK' : Hid (KAt Z2) := KK'.out.below hb2 KK'.out.pos
        replace BW' : Hid (Below w.heap.size w Z2) := BW'.out.trans (hb2.mono BW'.out.size)
        have CZ2 : Hid (Chg (fun k => k = gr ∨ (Value.slice vo m vc).ownBlock = some k) w Z2) := CZ1.out.then hb2
        clear hb2 CZ1
        have hHeld := CZ2.out
        refine wpAnyH_ready (rs := [17]) (by kernel_rfl) (by simp) ?_
        obtain ⟨vn, Z3, hst, hd2, C6, ho2⟩ := run_append_ky Z2 gx (.slice vo m vc) ds D 69 HD'.out LD.out Rgx.out (by have := HLD.out; have := LT.out; omega)
        refine step_append_as (o := { dst := some 38, op := Op.call { callee := Callee.builtin Builtin.append, args := #[Operand.tmp 28, Operand.tmp 37], argTypes := #[69, 69] }, type := 69, pos := "ring.go:27", after := #[{ on := 7, ground := Ground.data }, { on := 16, ground := Ground.data }, { on := 15, ground := Ground.chain }], guard := none }) rfl rfl (.tmp 28) (.tmp 37) 69 69 rfl (.slice vo m vc) (.slice (some ⟨gx, 0, none⟩) 1 1) rfl rfl vn Z3 hst AllReadyH.nil ⟨CZ2.out.trans C6 (fun k hk e => Or.inr e), fun hHeld => ?_⟩
        have CZ3 : Hid (Chg (fun k => k = gr ∨ (Value.slice vo m vc).ownBlock = some k) w Z3) := CZ2.out.trans C6 (fun k hk e => Or.inr e)
        have HC : Hid (Chg (fun j => (Value.slice vo m vc).ownBlock = some j) w Z3) := (Chg.ofBelow' BW'.out).trans C6 (fun k hk e => e)
        have HOW : Hid (∀ k, vn.ownBlock = some k → (Value.slice vo m vc).ownBlock = some k ∨ w.heap.size ≤ k) := fun k hk => (ho2 k hk).imp id (fun h => Nat.le_trans BW'.out.size h)
        replace RR' : Hid (Z3.heap[gr]? = some (.cells (Value.slice so sn sc :: vs).toArray 72 (0, 0))) := C6.row RR'.out (Rw.apart HD'.out RR'.out (by decide))
        obtain ⟨vo2, vc2, rfl⟩ := hd2.form
        obtain ⟨L, hL⟩ : ∃ L, L = (ds ++ [D]).length := ⟨_, rfl⟩
        rw [← hL] at hd2 HOW ⊢
        have HD2 := hide hd2
        clear hst C6 CZ2 ho2 hd2 hL Rgx HD' SS' KK' BW'
        simp only [Act.put, List.setIfInBounds_toArray, List.set_cons_zero, List.set_cons_succ]
        refine wpAnyH_take (i := 20) (oi := { dst := some 41, op := Op.indexAddr 70 (Operand.tmp 40) (Operand.tmp 22), type := 0, pos := "ring.go:27", after := #[{ on := 19, ground := Ground.data }, { on := 1, ground := Ground.data }, { on := 0, ground := Ground.phase }, { on := 1, ground := Ground.phase }, { on := 2, ground := Ground.phase }, { on := 3, ground := Ground.phase }, { on := 4, ground := Ground.phase }, { on := 5, ground := Ground.phase }, { on := 6, ground := Ground.phase }, { on := 7, ground := Ground.phase }, { on := 8, ground := Ground.phase }, { on := 9, ground := Ground.phase }, { on := 10, ground := Ground.phase }, { on := 11, ground := Ground.phase }, { on := 12, ground := Ground.phase }, { on := 13, ground := Ground.phase }, { on := 14, ground := Ground.phase }, { on := 15, ground := Ground.phase }, { on := 16, ground := Ground.phase }, { on := 17, ground := Ground.phase }], guard := none }) (v := ?_) rfl (by kernel_rfl) (by kernel_rfl) (by kernel_rfl) (fun _ _ _ h => h) (Or.inl ⟨by rfl, ?_⟩) (by assumption) ?_
        rotate_left
        · intro w hSw
          clear hSw
          go_simp
          all_goals with_reducible rfl
        simp only [Act.put, List.setIfInBounds_toArray, List.set_cons_zero, List.set_cons_succ]
        refine wpAnyH_ready (rs := [21]) (by kernel_rfl) (by simp) ?_
        refine AllReadyH.cons (o := { dst := none, op := Op.store 69 (Operand.tmp 41) (Operand.tmp 38), type := 0, pos := "ring.go:27", after := #[{ on := 20, ground := Ground.data }, { on := 17, ground := Ground.data }, { on := 17, ground := Ground.chain }, { on := 0, ground := Ground.phase }, { on := 1, ground := Ground.phase }, { on := 2, ground := Ground.phase }, { on := 3, ground := Ground.phase }, { on := 4, ground := Ground.phase }, { on := 5, ground := Ground.phase }, { on := 6, ground := Ground.phase }, { on := 7, ground := Ground.phase }, { on := 8, ground := Ground.phase }, { on := 9, ground := Ground.phase }, { on := 10, ground := Ground.phase }, { on := 11, ground := Ground.phase }, { on := 12, ground := Ground.phase }, { on := 13, ground := Ground.phase }, { on := 14, ground := Ground.phase }, { on := 15, ground := Ground.phase }, { on := 16, ground := Ground.phase }, { on := 17, ground := Ground.phase }], guard := none }) rfl (fun K hK => ?_) AllReadyH.nil
        have c1 := row_cell RR'.out VN.out n hn
        rw [HV.out] at c1
        have f1 := frozen_of_row _ _ (1 + n) _ _ RR'.out
        go_simp
        refine hK.out _ _ (CZ3.out.setCell _ _ _ (fun _ => Or.inl rfl)) (fun hHeld => ?_)
        clear hK K c1 f1 hHeld
        try simp only [Act.put, List.setIfInBounds_toArray, List.set_cons_zero, List.set_cons_succ]
        refine wpAnyH_done (by kernel_rfl) ?_ _
        refine NoPanic.normal ?_
        have FN := hide (HO.out.turned n hn (.slice vo2 L vc2) D LD.out (by rw [← HDS.out, HLD.out]; exact LT.out) (by simp only; rw [HV.out]; exact HC.out) (by rw [← HDS.out]; exact HD2.out) (by simp only; rw [HV.out]; exact HOW.out))
        simp only at FN
        rw [← HDS.out, ED.out, ← ET.out] at FN
        generalize Z3.setCell _ _ = Y at FN ⊢
        clear CZ3 HC HD2 HOW RR'
        go_wp2_with fail
        go_ret2
        exact ⟨_, by rw [EN.out, EE.out]; rfl, FN.out.1, FN.out.2⟩
      refine step_buildSlice_as (o := { dst := some 37, op := Op.buildSlice 69 1 #[(0, Operand.tmp 36)], type := 69, pos := "ring.go:27", after := #[{ on := 15, ground := Ground.data }], guard := none }) rfl rfl 69 1 [(0, .tmp 36)] rfl [(0, .agg (S.v8 D))] rfl _ _ (bs24one Z1 D LD.out) AllReadyH.nil ⟨CZ1.out.alloc _, fun hHeld => ?_⟩
      clear hHeld
      simp only [Act.put, List.setIfInBounds_toArray, List.set_cons_zero, List.set_cons_succ]
      obtain ⟨gx, hgx⟩ : ∃ gg, gg = Z1.heap.size := ⟨_, rfl⟩
      rw [← hgx]
      generalize hZ : Z1.alloc _ = Z2
      have hb2 : Below Z1.heap.size Z1 Z2 := by rw [← hZ]; exact (Below.refl _ _).alloc (Nat.le_refl _) _
      have Rgx : Hid (Z2.heap[gx]? = some (.cells (S.v8 D) 30 (0, 0))) := by rw [← hZ, hgx]; exact heap_alloc_new _ _
      have Ggx := hide (show w.heap.size ≤ gx by rw [hgx]; exact CZ1.out.size)
      clear hZ hgx
      replace RR' : Hid (Z2.heap[gr]? = some (.cells (Value.slice so sn sc :: vs).toArray 72 (0, 0))) := (hb2.block _ (block_lt_of_row RR'.out)).trans RR'.out
      replace HD' : Hid (DgRow 0 Z2 (.slice vo m vc) ds) := HD'.out.below hb2
      replace SS' : Hid (SliceAt Z2 (.slice so sn sc) ks) := SS'.out.below hb2 (Nat.le_refl _)
      replace KK' : Hid (KAt Z2) := KK'.out.below hb2 KK'.out.pos
      replace BW' : Hid (Below w.heap.size w Z2) := BW'.out.trans (hb2.mono BW'.out.size)
      have CZ2 : Hid (Chg (fun k => k = gr ∨ (Value.slice vo m vc).ownBlock = some k) w Z2) := CZ1.out.then hb2
      clear hb2 CZ1
      have hHeld := CZ2.out
      refine wpAnyH_ready (rs := [7]) (by kernel_rfl) (by simp) ?_
      refine step_load (o := { dst := some 28, op := Op.load 69 (Operand.tmp 27), type := 69, pos := "ring.go:27", after := #[{ on := 6, ground := Ground.data }], guard := none }) rfl rfl 69 (.tmp 27) rfl (.slice vo m vc) (load_sl69 ((row_cell RR'.out VN.out n hn).trans (by rw [HV.out]))) AllReadyH.nil ⟨CZ2.out, fun hHeld => ?_⟩
      simp only [Act.put, List.setIfInBounds_toArray, List.set_cons_zero, List.set_cons_succ]
      refine wpAnyH_ready (rs := [17]) (by kernel_rfl) (by simp) ?_
      obtain ⟨vn, Z3, hst, hd2, C6, ho2⟩ := run_append_ky Z2 gx (.slice vo m vc) ds D 69 HD'.out LD.out Rgx.out (by have := HLD.out; have := LT.out; omega)
      refine step_append_as (o := { dst := some 38, op := Op.call { callee := Callee.builtin Builtin.append, args := #[Operand.tmp 28, Operand.tmp 37], argTypes := #[69, 69] }, type := 69, pos := "ring.go:27", after := #[{ on := 7, ground := Ground.data }, { on := 16, ground := Ground.data }, { on := 15, ground := Ground.chain }], guard := none }) rfl rfl (.tmp 28) (.tmp 37) 69 69 rfl (.slice vo m vc) (.slice (some ⟨gx, 0, none⟩) 1 1) rfl rfl vn Z3 hst AllReadyH.nil ⟨CZ2.out.trans C6 (fun k hk e => Or.inr e), fun hHeld => ?_⟩
      have CZ3 : Hid (Chg (fun k => k = gr ∨ (Value.slice vo m vc).ownBlock = some k) w Z3) := CZ2.out.trans C6 (fun k hk e => Or.inr e)
      have HC : Hid (Chg (fun j => (Value.slice vo m vc).ownBlock = some j) w Z3) := (Chg.ofBelow' BW'.out).trans C6 (fun k hk e => e)
      have HOW : Hid (∀ k, vn.ownBlock = some k → (Value.slice vo m vc).ownBlock = some k ∨ w.heap.size ≤ k) := fun k hk => (ho2 k hk).imp id (fun h => Nat.le_trans BW'.out.size h)
      replace RR' : Hid (Z3.heap[gr]? = some (.cells (Value.slice so sn sc :: vs).toArray 72 (0, 0))) := C6.row RR'.out (Rw.apart HD'.out RR'.out (by decide))
      obtain ⟨vo2, vc2, rfl⟩ := hd2.form
      obtain ⟨L, hL⟩ : ∃ L, L = (ds ++ [D]).length := ⟨_, rfl⟩
      rw [← hL] at hd2 HOW ⊢
      have HD2 := hide hd2
      clear hst C6 CZ2 ho2 hd2 hL Rgx HD' SS' KK' BW'
      simp only [Act.put, List.setIfInBounds_toArray, List.set_cons_zero, List.set_cons_succ]
      refine wpAnyH_take (i := 20) (oi := { dst := some 41, op := Op.indexAddr 70 (Operand.tmp 40) (Operand.tmp 22), type := 0, pos := "ring.go:27", after := #[{ on := 19, ground := Ground.data }, { on := 1, ground := Ground.data }, { on := 0, ground := Ground.phase }, { on := 1, ground := Ground.phase }, { on := 2, ground := Ground.phase }, { on := 3, ground := Ground.phase }, { on := 4, ground := Ground.phase }, { on := 5, ground := Ground.phase }, { on := 6, ground := Ground.phase }, { on := 7, ground := Ground.phase }, { on := 8, ground := Ground.phase }, { on := 9, ground := Ground.phase }, { on := 10, ground := Ground.phase }, { on := 11, ground := Ground.phase }, { on := 12, ground := Ground.phase }, { on := 13, ground := Ground.phase }, { on := 14, ground := Ground.phase }, { on := 15, ground := Ground.phase }, { on := 16, ground := Ground.phase }, { on := 17, ground := Ground.phase }], guard := none }) (v := ?_) rfl (by kernel_rfl) (by kernel_rfl) (by kernel_rfl) (fun _ _ _ h => h) (Or.inl ⟨by rfl, ?_⟩) (by assumption) ?_
      rotate_left
      · intro w hSw
        clear hSw
        go_simp
        all_goals with_reducible rfl
      simp only [Act.put, List.setIfInBounds_toArray, List.set_cons_zero, List.set_cons_succ]
      refine wpAnyH_ready (rs := [21]) (by kernel_rfl) (by simp) ?_
      refine AllReadyH.cons (o := { dst := none, op := Op.store 69 (Operand.tmp 41) (Operand.tmp 38), type := 0, pos := "ring.go:27", after := #[{ on := 20, ground := Ground.data }, { on := 17, ground := Ground.data }, { on := 17, ground := Ground.chain }, { on := 0, ground := Ground.phase }, { on := 1, ground := Ground.phase }, { on := 2, ground := Ground.phase }, { on := 3, ground := Ground.phase }, { on := 4, ground := Ground.phase }, { on := 5, ground := Ground.phase }, { on := 6, ground := Ground.phase }, { on := 7, ground := Ground.phase }, { on := 8, ground := Ground.phase }, { on := 9, ground := Ground.phase }, { on := 10, ground := Ground.phase }, { on := 11, ground := Ground.phase }, { on := 12, ground := Ground.phase }, { on := 13, ground := Ground.phase }, { on := 14, ground := Ground.phase }, { on := 15, ground := Ground.phase }, { on := 16, ground := Ground.phase }, { on := 17, ground := Ground.phase }], guard := none }) rfl (fun K hK => ?_) AllReadyH.nil
      have c1 := row_cell RR'.out VN.out n hn
      rw [HV.out] at c1
      have f1 := frozen_of_row _ _ (1 + n) _ _ RR'.out
      go_simp
      refine hK.out _ _ (CZ3.out.setCell _ _ _ (fun _ => Or.inl rfl)) (fun hHeld => ?_)
      clear hK K c1 f1 hHeld
      try simp only [Act.put, List.setIfInBounds_toArray, List.set_cons_zero, List.set_cons_succ]
      refine wpAnyH_done (by kernel_rfl) ?_ _
      refine NoPanic.normal ?_
      have FN := hide (HO.out.turned n hn (.slice vo2 L vc2) D LD.out (by rw [← HDS.out, HLD.out]; exact LT.out) (by simp only; rw [HV.out]; exact HC.out) (by rw [← HDS.out]; exact HD2.out) (by simp only; rw [HV.out]; exact HOW.out))
      simp only at FN
      rw [← HDS.out, ED.out, ← ET.out] at FN
      generalize Z3.setCell _ _ = Y at FN ⊢
      clear CZ3 HC HD2 HOW RR'
      go_wp2_with fail
      go_ret2
      exact ⟨_, by rw [EN.out, EE.out]; rfl, FN.out.1, FN.out.2⟩
  · have hT2 : S.isT t = false := by simpa using hT
    have HT := hide hT2
    have EE : Hid (S.turnE T t = 1) := by show S.turnE T t = 1; rw [S.turnE, hT2]; rfl
    have EN : Hid (S.turnN T t = 0) := by show S.turnN T t = 0; rw [S.turnN, EE.out]; rfl
    have ET : Hid (S.turnT ks T t draw = T) := by show S.turnT ks T t draw = T; rw [S.turnT, EE.out]; rfl
    clear hT hT2
    go_enter Tryd.func9, Tryd.ntmps9
    go_wp2_with fail
    refine (isTree_any t w).mono ?_
    rintro r _ ⟨rfl, rfl⟩
    rw [HT.out]
    go_wp2_with fail
    go_ret2
    exact ⟨_, by rw [EN.out, EE.out]; rfl, by rw [ET.out]; exact HO.out, RgTo.refl _ _⟩
end Go.Proofs.YtllcnppcncegpaaDoor
