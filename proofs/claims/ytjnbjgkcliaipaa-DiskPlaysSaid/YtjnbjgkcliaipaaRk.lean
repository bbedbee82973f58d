/- The document's disk in memory; Pending, Stop, goes. -/
import Derived.Test.YtjnbjgkcliaipaaKnown
namespace Go.Proofs.Ytjnbjgkcliaipaa
open Go.RowKit
/-- Where the document's disk lies: its block, its lists, the texts in them. -/
structure Ro where
  g : Nat
  sv : Value
  pv : Value
  ts : List Value
  ws : List (Nat × Value)
def nilv : Value := .slice none 0 0
abbrev Ro.wn (r : Ro) (k : Nat) : Nat × Value := r.ws.getD k (0, nilv)
abbrev Ro.tn (r : Ro) (i : Nat) : Value := r.ts.getD i nilv
/-- The blocks that its calls change. -/
def Ro.has (r : Ro) (k : Nat) : Prop := k = r.g ∨ r.sv.ownBlock = some k ∨ r.pv.ownBlock = some k
/-- The blocks of its texts: nothing changes them. -/
def Ro.txt (r : Ro) (k : Nat) : Prop := (∃ i, i < r.ts.length ∧ (r.tn i).ownBlock = some k) ∨ ∃ i, i < r.ws.length ∧ (r.wn i).2.ownBlock = some k
def lfOf : Option Nat → Int
  | none => -1
  | some k => (k : Int)
def wcells (ws : List (Nat × Value)) : List Value := ws.flatMap fun x => [.int .i64 (x.1 : Int), x.2]
structure RkIs (w : World) (r : Ro) (d : S.Dk) : Prop where
  row : w.heap[r.g]? = some (.cells #[r.sv, r.pv, .int .i64 (lfOf d.left)] 79 (0, 0))
  safe : w.ownsRow 0 29 1 r.sv r.ts.length r.ts
  pend : w.ownsRow 0 81 2 r.pv r.ws.length (wcells r.ws)
  sl : r.ts.length = d.safe.length
  pl : r.ws.length = d.pend.length
  st : ∀ i, i < r.ts.length → URow w (r.tn i) (d.safe.getD i [])
  pt : ∀ k, k < r.ws.length → (r.wn k).1 = (S.Ws.nth d.pend k).1 ∧ URow w (r.wn k).2 (S.Ws.nth d.pend k).2
  ok : d.Ok
  left : ∀ k, d.left = some k → k ≤ 9223372036854775807
  sep : r.sv.ownBlock ≠ some r.g ∧ r.pv.ownBlock ≠ some r.g ∧ ∀ k, r.sv.ownBlock = some k → r.pv.ownBlock ≠ some k
  tsep : ∀ k, r.txt k → ¬ r.has k
/-- What a call of the document's disk changes. -/
structure RkTo (r : Ro) (w : World) (r' : Ro) (w' : World) : Prop where
  g : r'.g = r.g
  chg : Chg r.has w w'
  own : ∀ k, r'.has k → r.has k ∨ w.heap.size ≤ k
  txt : ∀ k, r'.txt k → r.txt k ∨ w.heap.size ≤ k
theorem RkTo.refl (r : Ro) (w : World) : RkTo r w r w := ⟨rfl, Chg.refl _ _, fun _ h => Or.inl h, fun _ h => Or.inl h⟩
theorem RkTo.trans {r r1 r2 : Ro} {w w1 w2 : World} (h : RkTo r w r1 w1) (k : RkTo r1 w1 r2 w2) : RkTo r w r2 w2 :=
  ⟨k.g.trans h.g, h.chg.trans k.chg (fun j hj e => by rcases h.own j e with h' | h'; exact h'; omega), fun j e => by
    rcases k.own j e with e | e
    · exact h.own j e
    · exact Or.inr (Nat.le_trans h.chg.size e), fun j e => by
    rcases k.txt j e with e | e
    · exact h.txt j e
    · exact Or.inr (Nat.le_trans h.chg.size e)⟩
theorem ownsRow_chg {w W : World} {base : Nat} {e : TypeId} {size : Nat} {v : Value} {n : Nat} {xs : List Value} (h : w.ownsRow base e size v n xs) (hb : ∀ k, v.ownBlock = some k → W.heap[k]? = w.heap[k]?) : W.ownsRow base e size v n xs := by
  refine ⟨h.1, ?_⟩
  rcases h.2 with h2 | ⟨g, cap, cur, rfl, h3, h4, h5⟩
  · exact Or.inl h2
  · exact Or.inr ⟨g, cap, cur, rfl, h3, (hb g rfl).trans h4, h5⟩
theorem RkIs.lt {w : World} {r : Ro} {d : S.Dk} (h : RkIs w r d) : ∀ k, r.has k ∨ r.txt k → k < w.heap.size := by
  rintro k ((rfl | hk | hk) | (⟨i, hi, hk⟩ | ⟨i, hi, hk⟩))
  · exact block_lt_of_row h.row
  · exact (h.safe.lt k hk).2
  · exact (h.pend.lt k hk).2
  · exact (h.st i hi).lt hk
  · exact (h.pt i hi).2.lt hk
theorem RkIs.chg {p : Nat → Prop} {w W : World} {r : Ro} {d : S.Dk} (h : RkIs w r d) (hc : Chg p w W) (hp : ∀ k, r.has k ∨ r.txt k → ¬ p k) : RkIs W r d :=
  ⟨hc.row h.row (hp _ (Or.inl (Or.inl rfl))), ownsRow_chg h.safe (fun k hk => hc.block k (h.safe.lt k hk).2 (hp k (Or.inl (Or.inr (Or.inl hk))))), ownsRow_chg h.pend (fun k hk => hc.block k (h.pend.lt k hk).2 (hp k (Or.inl (Or.inr (Or.inr hk))))), h.sl, h.pl,
    fun i hi => (h.st i hi).chg hc (fun k hk => hp k (Or.inr (Or.inl ⟨i, hi, hk⟩))), fun i hi => ⟨(h.pt i hi).1, (h.pt i hi).2.chg hc (fun k hk => hp k (Or.inr (Or.inr ⟨i, hi, hk⟩)))⟩, h.ok, h.left, h.sep, h.tsep⟩
theorem RkIs.below {w W : World} {r : Ro} {d : S.Dk} (h : RkIs w r d) (hb : Below w.heap.size w W) : RkIs W r d := h.chg (p := fun _ => False) (Chg.ofBelow' hb) (fun _ _ e => e)
/-- A text over a change of the disk's own blocks. -/
theorem RkIs.texts {w W : World} {r : Ro} {d : S.Dk} (h : RkIs w r d) (hc : Chg r.has w W) : (∀ i, i < r.ts.length → URow W (r.tn i) (d.safe.getD i [])) ∧ ∀ k, k < r.ws.length → (r.wn k).1 = (S.Ws.nth d.pend k).1 ∧ URow W (r.wn k).2 (S.Ws.nth d.pend k).2 :=
  ⟨fun i hi => (h.st i hi).chg hc (fun k hk => h.tsep k (Or.inl ⟨i, hi, hk⟩)), fun i hi => ⟨(h.pt i hi).1, (h.pt i hi).2.chg hc (fun k hk => h.tsep k (Or.inr ⟨i, hi, hk⟩))⟩⟩
theorem ownsRow_form {w : World} {base : Nat} {e : TypeId} {size : Nat} {v : Value} {n : Nat} {xs : List Value} (h : w.ownsRow base e size v n xs) : ∃ ao c, v = .slice ao n c := by
  rcases h.2 with ⟨rfl, rfl⟩ | ⟨g, cap, cur, rfl, _⟩
  · exact ⟨_, _, rfl⟩
  · exact ⟨_, _, rfl⟩
/-- The counter is stored. -/
theorem RkIs.count {w : World} {r : Ro} {d : S.Dk} (h : RkIs w r d) (l : Option Nat) (hl : ∀ k, l = some k → k ≤ 9223372036854775807) (m : Int) (hm : m = lfOf l) :
    RkIs (w.setCell ⟨r.g, 2, none⟩ (.int .i64 m)) r { d with left := l } ∧ RkTo r w r (w.setCell ⟨r.g, 2, none⟩ (.int .i64 m)) := by
  have R := heap_setCell_same _ _ 2 _ _ (.int .i64 m) h.row
  have hc : Chg (fun k => k = r.g) w (w.setCell ⟨r.g, 2, none⟩ (.int .i64 m)) := (Chg.refl (fun k => k = r.g) w).setCell r.g 2 _ (fun _ => rfl)
  have hc' : Chg r.has w (w.setCell ⟨r.g, 2, none⟩ (.int .i64 m)) := hc.mono (fun k _ e => Or.inl e)
  have ht := h.texts hc'
  refine ⟨⟨by rw [hm] at R ⊢; exact R, ownsRow_chg h.safe (fun k hk => hc.block k (h.safe.lt k hk).2 (fun e => h.sep.1 (by rw [← e]; exact hk))), ownsRow_chg h.pend (fun k hk => hc.block k (h.pend.lt k hk).2 (fun e => h.sep.2.1 (by rw [← e]; exact hk))), h.sl, h.pl, ht.1, ht.2, h.ok.of rfl rfl, hl, h.sep, h.tsep⟩, rfl, hc', fun _ e => Or.inl e, fun _ e => Or.inl e⟩
theorem rpending_any (r : Ro) (d : S.Dk) (w : World) (hd : RkIs w r d) :
   Calls Try.prog 42 #[.pointer (some ⟨r.g, 0, none⟩)] w fun e w' => e = .returned (.int .i64 (d.pend.length : Int)) ∧ w = w' := by
  obtain ⟨c0, c1, c2⟩ := cells3 hd.row
  obtain ⟨ao, c, e⟩ := ownsRow_form hd.pend
  rw [e, hd.pl] at c1
  clear hd e
  go_enter Try.func42, Try.ntmps42
  go_wp2
  go_ret
  exact ⟨rfl, rfl⟩
theorem rstop_any (r : Ro) (d : S.Dk) (a : Int) (w : World) (hd : RkIs w r d) (ha : a ≤ 9223372036854775807) :
   Calls Try.prog 26 #[.pointer (some ⟨r.g, 0, none⟩), .int .i64 a] w fun e w' => e = .returned (.tuple #[]) ∧ RkIs w' r (d.stop a) ∧ RkTo r w r w' := by
  obtain ⟨c0, c1, c2⟩ := cells3 hd.row
  have f2 := frozen_of_row _ _ 2 _ _ hd.row
  have key := fun m hm => hd.count (some a.toNat) (fun k hk => by simp only [Option.some.injEq] at hk; omega) m hm
  clear hd
  by_cases h0 : a < 0
  · have km := hide (key 0 (by show (0 : Int) = ((a.toNat : Nat) : Int); omega))
    clear key
    go_enter Try.func26, Try.ntmps26
    go_wp2
    go_end0
    exact ⟨rfl, km.out⟩
  · have km := hide (key a (by show a = ((a.toNat : Nat) : Int); omega))
    clear key
    go_enter Try.func26, Try.ntmps26
    go_wp2
    go_end0
    exact ⟨rfl, km.out⟩
theorem rgoes_any (r : Ro) (d : S.Dk) (w : World) (hd : RkIs w r d) :
   Calls Try.prog 37 #[.pointer (some ⟨r.g, 0, none⟩)] w fun e w' => e = .returned (.bool d.goes) ∧ RkIs w' r d.tried ∧ RkTo r w r w' := by
  obtain ⟨c0, c1, c2⟩ := cells3 hd.row
  have f2 := frozen_of_row _ _ 2 _ _ hd.row
  have HD := hide hd
  rcases hl : d.left with _ | k
  · have G : d.goes = true := by simp [S.Dk.goes, hl]
    have E : Hid (d.goes = true ∧ d.tried = d) := ⟨G, by rw [S.Dk.tried_yes G]; cases d; simp_all [S.Dk.went]⟩
    clear G
    rw [hl, show lfOf none = -1 from rfl] at c2
    clear hd hl
    go_enter Try.func37, Try.ntmps37
    go_wp2
    go_ret
    rw [E.out.1, E.out.2]
    exact ⟨rfl, HD.out, RkTo.refl _ _⟩
  · have h2 := hd.left k hl
    rw [hl, show lfOf (some k) = (k : Int) from rfl] at c2
    rcases k with _ | k
    · have G : d.goes = false := by simp [S.Dk.goes, hl]
      have E : Hid (d.goes = false ∧ d.tried = d) := ⟨G, S.Dk.tried_no G⟩
      clear G hd hl h2
      rw [show ((0 : Nat) : Int) = 0 from rfl] at c2
      go_enter Try.func37, Try.ntmps37
      go_wp2
      go_ret
      rw [E.out.1, E.out.2]
      exact ⟨rfl, HD.out, RkTo.refl _ _⟩
    · have G : d.goes = true := by simp [S.Dk.goes, hl]
      have E : Hid (d.goes = true ∧ d.tried = { d with left := some k }) := ⟨G, by rw [S.Dk.tried_yes G]; simp [S.Dk.went, hl]⟩
      have key := hide (HD.out.count (some k) (fun j hj => by simp only [Option.some.injEq] at hj; omega) (k : Int) rfl)
      have q1 : ¬ (((k + 1 : Nat) : Int) = 0) := by omega
      have q3 : (0 : Int) < ((k + 1 : Nat) : Int) := by omega
      have q2 : IntKind.i64.wrap (((k + 1 : Nat) : Int) - 1) = (k : Int) := by rw [IntKind.wrap_i64]; omega
      clear hd hl G
      go_enter Try.func37, Try.ntmps37
      go_wp2
      go_ret
      rw [E.out.1, E.out.2]
      exact ⟨rfl, key.out⟩
end Go.Proofs.Ytjnbjgkcliaipaa
