/- A disk in plain words: what is safe, what is pending, when it stops; what writes, flushes and crashes leave. Nothing of the program. -/
/- What a crash makes of a sector, and of a plan of writes and flushes that stops in its midst: in plain words, nothing of the program. -/
import Derived.Test.YthjlhngjpbmieaaGreatDoorGa
namespace Go.Proofs.YthjlhngjpbmieaaGreatDoor
namespace S
/-- Writes: a place and a text. -/
abbrev Ws := List (Nat × List UInt8)
abbrev Ws.nth (p : Ws) (k : Nat) : Nat × List UInt8 := p.getD k (0, [])
/-- The first k writes, one over the other. -/
def overTo (safe : List (List UInt8)) (pend : Ws) : Nat → List (List UInt8)
  | 0 => safe
  | k + 1 => (overTo safe pend k).set (Ws.nth pend k).1 (Ws.nth pend k).2
def over (safe : List (List UInt8)) (pend : Ws) : List (List UInt8) := overTo safe pend pend.length
/-- A disk: the safe sectors, the pending writes, how many calls it still does (none: it does not stop). -/
structure Dk where
  safe : List (List UInt8)
  pend : Ws
  left : Option Nat
def Dk.seen (d : Dk) : List (List UInt8) := over d.safe d.pend
structure Dk.Ok (d : Dk) : Prop where
  len : ∀ i, i < d.safe.length → (d.safe.getD i []).length = 128
  pend : ∀ k, k < d.pend.length → (Ws.nth d.pend k).1 < d.safe.length ∧ (Ws.nth d.pend k).2.length = 128
  few : d.safe.length ≤ 8192
structure Cut where
  keep : List Bool
  torn : Int
  bytes : Int
/-- How many bytes of the k-th write become safe. -/
def Cut.of (c : Cut) (k : Nat) : Nat := if c.keep.getD k false = true then 128 else if (k : Int) = c.torn then (min (max c.bytes 0) 128).toNat else 0
theorem Cut.of_le (c : Cut) (k : Nat) : c.of k ≤ 128 := by unfold Cut.of; split; omega; split <;> omega
def mix (n : Nat) (a b : List UInt8) : List UInt8 := a.take n ++ b.drop n
theorem mix_length (n : Nat) (a b : List UInt8) (hn : n ≤ a.length) (h : a.length = b.length) : (mix n a b).length = b.length := by simp [mix]; omega
def crashTo (c : Cut) (safe : List (List UInt8)) (pend : Ws) : Nat → List (List UInt8)
  | 0 => safe
  | k + 1 => (crashTo c safe pend k).set (Ws.nth pend k).1 (mix (c.of k) (Ws.nth pend k).2 ((crashTo c safe pend k).getD (Ws.nth pend k).1 []))
/-- The first k places are as in another list of sectors. -/
def backTo (new seen : List (List UInt8)) (pend : Ws) : Nat → List (List UInt8)
  | 0 => seen
  | k + 1 => (backTo new seen pend k).set (Ws.nth pend k).1 (new.getD (Ws.nth pend k).1 [])
def Dk.write (d : Dk) (p : Nat) (t : List UInt8) : Dk := { d with pend := d.pend ++ [(p, t)] }
def Dk.flush (d : Dk) : Dk := { d with safe := d.seen, pend := [] }
def Dk.crash (c : Cut) (d : Dk) : Dk := { safe := crashTo c d.safe d.pend d.pend.length, pend := [], left := none }
def Dk.stop (d : Dk) (a : Int) : Dk := { d with left := some a.toNat }
/-- May one call more be done? -/
def Dk.goes (d : Dk) : Bool := d.left != some 0
def Dk.went (d : Dk) : Dk := { d with left := d.left.map (· - 1) }
/-- Behind a call that asked. -/
def Dk.tried (d : Dk) : Dk := if d.goes = true then d.went else d
theorem Dk.tried_yes {d : Dk} (h : d.goes = true) : d.tried = d.went := if_pos h
theorem Dk.tried_no {d : Dk} (h : d.goes = false) : d.tried = d := if_neg (by rw [h]; decide)
def Dk.inside (d : Dk) (n : Int) : Bool := decide (0 ≤ n ∧ n < d.safe.length)
theorem Dk.inside_yes {d : Dk} {n : Nat} (h : n < d.safe.length) : d.inside (n : Int) = true := by simp [Dk.inside]; omega
theorem Dk.inside_no {d : Dk} {n : Int} (h : ¬ (0 ≤ n ∧ n < d.safe.length)) : d.inside n = false := decide_eq_false h
def Dk.new (n : Nat) : Dk := { safe := List.replicate n (zeros 128), pend := [], left := none }
theorem overTo_length (s : List (List UInt8)) (p : Ws) (k : Nat) : (overTo s p k).length = s.length := by
  induction k with
  | zero => rfl
  | succ k ih => simp [overTo, ih]
theorem crashTo_length (c : Cut) (s : List (List UInt8)) (p : Ws) (k : Nat) : (crashTo c s p k).length = s.length := by
  induction k with
  | zero => rfl
  | succ k ih => simp [crashTo, ih]
theorem backTo_length (n s : List (List UInt8)) (p : Ws) (k : Nat) : (backTo n s p k).length = s.length := by
  induction k with
  | zero => rfl
  | succ k ih => simp [backTo, ih]
theorem getD_set {α : Type} (l : List α) (i j : Nat) (x d : α) (hi : i < l.length) : (l.set i x).getD j d = if i = j then x else l.getD j d := by
  simp only [List.getD_eq_getElem?_getD, List.getElem?_set, hi, if_true]
  split
  · rfl
  · rfl
theorem overTo_len128 {s : List (List UInt8)} {p : Ws} (h1 : ∀ i, i < s.length → (s.getD i []).length = 128) (h2 : ∀ k, k < p.length → (Ws.nth p k).1 < s.length ∧ (Ws.nth p k).2.length = 128) (k : Nat) (hk : k ≤ p.length) : ∀ i, i < s.length → ((overTo s p k).getD i []).length = 128 := by
  induction k with
  | zero => exact h1
  | succ k ih =>
    intro i hi
    rw [overTo, getD_set _ _ _ _ _ (by rw [overTo_length]; exact (h2 k (by omega)).1)]
    split
    · exact (h2 k (by omega)).2
    · exact ih (by omega) i hi
theorem crashTo_len128 {c : Cut} {s : List (List UInt8)} {p : Ws} (h1 : ∀ i, i < s.length → (s.getD i []).length = 128) (h2 : ∀ k, k < p.length → (Ws.nth p k).1 < s.length ∧ (Ws.nth p k).2.length = 128) (k : Nat) (hk : k ≤ p.length) : ∀ i, i < s.length → ((crashTo c s p k).getD i []).length = 128 := by
  induction k with
  | zero => exact h1
  | succ k ih =>
    intro i hi
    have h := h2 k (by omega)
    have hc := c.of_le k
    rw [crashTo, getD_set _ _ _ _ _ (by rw [crashTo_length]; exact h.1)]
    split
    · rw [mix_length _ _ _ (by omega) (by rw [h.2, ih (by omega) _ h.1])]
      exact ih (by omega) _ h.1
    · exact ih (by omega) i hi
theorem overTo_app (s : List (List UInt8)) (p q : Ws) (k : Nat) (hk : k ≤ p.length) : overTo s (p ++ q) k = overTo s p k := by
  induction k with
  | zero => rfl
  | succ k ih =>
    have e : Ws.nth (p ++ q) k = Ws.nth p k := by
      simp only [Ws.nth, List.getD_eq_getElem?_getD]
      rw [List.getElem?_append_left (by omega)]
    rw [overTo, overTo, ih (by omega), e]
theorem over_snoc (s : List (List UInt8)) (p : Ws) (i : Nat) (t : List UInt8) : over s (p ++ [(i, t)]) = (over s p).set i t := by
  unfold over
  rw [List.length_append, List.length_singleton, overTo, overTo_app _ _ _ _ (Nat.le_refl _)]
  have e : Ws.nth (p ++ [(i, t)]) p.length = (i, t) := by simp [Ws.nth]
  rw [e]
theorem over_nil (s : List (List UInt8)) : over s [] = s := rfl
/-- A place that no write names. -/
theorem overTo_not {s : List (List UInt8)} {p : Ws} (h2 : ∀ k, k < p.length → (Ws.nth p k).1 < s.length) (j k : Nat) (hk : k ≤ p.length) (hj : ∀ i, i < k → (Ws.nth p i).1 ≠ j) : (overTo s p k).getD j [] = s.getD j [] := by
  induction k with
  | zero => rfl
  | succ k ih => rw [overTo, getD_set _ _ _ _ _ (by rw [overTo_length]; exact h2 k (by omega)), if_neg (hj k (by omega)), ih (by omega) (fun i hi => hj i (by omega))]
theorem crashTo_not {c : Cut} {s : List (List UInt8)} {p : Ws} (h2 : ∀ k, k < p.length → (Ws.nth p k).1 < s.length) (j k : Nat) (hk : k ≤ p.length) (hj : ∀ i, i < k → (Ws.nth p i).1 ≠ j) : (crashTo c s p k).getD j [] = s.getD j [] := by
  induction k with
  | zero => rfl
  | succ k ih => rw [crashTo, getD_set _ _ _ _ _ (by rw [crashTo_length]; exact h2 k (by omega)), if_neg (hj k (by omega)), ih (by omega) (fun i hi => hj i (by omega))]
theorem backTo_at {n s : List (List UInt8)} {p : Ws} (h2 : ∀ k, k < p.length → (Ws.nth p k).1 < s.length) (j k : Nat) (hk : k ≤ p.length) :
    ((∃ i, i < k ∧ (Ws.nth p i).1 = j) → (backTo n s p k).getD j [] = n.getD j []) ∧ ((∀ i, i < k → (Ws.nth p i).1 ≠ j) → (backTo n s p k).getD j [] = s.getD j []) := by
  induction k with
  | zero => exact ⟨fun ⟨i, hi, _⟩ => absurd hi (Nat.not_lt_zero _), fun _ => rfl⟩
  | succ k ih =>
    obtain ⟨a, b⟩ := ih (by omega)
    rw [backTo, getD_set _ _ _ _ _ (by rw [backTo_length]; exact h2 k (by omega))]
    constructor
    · rintro ⟨i, hi, e⟩
      by_cases hj : (Ws.nth p k).1 = j
      · rw [if_pos hj, hj]
      · rw [if_neg hj]
        exact a ⟨i, by rcases Nat.lt_succ_iff_lt_or_eq.1 hi with h | h; exact h; exact absurd (h ▸ e) hj, e⟩
    · intro h
      rw [if_neg (h k (by omega))]
      exact b (fun i hi => h i (by omega))
theorem ext_getD {a b : List (List UInt8)} (hl : a.length = b.length) (h : ∀ j, j < a.length → a.getD j [] = b.getD j []) : a = b := by
  apply List.ext_getElem hl
  intro j h1 h2
  have := h j h1
  simpa [List.getD_eq_getElem?_getD, List.getElem?_eq_getElem h1, List.getElem?_eq_getElem h2] using this
/-- Behind a crash what is read is what is safe. -/
theorem back_crash (d : Dk) (hd : d.Ok) (c : Cut) : backTo (crashTo c d.safe d.pend d.pend.length) d.seen d.pend d.pend.length = crashTo c d.safe d.pend d.pend.length := by
  have hp : ∀ k, k < d.pend.length → (Ws.nth d.pend k).1 < d.safe.length := fun k hk => (hd.pend k hk).1
  have hs : d.seen.length = d.safe.length := overTo_length _ _ _
  refine ext_getD (by rw [backTo_length, crashTo_length, hs]) fun j _ => ?_
  obtain ⟨a, b⟩ := backTo_at (n := crashTo c d.safe d.pend d.pend.length) (s := d.seen) (p := d.pend) (fun k hk => by rw [hs]; exact hp k hk) j d.pend.length (Nat.le_refl _)
  by_cases h : ∃ i, i < d.pend.length ∧ (Ws.nth d.pend i).1 = j
  · exact a h
  · have h' : ∀ i, i < d.pend.length → (Ws.nth d.pend i).1 ≠ j := fun i hi e => h ⟨i, hi, e⟩
    rw [b h', crashTo_not hp j _ (Nat.le_refl _) h']
    exact overTo_not hp j _ (Nat.le_refl _) h'
theorem Dk.seen_length (d : Dk) : d.seen.length = d.safe.length := overTo_length _ _ _
theorem Dk.Ok.seen {d : Dk} (h : d.Ok) : ∀ i, i < d.safe.length → (d.seen.getD i []).length = 128 := overTo_len128 h.len h.pend _ (Nat.le_refl _)
theorem Dk.Ok.write {d : Dk} (h : d.Ok) (p : Nat) (t : List UInt8) (hp : p < d.safe.length) (ht : t.length = 128) : (d.write p t).Ok := by
  refine ⟨h.len, fun k hk => ?_, h.few⟩
  simp only [Dk.write, List.length_append, List.length_singleton] at hk ⊢
  by_cases e : k < d.pend.length
  · have := h.pend k e
    simp only [Ws.nth, List.getD_eq_getElem?_getD] at this ⊢
    rw [List.getElem?_append_left e]
    exact this
  · obtain rfl : k = d.pend.length := by omega
    simp [Ws.nth, hp, ht]
theorem Dk.Ok.flush {d : Dk} (h : d.Ok) : d.flush.Ok :=
  ⟨fun i hi => h.seen i (by simpa [Dk.flush, Dk.seen_length] using hi), fun k hk => absurd hk (by simp [Dk.flush]), by simpa [Dk.flush, Dk.seen_length] using h.few⟩
theorem Dk.Ok.crash {d : Dk} (h : d.Ok) (c : Cut) : (d.crash c).Ok :=
  ⟨fun i hi => crashTo_len128 h.len h.pend _ (Nat.le_refl _) i (by simpa [Dk.crash, crashTo_length] using hi), fun k hk => absurd hk (by simp [Dk.crash]), by simpa [Dk.crash, crashTo_length] using h.few⟩
theorem Dk.Ok.of {d e : Dk} (h : d.Ok) (h1 : e.safe = d.safe) (h2 : e.pend = d.pend) : e.Ok := ⟨by rw [h1]; exact h.len, by rw [h1, h2]; exact h.pend, by rw [h1]; exact h.few⟩
theorem Dk.new_ok (n : Nat) (h : n ≤ 8192) : (Dk.new n).Ok := by
  refine ⟨fun i hi => ?_, fun k hk => absurd hk (by simp [Dk.new]), by simpa [Dk.new] using h⟩
  have hi' : i < n := by simpa [Dk.new] using hi
  simp [Dk.new, List.getD_eq_getElem?_getD, hi', zeros_length]
end S
end Go.Proofs.YthjlhngjpbmieaaGreatDoor
namespace Go.Proofs.YthjlhngjpbmieaaGreatDoor
namespace S
theorem mix_at (n : Nat) (a b : List UInt8) (k : Nat) (hn : n ≤ a.length) : (mix n a b).getD k 0 = if k < n then a.getD k 0 else b.getD k 0 := by
  simp only [mix, List.getD_eq_getElem?_getD]
  by_cases h : k < n
  · rw [List.getElem?_append_left (by simp; omega), List.getElem?_take_of_lt h, if_pos h]
  · rw [List.getElem?_append_right (by simp; omega), List.getElem?_drop, if_neg h]
    congr 2
    simp
    omega
theorem mix_all (n : Nat) (a b : List UInt8) (hn : a.length ≤ n) (h : b.length ≤ n) : mix n a b = a := by
  rw [mix, List.take_of_length_le hn, List.drop_eq_nil_of_le h, List.append_nil]
theorem mix_zero (a b : List UInt8) : mix 0 a b = b := rfl
/-- A place that one write names. -/
theorem overTo_once {s : List (List UInt8)} {p : Ws} (h2 : ∀ k, k < p.length → (Ws.nth p k).1 < s.length) (i k : Nat) (hi : i < k) (hk : k ≤ p.length) (u : ∀ m, m < k → (Ws.nth p m).1 = (Ws.nth p i).1 → m = i) :
    (overTo s p k).getD (Ws.nth p i).1 [] = (Ws.nth p i).2 := by
  induction k with
  | zero => exact absurd hi (Nat.not_lt_zero _)
  | succ k ih =>
    rw [overTo, getD_set _ _ _ _ _ (by rw [overTo_length]; exact h2 k (by omega))]
    by_cases e : k = i
    · subst e
      rw [if_pos rfl]
    · rw [if_neg fun h => e (u k (by omega) h)]
      exact ih (by omega) (by omega) fun m hm => u m (by omega)
theorem crashTo_once {c : Cut} {s : List (List UInt8)} {p : Ws} (h2 : ∀ k, k < p.length → (Ws.nth p k).1 < s.length) (i k : Nat) (hi : i < k) (hk : k ≤ p.length) (u : ∀ m, m < k → (Ws.nth p m).1 = (Ws.nth p i).1 → m = i) :
    (crashTo c s p k).getD (Ws.nth p i).1 [] = mix (c.of i) (Ws.nth p i).2 (s.getD (Ws.nth p i).1 []) := by
  induction k with
  | zero => exact absurd hi (Nat.not_lt_zero _)
  | succ k ih =>
    rw [crashTo, getD_set _ _ _ _ _ (by rw [crashTo_length]; exact h2 k (by omega))]
    by_cases e : k = i
    · subst e
      rw [if_pos rfl, crashTo_not h2 _ k (by omega) fun m hm h => absurd (u m (by omega) h) (by omega)]
    · rw [if_neg fun h => e (u k (by omega) h)]
      exact ih (by omega) (by omega) fun m hm => u m (by omega)
/-- What is done to a disk. -/
inductive Act where
  | write (p : Nat) (t : List UInt8)
  | flush
def Dk.act (d : Dk) : Act → Dk
  | .write p t => d.write p t
  | .flush => d.flush
def Dk.acts (d : Dk) (l : List Act) : Dk := l.foldl Dk.act d
theorem Dk.acts_nil (d : Dk) : d.acts [] = d := rfl
theorem Dk.acts_cons (d : Dk) (a : Act) (l : List Act) : d.acts (a :: l) = (d.act a).acts l := rfl
theorem Dk.acts_app (d : Dk) (k l : List Act) : d.acts (k ++ l) = (d.acts k).acts l := List.foldl_append ..
/-- One after the other, on a disk that may stop: what it is then, and whether all was done. -/
def Dk.plan (d : Dk) : List Act → Dk × Bool
  | [] => (d, true)
  | a :: l => if d.goes = true then (d.went.act a).plan l else (d, false)
/-- What is safe and what is pending, whatever is left. -/
structure Dk.Alike (d e : Dk) : Prop where
  safe : d.safe = e.safe
  pend : d.pend = e.pend
theorem Dk.Alike.refl (d : Dk) : d.Alike d := ⟨rfl, rfl⟩
theorem Dk.Alike.seen {d e : Dk} (h : d.Alike e) : d.seen = e.seen := by rw [Dk.seen, Dk.seen, h.safe, h.pend]
theorem Dk.Alike.crash {d e : Dk} (h : d.Alike e) (c : Cut) : d.crash c = e.crash c := by rw [Dk.crash, Dk.crash, h.safe, h.pend]
theorem Dk.Alike.act {d e : Dk} (h : d.Alike e) (a : Act) : (d.act a).Alike (e.act a) := by
  cases a with
  | write p t => exact ⟨h.safe, by simp only [Dk.act, Dk.write, h.pend]⟩
  | flush => exact ⟨h.seen, rfl⟩
theorem Dk.Alike.acts {d e : Dk} (h : d.Alike e) (l : List Act) : (d.acts l).Alike (e.acts l) := by
  induction l generalizing d e with
  | nil => exact h
  | cons a l ih => exact ih (h.act a)
theorem Dk.Alike.trans {d e f : Dk} (h : d.Alike e) (k : e.Alike f) : d.Alike f := ⟨h.safe.trans k.safe, h.pend.trans k.pend⟩
theorem Dk.went_alike (d : Dk) : d.went.Alike d := ⟨rfl, rfl⟩
/-- A plan that stops has done its first acts. -/
theorem Dk.plan_first (l : List Act) (d : Dk) : ∃ n, n ≤ l.length ∧ (d.plan l).1.Alike (d.acts (l.take n)) ∧ ((d.plan l).2 = true → n = l.length) ∧ ((d.plan l).2 = false → (d.plan l).1.goes = false) := by
  induction l generalizing d with
  | nil => exact ⟨0, Nat.le_refl _, Dk.Alike.refl _, fun _ => rfl, fun h => by cases h⟩
  | cons a l ih =>
    unfold Dk.plan
    by_cases g : d.goes = true
    · rw [if_pos g]
      obtain ⟨n, hn, h1, h2, h3⟩ := ih (d.went.act a)
      refine ⟨n + 1, Nat.succ_le_succ hn, ?_, fun h => by rw [h2 h]; rfl, h3⟩
      rw [List.take_succ_cons, Dk.acts_cons]
      exact h1.trans ((d.went_alike.act a).acts _)
    · rw [if_neg g]
      exact ⟨0, Nat.zero_le _, Dk.Alike.refl _, (fun h => by cases h), fun _ => Bool.eq_false_iff.2 g⟩
theorem Dk.plan_goes (l : List Act) (d : Dk) (h : d.left = none) : (d.plan l).2 = true ∧ (d.plan l).1 = d.acts l := by
  induction l generalizing d with
  | nil => exact ⟨rfl, rfl⟩
  | cons a l ih =>
    have g : d.goes = true := by rw [Dk.goes, h]; rfl
    have e : d.went = d := by cases d; simp only [Dk.went] at h ⊢; subst h; rfl
    unfold Dk.plan
    rw [if_pos g, e]
    exact ih (d.act a) (by cases a <;> exact h)
def Ws.acts (ws : Ws) : List Act := ws.map fun x => .write x.1 x.2
theorem Dk.acts_writes (ws : Ws) (d : Dk) : d.acts ws.acts = { d with pend := d.pend ++ ws } := by
  induction ws generalizing d with
  | nil => simp [Ws.acts, Dk.acts]
  | cons x ws ih =>
    rw [Ws.acts, List.map_cons, Dk.acts_cons]
    refine (ih _).trans ?_
    simp only [Dk.act, Dk.write, List.append_assoc]
    rfl
/-- Writes to places each of its own. -/
structure Ws.Sole (ws : Ws) (n : Nat) : Prop where
  at_ : ∀ k, k < ws.length → (Ws.nth ws k).1 < n ∧ (Ws.nth ws k).2.length = 128
  sole : ∀ k m, k < ws.length → m < ws.length → (Ws.nth ws k).1 = (Ws.nth ws m).1 → k = m
/-- What a crash ahead of their flush leaves: each is there whole, in part, or not at all; other places stay. -/
structure Torn (old : List (List UInt8)) (ws : Ws) (new : List (List UInt8)) : Prop where
  len : new.length = old.length
  stay : ∀ j, (∀ k, k < ws.length → (Ws.nth ws k).1 ≠ j) → new.getD j [] = old.getD j []
  part : ∀ k, k < ws.length → ∃ n, n ≤ 128 ∧ new.getD (Ws.nth ws k).1 [] = mix n (Ws.nth ws k).2 (old.getD (Ws.nth ws k).1 [])
theorem Ws.nth_take (ws : Ws) (n k : Nat) (h : k < n) : Ws.nth (ws.take n) k = Ws.nth ws k := by
  simp only [Ws.nth, List.getD_eq_getElem?_getD, List.getElem?_take_of_lt h]
theorem torn_of {old : List (List UInt8)} {ws : Ws} (h : Ws.Sole ws old.length) (c : Cut) (n : Nat) (hn : n ≤ ws.length) : Torn old ws (crashTo c old (ws.take n) (ws.take n).length) := by
  have hl : (ws.take n).length = n := by simp; omega
  have h2 : ∀ k, k < (ws.take n).length → (Ws.nth (ws.take n) k).1 < old.length := fun k hk => by
    rw [Ws.nth_take _ _ _ (by omega)]
    exact (h.at_ k (by omega)).1
  refine ⟨crashTo_length .., fun j hj => crashTo_not h2 j _ (Nat.le_refl _) fun i hi => ?_, fun k hk => ?_⟩
  · rw [Ws.nth_take _ _ _ (by omega)]
    exact hj i (by omega)
  · by_cases e : k < n
    · refine ⟨c.of k, c.of_le k, ?_⟩
      have := crashTo_once (c := c) h2 k _ (by omega) (Nat.le_refl _) fun m hm he => by
        rw [Ws.nth_take _ _ _ (by omega), Ws.nth_take _ _ _ (by omega)] at he
        exact h.sole m k (by omega) hk he
      rw [Ws.nth_take _ _ _ e] at this
      exact this
    · refine ⟨0, Nat.zero_le _, ?_⟩
      rw [mix_zero]
      refine crashTo_not h2 _ _ (Nat.le_refl _) fun i hi he => ?_
      rw [Ws.nth_take _ _ _ (by omega)] at he
      have := h.sole i k (by omega) hk he
      omega
theorem over_sole {old : List (List UInt8)} {ws : Ws} (h : Ws.Sole ws old.length) (k : Nat) (hk : k < ws.length) : (over old ws).getD (Ws.nth ws k).1 [] = (Ws.nth ws k).2 :=
  overTo_once (fun i hi => (h.at_ i hi).1) k _ hk (Nat.le_refl _) fun m hm he => h.sole m k hm hk he
theorem over_stay {old : List (List UInt8)} {ws : Ws} (h : Ws.Sole ws old.length) (j : Nat) (hj : ∀ k, k < ws.length → (Ws.nth ws k).1 ≠ j) : (over old ws).getD j [] = old.getD j [] :=
  overTo_not (fun i hi => (h.at_ i hi).1) j _ (Nat.le_refl _) hj
/-- Writes, a flush, and what follows: a crash strikes ahead of the flush, or all of it is safe and the crash strikes in the midst of what follows. -/
theorem Dk.fate (d : Dk) (hd : d.pend = []) (ws : Ws) (h : Ws.Sole ws d.safe.length) (l : List Act) (n : Nat) (hn : n ≤ (ws.acts ++ .flush :: l).length) (c : Cut) :
    Torn d.safe ws ((d.acts ((ws.acts ++ .flush :: l).take n)).crash c).safe ∨
      ∃ m, m ≤ l.length ∧ d.acts ((ws.acts ++ .flush :: l).take n) = ({ d with safe := over d.safe ws, pend := [] } : Dk).acts (l.take m) := by
  have hl : ws.acts.length = ws.length := by simp [Ws.acts]
  by_cases e : n ≤ ws.length
  · left
    rw [List.take_append_of_le_length (by omega)]
    have : ws.acts.take n = Ws.acts (ws.take n) := by simp [Ws.acts, List.map_take]
    rw [this, Dk.acts_writes, hd, List.nil_append]
    exact torn_of h c n e
  · right
    obtain ⟨m, rfl⟩ : ∃ m, n = ws.acts.length + (m + 1) := ⟨n - ws.length - 1, by omega⟩
    refine ⟨m, by simp at hn; omega, ?_⟩
    rw [List.take_length_add_append, List.take_succ_cons, Dk.acts_app, Dk.acts_cons, Dk.acts_writes, hd, List.nil_append]
    rfl
/-- Nothing is pending: a crash leaves what is safe. -/
theorem Dk.crash_flushed (d : Dk) (hd : d.pend = []) (c : Cut) : (d.crash c).safe = d.safe := by rw [Dk.crash, hd]; rfl
theorem Dk.seen_flushed (d : Dk) (hd : d.pend = []) : d.seen = d.safe := by rw [Dk.seen, hd]; rfl
end S
end Go.Proofs.YthjlhngjpbmieaaGreatDoor
