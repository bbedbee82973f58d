/- A disk in plain words: what is safe, what is pending, when it stops; what writes, flushes and crashes leave. Nothing of the program. -/
/- What a crash makes of a sector, and of a plan of writes and flushes that stops in its midst: in plain words, nothing of the program. -/
import Derived.Test.YteealihknndclabGreatDoorBase
import Derived.Deep.MidRow
namespace Go.Proofs.YteealihknndclabGreatDoor
namespace S
abbrev Ws := List (Nat × List UInt8)
abbrev Ws.nth (p : Ws) (k : Nat) : Nat × List UInt8 := p.getD k (0, [])
def eP (safe : List (List UInt8)) (pend : Ws) : Nat -> List (List UInt8)
 | 0 => safe
 | k + 1 => (eP safe pend k).set (Ws.nth pend k).1 (Ws.nth pend k).2
def over (safe : List (List UInt8)) (pend : Ws) : List (List UInt8) := eP safe pend pend.length
structure Dk where
 safe : List (List UInt8)
 pend : Ws
 left : Option Nat
def Dk.seen (d : Dk) : List (List UInt8) := over d.safe d.pend
structure Dk.Ok (d : Dk) : Prop where
 len : ∀ i, i < d.safe.length -> (d.safe.getD i []).length = 128
 pend : ∀ k, k < d.pend.length -> (Ws.nth d.pend k).1 < d.safe.length /\ (Ws.nth d.pend k).2.length = 128
 few : d.safe.length <= 8192
structure Cut where
 keep : List Bool
 torn : Int
 bytes : Int
def Cut.of (c : Cut) (k : Nat) : Nat := if c.keep.getD k false = true then 128 else if (k : Int) = c.torn then (min (max c.bytes 0) 128).toNat else 0
theorem Cut.of_le (c : Cut) (k : Nat) : c.of k <= 128 := by unfold Cut.of; split; omega; split <;> omega
def mix (n : Nat) (a b : List UInt8) : List UInt8 := a.take n ++ b.drop n
theorem mX (n : Nat) (a b : List UInt8) (hn : n <= a.length) (h : a.length = b.length) : (mix n a b).length = b.length := by simp [mix]; omega
def iD (c : Cut) (safe : List (List UInt8)) (pend : Ws) : Nat -> List (List UInt8)
 | 0 => safe
 | k + 1 => (iD c safe pend k).set (Ws.nth pend k).1 (mix (c.of k) (Ws.nth pend k).2 ((iD c safe pend k).getD (Ws.nth pend k).1 []))
def Dk.write (d : Dk) (p : Nat) (t : List UInt8) : Dk := { d with pend := d.pend ++ [(p, t)] }
def Dk.flush (d : Dk) : Dk := { d with safe := d.seen, pend := [] }
def Dk.crash (c : Cut) (d : Dk) : Dk := { safe := iD c d.safe d.pend d.pend.length, pend := [], left := none }
def Dk.goes (d : Dk) : Bool := d.left != some 0
def Dk.went (d : Dk) : Dk := { d with left := d.left.map (· - 1) }
def Dk.tried (d : Dk) : Dk := if d.goes = true then d.went else d
theorem Dk.tried_yes {d : Dk} (h : d.goes = true) : d.tried = d.went := if_pos h
theorem Dk.tried_no {d : Dk} (h : d.goes = false) : d.tried = d := if_neg (by rw [h]; decide)
def Dk.inside (d : Dk) (n : Int) : Bool := decide (0 <= n /\ n < d.safe.length)
theorem Dk.inside_yes {d : Dk} {n : Nat} (h : n < d.safe.length) : d.inside (n : Int) = true := by simp [Dk.inside]; omega
theorem Dk.inside_no {d : Dk} {n : Int} (h : ¬ (0 <= n /\ n < d.safe.length)) : d.inside n = false := decide_eq_false h
def Dk.new (n : Nat) : Dk := { safe := List.replicate n (zeros 128), pend := [], left := none }
theorem fe (s : List (List UInt8)) (p : Ws) (k : Nat) : (eP s p k).length = s.length := by
 induction k with
 | zero => rfl
 | succ k ih => simp [eP, ih]
theorem jo (c : Cut) (s : List (List UInt8)) (p : Ws) (k : Nat) : (iD c s p k).length = s.length := by
 induction k with
 | zero => rfl
 | succ k ih => simp [iD, ih]
theorem dA {α : Type} (l : List α) (i j : Nat) (x d : α) (hi : i < l.length) : (l.set i x).getD j d = if i = j then x else l.getD j d := by
 simp only [List.getD_eq_getElem?_getD, List.getElem?_set, hi, if_true]
 split
 ·rfl
 ·rfl
theorem tO {s : List (List UInt8)} {p : Ws} (h1 : ∀ i, i < s.length -> (s.getD i []).length = 128) (h2 : ∀ k, k < p.length -> (Ws.nth p k).1 < s.length /\ (Ws.nth p k).2.length = 128) (k : Nat) (hk : k <= p.length) : ∀ i, i < s.length -> ((eP s p k).getD i []).length = 128 := by
 induction k with
 | zero => exact h1
 | succ k ih =>
  intro i hi
  rw [eP, dA _ _ _ _ _ (by rw [fe]; exact (h2 k (by omega)).1)]
  split
  ·exact (h2 k (by omega)).2
  ·exact ih (by omega) i hi
theorem yZ (s : List (List UInt8)) (p q : Ws) (k : Nat) (hk : k <= p.length) : eP s (p ++ q) k = eP s p k := by
 induction k with
 | zero => rfl
 | succ k ih =>
  have e : Ws.nth (p ++ q) k = Ws.nth p k := by
   simp only [Ws.nth, List.getD_eq_getElem?_getD]
   rw [List.getElem?_append_left (by omega)]
  rw [eP, eP, ih (by omega), e]
theorem lX (s : List (List UInt8)) (p : Ws) (i : Nat) (t : List UInt8) : over s (p ++ [(i, t)]) = (over s p).set i t := by
 unfold over
 rw [List.length_append, List.length_singleton, eP, yZ _ _ _ _ (lr _)]
 have e : Ws.nth (p ++ [(i, t)]) p.length = (i, t) := by simp [Ws.nth]
 rw [e]
theorem xD (s : List (List UInt8)) : over s [] = s := rfl
theorem yY {s : List (List UInt8)} {p : Ws} (h2 : ∀ k, k < p.length -> (Ws.nth p k).1 < s.length) (j k : Nat) (hk : k <= p.length) (hj : ∀ i, i < k -> (Ws.nth p i).1 ≠ j) : (eP s p k).getD j [] = s.getD j [] := by
 induction k with
 | zero => rfl
 | succ k ih => rw [eP, dA _ _ _ _ _ (by rw [fe]; exact h2 k (by omega)), if_neg (hj k (by omega)), ih (by omega) (fun i hi => hj i (by omega))]
theorem lI {c : Cut} {s : List (List UInt8)} {p : Ws} (h2 : ∀ k, k < p.length -> (Ws.nth p k).1 < s.length) (j k : Nat) (hk : k <= p.length) (hj : ∀ i, i < k -> (Ws.nth p i).1 ≠ j) : (iD c s p k).getD j [] = s.getD j [] := by
 induction k with
 | zero => rfl
 | succ k ih => rw [iD, dA _ _ _ _ _ (by rw [jo]; exact h2 k (by omega)), if_neg (hj k (by omega)), ih (by omega) (fun i hi => hj i (by omega))]
theorem FU {a b : List (List UInt8)} (hl : a.length = b.length) (h : ∀ j, j < a.length -> a.getD j [] = b.getD j []) : a = b := by
 apply List.ext_getElem hl
 intro j h1 h2
 have := h j h1
 simpa [List.getD_eq_getElem?_getD, List.getElem?_eq_getElem h1, List.getElem?_eq_getElem h2] using this
theorem Dk.seen_length (d : Dk) : d.seen.length = d.safe.length := fe _ _ _
theorem Dk.Ok.seen {d : Dk} (h : d.Ok) : ∀ i, i < d.safe.length -> (d.seen.getD i []).length = 128 := tO h.len h.pend _ (lr _)
theorem Dk.Ok.write {d : Dk} (h : d.Ok) (p : Nat) (t : List UInt8) (hp : p < d.safe.length) (ht : t.length = 128) : (d.write p t).Ok := by
 refine ⟨h.len, fun k hk => ?_, h.few⟩
 simp only [Dk.write, List.length_append, List.length_singleton] at hk ⊢
 by_cases e : k < d.pend.length
 ·have := h.pend k e
  simp only [Ws.nth, List.getD_eq_getElem?_getD] at this ⊢
  rw [List.getElem?_append_left e]
  exact this
 ·obtain rfl : k = d.pend.length := by omega
  simp [Ws.nth, hp, ht]
theorem Dk.Ok.flush {d : Dk} (h : d.Ok) : d.flush.Ok :=
 ⟨fun i hi => h.seen i (by simpa [Dk.flush, Dk.seen_length] using hi), fun k hk => absurd hk (by simp [Dk.flush]), by simpa [Dk.flush, Dk.seen_length] using h.few⟩
theorem Dk.Ok.of {d e : Dk} (h : d.Ok) (h1 : e.safe = d.safe) (h2 : e.pend = d.pend) : e.Ok := ⟨by rw [h1]; exact h.len, by rw [h1, h2]; exact h.pend, by rw [h1]; exact h.few⟩
theorem Dk.new_ok (n : Nat) (h : n <= 8192) : (Dk.new n).Ok := by
 refine ⟨fun i hi => ?_, fun k hk => absurd hk (by simp [Dk.new]), by simpa [Dk.new] using h⟩
 have hi' : i < n := by simpa [Dk.new] using hi
 simp [Dk.new, List.getD_eq_getElem?_getD, hi', zeros_length]
end S
end Go.Proofs.YteealihknndclabGreatDoor
namespace Go.Proofs.YteealihknndclabGreatDoor
namespace S
theorem rV (n : Nat) (a b : List UInt8) (k : Nat) (hn : n <= a.length) : (mix n a b).getD k 0 = if k < n then a.getD k 0 else b.getD k 0 := by
 simp only [mix, List.getD_eq_getElem?_getD]
 by_cases h : k < n
 ·rw [List.getElem?_append_left (by simp; omega), List.getElem?_take_of_lt h, if_pos h]
 ·rw [List.getElem?_append_right (by simp; omega), List.getElem?_drop, if_neg h]
  congr 2
  simp
  omega
theorem mix_all (n : Nat) (a b : List UInt8) (hn : a.length <= n) (h : b.length <= n) : mix n a b = a := by
 rw [mix, List.take_of_length_le hn, List.drop_eq_nil_of_le h, List.append_nil]
theorem Ff (a b : List UInt8) : mix 0 a b = b := rfl
theorem xE {s : List (List UInt8)} {p : Ws} (h2 : ∀ k, k < p.length -> (Ws.nth p k).1 < s.length) (i k : Nat) (hi : i < k) (hk : k <= p.length) (u : ∀ m, m < k -> (Ws.nth p m).1 = (Ws.nth p i).1 -> m = i) :
  (eP s p k).getD (Ws.nth p i).1 [] = (Ws.nth p i).2 := by
 induction k with
 | zero => exact absurd hi (Nat.not_lt_zero _)
 | succ k ih =>
  rw [eP, dA _ _ _ _ _ (by rw [fe]; exact h2 k (by omega))]
  by_cases e : k = i
  ·subst e
   rw [if_pos rfl]
  ·rw [if_neg fun h => e (u k (by omega) h)]
   exact ih (by omega) (by omega) fun m hm => u m (by omega)
theorem wD {c : Cut} {s : List (List UInt8)} {p : Ws} (h2 : ∀ k, k < p.length -> (Ws.nth p k).1 < s.length) (i k : Nat) (hi : i < k) (hk : k <= p.length) (u : ∀ m, m < k -> (Ws.nth p m).1 = (Ws.nth p i).1 -> m = i) :
  (iD c s p k).getD (Ws.nth p i).1 [] = mix (c.of i) (Ws.nth p i).2 (s.getD (Ws.nth p i).1 []) := by
 induction k with
 | zero => exact absurd hi (Nat.not_lt_zero _)
 | succ k ih =>
  rw [iD, dA _ _ _ _ _ (by rw [jo]; exact h2 k (by omega))]
  by_cases e : k = i
  ·subst e
   rw [if_pos rfl, lI h2 _ k (by omega) fun m hm h => absurd (u m (by omega) h) (by omega)]
  ·rw [if_neg fun h => e (u k (by omega) h)]
   exact ih (by omega) (by omega) fun m hm => u m (by omega)
inductive Act where
 | write (p : Nat) (t : List UInt8)
 | flush
def Dk.act (d : Dk) : Act -> Dk
 | .write p t => d.write p t
 | .flush => d.flush
def Dk.acts (d : Dk) (l : List Act) : Dk := l.foldl Dk.act d
theorem Dk.acts_nil (d : Dk) : d.acts [] = d := rfl
theorem Dk.acts_cons (d : Dk) (a : Act) (l : List Act) : d.acts (a :: l) = (d.act a).acts l := rfl
theorem Dk.acts_app (d : Dk) (k l : List Act) : d.acts (k ++ l) = (d.acts k).acts l := List.foldl_append ..
def Dk.plan (d : Dk) : List Act -> Dk × Bool
 | [] => (d, true)
 | a :: l => if d.goes = true then (d.went.act a).plan l else (d, false)
structure Dk.Alike (d e : Dk) : Prop where
 safe : d.safe = e.safe
 pend : d.pend = e.pend
theorem Dk.Alike.refl (d : Dk) : d.Alike d := ⟨rfl, rfl⟩
theorem Dk.Alike.seen {d e : Dk} (h : d.Alike e) : d.seen = e.seen := by rw [Dk.seen, Dk.seen, h.safe, h.pend]
theorem Dk.Alike.act {d e : Dk} (h : d.Alike e) (a : Act) : (d.act a).Alike (e.act a) := by
 cases a with
 | write p t => exact ⟨h.safe, by simp only [Dk.act, Dk.write, h.pend]⟩
 | flush => exact ⟨h.seen, rfl⟩
theorem Dk.Alike.acts {d e : Dk} (h : d.Alike e) (l : List Act) : (d.acts l).Alike (e.acts l) := by
 induction l generalizing d e with
 | nil => exact h
 | cons a l ih => exact ih (h.act a)
theorem Dk.Alike.trans {d e f : Dk} (h : d.Alike e) (k : e.Alike f) : d.Alike f := ⟨h.safe.trans k.safe, h.pend.trans k.pend⟩
theorem Dk.went_alike (d : Dk) : d.went.Alike d := ⟨rfl, rfl⟩
theorem Dk.plan_first (l : List Act) (d : Dk) : ∃ n, n <= l.length /\ (d.plan l).1.Alike (d.acts (l.take n)) /\ ((d.plan l).2 = true -> n = l.length) /\ ((d.plan l).2 = false -> (d.plan l).1.goes = false) := by
 induction l generalizing d with
 | nil => exact ⟨0, lr _, Dk.Alike.refl _, fun _ => rfl, fun h => by cases h⟩
 | cons a l ih =>
  unfold Dk.plan
  by_cases g : d.goes = true
  ·rw [if_pos g]
   obtain ⟨n, hn, h1, h2, h3⟩ := ih (d.went.act a)
   refine ⟨n + 1, Nat.succ_le_succ hn, ?_, fun h => by rw [h2 h]; rfl, h3⟩
   rw [List.take_succ_cons, Dk.acts_cons]
   exact h1.trans ((d.went_alike.act a).acts _)
  ·rw [if_neg g]
   exact ⟨0, Nat.zero_le _, Dk.Alike.refl _, (fun h => by cases h), fun _ => Bool.eq_false_iff.2 g⟩
theorem Dk.plan_goes (l : List Act) (d : Dk) (h : d.left = none) : (d.plan l).2 = true /\ (d.plan l).1 = d.acts l := by
 induction l generalizing d with
 | nil => exact ⟨rfl, rfl⟩
 | cons a l ih =>
  have g : d.goes = true := by rw [Dk.goes, h]; rfl
  have e : d.went = d := by cases d; simp only [Dk.went] at h ⊢; subst h; rfl
  unfold Dk.plan
  rw [if_pos g, e]
  exact ih (d.act a) (by cases a <;> exact h)
def Ws.acts (ws : Ws) : List Act := ws.map fun x => .write x.1 x.2
theorem Dk.acts_writes (ws : Ws) (d : Dk) : d.acts ws.acts = { d with pend := d.pend ++ ws } := by
 induction ws generalizing d with
 | nil => simp [Ws.acts, Dk.acts]
 | cons x ws ih =>
  rw [Ws.acts, List.map_cons, Dk.acts_cons]
  refine (ih _).trans ?_
  simp only [Dk.act, Dk.write, List.append_assoc]
  rfl
structure Ws.Sole (ws : Ws) (n : Nat) : Prop where
 at_ : ∀ k, k < ws.length -> (Ws.nth ws k).1 < n /\ (Ws.nth ws k).2.length = 128
 sole : ∀ k m, k < ws.length -> m < ws.length -> (Ws.nth ws k).1 = (Ws.nth ws m).1 -> k = m
structure zS (old : List (List UInt8)) (ws : Ws) (new : List (List UInt8)) : Prop where
 len : new.length = old.length
 stay : ∀ j, (∀ k, k < ws.length -> (Ws.nth ws k).1 ≠ j) -> new.getD j [] = old.getD j []
 part : ∀ k, k < ws.length -> ∃ n, n <= 128 /\ new.getD (Ws.nth ws k).1 [] = mix n (Ws.nth ws k).2 (old.getD (Ws.nth ws k).1 [])
theorem Ws.nth_take (ws : Ws) (n k : Nat) (h : k < n) : Ws.nth (ws.take n) k = Ws.nth ws k := by
 simp only [Ws.nth, List.getD_eq_getElem?_getD, List.getElem?_take_of_lt h]
theorem torn_of {old : List (List UInt8)} {ws : Ws} (h : Ws.Sole ws old.length) (c : Cut) (n : Nat) (hn : n <= ws.length) : zS old ws (iD c old (ws.take n) (ws.take n).length) := by
 have hl : (ws.take n).length = n := by simp; omega
 have h2 : ∀ k, k < (ws.take n).length -> (Ws.nth (ws.take n) k).1 < old.length := fun k hk => by
  rw [Ws.nth_take _ _ _ (by omega)]
  exact (h.at_ k (by omega)).1
 refine ⟨jo .., fun j hj => lI h2 j _ (lr _) fun i hi => ?_, fun k hk => ?_⟩
 ·rw [Ws.nth_take _ _ _ (by omega)]
  exact hj i (by omega)
 ·by_cases e : k < n
  ·refine ⟨c.of k, c.of_le k, ?_⟩
   have := wD (c := c) h2 k _ (by omega) (lr _) fun m hm he => by
    rw [Ws.nth_take _ _ _ (by omega), Ws.nth_take _ _ _ (by omega)] at he
    exact h.sole m k (by omega) hk he
   rw [Ws.nth_take _ _ _ e] at this
   exact this
  ·refine ⟨0, Nat.zero_le _, ?_⟩
   rw [Ff]
   refine lI h2 _ _ (lr _) fun i hi he => ?_
   rw [Ws.nth_take _ _ _ (by omega)] at he
   have := h.sole i k (by omega) hk he
   omega
theorem uG {old : List (List UInt8)} {ws : Ws} (h : Ws.Sole ws old.length) (k : Nat) (hk : k < ws.length) : (over old ws).getD (Ws.nth ws k).1 [] = (Ws.nth ws k).2 :=
 xE (fun i hi => (h.at_ i hi).1) k _ hk (lr _) fun m hm he => h.sole m k hm hk he
theorem pu {old : List (List UInt8)} {ws : Ws} (h : Ws.Sole ws old.length) (j : Nat) (hj : ∀ k, k < ws.length -> (Ws.nth ws k).1 ≠ j) : (over old ws).getD j [] = old.getD j [] :=
 yY (fun i hi => (h.at_ i hi).1) j _ (lr _) hj
theorem Dk.fate (d : Dk) (hd : d.pend = []) (ws : Ws) (h : Ws.Sole ws d.safe.length) (l : List Act) (n : Nat) (hn : n <= (ws.acts ++ .flush :: l).length) (c : Cut) :
  zS d.safe ws ((d.acts ((ws.acts ++ .flush :: l).take n)).crash c).safe \/
   ∃ m, m <= l.length /\ d.acts ((ws.acts ++ .flush :: l).take n) = ({ d with safe := over d.safe ws, pend := [] } : Dk).acts (l.take m) := by
 have hl : ws.acts.length = ws.length := by simp [Ws.acts]
 by_cases e : n <= ws.length
 ·left
  rw [List.take_append_of_le_length (by omega)]
  have : ws.acts.take n = Ws.acts (ws.take n) := by simp [Ws.acts, List.map_take]
  rw [this, Dk.acts_writes, hd, List.nil_append]
  exact torn_of h c n e
 ·right
  obtain ⟨m, rfl⟩ : ∃ m, n = ws.acts.length + (m + 1) := ⟨n - ws.length - 1, by omega⟩
  refine ⟨m, by simp at hn; omega, ?_⟩
  rw [List.take_length_add_append, List.take_succ_cons, Dk.acts_app, Dk.acts_cons, Dk.acts_writes, hd, List.nil_append]
  rfl
theorem Dk.crash_flushed (d : Dk) (hd : d.pend = []) (c : Cut) : (d.crash c).safe = d.safe := by rw [Dk.crash, hd]; rfl
theorem Dk.seen_flushed (d : Dk) (hd : d.pend = []) : d.seen = d.safe := by rw [Dk.seen, hd]; rfl
end S
end Go.Proofs.YteealihknndclabGreatDoor
namespace Go.Proofs.YteealihknndclabGreatDoor
open Go.RowKit
theorem info73 : (Tryz.prog.info? 227).map (fun i => (i.size, i.bytes)) = some (128, 128) := by kernel_rfl
theorem rE : (Tryz.prog.info? 227).map (·.size) = some 128 := by kernel_rfl
theorem wu : (Tryz.prog.info? 229).map (fun i => (i.size, i.bytes)) = some (129, 136) := by kernel_rfl
theorem yO : (Tryz.prog.info? 229).map (·.size) = some 129 := by kernel_rfl
theorem zero73 : (Tryz.prog.info? 227).bind (·.zero) = some (.agg (S.v8 (S.zeros 128))) := by kernel_rfl
theorem vk : (Tryz.prog.info? 229).bind (·.zero) = some (.agg (.int .i64 0 :: S.v8l (S.zeros 128)).toArray) := by kernel_rfl
theorem qE {w w' : World} {b o : Nat} {cs : List Value} (h : w.rangeAt b o cs) (hh : w'.heap[b]? = w.heap[b]?) : w'.rangeAt b o cs :=
 fun j v hv => (World.cell?_of_block (a := ⟨b, o + j, none⟩) hh).trans (h j v hv)
theorem Chg.setCells {p : Nat -> Prop} {w : World} (g : Nat) (hg : g < w.heap.size -> p g) : ∀ (vs : List Value) (o : Nat) {W : World}, Chg p w W -> Chg p w (W.setCells g o vs)
 | [], _, _, h => h
 | v :: r, o, _, h => Chg.setCells g hg r (o + 1) (h.setCell g o v hg)
theorem iR {w : World} {g : Nat} {t : TypeId} : ∀ (vs : List Value) (o : Nat) {w : World} {cur : Array Value}, w.heap[g]? = some (.cells cur t (0, 0)) -> ∃ cur', (w.setCells g o vs).heap[g]? = some (.cells cur' t (0, 0)) /\ cur'.size = cur.size
 | [], _, _, cur, h => ⟨cur, h, rfl⟩
 | v :: r, o, _, cur, h => by
  obtain ⟨c, h1, h2⟩ := iR (w := w) r (o + 1) (heap_setCell_same _ _ o _ _ v h)
  exact ⟨c, h1, by rw [h2]; simp⟩
theorem vz (l : List UInt8) (j : Nat) (hj : j < l.length) : (S.v8l l)[j]? = some (.int .u8 ((l.getD j 0).toNat : Int)) := by
 simp [S.v8l, List.getElem?_map, List.getElem?_eq_getElem hj, List.getD_eq_getElem?_getD]
structure eH (w : World) (g : Nat) (ss : List (List UInt8)) : Prop where
 row : ∃ cur, w.heap[g]? = some (.cells cur 227 (0, 0)) /\ 128 * ss.length <= cur.size
 len : ∀ i, i < ss.length -> (ss.getD i []).length = 128
 cells : ∀ i, i < ss.length -> w.rangeAt g (i * 128) (S.v8l (ss.getD i []))
theorem eH.lt {w : World} {g : Nat} {ss : List (List UInt8)} (h : eH w g ss) : g < w.heap.size := by obtain ⟨c, h1, _⟩ := h.row; exact aa h1
theorem eH.kept {w W : World} {g : Nat} {ss : List (List UInt8)} (h : eH w g ss) (hh : W.heap[g]? = w.heap[g]?) : eH W g ss :=
 ⟨by rw [hh]; exact h.row, h.len, fun i hi => qE (h.cells i hi) hh⟩
theorem eH.chg {p : Nat -> Prop} {w W : World} {g : Nat} {ss : List (List UInt8)} (h : eH w g ss) (hc : Chg p w W) (hp : ¬ p g) : eH W g ss := h.kept (hc.block g h.lt hp)
theorem eH.there {w : World} {g : Nat} {ss : List (List UInt8)} (h : eH w g ss) (i : Nat) (hi : i < ss.length) : w.there g (i * 128) 128 := by
 obtain ⟨cur, h1, h2⟩ := h.row
 intro j hj
 refine ⟨?_, frozen_of_row _ _ _ _ _ h1⟩
 rw [cell_of_row w g _ cur 227 (0, 0) h1, Array.getElem?_eq_getElem (by omega)]
 rfl
theorem qX (l : List UInt8) : (S.v8l l).toArray.all (·.oneCell') = true := all_oneCell_toArray (S.df l)
theorem eH.store {w : World} {g : Nat} {ss : List (List UInt8)} (h : eH w g ss) (i : Nat) (hi : i < ss.length) (t : List UInt8) (ht : t.length = 128) : eH (w.setCells g (i * 128) (S.v8l t)) g (ss.set i t) := by
 obtain ⟨cur, h1, h2⟩ := h.row
 have hth : w.there g (i * 128) (S.v8l t).length := by rw [S.ae, ht]; exact h.there i hi
 refine ⟨?_, fun k hk => ?_, fun k hk => ?_⟩
 ·obtain ⟨c, h3, h4⟩ := iR (w := w) (S.v8l t) (i * 128) h1
  exact ⟨c, h3, by rw [h4, List.length_set]; exact h2⟩
 ·rw [S.dA _ _ _ _ _ hi]
  split
  ·exact ht
  ·exact h.len k (by simpa using hk)
 ·rw [S.dA _ _ _ _ _ hi]
  have hk' : k < ss.length := by simpa using hk
  split
  ·next e => subst e; exact World.rangeAt_setCells_same w g _ _ hth
  ·next e =>
   refine World.rangeAt_setCells_apart (h.cells k hk') g _ _ ?_
   rw [S.ae, S.ae, ht, h.len k hk']
   omega
theorem eH.src {w : World} {g : Nat} {ss : List (List UInt8)} (h : eH w g ss) (i : Nat) (hi : i < ss.length) : Src w (some ⟨g, i * 128, none⟩) (ss.getD i []) := fun _ =>
 ⟨g, i * 128, rfl, h.lt, fun j hj => h.cells i hi j _ (vz _ _ hj)⟩
namespace S
def pc (p : Nat × List UInt8) : List Value := .int .i64 (p.1 : Int) :: v8l p.2
def pcs (p : Ws) : List Value := p.flatMap pc
theorem pcs_app (a b : Ws) : pcs (a ++ b) = pcs a ++ pcs b := by simp [pcs]
theorem pcs_at (p : Ws) (h : ∀ x ∈ p, x.2.length = 128) (k : Nat) (hk : k < p.length) (j : Nat) (v : Value) (hv : (pc (Ws.nth p k))[j]? = some v) : (pcs p)[k * 129 + j]? = some v := by
 induction p generalizing k with
 | nil => simp at hk
 | cons x r ih =>
  have h1 := h x (by simp)
  have hl : (pc x).length = 129 := by simp [pc, ae, h1]
  show (pc x ++ pcs r)[k * 129 + j]? = some v
  cases k with
  | zero =>
   have hv' : (pc x)[j]? = some v := hv
   have hj := (List.getElem?_eq_some_iff.1 hv').1
   rw [Nat.zero_mul, Nat.zero_add, List.getElem?_append_left hj]
   exact hv'
  | succ k =>
   rw [List.getElem?_append_right (by omega), hl]
   have := ih (fun y hy => h y (by simp [hy])) k (by simpa using hk) hv
   have e : (k + 1) * 129 + j - 129 = k * 129 + j := by omega
   rw [e]
   exact this
theorem mem_nth {p : Ws} {Q : Nat × List UInt8 -> Prop} (h : ∀ k, k < p.length -> Q (Ws.nth p k)) : ∀ x ∈ p, Q x := fun x hx => by
 obtain ⟨k, hk, rfl⟩ := List.getElem_of_mem hx
 have := h k hk
 simpa [Ws.nth, List.getD_eq_getElem?_getD, List.getElem?_eq_getElem hk] using this
theorem vN (p : Nat × List UInt8) : ∀ v ∈ pc p, v.oneCell' = true := by
 intro v hv
 simp only [pc, List.mem_cons] at hv
 rcases hv with rfl | hv
 ·rfl
 ·exact df _ v hv
theorem jc (p : Nat × List UInt8) (h : p.2.length = 128) : (pc p).length = 129 := by simp [pc, ae, h]
end S
def jb (w : World) (v : Value) (p : S.Ws) : Prop := w.ownsRow 0 229 129 v p.length (S.pcs p)
theorem jb.kept {w w' : World} {u : Value} {p : S.Ws} (h : jb w u p) (hb : ∀ k, u.ownBlock = some k -> w'.heap[k]? = w.heap[k]?) : jb w' u p := by
 refine ⟨h.1, ?_⟩
 rcases h.2 with h2 | ⟨g, cap, cur, rfl, h3, h4, h5⟩
 ·exact Or.inl h2
 ·exact Or.inr ⟨g, cap, cur, rfl, h3, (hb g rfl).trans h4, h5⟩
theorem jb.lt {w : World} {u : Value} {p : S.Ws} (h : jb w u p) {k : Nat} (hk : u.ownBlock = some k) : k < w.heap.size := (World.ownsRow.lt h k hk).2
theorem jb.chg {q : Nat -> Prop} {w W : World} {u : Value} {p : S.Ws} (h : jb w u p) (hc : Chg q w W) (hp : ∀ k, u.ownBlock = some k -> ¬ q k) : jb W u p := h.kept fun k hk => hc.block k (h.lt hk) (hp k hk)
theorem jb.shape {w : World} {u : Value} {p : S.Ws} (h : jb w u p) : (u = .slice none 0 0 /\ p = []) \/ ∃ g c, u = .slice (some ⟨g, 0, none⟩) p.length c /\ p.length <= c := by
 rcases h.2 with ⟨rfl, h3⟩ | ⟨g, cap, cur, rfl, _, _, h5, _⟩
 ·exact Or.inl ⟨rfl, List.eq_nil_of_length_eq_zero h3⟩
 ·exact Or.inr ⟨_, _, rfl, h5⟩
theorem jb.form {w : World} {u : Value} {p : S.Ws} (h : jb w u p) : ∃ ao c, u = .slice ao p.length c := by
 rcases h.shape with ⟨rfl, rfl⟩ | ⟨g, c, rfl, _⟩
 ·exact ⟨_, _, rfl⟩
 ·exact ⟨_, _, rfl⟩
theorem xy (w : World) : jb w (.slice none 0 0) [] := World.ownsRow_nil w 0 229 129
theorem jb.range {w : World} {g c n : Nat} {p : S.Ws} (h : jb w (.slice (some ⟨g, 0, none⟩) n c) p) (hp : ∀ k, k < p.length -> (S.Ws.nth p k).2.length = 128) (k : Nat) (hk : k < p.length) : w.rangeAt g (k * 129) (S.pc (S.Ws.nth p k)) := fun j v hv => by
 have := World.ownsRow.cells h (g := g) rfl (k * 129 + j) v (S.pcs_at p (S.mem_nth hp) k hk j v hv)
 rw [Addr.add_lit, Nat.zero_add] at this
 exact this
end Go.Proofs.YteealihknndclabGreatDoor
namespace Go.Proofs.YteealihknndclabGreatDoor
open Go.RowKit
structure Ow where
 g : Nat
 gs : Nat
 ge : Nat
 cs : Nat
 ce : Nat
 pv : Value
 lf : Int
def Ow.has (o : Ow) (k : Nat) : Prop := k = o.g \/ k = o.gs \/ k = o.ge \/ o.pv.ownBlock = some k
def Ow.ptr (o : Ow) : Value := .pointer (some ⟨o.g, 0, none⟩)
structure aZ (w : World) (o : Ow) (d : S.Dk) : Prop where
 row : w.heap[o.g]? = some (.cells #[.slice (some ⟨o.gs, 0, none⟩) d.safe.length o.cs, .slice (some ⟨o.ge, 0, none⟩) d.safe.length o.ce, o.pv, .bool d.left.isSome, .int .i64 o.lf] 73 (0, 0))
 safe : eH w o.gs d.safe
 seen : eH w o.ge d.seen
 pend : jb w o.pv d.pend
 ok : d.Ok
 left : ∀ k, d.left = some k -> o.lf = (k : Int) /\ k <= 9223372036854775807
 sep : o.g ≠ o.gs /\ o.g ≠ o.ge /\ o.gs ≠ o.ge
 psep : ∀ k, o.pv.ownBlock = some k -> k ≠ o.g /\ k ≠ o.gs /\ k ≠ o.ge
 caps : d.safe.length <= o.cs /\ d.safe.length <= o.ce
structure dK (o : Ow) (w : World) (o' : Ow) (w' : World) : Prop where
 g : o'.g = o.g
 chg : Chg o.has w w'
 own : ∀ k, o'.has k -> o.has k \/ w.heap.size <= k
theorem dK.refl (o : Ow) (w : World) : dK o w o w := ⟨rfl, Chg.refl _ _, fun _ h => Or.inl h⟩
theorem dK.trans {o o1 o2 : Ow} {w w1 w2 : World} (h : dK o w o1 w1) (k : dK o1 w1 o2 w2) : dK o w o2 w2 :=
 ⟨k.g.trans h.g, h.chg.trans k.chg (fun j hj e => by rcases h.own j e with h' | h'; exact h'; omega), fun j e => by
  rcases k.own j e with e | e
  ·exact h.own j e
  ·exact Or.inr (ltr h.chg.size e)⟩
theorem aZ.lt {w : World} {o : Ow} {d : S.Dk} (h : aZ w o d) : ∀ k, o.has k -> k < w.heap.size := by
 rintro k (rfl | rfl | rfl | hk)
 ·exact aa h.row
 ·exact h.safe.lt
 ·exact h.seen.lt
 ·exact h.pend.lt hk
theorem aZ.chg {p : Nat -> Prop} {w W : World} {o : Ow} {d : S.Dk} (h : aZ w o d) (hc : Chg p w W) (hp : ∀ k, o.has k -> ¬ p k) : aZ W o d :=
 ⟨hc.row h.row (hp _ (Or.inl rfl)), h.safe.chg hc (hp _ (Or.inr (Or.inl rfl))), h.seen.chg hc (hp _ (Or.inr (Or.inr (Or.inl rfl)))), h.pend.chg hc (fun k hk => hp k (Or.inr (Or.inr (Or.inr hk)))), h.ok, h.left, h.sep, h.psep, h.caps⟩
theorem aZ.below {w W : World} {o : Ow} {d : S.Dk} (h : aZ w o d) (hb : Below w.heap.size w W) : aZ W o d := h.chg (p := fun _ => False) (Chg.ofBelow' hb) (fun _ _ e => e)
theorem aZ.n {w : World} {o : Ow} {d : S.Dk} (h : aZ w o d) : d.safe.length <= 8192 := h.ok.few
theorem qb (o : Ow) (d : S.Dk) (w : World) (hd : aZ w o d) :
  Calls Tryz.prog 110 #[o.ptr] w fun e w' => e = .returned (.int .i64 (d.safe.length : Int)) /\ w = w' := by
 obtain ⟨c0, c1, c2, c3, c4⟩ := cells5 hd.row
 clear hd
 unfold Ow.ptr
 go_enter Tryz.func110, Tryz.ntmps110
 go_wp2
 go_ret
 exact ⟨rfl, rfl⟩
theorem qj (o : Ow) (d : S.Dk) (w : World) (hd : aZ w o d) :
  Calls Tryz.prog 115 #[o.ptr] w fun e w' => e = .returned (.int .i64 (d.pend.length : Int)) /\ w = w' := by
 obtain ⟨c0, c1, c2, c3, c4⟩ := cells5 hd.row
 obtain ⟨ao, c, e⟩ := hd.pend.form
 rw [e] at c2
 clear hd e
 unfold Ow.ptr
 go_enter Tryz.func115, Tryz.ntmps115
 go_wp2
 go_ret
 exact ⟨rfl, rfl⟩
theorem wy (o : Ow) (d : S.Dk) (n : Int) (w : World) (hd : aZ w o d) :
  Calls Tryz.prog 149 #[o.ptr, .int .i64 n] w fun e w' => e = .returned (.bool (d.inside n)) /\ w = w' := by
 obtain ⟨c0, c1, c2, c3, c4⟩ := cells5 hd.row
 clear hd
 unfold Ow.ptr
 by_cases h0 : 0 <= n
 ·have e : Hid (d.inside n = decide (n < d.safe.length)) := by show _ = _; simp [S.Dk.inside, h0]
  go_enter Tryz.func149, Tryz.ntmps149
  go_wp2
  go_ret
  exact ⟨by rw [e.out]; rfl, rfl⟩
 ·have e : Hid (d.inside n = false) := S.Dk.inside_no (fun h => h0 h.1)
  go_enter Tryz.func149, Tryz.ntmps149
  go_wp2
  go_ret
  exact ⟨by rw [e.out]; rfl, rfl⟩
theorem aZ.put {w : World} {o o' : Ow} {d d' : S.Dk} (h : aZ w o d) {W : World} (hr : W.heap[o.g]? = some (.cells #[.slice (some ⟨o.gs, 0, none⟩) d'.safe.length o.cs, .slice (some ⟨o.ge, 0, none⟩) d'.safe.length o.ce, o'.pv, .bool d'.left.isSome, .int .i64 o'.lf] 73 (0, 0))) (h1 : o'.g = o.g) (h2 : o'.gs = o.gs) (h3 : o'.ge = o.ge) (h4 : o'.cs = o.cs) (h5 : o'.ce = o.ce)
  (hs : eH W o.gs d'.safe) (he : eH W o.ge d'.seen) (hp : jb W o'.pv d'.pend) (hok : d'.Ok) (hl : ∀ k, d'.left = some k -> o'.lf = (k : Int) /\ k <= 9223372036854775807) (hps : ∀ k, o'.pv.ownBlock = some k -> k ≠ o.g /\ k ≠ o.gs /\ k ≠ o.ge) (hn : d'.safe.length = d.safe.length) : aZ W o' d' := by
 obtain ⟨g, gs, ge, cs, ce, pv, lf⟩ := o'
 simp only at h1 h2 h3 h4 h5
 subst h1 h2 h3 h4 h5
 exact ⟨hr, hs, he, hp, hok, hl, h.sep, hps, by rw [hn]; exact h.caps⟩
theorem Chg.one {w : World} (g i : Nat) (v : Value) {p : Nat -> Prop} (hp : p g) : Chg p w (w.setCell ⟨g, i, none⟩ v) := (Chg.refl _ _).setCell g i v (fun _ => hp)
theorem lU (o : Ow) (d : S.Dk) (w : World) (hd : aZ w o d) :
  Calls Tryz.prog 141 #[o.ptr] w fun e w' => e = .returned (.bool d.goes) /\ ∃ o', aZ w' o' d.tried /\ dK o w o' w' /\ Chg (fun k => k = o.g) w w' := by
 obtain ⟨c0, c1, c2, c3, c4⟩ := cells5 hd.row
 have f4 := frozen_of_row _ _ 4 _ _ hd.row
 have HD := hide hd
 unfold Ow.ptr
 rcases hl : d.left with _ | k
 ·have G : d.goes = true := by simp [S.Dk.goes, hl]
  have E : Hid (d.goes = true /\ d.tried = d) := ⟨G, by rw [S.Dk.tried_yes G]; cases d; simp_all [S.Dk.went]⟩
  clear G
  rw [hl, show (none : Option Nat).isSome = false from rfl] at c3
  clear hd hl
  go_enter Tryz.func141, Tryz.ntmps141
  go_wp2
  go_ret
  rw [E.out.1, E.out.2]
  exact ⟨rfl, o, HD.out, dK.refl _ _, Chg.refl _ _⟩
 ·obtain ⟨h1, h2⟩ := hd.left k hl
  rw [hl, show (some k : Option Nat).isSome = true from rfl] at c3
  rw [h1] at c4
  rcases k with _ | k
  ·have G : d.goes = false := by simp [S.Dk.goes, hl]
   have E : Hid (d.goes = false /\ d.tried = d) := ⟨G, S.Dk.tried_no G⟩
   clear G
   clear hd hl h1 h2
   rw [show ((0 : Nat) : Int) = 0 from rfl] at c4
   go_enter Tryz.func141, Tryz.ntmps141
   go_wp2
   go_ret
   rw [E.out.1, E.out.2]
   exact ⟨rfl, o, HD.out, dK.refl _ _, Chg.refl _ _⟩
  ·have G : d.goes = true := by simp [S.Dk.goes, hl]
   have E : Hid (d.goes = true /\ d.tried = { d with left := some k }) := ⟨G, by rw [S.Dk.tried_yes G]; simp [S.Dk.went, hl]⟩
   clear G
   have key : Hid (∃ o', aZ (w.setCell ⟨o.g, 4, none⟩ (.int .i64 (k : Int))) o' { d with left := some k } /\ dK o w o' (w.setCell ⟨o.g, 4, none⟩ (.int .i64 (k : Int))) /\ Chg (fun k => k = o.g) w (w.setCell ⟨o.g, 4, none⟩ (.int .i64 (k : Int)))) := by
    show ∃ o', _
    have h := HD.out
    have R4 := heap_setCell_same _ _ 4 _ _ (.int .i64 (k : Int)) h.row
    rw [hl] at R4
    have hc : Chg (fun j => j = o.g) w (w.setCell ⟨o.g, 4, none⟩ (.int .i64 (k : Int))) := (Chg.refl (fun j => j = o.g) w).setCell o.g 4 _ (fun _ => rfl)
    refine ⟨{ o with lf := k }, h.put R4 rfl rfl rfl rfl rfl (h.safe.chg hc (fun e => h.sep.1 e.symm)) (h.seen.chg hc (fun e => h.sep.2.1 e.symm)) (h.pend.chg hc (fun k hk => (h.psep k hk).1)) (h.ok.of rfl rfl) (fun j hj => ?_) h.psep rfl, ⟨rfl, hc.mono (fun k _ e => Or.inl e), fun k e => Or.inl e⟩, hc⟩
    simp only [Option.some.injEq] at hj
    subst hj
    exact ⟨rfl, by omega⟩
   have q1 : ¬ (((k + 1 : Nat) : Int) = 0) := by omega
   have q2 : IntKind.i64.wrap (((k + 1 : Nat) : Int) - 1) = (k : Int) := by rw [IntKind.wrap_i64]; omega
   clear hd hl h1
   go_enter Tryz.func141, Tryz.ntmps141
   go_wp2
   go_ret
   rw [E.out.1, E.out.2]
   exact ⟨rfl, key.out⟩
end Go.Proofs.YteealihknndclabGreatDoor
namespace Go.Proofs.YteealihknndclabGreatDoor
open Go.RowKit
theorem bZ {P : Program} {e : TypeId} {a b : Nat} {z : Value} (h1 : (P.info? e).map (fun i => (i.size, i.bytes)) = some (a, b)) (h2 : (P.info? e).bind (·.zero) = some z) : ∃ i, P.info? e = some i /\ i.zero = some z /\ i.size = a /\ i.bytes = b := by
 cases h : P.info? e with
 | none => rw [h] at h1; cases h1
 | some i =>
  rw [h] at h1 h2
  simp only [Option.map_some, Option.some.injEq, Prod.mk.injEq] at h1
  exact ⟨i, rfl, h2, h1.1, h1.2⟩
theorem qR (n j : Nat) : (S.zeros n).getD j 0 = 0 := by
 unfold S.zeros
 rw [List.getD_eq_getElem?_getD, List.getElem?_replicate]
 split <;> rfl
def noughts (n : Nat) : Array Value := madeCells (S.v8 (S.zeros 128)) (n * 128)
theorem vS (n : Nat) : (noughts n).size = n * 128 := size_madeCells _ _
theorem ze (n j : Nat) (hj : j < n * 128) : (noughts n)[j]? = some (.int .u8 0) := by
 have hs : (S.v8 (S.zeros 128)).size = 128 := by rw [S.aU, S.zeros_length]
 simp only [noughts, madeCells, Array.getElem?_map]
 rw [Array.getElem?_eq_getElem (by simpa using hj)]
 simp only [Array.getElem_range, Option.map_some]
 have hm : j % (S.v8 (S.zeros 128)).size < (S.v8 (S.zeros 128)).size := by rw [hs]; omega
 rw [getElem!_pos (S.v8 (S.zeros 128)) _ hm]
 generalize j % (S.v8 (S.zeros 128)).size = k at hm
 rw [<- Array.getElem?_eq_getElem hm, S.jL, List.getElem?_toArray, vz _ _ (by rw [S.aU] at hm; exact hm), qR]
 rfl
theorem BR (n : Nat) (hn : n <= 8192) (w : World) : (Instr.makeSlice 70 (.int .i64 (n : Int)) (.int .i64 (n : Int))).run Tryz.prog w = .ok (.slice (some ⟨w.heap.size, 0, none⟩) n n) (w.alloc (.cells (noughts n) 227)) := by
 obtain ⟨i, hi, hz, hsz, hby⟩ := bZ info73 zero73
 have h := run_make (P := Tryz.prog) w 70 227 i _ Tryz.underlying70 hi hz .i64 .i64 (n : Int) (n : Int) (by omega) (Int.le_refl _) (by rw [hby]; omega) (by omega)
 rw [h, hsz]
 rfl
theorem mH {w : World} {g n : Nat} (h : w.heap[g]? = some (.cells (noughts n) 227 (0, 0))) : eH w g (List.replicate n (S.zeros 128)) := by
 refine ⟨⟨_, h, by rw [vS, List.length_replicate]; omega⟩, fun i hi => ?_, fun i hi => ?_⟩
 ·have hi' : i < n := by simpa using hi
  simp [List.getD_eq_getElem?_getD, hi', S.zeros_length]
 ·have hi' : i < n := by simpa using hi
  have e : (List.replicate n (S.zeros 128)).getD i [] = S.zeros 128 := by simp [List.getD_eq_getElem?_getD, hi']
  rw [e]
  intro j v hv
  obtain ⟨rfl, hj⟩ := S.oK _ j v hv
  rw [S.zeros_length] at hj
  rw [cell_of_row w g _ _ 227 (0, 0) h, ze n _ (by omega), qR]
  rfl
theorem F8 {w W : World} {g gs ge n : Nat} (hn : n <= 8192) (h1 : W.heap[g]? = some (.cells #[.slice (some ⟨gs, 0, none⟩) n n, .slice (some ⟨ge, 0, none⟩) n n, .slice none 0 0, .bool false, .int .i64 0] 73 (0, 0))) (h2 : W.heap[gs]? = some (.cells (noughts n) 227 (0, 0))) (h3 : W.heap[ge]? = some (.cells (noughts n) 227 (0, 0))) (hs : g ≠ gs /\ g ≠ ge /\ gs ≠ ge) (hg : w.heap.size <= g) (hgs : w.heap.size <= gs) (hge : w.heap.size <= ge) (hb : Below w.heap.size w W) :
  ∃ o, o.g = g /\ aZ W o (S.Dk.new n) /\ (∀ k, o.has k -> w.heap.size <= k) /\ Below w.heap.size w W := by
 have hl : (S.Dk.new n).safe.length = n := by simp [S.Dk.new]
 refine ⟨⟨g, gs, ge, n, n, .slice none 0 0, 0⟩, rfl, ⟨by rw [hl]; exact h1, mH h2, mH h3, xy _, S.Dk.new_ok n hn, fun k hk => (by cases hk), hs, fun k hk => (by cases hk), by rw [hl]; exact ⟨lr _, lr _⟩⟩, ?_, hb⟩
 rintro k (rfl | rfl | rfl | hk)
 ·exact hg
 ·exact hgs
 ·exact hge
 ·cases hk
theorem BP (w : World) (a b c : Obj) : (((w.alloc a).alloc b).alloc c).drew.heap[w.heap.size]? = some a /\ (((w.alloc a).alloc b).alloc c).drew.heap[w.heap.size + 1]? = some b /\ (((w.alloc a).alloc b).alloc c).drew.heap[w.heap.size + 1 + 1]? = some c := by
 have s1 : (w.alloc a).heap.size = w.heap.size + 1 := by simp
 have s2 : ((w.alloc a).alloc b).heap.size = w.heap.size + 1 + 1 := by simp
 refine ⟨?_, ?_, ?_⟩
 ·exact (heap_alloc_old _ c (by omega)).trans ((heap_alloc_old _ b (by omega)).trans (heap_alloc_new w a))
 ·have := heap_alloc_new (w.alloc a) b
  rw [s1] at this
  exact (heap_alloc_old _ c (by omega)).trans this
 ·have := heap_alloc_new ((w.alloc a).alloc b) c
  rw [s2] at this
  exact this
theorem rU (w : World) (a b c : Obj) : Below w.heap.size w (((w.alloc a).alloc b).alloc c).drew :=
 (((Chg.refl (fun _ => False) w).alloc a).alloc b |>.alloc c).drew.below _ (lr _) (fun _ _ e => e)
set_option maxHeartbeats 800000 in
theorem new_any (n : Nat) (w : World) (h1 : 1 <= n) (h2 : n <= 8192) :
  Calls Tryz.prog 15 #[.int .i64 (n : Int)] w fun e w' => ∃ o, e = .returned (.tuple #[o.ptr, .int .i64 0]) /\ aZ w' o (S.Dk.new n) /\ (∀ k, o.has k -> w.heap.size <= k) /\ Below w.heap.size w w' := by
 have hmk := BR n h2
 have q1 : ¬ ((n : Int) < 1) := by omega
 have q2 : ¬ ((8192 : Int) < (n : Int)) := by omega
 go_enter Tryz.func15, Tryz.ntmps15
 go_wp2_with fail
 go_region
 all_goals
  go_wp2_with fail
  go_ret2
 ·obtain ⟨o, h3, h4, h5, h6⟩ := F8 (w := w) (W := (((w.alloc (.cells (noughts n) 227)).alloc (.cells (noughts n) 227)).alloc (.cells #[.slice (some ⟨w.heap.size, 0, none⟩) n n, .slice (some ⟨w.heap.size + 1, 0, none⟩) n n, .slice none 0 0, .bool false, .int .i64 0] 73)).drew) (g := w.heap.size + 1 + 1) (gs := w.heap.size) (ge := w.heap.size + 1) h2
   (BP w _ _ _).2.2 (BP w _ _ _).1 (BP w _ _ _).2.1 (by omega) (by omega) (by omega) (by omega) (rU w _ _ _)
  exact ⟨o, by rw [Ow.ptr, h3]; rfl, h4, h5, h6⟩
 ·obtain ⟨o, h3, h4, h5, h6⟩ := F8 (w := w) (W := (((w.alloc (.cells (noughts n) 227)).alloc (.cells (noughts n) 227)).alloc (.cells #[.slice (some ⟨w.heap.size + 1, 0, none⟩) n n, .slice (some ⟨w.heap.size, 0, none⟩) n n, .slice none 0 0, .bool false, .int .i64 0] 73)).drew) (g := w.heap.size + 1 + 1) (gs := w.heap.size + 1) (ge := w.heap.size) h2
   (BP w _ _ _).2.2 (BP w _ _ _).2.1 (BP w _ _ _).1 (by omega) (by omega) (by omega) (by omega) (rU w _ _ _)
  exact ⟨o, by rw [Ow.ptr, h3]; rfl, h4, h5, h6⟩
end Go.Proofs.YteealihknndclabGreatDoor
namespace Go.Proofs.YteealihknndclabGreatDoor
open Go.RowKit
set_option maxHeartbeats 800000 in
set_option maxRecDepth 100000 in
theorem jP (o : Ow) (d : S.Dk) (n : Nat) (w : World) (hd : aZ w o d) (hn : n < d.safe.length) :
  Calls Tryz.prog 112 #[o.ptr, .int .i64 (n : Int)] w fun e w' => e = .returned (.tuple #[.slice (some ⟨w.heap.size, 0, none⟩) 128 128, .int .i64 0]) /\ w'.heap[w.heap.size]? = some (.cells (S.v8 (d.seen.getD n [])) 5 (0, 0)) /\ Below w.heap.size w w' := by
 have E := S.Dk.inside_yes hn
 obtain ⟨c0, c1, c2, c3, c4⟩ := cells5 hd.row
 have hlt := aa hd.row
 have q1 : (0 : Int) <= (n : Int) := by omega
 have q2 : (n : Int) < (d.safe.length : Int) := by omega
 have hmk : ∀ w : World, (Instr.makeSlice 22 (.int .i64 128) (.int .i64 128)).run Tryz.prog w = .ok (.slice (some ⟨w.heap.size, 0, none⟩) 128 128) (w.alloc (.cells (S.v8 (S.zeros 128)) 5)) := fun w => di 128 (by omega) w
 obtain ⟨bs, hbs⟩ : ∃ bs, bs = d.seen.getD n [] := ⟨_, rfl⟩
 have hlen : bs.length = 128 := by rw [hbs]; exact hd.ok.seen n hn
 have HS : Hid (Src w (some ⟨o.ge, n * 128, none⟩) bs) := by rw [hbs]; exact hd.seen.src n (by rw [S.Dk.seen_length]; exact hn)
 have HN : Hid ((S.v8l bs).length = Nat.min 128 128) := by show (S.v8l bs).length = Nat.min 128 128; rw [S.ae, hlen]; rfl
 have HF : Hid (0 + (S.v8l bs).length <= (S.v8l (S.zeros 128)).length) := by show 0 + (S.v8l bs).length <= (S.v8l (S.zeros 128)).length; rw [S.ae, S.ae, S.zeros_length, hlen]; omega
 have HB : Hid (Below w.heap.size w (w.alloc (.cells (S.v8 (S.zeros 128)) 5))) := ba ..
 have HD := hide hd
 have HL := hide hlen
 have HBS := hide hbs
 clear hd hn hlen hbs
 unfold Ow.ptr
 go_enter Tryz.func112, Tryz.ntmps112
 go_wp2_with fail
 refine (wy o d n w HD.out).mono ?_
 rintro e w1 ⟨rfl, rfl⟩
 go_wp2_with (first | (refine wpList_copy_splice rfl (.tmp 12) (.tmp 19) 22 22 rfl 5 Tryz.underlying22 kP _ _ _ _ _ _ rfl rfl w.heap.size 0 (S.v8l (S.zeros 128)) 5 (heap_alloc_new _ _) (S.v8l bs) HN.out (eZ _ HS.out HB.out) HF.out (S.df _) w.heap.size (w.alloc (.cells (S.v8 (S.zeros 128)) 5)) (Below.refl _ _) (lr _) ?_; intro w2 HG2 hB2; have HG3 := hide (jg HG2); clear HG2; have HN2 := hide (HB.out.trans hB2); clear hB2))
 go_ret2
 refine ⟨rfl, ?_, HN2.out⟩
 have e : splice (S.zeros 128) 0 bs = bs := by rw [dS, HL.out]; simp [S.zeros]
 rw [<- HBS.out, <- e]
 exact HG3.out
end Go.Proofs.YteealihknndclabGreatDoor
