/- A log in plain words: heads, sectors, what is met as whole, torn or alien; what a crash leaves of them. Nothing of the program. -/
/- A log's calls in plain words: what they write, and what a crash in their midst leaves. Nothing of the program. -/
import Derived.Test.YteealihknndclabGreatDoorBy
import Derived.Test.YteealihknndclabGreatDoorGe
namespace Go.Proofs.YteealihknndclabGreatDoor
namespace S
structure Hd where
 turn : Nat
 used : Nat
 sl : List UInt8
deriving DecidableEq
def Hd.none : Hd := ⟨0, 0, zeros 32⟩
structure Hd.Ok (h : Hd) : Prop where
 turn : h.turn < 18446744073709551616
 used : h.used < 16777216
 sl : h.sl.length = 32
theorem Hd.none_ok : Hd.none.Ok := ⟨by decide, by decide, zeros_length _⟩
def marked (f c k : Nat) (m : UInt8) (x : List UInt8) : List UInt8 := tag f c k ++ (m :: (x ++ (zeros (118 - x.length) ++ [m])))
theorem mK (f c k : Nat) (m : UInt8) (x : List UInt8) (h : x.length <= 118) : (marked f c k m x).length = 128 := by
 simp [marked, aV, zeros_length]; omega
def blank (f c k : Nat) : List UInt8 := marked f c k 15 []
theorem aI (f c k : Nat) : (blank f c k).length = 128 := mK _ _ _ _ _ (by simp)
def ht (h : Hd) : List UInt8 := num h.turn 8 ++ (num h.used 3 ++ h.sl)
theorem mi {h : Hd} (o : h.Ok) : (ht h).length = 43 := by simp [ht, ak, o.sl]
def htext (h : Hd) : List UInt8 := ht h ++ sum (ht h)
theorem eQ {h : Hd} (o : h.Ok) : (htext h).length = 75 := by simp [htext, mi o, sum_length]
def aC (f c k : Nat) (h : Hd) : List UInt8 := marked f c k 240 (htext h)
theorem aT {f c k : Nat} {h : Hd} (o : h.Ok) : (aC f c k h).length = 128 := mK _ _ _ _ _ (by rw [eQ o]; omega)
theorem fU (f c k : Nat) (m : UInt8) (x : List UInt8) : tag f c k <+: marked f c k m x := List.prefix_append _ _
theorem iV (f c k : Nat) (m : UInt8) (x : List UInt8) : (marked f c k m x).getD 8 0 = m := by
 unfold marked
 rw [List.getD_eq_getElem?_getD, List.getElem?_append_right (by rw [aV]; omega), aV]
 rfl
theorem ll (f c k : Nat) (m : UInt8) (x : List UInt8) (h : x.length <= 118) : (marked f c k m x).getD 127 0 = m := by
 have e : marked f c k m x = (tag f c k ++ (m :: (x ++ zeros (118 - x.length)))) ++ [m] := by simp [marked]
 have hl : (tag f c k ++ (m :: (x ++ zeros (118 - x.length)))).length = 127 := by simp [aV, zeros_length]; omega
 rw [e, List.getD_eq_getElem?_getD, List.getElem?_append_right (by omega), hl]
 rfl
def oh (s : List UInt8) : Hd := ⟨val ((s.drop 9).take 8), val ((s.drop 17).take 3), (s.drop 20).take 32⟩
theorem Az (s : List UInt8) (h : s.length = 128) : (oh s).Ok := by
 refine ⟨?_, ?_, by simp [oh, h]⟩
 ·have h1 := oJ ((s.drop 9).take 8)
  have h2 : ((s.drop 9).take 8).length = 8 := by simp [h]
  rw [h2] at h1
  exact h1
 ·have h1 := oJ ((s.drop 17).take 3)
  have h2 : ((s.drop 17).take 3).length = 3 := by simp [h]
  rw [h2] at h1
  exact h1
theorem uM {f c k : Nat} {h : Hd} (o : h.Ok) : oh (aC f c k h) = h := by
 have e9 : (aC f c k h).drop 9 = num h.turn 8 ++ (num h.used 3 ++ (h.sl ++ (sum (ht h) ++ (zeros 43 ++ [240])))) := by
  have hl := eQ o
  unfold aC marked
  rw [show (9 : Nat) = (tag f c k).length + 1 from by rw [aV], List.drop_length_add_append, List.drop_succ_cons, List.drop_zero, hl]
  simp [htext, ht]
 have e17 : (aC f c k h).drop 17 = num h.used 3 ++ (h.sl ++ (sum (ht h) ++ (zeros 43 ++ [240]))) := by
  rw [show (17 : Nat) = 9 + 8 from rfl, <- List.drop_drop, e9]
  exact List.drop_left' (ak _ _)
 have e20 : (aC f c k h).drop 20 = h.sl ++ (sum (ht h) ++ (zeros 43 ++ [240])) := by
  rw [show (20 : Nat) = 17 + 3 from rfl, <- List.drop_drop, e17]
  exact List.drop_left' (ak _ _)
 unfold oh
 rw [e9, e17, e20]
 have t8 : (num h.turn 8 ++ (num h.used 3 ++ (h.sl ++ (sum (ht h) ++ (zeros 43 ++ [240]))))).take 8 = num h.turn 8 := List.take_left' (ak _ _)
 have t3 : (num h.used 3 ++ (h.sl ++ (sum (ht h) ++ (zeros 43 ++ [240])))).take 3 = num h.used 3 := List.take_left' (ak _ _)
 have t32 : (h.sl ++ (sum (ht h) ++ (zeros 43 ++ [240]))).take 32 = h.sl := List.take_left' o.sl
 rw [t8, t3, t32, ik, ik, Nat.mod_eq_of_lt o.turn, Nat.mod_eq_of_lt o.used]
def fu (b : UInt8) : Bool := b == 15 || b == 240
def sight (f c k : Nat) (s : List UInt8) : Nat :=
 if tag f c k <+: s /\ fu (s.getD 8 0) = true /\ fu (s.getD 127 0) = true then (if s.getD 8 0 = 15 \/ s.getD 127 0 = 15 then 1 else if s = aC f c k (oh s) then 2 else 0) else 0
def gF (f c k : Nat) (s : List UInt8) : Hd := if sight f c k s = 2 then oh s else Hd.none
theorem AB (f c k : Nat) (s : List UInt8) (h : s.length = 128) : (gF f c k s).Ok := by
 unfold gF; split
 ·exact Az s h
 ·exact Hd.none_ok
def holds (h : Hd) (m : Nat) (b : Hd) (mb : Nat) : Bool := decide (m = 2) && (decide (mb = 1) || (decide (mb = 2) && decide ((b.turn + 1) % 18446744073709551616 = h.turn)))
def cur (f c : Nat) (s0 s1 : List UInt8) : Option (Hd × Nat) :=
 if holds (gF f c 1 s1) (sight f c 1 s1) (gF f c 0 s0) (sight f c 0 s0) = true then some (gF f c 1 s1, 1)
 else if holds (gF f c 0 s0) (sight f c 0 s0) (gF f c 1 s1) (sight f c 1 s1) = true then some (gF f c 0 s0, 0) else .none
theorem jX {f c k : Nat} {h : Hd} (o : h.Ok) : sight f c k (aC f c k h) = 2 := by
 unfold sight
 have h8 : (aC f c k h).getD 8 0 = 240 := iV _ _ _ _ _
 have h127 : (aC f c k h).getD 127 0 = 240 := ll _ _ _ _ _ (by rw [eQ o]; omega)
 rw [h8, h127, uM o, if_pos ⟨fU _ _ _ _ _, by decide, by decide⟩, if_neg (by decide), if_pos rfl]
theorem pG {f c k : Nat} {h : Hd} (o : h.Ok) : gF f c k (aC f c k h) = h := by rw [gF, if_pos (jX o), uM o]
structure Loose (f c q t : Nat) (s : List UInt8) : Prop where
 len : s.length = 128
 tag : tag f c q <+: s
 first : fu (s.getD 8 0) = true
 last : fu (s.getD 127 0) = true
 torn : s.getD 8 0 = 15 \/ s.getD 127 0 = 15 \/ ∃ h : Hd, h.Ok /\ h.turn + 1 = t /\ s = aC f c q h
theorem jA (f c k : Nat) : (blank f c k).getD 8 0 = 15 := iV _ _ _ _ _
theorem nC (f c k : Nat) : (blank f c k).getD 127 0 = 15 := ll _ _ _ _ _ (by simp)
theorem lJ (f c q t : Nat) : Loose f c q t (blank f c q) :=
 ⟨aI _ _ _, fU _ _ _ _ _, by rw [jA]; decide, by rw [nC]; decide, Or.inl (jA _ _ _)⟩
theorem zz {f c q t : Nat} {h : Hd} (o : h.Ok) (e : h.turn + 1 = t) : Loose f c q t (aC f c q h) :=
 ⟨aT o, fU _ _ _ _ _, by rw [aC, iV]; decide, by rw [aC, ll _ _ _ _ _ (by rw [eQ o]; omega)]; decide, Or.inr (Or.inr ⟨h, o, e, rfl⟩)⟩
theorem Loose.met {f c q t : Nat} {s : List UInt8} (l : Loose f c q t s) : sight f c q s = 1 \/ (sight f c q s = 2 /\ (gF f c q s).turn + 1 = t) := by
 rcases l.torn with h | h | ⟨h, o, e, rfl⟩
 ·left; unfold sight; rw [if_pos ⟨l.tag, l.first, l.last⟩, if_pos (Or.inl h)]
 ·left; unfold sight; rw [if_pos ⟨l.tag, l.first, l.last⟩, if_pos (Or.inr h)]
 ·right; rw [jX o, pG o]; exact ⟨rfl, e⟩
theorem Dc {f c : Nat} {h : Hd} {s : List UInt8} (o : h.Ok) (l : Loose f c 1 h.turn s) : cur f c (aC f c 0 h) s = some (h, 0) := by
 unfold cur
 rw [jX o, pG o]
 have ht := o.turn
 rcases l.met with m | ⟨m, e⟩
 ·rw [m, if_neg (by simp [holds]), if_pos (by simp [holds])]
 ·rw [m, if_neg (by simp [holds]; omega), if_pos (by simp [holds, e]; omega)]
theorem F9 {f c : Nat} {h : Hd} {s : List UInt8} (o : h.Ok) (l : Loose f c 0 h.turn s) : cur f c s (aC f c 1 h) = some (h, 1) := by
 unfold cur
 rw [jX o, pG o]
 have ht := o.turn
 rcases l.met with m | ⟨m, e⟩
 ·rw [m, if_pos (by simp [holds])]
 ·rw [m, if_pos (by simp [holds, e]; omega)]
theorem vV {n : Nat} {g a b : List UInt8} (ha : g <+: a) (hb : g <+: b) : g <+: mix n a b := by
 obtain ⟨x, rfl⟩ := ha
 obtain ⟨y, rfl⟩ := hb
 unfold mix
 by_cases h : n <= g.length
 ·rw [List.take_append_of_le_length h, List.drop_append_of_le_length h, <- List.append_assoc, List.take_append_drop]
  exact List.prefix_append _ _
 ·rw [List.take_append, List.take_of_length_le (by omega), List.append_assoc]
  exact List.prefix_append _ _
theorem BQ {n : Nat} {g a b : List UInt8} (ha : g <+: a) (hb : g <+: b) (h : n <= g.length) : mix n a b = b := by
 obtain ⟨x, rfl⟩ := ha
 obtain ⟨y, rfl⟩ := hb
 unfold mix
 rw [List.take_append_of_le_length h, List.drop_append_of_le_length h, <- List.append_assoc, List.take_append_drop]
theorem sV {f c q t n : Nat} {s : List UInt8} (l : Loose f c q t s) (hn : n <= 128) : Loose f c q t (mix n (blank f c q) s) := by
 by_cases h : n <= 8
 ·rw [blank, BQ (fU _ _ _ _ _) l.tag (by rw [aV]; exact h)]
  exact l
 ·have e8 : (mix n (blank f c q) s).getD 8 0 = 15 := by rw [rV _ _ _ _ (by rw [aI]; exact hn), if_pos (by omega), jA]
  refine ⟨by rw [mX _ _ _ (by rw [aI]; exact hn) (by rw [aI, l.len]), l.len], vV (fU _ _ _ _ _) l.tag, by rw [e8]; decide, ?_, Or.inl e8⟩
  rw [rV _ _ _ _ (by rw [aI]; exact hn)]
  split
  ·rw [nC]; decide
  ·exact l.last
theorem Cx {f c q t n : Nat} {h : Hd} (o : h.Ok) (hn : n < 128) : Loose f c q t (mix n (aC f c q h) (blank f c q)) := by
 have hl : n <= (aC f c q h).length := by rw [aT o]; omega
 have e127 : (mix n (aC f c q h) (blank f c q)).getD 127 0 = 15 := by rw [rV _ _ _ _ hl, if_neg (by omega), nC]
 refine ⟨by rw [mX _ _ _ hl (by rw [aT o, aI]), aI], vV (fU _ _ _ _ _) (fU _ _ _ _ _), ?_, by rw [e127]; decide, Or.inr (Or.inl e127)⟩
 rw [rV _ _ _ _ hl]
 split
 ·rw [aC, iV]; decide
 ·rw [jA]; decide
def oC (f c k : Nat) (s : List UInt8) : Prop := s.length = 128 /\ (tag f c k <+: s \/ ∃ m, m <= 8 /\ s = (tag f c k).take m ++ zeros (128 - m))
theorem Bh (xs : List UInt8) (m n : Nat) (h : ∀ i, m <= i -> i < n -> xs.getD i 0 = 0) (hm : m <= n) : dO xs n <= m := by
 induction n with
 | zero => exact Nat.zero_le _
 | succ n ih =>
  rw [dO]
  by_cases e : m <= n
  ·rw [if_pos (h n e (by omega))]
   exact ih (fun i h1 h2 => h i h1 (by omega)) e
  ·have := ut xs n
   split <;> omega
theorem Dv (n j : Nat) : (zeros n).getD j 0 = 0 := by
 rw [List.getD_eq_getElem?_getD, zeros]
 by_cases h : j < n
 ·simp [h]
 ·simp [h]
theorem pR (a b : List UInt8) (j : Nat) : (a ++ b).getD j 0 = if j < a.length then a.getD j 0 else b.getD (j - a.length) 0 := by
 simp only [List.getD_eq_getElem?_getD]
 by_cases h : j < a.length
 ·rw [if_pos h, List.getElem?_append_left h]
 ·rw [if_neg h, List.getElem?_append_right (by omega)]
theorem oC.asks {f c k : Nat} {s : List UInt8} (h : oC f c k s) : tag f c k <+: s \/ s.take (dO s s.length) <+: tag f c k := by
 rcases h.2 with h2 | ⟨m, hm, e⟩
 ·exact Or.inl h2
 ·right
  have hl : ((tag f c k).take m).length = m := by rw [List.length_take, aV]; omega
  have ht : dO s s.length <= m := by
   refine Bh _ _ _ (fun i h1 h2 => ?_) (by rw [h.1]; omega)
   rw [e, pR, if_neg (by omega), Dv]
  rw [e, List.take_append_of_le_length (by rw [hl, <- e]; exact ht), List.take_take]
  exact List.take_prefix _ _
theorem oC.over {f c k n : Nat} {a s : List UInt8} (h : oC f c k s) (ha : a.length = 128) (hg : tag f c k <+: a) (hn : n <= 128) : oC f c k (mix n a s) := by
 refine ⟨by rw [mX _ _ _ (by omega) (by rw [ha, h.1]), h.1], ?_⟩
 rcases h.2 with h2 | ⟨m, hm, e⟩
 ·exact Or.inl (vV hg h2)
 ·obtain ⟨x, rfl⟩ := hg
  by_cases h8 : 8 <= n
  ·left
   unfold mix
   rw [List.take_append, List.take_of_length_le (by rw [aV]; exact h8), List.append_assoc]
   exact List.prefix_append _ _
  ·right
   have hl : ((tag f c k).take m).length = m := by rw [List.length_take, aV]; omega
   refine ⟨max n m, by omega, ?_⟩
   unfold mix
   rw [List.take_append_of_le_length (by rw [aV]; omega), e]
   by_cases hnm : n <= m
   ·rw [List.drop_append_of_le_length (by omega), show max n m = m from by omega, <- List.append_assoc]
    congr 1
    have : (tag f c k).take n = ((tag f c k).take m).take n := by rw [List.take_take]; congr 1; omega
    rw [this, List.take_append_drop]
   ·rw [List.drop_append, List.drop_eq_nil_of_le (by omega), hl, List.nil_append, show max n m = n from by omega]
    congr 1
    simp [zeros]
    omega
def enc (rs : List (List UInt8)) : List UInt8 := rs.flatMap fun r => lenOf r.length ++ r
def dY (rs : List (List UInt8)) : List UInt8 := rs.foldl (fun a r => sum (a ++ r)) (zeros 32)
theorem lG (rs : List (List UInt8)) (b : List UInt8) : enc (rs ++ [b]) = enc rs ++ (lenOf b.length ++ b) := by simp [enc]
theorem fM (rs : List (List UInt8)) (b : List UInt8) : (enc (rs ++ [b])).length = (enc rs).length + (3 + b.length) := by rw [lG]; simp [bO]
theorem oW (rs : List (List UInt8)) (b : List UInt8) : dY (rs ++ [b]) = sum (dY rs ++ b) := by simp [dY]
theorem fB (rs : List (List UInt8)) : (dY rs).length = 32 := by
 rcases List.eq_nil_or_concat rs with rfl | ⟨l, b, rfl⟩
 ·exact zeros_length _
 ·rw [List.concat_eq_append, oW, sum_length]
def cZ (t : Nat) (rs : List (List UInt8)) : Hd := ⟨t, (enc rs).length, dY rs⟩
def tu (ss : List (List UInt8)) (f : Nat) (x : List UInt8) : Prop := ∀ j, j < x.length -> (ss.getD (f + (2 + j / 120)) []).getD (8 + j % 120) 0 = x.getD j 0
structure Good (ss : List (List UInt8)) (f c p t : Nat) (rs : List (List UInt8)) : Prop where
 few : f + c <= ss.length
 four : 4 <= c
 most : c <= 8192
 place : p <= 1
 turn : t < 18446744073709551616
 room : (enc rs).length <= room c
 head : ss.getD (f + p) [] = aC f c p (cZ t rs)
 loose : Loose f c (1 - p) t (ss.getD (f + (1 - p)) [])
 own : ∀ k, 2 <= k -> k < c -> oC f c k (ss.getD (f + k) [])
 text : tu ss f (enc rs)
theorem room_le {c : Nat} (h : c <= 8192) : room c <= 982800 := by unfold room; omega
theorem Good.hd {ss : List (List UInt8)} {f c p t : Nat} {rs : List (List UInt8)} (g : Good ss f c p t rs) : (cZ t rs).Ok :=
 ⟨g.turn, by have := room_le g.most; have := g.room; show (enc rs).length < _; omega, fB _⟩
theorem Good.cur {ss : List (List UInt8)} {f c p t : Nat} {rs : List (List UInt8)} (g : Good ss f c p t rs) : cur f c (ss.getD (f + 0) []) (ss.getD (f + 1) []) = some (cZ t rs, p) := by
 have hh := g.head
 have hl := g.loose
 rcases Nat.le_one_iff_eq_zero_or_eq_one.1 g.place with rfl | rfl
 ·rw [hh]; exact Dc g.hd hl
 ·rw [hh]; exact F9 g.hd hl
theorem Good.turned {ss ss' : List (List UInt8)} {f c p t : Nat} {rs : List (List UInt8)} (g : Good ss f c p t rs) (hl : ss'.length = ss.length) (hs : ∀ j, j ≠ f + (1 - p) -> ss'.getD j [] = ss.getD j []) (l : Loose f c (1 - p) t (ss'.getD (f + (1 - p)) [])) : Good ss' f c p t rs := by
 have hp := g.place
 refine ⟨by rw [hl]; exact g.few, g.four, g.most, g.place, g.turn, g.room, by rw [hs _ (by omega)]; exact g.head, l, fun k h1 h2 => by rw [hs _ (by omega)]; exact g.own k h1 h2, fun j hj => ?_⟩
 rw [hs _ (by omega)]
 exact g.text j hj
theorem Good.switch {ss ss' : List (List UInt8)} {f c p t : Nat} {rs rs' : List (List UInt8)} (g : Good ss f c p t rs) (hl : ss'.length = ss.length) (hs : ∀ j, j ≠ f + (1 - p) -> ss'.getD j [] = ss.getD j []) (ht : t + 1 < 18446744073709551616) (hr : (enc rs').length <= S.room c) (hx : tu ss f (enc rs')) (hh : ss'.getD (f + (1 - p)) [] = aC f c (1 - p) (cZ (t + 1) rs')) : Good ss' f c (1 - p) (t + 1) rs' := by
 have hp := g.place
 have e : 1 - (1 - p) = p := by omega
 refine ⟨by rw [hl]; exact g.few, g.four, g.most, by omega, ht, hr, hh, ?_, fun k h1 h2 => by rw [hs _ (by omega)]; exact g.own k h1 h2, fun j hj => ?_⟩
 ·rw [e, hs _ (by omega), g.head]
  exact zz g.hd rfl
 ·rw [hs _ (by omega)]
  exact hx j hj
structure May (old : List (List UInt8)) (f c p t : Nat) (rs rs' : List (List UInt8)) (new : List (List UInt8)) : Prop where
 len : new.length = old.length
 stay : ∀ j, j < f \/ f + c <= j -> new.getD j [] = old.getD j []
 log : Good new f c p t rs \/ Good new f c (1 - p) (t + 1) rs'
def lS (d : Dk) (l : List Act) (P : List (List UInt8) -> Prop) : Prop := ∀ n, n <= l.length -> ∀ c, P ((d.acts (l.take n)).crash c).safe
theorem CO {d : Dk} {P : List (List UInt8) -> Prop} (hd : d.pend = []) (h : P d.safe) : lS d [] P := fun n _ c => by
 rw [List.take_nil, Dk.acts_nil, Dk.crash_flushed _ hd]
 exact h
theorem qx {d : Dk} {ws : Ws} {l : List Act} {P : List (List UInt8) -> Prop} (hd : d.pend = []) (hs : Ws.Sole ws d.safe.length) (h1 : ∀ new, zS d.safe ws new -> P new) (h2 : lS { d with safe := over d.safe ws, pend := [] } l P) : lS d (ws.acts ++ .flush :: l) P := fun n hn c => by
 rcases d.fate hd ws hs l n hn c with h | ⟨m, hm, h⟩
 ·exact h1 _ h
 ·rw [h]
  exact h2 m hm c
theorem Ed {i n : Nat} {x : List UInt8} (hi : i < n) (hx : x.length = 128) : Ws.Sole [(i, x)] n :=
 ⟨fun k hk => by
  obtain rfl : k = 0 := by simpa using hk
  exact ⟨hi, hx⟩, fun k m hk hm _ => by simp at hk hm; omega⟩
theorem rf {old new : List (List UInt8)} {i : Nat} {x : List UInt8} (h : zS old [(i, x)] new) : new.length = old.length /\ (∀ j, j ≠ i -> new.getD j [] = old.getD j []) /\ ∃ n, n <= 128 /\ new.getD i [] = mix n x (old.getD i []) :=
 ⟨h.len, fun j hj => h.stay j (fun k hk => by
  obtain rfl : k = 0 := by simpa using hk
  exact fun e => hj e.symm), h.part 0 (by simp)⟩
theorem vG {old : List (List UInt8)} {i : Nat} {x : List UInt8} (hi : i < old.length) : (old.set i x).length = old.length /\ (∀ j, j ≠ i -> (old.set i x).getD j [] = old.getD j []) /\ (old.set i x).getD i [] = x :=
 ⟨by simp, fun j hj => by rw [dA _ _ _ _ _ hi, if_neg (fun e => hj e.symm)], by rw [dA _ _ _ _ _ hi, if_pos rfl]⟩
end S
end Go.Proofs.YteealihknndclabGreatDoor
namespace Go.Proofs.YteealihknndclabGreatDoor
namespace S
def iG (f c k : Nat) (x : List UInt8) (a : Nat) : List UInt8 := tag f c k ++ ((x.drop a).take 120 ++ zeros (120 - ((x.drop a).take 120).length))
theorem gL (f c k : Nat) (x : List UInt8) (a : Nat) : (iG f c k x a).length = 128 := by
 simp [iG, aV, zeros_length]; omega
theorem uE (f c k : Nat) (x : List UInt8) (a : Nat) : tag f c k <+: iG f c k x a := List.prefix_append _ _
theorem wW (f c k : Nat) (x : List UInt8) (a r : Nat) (hr : r < 120) (h : a + r < x.length) : (iG f c k x a).getD (8 + r) 0 = x.getD (a + r) 0 := by
 unfold iG
 have hl : ((x.drop a).take 120).length = min 120 (x.length - a) := by simp
 rw [pR, if_neg (by rw [aV]; omega), aV, pR, if_pos (by omega)]
 simp only [List.getD_eq_getElem?_getD]
 rw [List.getElem?_take, if_pos (by omega), List.getElem?_drop]
 congr 2
 omega
def dB (f c : Nat) (x : List UInt8) (s m : Nat) : Ws := (List.range m).map fun i => (f + (2 + (s + i)), iG f c (2 + (s + i)) x ((s + i) * 120))
theorem bB (f c : Nat) (x : List UInt8) (s m : Nat) : (dB f c x s m).length = m := by simp [dB]
theorem dX (f c : Nat) (x : List UInt8) (s m i : Nat) (h : i < m) : Ws.nth (dB f c x s m) i = (f + (2 + (s + i)), iG f c (2 + (s + i)) x ((s + i) * 120)) := by
 simp [Ws.nth, dB, List.getD_eq_getElem?_getD, h]
theorem pX (f c : Nat) (x : List UInt8) (s m : Nat) : dB f c x s (m + 1) = dB f c x s m ++ [(f + (2 + (s + m)), iG f c (2 + (s + m)) x ((s + m) * 120))] := by
 simp [dB, List.range_succ]
structure ow (f c p t : Nat) (rs rs' : List (List UInt8)) (ws : Ws) (ss : List (List UInt8)) : Prop where
 sole : Ws.Sole ws ss.length
 torn : ∀ new, zS ss ws new -> Good new f c p t rs
 whole : Good (over ss ws) f c p t rs
 text : tu (over ss ws) f (enc rs')
 at_ : ∀ k, k < ws.length -> f + 2 <= (Ws.nth ws k).1 /\ (Ws.nth ws k).1 < f + c
theorem uN {ss new : List (List UInt8)} {f c p t : Nat} {rs : List (List UInt8)} (g : Good ss f c p t rs) (s m : Nat) (hl : new.length = ss.length) (hs : ∀ j, (∀ i, i < m -> f + (2 + (s + i)) ≠ j) -> new.getD j [] = ss.getD j [])
  (hp : ∀ i, i < m -> oC f c (2 + (s + i)) (new.getD (f + (2 + (s + i))) []) /\ ∀ r, r < 120 -> (s + i) * 120 + r < (enc rs).length -> (new.getD (f + (2 + (s + i))) []).getD (8 + r) 0 = (enc rs).getD ((s + i) * 120 + r) 0) : Good new f c p t rs := by
 have hpl := g.place
 refine ⟨by rw [hl]; exact g.few, g.four, g.most, g.place, g.turn, g.room, by rw [hs _ (by omega)]; exact g.head, by rw [hs _ (by omega)]; exact g.loose, fun k h1 h2 => ?_, fun j hj => ?_⟩
 ·by_cases e : ∃ i, i < m /\ k = 2 + (s + i)
  ·obtain ⟨i, hi, rfl⟩ := e
   exact (hp i hi).1
  ·rw [hs _ (fun i hi he => e ⟨i, hi, by omega⟩)]
   exact g.own k h1 h2
 ·by_cases e : ∃ i, i < m /\ j / 120 = s + i
  ·obtain ⟨i, hi, e⟩ := e
   have := (hp i hi).2 (j % 120) (Nat.mod_lt _ (by omega)) (by omega)
   rw [e, this]
   congr 1
   omega
  ·rw [hs _ (fun i hi he => e ⟨i, hi, by omega⟩)]
   exact g.text j hj
theorem textFor {ss : List (List UInt8)} {f c p t : Nat} {rs : List (List UInt8)} {y : List UInt8} {rs' : List (List UInt8)} (g : Good ss f c p t rs) (hx : enc rs' = enc rs ++ y) (hr : (enc rs').length <= room c) (s m : Nat) (hs : s = (enc rs).length / 120) (hm : s + m = ((enc rs').length + 119) / 120) : ow f c p t rs rs' (dB f c (enc rs') s m) ss := by
 have hroom : room c = (c - 2) * 120 := rfl
 have hfew := g.few
 have hfour := g.four
 have hle : (enc rs).length <= (enc rs').length := by rw [hx, List.length_append]; omega
 have hc : ∀ i, i < m -> 2 + (s + i) < c := fun i hi => by omega
 have so : Ws.Sole (dB f c (enc rs') s m) ss.length := by
  refine ⟨fun k hk => ?_, fun k n hk hn he => ?_⟩
  ·rw [bB] at hk
   rw [dX _ _ _ _ _ _ hk]
   exact ⟨by have := hc k hk; show f + (2 + (s + k)) < _; omega, gL _ _ _ _ _⟩
  ·rw [bB] at hk hn
   rw [dX _ _ _ _ _ _ hk, dX _ _ _ _ _ _ hn] at he
   have he' : f + (2 + (s + k)) = f + (2 + (s + n)) := he
   omega
 have byte : ∀ i, i < m -> ∀ r, r < 120 -> (s + i) * 120 + r < (enc rs).length -> (iG f c (2 + (s + i)) (enc rs') ((s + i) * 120)).getD (8 + r) 0 = (enc rs).getD ((s + i) * 120 + r) 0 := fun i hi r hr h => by
  rw [wW _ _ _ _ _ _ hr (by omega), hx, pR, if_pos h]
 refine ⟨so, fun new h => ?_, ?_, fun j hj => ?_, fun k hk => ?_⟩
 ·refine uN g s m h.len (fun j hj => h.stay j fun k hk => ?_) fun i hi => ?_
  ·rw [bB] at hk
   rw [dX _ _ _ _ _ _ hk]
   exact hj k hk
  ·obtain ⟨n, hn, e⟩ := h.part i (by rw [bB]; exact hi)
   rw [dX _ _ _ _ _ _ hi] at e
   have e' : new.getD (f + (2 + (s + i))) [] = mix n (iG f c (2 + (s + i)) (enc rs') ((s + i) * 120)) (ss.getD (f + (2 + (s + i))) []) := e
   rw [e']
   refine ⟨(g.own _ (by omega) (hc i hi)).over (gL _ _ _ _ _) (uE _ _ _ _ _) hn, fun r hr h => ?_⟩
   rw [rV _ _ _ _ (by rw [gL]; exact hn)]
   split
   ·exact byte i hi r hr h
   ·have := g.text ((s + i) * 120 + r) h
    rw [show ((s + i) * 120 + r) / 120 = s + i from by omega, show ((s + i) * 120 + r) % 120 = r from by omega] at this
    exact this
 ·refine uN g s m (fe _ _ _) (fun j hj => pu so j fun k hk => ?_) fun i hi => ?_
  ·rw [bB] at hk
   rw [dX _ _ _ _ _ _ hk]
   exact hj k hk
  ·have e := uG so i (by rw [bB]; exact hi)
   rw [dX _ _ _ _ _ _ hi] at e
   have e' : (over ss (dB f c (enc rs') s m)).getD (f + (2 + (s + i))) [] = iG f c (2 + (s + i)) (enc rs') ((s + i) * 120) := e
   rw [e']
   exact ⟨⟨gL _ _ _ _ _, Or.inl (uE _ _ _ _ _)⟩, byte i hi⟩
 ·by_cases h : s <= j / 120
  ·have hi : j / 120 - s < m := by omega
   have e := uG so (j / 120 - s) (by rw [bB]; exact hi)
   rw [dX _ _ _ _ _ _ hi, show s + (j / 120 - s) = j / 120 from by omega] at e
   have e' : (over ss (dB f c (enc rs') s m)).getD (f + (2 + j / 120)) [] = iG f c (2 + j / 120) (enc rs') (j / 120 * 120) := e
   rw [e', wW _ _ _ _ _ _ (by omega) (by omega)]
   congr 1
   omega
  ·have e := pu so (f + (2 + j / 120)) fun k hk => by
    rw [bB] at hk
    rw [dX _ _ _ _ _ _ hk]
    show f + (2 + (s + k)) ≠ _
    omega
   rw [e, g.text j (by omega), hx, pR, if_pos (by omega)]
 ·rw [bB] at hk
  rw [dX _ _ _ _ _ _ hk]
  have := hc k hk
  show f + 2 <= f + (2 + (s + k)) /\ f + (2 + (s + k)) < f + c
  omega
theorem vD {ss : List (List UInt8)} {f c p t : Nat} {rs : List (List UInt8)} (g : Good ss f c p t rs) : ow f c p t rs [] [] ss :=
 ⟨⟨fun k hk => absurd hk (by simp), fun k m hk => absurd hk (by simp)⟩, fun new h => by
  have e : new = ss := FU h.len fun j _ => h.stay j fun k hk => absurd hk (by simp)
  rw [e]; exact g, g, fun j hj => absurd hj (by simp [enc]), fun k hk => absurd hk (by simp)⟩
def dR (f c q : Nat) (s : List UInt8) : List Act := if s = blank f c q then [] else [.write (f + q) (blank f c q), .flush]
def eG (ws : Ws) : List Act := if ws = [] then [] else ws.acts ++ [.flush]
def jM (f c p : Nat) (h : Hd) : List Act := [.write (f + (1 - p)) (aC f c (1 - p) h), .flush, .write (f + p) (blank f c p), .flush]
def eB (f c p : Nat) (s : List UInt8) (ws : Ws) (h : Hd) : List Act := dR f c (1 - p) s ++ (eG ws ++ jM f c p h)
theorem pK {d : Dk} {i : Nat} {x : List UInt8} {l : List Act} {P : List (List UInt8) -> Prop} (hd : d.pend = []) (hi : i < d.safe.length) (hx : x.length = 128) (h1 : ∀ new, zS d.safe [(i, x)] new -> P new) (h2 : lS { d with safe := d.safe.set i x, pend := [] } l P) : lS d (.write i x :: .flush :: l) P :=
 qx (ws := [(i, x)]) hd (Ed hi hx) h1 h2
theorem zK {d : Dk} {ws : Ws} {l : List Act} {P : List (List UInt8) -> Prop} (hd : d.pend = []) (hs : Ws.Sole ws d.safe.length) (h1 : ∀ new, zS d.safe ws new -> P new) (h2 : lS { d with safe := over d.safe ws, pend := [] } l P) : lS d (eG ws ++ l) P := by
 unfold eG
 by_cases e : ws = []
 ·rw [if_pos e, List.nil_append]
  rw [e, xD] at h2
  have : ({ d with safe := d.safe, pend := [] } : Dk) = d := by cases d; simp only at hd; subst hd; rfl
  rw [this] at h2
  exact h2
 ·rw [if_neg e, List.append_assoc]
  exact qx hd hs h1 h2
theorem lM {d : Dk} {i : Nat} {x : List UInt8} {l : List Act} (hd : d.pend = []) : d.acts (.write i x :: .flush :: l) = ({ d with safe := d.safe.set i x, pend := [] } : Dk).acts l := by
 rw [Dk.acts_cons, Dk.acts_cons]
 congr 1
 simp only [Dk.act, Dk.write, Dk.flush, Dk.seen, hd]
 rfl
theorem Dq {d : Dk} {ws : Ws} {l : List Act} (hd : d.pend = []) : d.acts (eG ws ++ l) = ({ d with safe := over d.safe ws, pend := [] } : Dk).acts l := by
 unfold eG
 by_cases e : ws = []
 ·rw [if_pos e, List.nil_append, e, xD]
  congr 1
  cases d; simp only at hd; subst hd; rfl
 ·rw [if_neg e, List.append_assoc, Dk.acts_app, Dk.acts_writes, hd]
  rfl
theorem Ea {ss : List (List UInt8)} {f c p t : Nat} {rs : List (List UInt8)} (g : Good ss f c p t rs) : Good (ss.set (f + (1 - p)) (blank f c (1 - p))) f c p t rs := by
 have hf := g.few
 have h4 := g.four
 obtain ⟨a, b, e⟩ := vG (old := ss) (i := f + (1 - p)) (x := blank f c (1 - p)) (by omega)
 exact g.turned a b (by rw [e]; exact lJ _ _ _ _)
theorem set_self {ss : List (List UInt8)} {i : Nat} {x : List UInt8} (h : ss.getD i [] = x) : ss.set i x = ss := by
 apply List.ext_getElem?
 intro j
 rw [List.getElem?_set]
 split
 ·rename_i e
  subst e
  split
  ·rename_i hi
   rw [<- h, List.getD_eq_getElem?_getD, List.getElem?_eq_getElem hi]
   rfl
  ·rename_i hi
   exact (List.getElem?_eq_none (by omega)).symm
 ·rfl
def changed (f c p : Nat) (ss : List (List UInt8)) (ws : Ws) (h : Hd) : List (List UInt8) := ((over (ss.set (f + (1 - p)) (blank f c (1 - p))) ws).set (f + (1 - p)) (aC f c (1 - p) h)).set (f + p) (blank f c p)
theorem qB {d : Dk} {f c p : Nat} {ws : Ws} {h : Hd} (hd : d.pend = []) : d.acts (eB f c p (d.safe.getD (f + (1 - p)) []) ws h) = { d with safe := changed f c p d.safe ws h, pend := [] } := by
 have key : ∀ d : Dk, d.pend = [] -> d.acts (eG ws ++ jM f c p h) = { d with safe := ((over d.safe ws).set (f + (1 - p)) (aC f c (1 - p) h)).set (f + p) (blank f c p), pend := [] } := fun d hd => by
  rw [Dq hd, jM, lM rfl, lM rfl, Dk.acts_nil]
 unfold eB dR changed
 by_cases e : d.safe.getD (f + (1 - p)) [] = blank f c (1 - p)
 ·rw [if_pos e, List.nil_append, key d hd, set_self e]
 ·rw [if_neg e, List.cons_append, List.cons_append, List.nil_append, lM hd, key _ rfl]
theorem May.of {old mid new : List (List UInt8)} {f c p t : Nat} {rs rs' : List (List UInt8)} (h1 : mid.length = old.length) (h2 : ∀ j, j < f \/ f + c <= j -> mid.getD j [] = old.getD j []) (m : May mid f c p t rs rs' new) : May old f c p t rs rs' new :=
 ⟨m.len.trans h1, fun j hj => (m.stay j hj).trans (h2 j hj), m.log⟩
theorem qN {ss new : List (List UInt8)} {f c p t : Nat} {rs rs' : List (List UInt8)} {i : Nat} (hi : f <= i /\ i < f + c) (hl : new.length = ss.length) (hs : ∀ j, j ≠ i -> new.getD j [] = ss.getD j []) (h : Good new f c p t rs \/ Good new f c (1 - p) (t + 1) rs') : May ss f c p t rs rs' new :=
 ⟨hl, fun j hj => hs j (by omega), h⟩
theorem yI {d : Dk} {f c p t : Nat} {rs rs' : List (List UInt8)} (hd : d.pend = []) (g : Good d.safe f c p t rs) (hb : d.safe.getD (f + (1 - p)) [] = blank f c (1 - p)) (ht : t + 1 < 18446744073709551616) (hr : (enc rs').length <= room c) (hx : tu d.safe f (enc rs')) :
  lS d (jM f c p (cZ (t + 1) rs')) (May d.safe f c p t rs rs') /\ Good ((d.safe.set (f + (1 - p)) (aC f c (1 - p) (cZ (t + 1) rs'))).set (f + p) (blank f c p)) f c (1 - p) (t + 1) rs' := by
 have hp := g.place
 have h4 := g.four
 have hf := g.few
 have ho : (cZ (t + 1) rs').Ok := ⟨ht, by have := room_le g.most; show (enc rs').length < _; omega, fB _⟩
 obtain ⟨a1, a2, a3⟩ := vG (old := d.safe) (i := f + (1 - p)) (x := aC f c (1 - p) (cZ (t + 1) rs')) (by omega)
 have g1 : Good (d.safe.set (f + (1 - p)) (aC f c (1 - p) (cZ (t + 1) rs'))) f c (1 - p) (t + 1) rs' := g.switch a1 a2 ht hr hx a3
 obtain ⟨b1, b2, b3⟩ := vG (old := d.safe.set (f + (1 - p)) (aC f c (1 - p) (cZ (t + 1) rs'))) (i := f + p) (x := blank f c p) (by omega)
 have e : 1 - (1 - p) = p := by omega
 have g2 : Good ((d.safe.set (f + (1 - p)) (aC f c (1 - p) (cZ (t + 1) rs'))).set (f + p) (blank f c p)) f c (1 - p) (t + 1) rs' :=
  g1.turned b1 (fun j hj => b2 j (by rw [e] at hj; exact hj)) (by rw [e, b3]; exact lJ _ _ _ _)
 refine ⟨?_, g2⟩
 refine pK hd (by omega) (aT ho) (fun new h => ?_) (pK rfl (by show _ < (d.safe.set _ _).length; omega) (aI _ _ _) (fun new h => ?_) (CO rfl ?_))
 ·obtain ⟨l1, l2, n, hn, l3⟩ := rf h
  refine qN (i := f + (1 - p)) (by omega) l1 l2 ?_
  rw [hb] at l3
  by_cases hn' : n < 128
  ·exact Or.inl (g.turned l1 l2 (by rw [l3]; exact Cx ho hn'))
  ·refine Or.inr (g.switch l1 l2 ht hr hx ?_)
   rw [l3]
   exact mix_all _ _ _ (by rw [aT ho]; omega) (by rw [aI]; omega)
 ·obtain ⟨l1, l2, n, hn, l3⟩ := rf h
  refine May.of a1 (fun j hj => a2 j (by omega)) (qN (i := f + p) (by omega) l1 l2 (Or.inr ?_))
  refine g1.turned l1 (fun j hj => l2 j (by rw [e] at hj; exact hj)) ?_
  rw [e, l3]
  have hl := g1.loose
  rw [e] at hl
  exact sV hl hn
 ·exact May.of a1 (fun j hj => a2 j (by omega)) (qN (i := f + p) (by omega) b1 b2 (Or.inr g2))
theorem oq {d : Dk} {f c p t : Nat} {rs rs' : List (List UInt8)} {ws : Ws} (hd : d.pend = []) (g : Good d.safe f c p t rs) (ht : t + 1 < 18446744073709551616) (hr : (enc rs').length <= room c) (hw : ∀ ss, ss.length = d.safe.length -> Good ss f c p t rs -> ow f c p t rs rs' ws ss) :
  lS d (eB f c p (d.safe.getD (f + (1 - p)) []) ws (cZ (t + 1) rs')) (May d.safe f c p t rs rs') /\ Good (changed f c p d.safe ws (cZ (t + 1) rs')) f c (1 - p) (t + 1) rs' := by
 have hp := g.place
 have h4 := g.four
 have hf := g.few
 have key : ∀ e : Dk, e.pend = [] -> e.safe.length = d.safe.length -> (∀ j, j < f \/ f + c <= j -> e.safe.getD j [] = d.safe.getD j []) -> Good e.safe f c p t rs -> e.safe.getD (f + (1 - p)) [] = blank f c (1 - p) ->
   lS e (eG ws ++ jM f c p (cZ (t + 1) rs')) (May d.safe f c p t rs rs') /\ Good (((over e.safe ws).set (f + (1 - p)) (aC f c (1 - p) (cZ (t + 1) rs'))).set (f + p) (blank f c p)) f c (1 - p) (t + 1) rs' := fun e he hel hes ge hb => by
  have tf := hw e.safe hel ge
  have hov : ∀ j, (∀ k, k < ws.length -> (Ws.nth ws k).1 ≠ j) -> (over e.safe ws).getD j [] = e.safe.getD j [] := fun j hj => pu tf.sole j hj
  have hbl : (over e.safe ws).getD (f + (1 - p)) [] = blank f c (1 - p) := by rw [hov _ (fun k hk => by have := tf.at_ k hk; omega), hb]
  have tr := yI (d := { e with safe := over e.safe ws, pend := [] }) (rs' := rs') rfl tf.whole hbl ht hr tf.text
  refine ⟨zK he tf.sole (fun new h => ⟨h.len.trans hel, fun j hj => (h.stay j fun k hk => by have := tf.at_ k hk; omega).trans (hes j hj), Or.inl (tf.torn new h)⟩) ?_, tr.2⟩
  intro n hn cc
  exact May.of ((fe _ _ _).trans hel) (fun j hj => (hov j fun k hk => by have := tf.at_ k hk; omega).trans (hes j hj)) (tr.1 n hn cc)
 obtain ⟨a1, a2, a3⟩ := vG (old := d.safe) (i := f + (1 - p)) (x := blank f c (1 - p)) (by omega)
 have k2 := key { d with safe := d.safe.set (f + (1 - p)) (blank f c (1 - p)), pend := [] } rfl a1 (fun j hj => a2 j (by omega)) (Ea g) a3
 refine ⟨?_, k2.2⟩
 unfold eB dR
 by_cases e : d.safe.getD (f + (1 - p)) [] = blank f c (1 - p)
 ·rw [if_pos e, List.nil_append]
  exact (key d hd rfl (fun _ _ => rfl) g e).1
 ·rw [if_neg e, List.cons_append, List.cons_append, List.nil_append]
  refine pK hd (by omega) (aI _ _ _) (fun new h => ?_) k2.1
  obtain ⟨l1, l2, n, hn, l3⟩ := rf h
  exact qN (i := f + (1 - p)) (by omega) l1 l2 (Or.inl (g.turned l1 l2 (by rw [l3]; exact sV g.loose hn)))
end S
end Go.Proofs.YteealihknndclabGreatDoor
namespace Go.Proofs.YteealihknndclabGreatDoor
open Go.RowKit

namespace S
theorem xN (T x : List UInt8) (m : UInt8) (hT : T.length = 8) (hx : x.length <= 118) : ((splice (splice (zeros 128) 0 T) 9 x).set 8 m).set 127 m = T ++ (m :: (x ++ (zeros (118 - x.length) ++ [m]))) := by
 rw [dS, hT]
 have e1 : (T ++ zeros (128 - 8)).take 9 = T ++ [0] := by
  rw [List.take_append, List.take_of_length_le (by omega), hT]
  rfl
 have e2 : (T ++ zeros (128 - 8)).drop (9 + x.length) = zeros (118 - x.length) ++ [0] := by
  rw [List.drop_append, List.drop_eq_nil_of_le (by omega), hT, List.nil_append]
  have : zeros (118 - x.length) ++ [(0 : UInt8)] = zeros (118 - x.length + 1) := by simp [zeros, List.replicate_succ']
  rw [this]
  unfold zeros
  rw [List.drop_replicate, show 128 - 8 - (9 + x.length - 8) = 118 - x.length + 1 from by omega]
 unfold splice
 rw [e1, e2]
 have e3 : (T ++ [0] ++ (x ++ (zeros (118 - x.length) ++ [0]))).set 8 m = T ++ (m :: (x ++ (zeros (118 - x.length) ++ [0]))) := by
  rw [List.append_assoc, List.set_append_right _ _ (by omega), hT]
  rfl
 have e4 : T ++ (m :: (x ++ (zeros (118 - x.length) ++ [0]))) = (T ++ (m :: (x ++ zeros (118 - x.length)))) ++ [(0 : UInt8)] := by simp
 have hl : (T ++ (m :: (x ++ zeros (118 - x.length)))).length = 127 := by simp [zeros_length]; omega
 rw [e3, e4, List.set_append_right _ _ (by omega), hl]
 simp
end S
theorem wT {w2 : World} {g n : Nat} {Y bs : List UInt8} {t : TypeId} (h : Hid (w2.heap[g]? = some (.cells (splice (S.v8l Y) n (S.v8l bs)).toArray t (0, 0)))) : w2.heap[g]? = some (.cells (S.v8 (splice Y n bs)) t (0, 0)) := by
 have := h.out
 rw [S.mO] at this
 exact this
set_option maxHeartbeats 1600000 in
set_option maxRecDepth 10000 in
theorem rZ (p : Value) (f c k : Nat) (m : UInt8) (ao : Option Addr) (n cap : Nat) (x : List UInt8) (w : World) (hf : f <= 100000) (hc : c <= 100000) (hk : k <= 100000) (hx : x.length <= 118) (hv : SliceAt w (.slice ao n cap) x) :
  Calls Tryz.prog 180 #[arv p f c, .int .i64 (k : Int), .int .u8 (m.toNat : Int), .slice ao n cap] w fun e w' => ∃ g, e = .returned (.slice (some ⟨g, 0, none⟩) 128 128) /\ w.heap.size <= g /\ w'.heap[g]? = some (.cells (S.v8 (S.marked f c k m x)) 5 (0, 0)) /\ Below w.heap.size w w' := by
 obtain ⟨ax, ln, cx, hsh, hln, hmx, hsrc⟩ := hv.shape
 simp only [Value.slice.injEq] at hsh
 obtain ⟨rfl, rfl, rfl⟩ := hsh
 obtain ⟨w0, hw0, HA, HB, HZ⟩ := lL w p f c
 have hmk : ∀ w : World, (Instr.makeSlice 22 (.int .i64 128) (.int .i64 128)).run Tryz.prog w = .ok (.slice (some ⟨w.heap.size, 0, none⟩) 128 128) (w.alloc (.cells (S.v8 (S.zeros 128)) 5)) := fun w => di 128 (by omega) w
 obtain ⟨w1, hw1⟩ : ∃ w1, w1 = w0.alloc (.cells (S.v8 (S.zeros 128)) 5) := ⟨_, rfl⟩
 have b1 : Below w0.heap.size w0 w1 := by rw [hw1]; exact ba ..
 have HB1 : Hid (Below w.heap.size w w1) := HB.out.trans (b1.mono (by have := HZ.out; omega))
 have R1 : Hid (w1.heap[w0.heap.size]? = some (.cells (S.v8 (S.zeros 128)) 5 (0, 0))) := by rw [hw1]; exact heap_alloc_new _ _
 have Z1 : Hid (w1.heap.size = w0.heap.size + 1) := by show w1.heap.size = _; rw [hw1]; simp
 obtain ⟨a0, a1, a2⟩ := (HA.out.below b1 (by have := HZ.out; omega)).cells
 have HS : Hid (Src w ao x) := hsrc
 have HLN := hide hln
 obtain ⟨gb, hgb⟩ : ∃ gb, gb = w.heap.size + 1 := ⟨_, rfl⟩
 rw [HZ.out, <- hgb] at R1 Z1
 have HGB : Hid (gb = w.heap.size + 1) := hgb
 rw [hw1] at a0 a1 a2
 rw [hw0] at a0 a1 a2 hw1
 unfold arv
 clear hv hsrc hln b1
 go_enter Tryz.func180, Tryz.ntmps180
 go_wp2_with fail
 rw [<- hw1, <- hgb]
 clear hw1 hgb a0 a1 a2 hmk hw0
 refine (qJ p f c k w1 hf hc hk).mono ?_
 rintro e w2 ⟨gt, rfl, g2, r2, b2⟩
 have tl := S.aV f c k
 have R2 : Hid (w2.heap[gb]? = some (.cells (S.v8l (S.zeros 128)).toArray 5 (0, 0))) := (b2.block gb (by have := Z1.out; omega)).trans R1.out
 have HB2 : Hid (Below w.heap.size w w2) := HB1.out.trans (b2.mono HB1.out.size)
 have HST : Hid (Src w2 (some ⟨gt, 0, none⟩) (S.tag f c k)) := fun _ => ⟨gt, 0, rfl, aa r2, fun j hj => by rw [Nat.zero_add]; exact bL r2 j hj⟩
 obtain ⟨T, hT⟩ : ∃ T, T = S.tag f c k := ⟨_, rfl⟩
 rw [<- hT] at HST tl
 have HT : Hid (T = S.tag f c k) := hT
 have HTL := hide tl
 have HN1 : Hid ((S.v8l T).length = Nat.min 8 128) := by show (S.v8l T).length = Nat.min 8 128; rw [S.ae, tl]; rfl
 have HF1 : Hid (0 + (S.v8l T).length <= (S.v8l (S.zeros 128)).length) := by show 0 + (S.v8l T).length <= (S.v8l (S.zeros 128)).length; rw [S.ae, S.ae, S.zeros_length, tl]; omega
 have LG : Hid (w.heap.size <= gb) := by show w.heap.size <= gb; have := HGB.out; omega
 clear g2 r2 b2 hT R1 tl
 go_wp2_with (first | (
   refine wpList_copy_splice rfl (.tmp 11) (.tmp 14) 22 22 rfl 5 Tryz.underlying22 kP _ _ _ _ _ _ rfl rfl gb 0 (S.v8l (S.zeros 128)) 5 R2.out (S.v8l T) HN1.out (eZ gb HST.out (Below.refl _ _)) HF1.out (S.df _) w.heap.size w HB2.out LG.out ?_
   intro w3 HG2 hB2
   have HG3 := hide (jg HG2)
   clear HG2
   have B3 := hide hB2
   clear hB2
   have hs3 : Src w3 ao x := HS.out.below B3.out
   have HS3 := hide hs3
   have R3 : Hid (w3.heap[gb]? = some (.cells (S.v8l (splice (S.zeros 128) 0 T)).toArray 5 (0, 0))) := HG3.out
   obtain ⟨Y, hY⟩ : ∃ Y, Y = splice (S.zeros 128) 0 T := ⟨_, rfl⟩
   have hYl : Y.length = 128 := by rw [hY, dS, List.length_append, S.zeros_length, HTL.out]
   rw [<- hY] at R3
   have HY : Hid (Y = splice (S.zeros 128) 0 T) := hY
   have HN2 : Hid ((S.v8l x).length = Nat.min n 118) := by show (S.v8l x).length = min n 118; rw [S.ae]; have := HLN.out; omega
   have HF2 : Hid (9 + (S.v8l x).length <= (S.v8l Y).length) := by show 9 + (S.v8l x).length <= (S.v8l Y).length; rw [S.ae, S.ae, hYl]; omega
   have HCP : Hid (0 < (S.v8l x).length -> some (⟨gb, 9, none⟩ : Addr) = some ⟨gb, 9, none⟩ /\ ∃ ad, ao = some ad /\ ∀ j v, (S.v8l x)[j]? = some v -> w3.cell? (ad.add j) = some v) := fun hp => ⟨rfl, (eZ gb HS3.out (Below.refl _ _) hp).2⟩
   have HYL := hide hYl
   clear hs3 hY HG3 hYl R2 HST HN1 HF1) | (
   refine wpList_copy_splice rfl (.tmp 17) (.tmp 18) 22 22 rfl 5 Tryz.underlying22 kP _ _ _ _ _ _ rfl rfl gb 9 (S.v8l Y) 5 R3.out (S.v8l x) HN2.out HCP.out HF2.out (S.df _) w.heap.size w B3.out LG.out ?_
   intro w4 HG4 hB4
   have HG5 := hide (wT HG4)
   clear HG4
   have B4 := hide hB4
   clear hB4
   obtain ⟨X, hX⟩ : ∃ X, X = splice Y 9 x := ⟨_, rfl⟩
   rw [<- hX] at HG5
   have hXl : X.length = 128 := by rw [hX, splice, List.length_append, List.length_append, List.length_take, List.length_drop, HYL.out]; omega
   have c8 := bL HG5.out 8 (by omega)
   have f8 := frozen_of_row _ _ 8 _ _ HG5.out
   have s8 := jf HG5.out 8 m
   have c127 := bL s8 127 (by rw [List.length_set]; omega)
   have f127 := frozen_of_row _ _ 127 _ _ s8
   have S127 := hide (jf s8 127 m)
   have B6 := hide ((B4.out.setCell (p := ⟨gb, 8, none⟩) LG.out (.int .u8 (m.toNat : Int))).setCell (p := ⟨gb, 127, none⟩) LG.out (.int .u8 (m.toNat : Int)))
   have HX : Hid ((X.set 8 m).set 127 m = S.marked f c k m x) := by
    show (X.set 8 m).set 127 m = S.marked f c k m x
    rw [hX, HY.out, S.marked, <- HT.out]
    exact S.xN T x m HTL.out hx
   clear s8 hX hXl HG5 R3 HYL HF2 HN2 HCP))
 go_ret
 refine ⟨gb, rfl, LG.out, ?_, B6.out⟩
 rw [<- HX.out]
 exact S127.out
theorem pO (p : Value) (f c k : Nat) (w : World) (hf : f <= 100000) (hc : c <= 100000) (hk : k <= 100000) :
  Calls Tryz.prog 153 #[arv p f c, .int .i64 (k : Int)] w fun e w' => ∃ g, e = .returned (.slice (some ⟨g, 0, none⟩) 128 128) /\ w.heap.size <= g /\ w'.heap[g]? = some (.cells (S.v8 (S.blank f c k)) 5 (0, 0)) /\ Below w.heap.size w w' := by
 obtain ⟨w0, hw0, HA, HB, HZ⟩ := lL w p f c
 obtain ⟨a0, a1, a2⟩ := pQ w p f c
 unfold arv
 go_enter Tryz.func153, Tryz.ntmps153
 go_wp2_with fail
 rw [<- hw0]
 clear hw0 a0 a1 a2
 refine (rZ p f c k 15 none 0 0 [] w0 hf hc hk (by simp) (Or.inl ⟨rfl, rfl⟩)).mono ?_
 rintro e w1 ⟨g, rfl, g1, r1, b1⟩
 have R1 : Hid (w1.heap[g]? = some (.cells (S.v8 (S.blank f c k)) 5 (0, 0))) := r1
 have B1 : Hid (Below w.heap.size w w1) := HB.out.trans (b1.mono (by have := HZ.out; omega))
 have G1 : Hid (w.heap.size <= g) := by show _ <= g; have := HZ.out; omega
 clear g1 r1 b1
 go_wp2_with fail
 go_ret
 exact ⟨g, rfl, G1.out, R1.out, B1.out⟩
theorem pz (k : Nat) (w : World) (hk : k <= 1) :
  Calls Tryz.prog 176 #[.int .i64 (k : Int)] w fun e w' => e = .returned (.int .i64 ((1 - k : Nat) : Int)) /\ w = w' := by
 have q1 : (k : Int) <= 1 := by omega
 have q2 : (0 : Int) <= (k : Int) := by omega
 have E : Hid ((1 : Int) - (k : Int) = ((1 - k : Nat) : Int)) := by show _ = _; omega
 go_enter Tryz.func176, Tryz.ntmps176
 go_wp2_with fail
 go_ret
 exact ⟨by rw [<- E.out]; rfl, rfl⟩
theorem DJ (x : UInt8) (n : Nat) (hn : n < 256) : decide ((x.toNat : Int) = (n : Int)) = (x == UInt8.ofNat n) := by
 rw [Bool.eq_iff_iff]
 simp only [decide_eq_true_eq, beq_iff_eq]
 constructor
 ·intro h
  apply UInt8.toNat_inj.1
  rw [UInt8.toNat_ofNat']
  omega
 ·rintro rfl
  rw [UInt8.toNat_ofNat']
  omega
theorem su (x : UInt8) (w : World) :
  Calls Tryz.prog 200 #[.int .u8 (x.toNat : Int)] w fun e w' => e = .returned (.bool (S.fu x)) /\ w = w' := by
 have e1 := DJ x 15 (by omega)
 have e2 := DJ x 240 (by omega)
 by_cases h1 : (x.toNat : Int) = 15
 ·have E : Hid (S.fu x = true) := by
   show S.fu x = true
   rw [S.fu, <- show decide ((x.toNat : Int) = (15 : Nat)) = (x == 15) from e1, decide_eq_true (by omega)]
   rfl
  clear e1 e2
  go_enter Tryz.func200, Tryz.ntmps200
  go_wp2_with fail
  go_ret
  exact ⟨by rw [E.out]; rfl, rfl⟩
 ·by_cases h2 : (x.toNat : Int) = 240
  ·have E : Hid (S.fu x = true) := by
    show S.fu x = true
    rw [S.fu, <- show decide ((x.toNat : Int) = (240 : Nat)) = (x == 240) from e2, decide_eq_true (by omega)]
    simp
   clear e1 e2
   go_enter Tryz.func200, Tryz.ntmps200
   go_wp2_with fail
   go_ret
   exact ⟨by rw [E.out]; rfl, rfl⟩
  ·have E : Hid (S.fu x = false) := by
    show S.fu x = false
    rw [S.fu, <- show decide ((x.toNat : Int) = (15 : Nat)) = (x == 15) from e1, <- show decide ((x.toNat : Int) = (240 : Nat)) = (x == 240) from e2, decide_eq_false (by omega), decide_eq_false (by omega)]
    rfl
   clear e1 e2
   go_enter Tryz.func200, Tryz.ntmps200
   go_wp2_with fail
   go_ret
   have z1 : ((x.toNat : Int) == 15) = false := by simpa using h1
   have z2 : ((x.toNat : Int) == 240) = false := by simpa using h2
   refine ⟨?_, rfl⟩
   rw [E.out, <- show ((x.toNat : Int) == 15 || (x.toNat : Int) == 240) = false from by rw [z1, z2]; rfl]
   rfl
end Go.Proofs.YteealihknndclabGreatDoor
namespace Go.Proofs.YteealihknndclabGreatDoor
open Go.RowKit

namespace S
def hc (h : Hd) : List Value := .int .u64 (h.turn : Int) :: .int .i64 (h.used : Int) :: v8l h.sl
theorem aD {h : Hd} (o : h.sl.length = 32) : (hc h).length = 34 := by simp [hc, ae, o]
theorem FI (h : Hd) : (hc h).toArray.all (·.oneCell') = true := by
 refine all_oneCell_toArray fun v hv => ?_
 rcases List.mem_cons.1 hv with rfl | hv
 ·rfl
 ·rcases List.mem_cons.1 hv with rfl | hv
  ·rfl
  ·exact df h.sl v hv
end S
def hdv (h : S.Hd) : Value := .agg (S.hc h).toArray
def bQ (w : World) (b : Nat) (h : S.Hd) : Prop := w.heap[b]? = some (.cells (S.hc h).toArray 186 (0, 0))
theorem bQ.below {w W : World} {b B : Nat} {h : S.Hd} (a : bQ w b h) (hb : Below B w W) (hB : b < B) : bQ W b h := (hb.block b hB).trans a
theorem bQ.turn {w : World} {b : Nat} {h : S.Hd} (a : bQ w b h) : w.cell? ⟨b, 0, none⟩ = some (.int .u64 (h.turn : Int)) := by rw [cell_of_row w b 0 _ _ _ a]; rfl
theorem bQ.used {w : World} {b : Nat} {h : S.Hd} (a : bQ w b h) : w.cell? ⟨b, 1, none⟩ = some (.int .i64 (h.used : Int)) := by rw [cell_of_row w b 1 _ _ _ a]; rfl
theorem oV : (Tryz.prog.info? 184).map (·.size) = some 32 := by kernel_rfl
theorem jv : (Tryz.prog.info? 186).map (·.size) = some 34 := by kernel_rfl
theorem bQ.range {w : World} {b : Nat} {h : S.Hd} (a : bQ w b h) : w.rangeAt b 2 (S.v8l h.sl) := fun j v hv => by
 rw [cell_of_row w b _ _ _ _ a, Nat.add_comm]
 simpa [S.hc] using hv
theorem bQ.seal {w : World} {b : Nat} {h : S.Hd} (a : bQ w b h) (hl : h.sl.length = 32) : (Instr.loadAt 184 (.pointer (some ⟨b, 2, none⟩))).run Tryz.prog w = .ok (.agg (S.v8 h.sl)) w := by
 have := run_loadAt_mid (P := Tryz.prog) w b 2 184 _ _ a.range Tryz.underlying184 rfl (by rw [oV, S.ae, hl])
 rwa [<- S.jL] at this
theorem bQ.load {w : World} {b : Nat} {h : S.Hd} (a : bQ w b h) (hl : h.sl.length = 32) : (Instr.loadAt 186 (.pointer (some ⟨b, 0, none⟩))).run Tryz.prog w = .ok (hdv h) w :=
 run_loadAt_mid (P := Tryz.prog) w b 0 186 _ _ (aH a) Tryz.underlying186 rfl (by rw [jv, S.aD hl])
theorem bQ.loadVar {w : World} {b : Nat} {h : S.Hd} (a : bQ w b h) (hl : h.sl.length = 32) : (loadVar 186 ⟨b, 0, none⟩).run Tryz.prog w = .ok (hdv h) w :=
 run_loadVar_mid (P := Tryz.prog) w b 0 186 _ _ (aH a) Tryz.underlying186 rfl (by rw [jv, S.aD hl])
theorem Au : (Tryz.prog.info? 186).map (fun i => (i.size, i.bytes)) = some (34, 48) := by kernel_rfl
theorem zX : (Tryz.prog.info? 186).bind (·.zero) = some (.agg (S.hc S.Hd.none).toArray) := by kernel_rfl
theorem iZ (w : World) : (Instr.alloc 186 true (.tuple #[])).run Tryz.prog w = .ok (.pointer (some ⟨w.heap.size, 0, none⟩)) (w.alloc (.cells (S.hc S.Hd.none).toArray 186)) := by
 obtain ⟨i, hi, hz, _, _⟩ := bZ Au zX
 simp [Instr.alloc, zeroValue, typeInfo, hi, hz, newVar, newRow, Value.cells]
set_option maxRecDepth 100000 in
theorem wF (parts : List (Nat × Value)) : Tryz.prog.built 186 parts = Instr.fill ((#[(0, 1), (1, 1), (2, 32)] : Array (Nat × Nat))[·]?) (S.hc S.Hd.none).toArray parts := by
 obtain ⟨i, hi, hz, _, _⟩ := bZ Au zX
 unfold Program.built
 rw [hi, Tryz.underlying186]
 simp only [hz]
 rfl
theorem iI (w : World) : (Instr.build 186 #[]).run Tryz.prog w = .ok (hdv S.Hd.none) w :=
 run_build w 186 _ _ (by rw [wF]; rfl)
theorem Gj (t : Nat) (w : World) : (Instr.build 186 #[(0, .int .u64 (t : Int))]).run Tryz.prog w = .ok (hdv ⟨t, 0, S.zeros 32⟩) w :=
 run_build w 186 _ _ (by
  rw [wF]
  unfold Instr.fill
  simp only [show (#[(0, 1), (1, 1), (2, 32)] : Array (Nat × Nat))[0]? = some (0, 1) from rfl]
  rw [if_neg (by simp [Value.cells, S.hc])]
  unfold Instr.fill
  rfl)
theorem nU (pre old post : List Value) (v : Array Value) (off : Nat) (ho : off = pre.length) (h : old.length = v.size) : v.zipIdx.foldl (fun cs (x : Value × Nat) => cs.setIfInBounds (off + x.2) x.1) (pre ++ (old ++ post)).toArray = (pre ++ (v.toList ++ post)).toArray := by
 subst ho
 apply Array.ext_getElem?
 intro k
 rw [zu]
 simp only [List.size_toArray, List.length_append, List.getElem?_toArray]
 by_cases h1 : pre.length <= k
 ·by_cases h2 : k < pre.length + v.size
  ·rw [if_pos ⟨h1, h2, by omega⟩, List.getElem?_append_right h1, List.getElem?_append_left (by simp; omega)]
   simp
  ·rw [if_neg (by omega), List.getElem?_append_right h1, List.getElem?_append_right (by omega), List.getElem?_append_right h1, List.getElem?_append_right (by simp; omega), h]
   simp
 ·rw [if_neg (by omega), List.getElem?_append_left (by omega), List.getElem?_append_left (by omega)]
set_option maxRecDepth 100000 in
theorem build73 (h : S.Hd) (hl : h.sl.length = 32) (w : World) : (Instr.build 186 #[(0, .int .u64 (h.turn : Int)), (1, .int .i64 (h.used : Int)), (2, .agg (S.v8 h.sl))]).run Tryz.prog w = .ok (hdv h) w :=
 run_build w 186 _ _ (by
  have hz : (S.hc S.Hd.none).length = 34 := S.aD (S.zeros_length _)
  rw [wF]
  unfold Instr.fill
  simp only [show (#[(0, 1), (1, 1), (2, 32)] : Array (Nat × Nat))[0]? = some (0, 1) from rfl]
  rw [if_neg (by simp [Value.cells, hz])]
  unfold Instr.fill
  simp only [show (#[(0, 1), (1, 1), (2, 32)] : Array (Nat × Nat))[1]? = some (1, 1) from rfl]
  rw [if_neg (by simp [Value.cells, hz])]
  unfold Instr.fill
  simp only [show (#[(0, 1), (1, 1), (2, 32)] : Array (Nat × Nat))[2]? = some (2, 32) from rfl]
  rw [if_neg (by simp [Value.cells, hz, S.aU, hl])]
  unfold Instr.fill
  congr 1
  have c2 : (Value.agg (S.v8 h.sl)).cells = S.v8 h.sl := rfl
  rw [c2]
  have e := nU [.int .u64 (h.turn : Int), .int .i64 (h.used : Int)] (S.v8l (S.zeros 32)) [] (S.v8 h.sl) 2 rfl (by rw [S.ae, S.aU, S.zeros_length, hl])
  simp only [List.append_nil] at e
  rw [S.jL] at e ⊢
  exact e)
theorem dC {w : World} {g : Nat} {h0 h : S.Hd} (a : bQ w g h0) (l0 : h0.sl.length = 32) (l : h.sl.length = 32) :
  ∃ w', (Instr.storeAt 186 (.pointer (some ⟨g, 0, none⟩)) (hdv h)).run Tryz.prog w = .ok () w' /\ bQ w' g h /\ Chg (fun k => k = g) w w' := by
 have hr := run_storeVar_row (P := Tryz.prog) w g 186 186 _ (S.hc h).toArray a (by rw [jv, List.size_toArray, S.aD l]) (by rw [List.size_toArray, List.size_toArray, S.aD l0, S.aD l]) (S.FI _)
 refine ⟨w.setRow g (S.hc h).toArray, ?_, setRow_heap w g _ _ _ _ a, Chg.setRow (p := fun k => k = g) g _ rfl⟩
 unfold hdv
 simp only [Instr.storeAt, Instr.sureAddr, Sem.run_bind, Sem.run_pure, Result.andThen_ok, hr]
theorem store71 {w : World} {g : Nat} {h : S.Hd} {sl : List UInt8} (a : bQ w g h) (l0 : h.sl.length = 32) (l : sl.length = 32) :
  ∃ w', (Instr.storeAt 184 (.pointer (some ⟨g, 2, none⟩)) (.agg (S.v8 sl))).run Tryz.prog w = .ok () w' /\ bQ w' g { h with sl := sl } /\ Chg (fun k => k = g) w w' := by
 have hth : w.there g 2 (S.v8 sl).size := fun j hj => by
  rw [S.aU] at hj
  refine ⟨?_, frozen_of_row _ _ _ _ _ a⟩
  rw [cell_of_row w g _ _ _ _ a, Array.getElem?_eq_getElem (by rw [List.size_toArray, S.aD l0]; omega)]
  rfl
 have hr := run_storeAt_mid (P := Tryz.prog) w g 2 184 (S.v8 sl) hth (by rw [oV, S.aU, l]) (by rw [S.jL]; exact qX _)
 have he : (S.v8 sl).toList = S.v8l sl := by rw [S.jL]
 rw [he] at hr
 refine ⟨_, hr, ?_, Chg.setCells (p := fun k => k = g) g (fun _ => rfl) _ _ (Chg.refl _ _)⟩
 obtain ⟨c, h3, h4⟩ := iR (w := w) (S.v8l sl) 2 a
 rw [S.aU] at hth
 have r1 := World.rangeAt_setCells_same w g 2 (S.v8l sl) (by rw [S.ae]; exact hth)
 have r0 := World.rangeAt_setCells_apart (cs := [.int .u64 (h.turn : Int), .int .i64 (h.used : Int)]) (b' := g) (o' := 0) (fun j v hv => by
  rcases j with _ | _ | j
  ·rw [<- hv]; exact a.turn
  ·rw [<- hv]; exact a.used
  ·simp at hv) g 2 (S.v8l sl) (Or.inr (Or.inl (by simp)))
 show (w.setCells g 2 (S.v8l sl)).heap[g]? = _
 rw [h3]
 have hsz : c.size = 34 := by rw [h4, List.size_toArray, S.aD l0]
 have e : c = (S.hc { h with sl := sl }).toArray := by
  apply Array.ext'
  apply List.ext_getElem?
  intro j
  have hc : ∀ k, (w.setCells g 2 (S.v8l sl)).cell? ⟨g, k, none⟩ = c.toList[k]? := fun k => by rw [cell_of_row _ g k _ _ _ h3]; simp
  rw [<- hc]
  rcases j with _ | _ | j
  ·exact r0 0 _ rfl
  ·exact r0 1 _ rfl
  ·by_cases hj : j < 32
   ·have := vz sl j (by omega)
    show _ = (S.hc { h with sl := sl })[j + 1 + 1]?
    rw [S.hc, List.getElem?_cons_succ, List.getElem?_cons_succ, this]
    rw [show j + 1 + 1 = 2 + j from by omega]
    exact r1 j _ this
   ·rw [hc, List.getElem?_eq_none (by simp; omega), List.getElem?_eq_none (by simp [S.aD (h := { h with sl := sl }) l]; omega)]
 rw [e]
theorem bQ.setUsed {w : World} {g : Nat} {h : S.Hd} (a : bQ w g h) (u : Nat) : bQ (w.setCell ⟨g, 1, none⟩ (.int .i64 (u : Int))) g { h with used := u } := by
 unfold bQ
 rw [heap_setCell_same w g 1 _ _ _ a]
 congr 2
theorem aW {fn : Func} {p u : Tmp} {ty : TypeId} (h : fn.results = #[.cell p ty, .tmp u]) (tmps : Array Value) (w : World) (g : Nat) (v : Value)
  (hp : tmps.getD p undef = .pointer (some ⟨g, 0, none⟩)) (hl : (loadVar ty ⟨g, 0, none⟩).run Tryz.prog w = .ok v w) :
  (results fn tmps).run Tryz.prog w = .ok (.tuple #[v, tmps.getD u undef]) w := by
 have hp' : tmps[p]?.getD undef = .pointer (some ⟨g, 0, none⟩) := by simpa using hp
 simp [results, h, hp', asAddr, hl]
theorem ib {fn : Func} {p u v : Tmp} {ty : TypeId} (h : fn.results = #[.cell p ty, .tmp u, .tmp v]) (tmps : Array Value) (w : World) (g : Nat) (x : Value)
  (hp : tmps.getD p undef = .pointer (some ⟨g, 0, none⟩)) (hl : (loadVar ty ⟨g, 0, none⟩).run Tryz.prog w = .ok x w) :
  (results fn tmps).run Tryz.prog w = .ok (.tuple #[x, tmps.getD u undef, tmps.getD v undef]) w := by
 have hp' : tmps[p]?.getD undef = .pointer (some ⟨g, 0, none⟩) := by simpa using hp
 simp [results, h, hp', asAddr, hl]
theorem bi {fn : Func} {p : Tmp} {ty : TypeId} (h : fn.results = #[.cell p ty]) (tmps : Array Value) (w : World) (g : Nat) (x : Value)
  (hp : tmps.getD p undef = .pointer (some ⟨g, 0, none⟩)) (hl : (loadVar ty ⟨g, 0, none⟩).run Tryz.prog w = .ok x w) :
  (results fn tmps).run Tryz.prog w = .ok x w := by
 have hp' : tmps[p]?.getD undef = .pointer (some ⟨g, 0, none⟩) := by simpa using hp
 simp [results, h, hp', asAddr, hl]
theorem au {w : World} {ops : Array Oper} {rest : List Oper} {a : Act} {Q : Exit -> Act -> World -> Prop} (o : Oper) (h : wpList Tryz.prog ops Q (o :: rest) a w) : wpList Tryz.prog ops Q (o :: rest) a w := h
theorem aG {w : World} {ops : Array Oper} {rest : List Oper} {o : Oper} {a : Act} {Q : Exit -> Act -> World -> Prop} (hgd : o.guard = none) (t : TypeId) (parts : List (Nat × Operand)) (ho : o.op = .build t parts.toArray) (vals : List (Nat × Value)) (hv : (parts.map fun p => (p.1, a.eval p.2)) = vals) (v : Value)
  (hr : (Instr.build t vals.toArray).run Tryz.prog w = .ok v w) (h : wpList Tryz.prog ops Q rest (a.put o.dst v) w) : wpList Tryz.prog ops Q (o :: rest) a w := by
 subst hv
 exact je hgd t parts ho v hr h
theorem ai {w : World} {ops : Array Oper} {rest : List Oper} {o : Oper} {a : Act} {Q : Exit -> Act -> World -> Prop} (hgd : o.guard = none) (t : TypeId) (x y : Operand) (ho : o.op = .store t x y) (vx vy : Value) (hx : a.eval x = vx) (hy : a.eval y = vy) (w' : World)
  (hr : (Instr.storeAt t vx vy).run Tryz.prog w = .ok () w') (h : wpList Tryz.prog ops Q rest (a.put o.dst undef) w') : wpList Tryz.prog ops Q (o :: rest) a w := by
 subst hx hy
 exact fO hgd t x y ho w' hr h
theorem ay {w : World} {ops : Array Oper} {rest : List Oper} {o : Oper} {a : Act} {Q : Exit -> Act -> World -> Prop} (hgd : o.guard = none) (t : TypeId) (x : Operand) (ho : o.op = .load t x) (vx : Value) (hx : a.eval x = vx) (v : Value)
  (hr : (Instr.loadAt t vx).run Tryz.prog w = .ok v w) (h : wpList Tryz.prog ops Q rest (a.put o.dst v) w) : wpList Tryz.prog ops Q (o :: rest) a w := by
 subst hx
 exact gH hgd t x ho v hr h
structure Dsk (w : World) (o : Ow) (d : S.Dk) : Prop where
 dk : aZ w o d
 k : KAt w
 no : ¬ o.has 1
theorem Dsk.below {w W : World} {o : Ow} {d : S.Dk} (h : Dsk w o d) (hb : Below w.heap.size w W) : Dsk W o d := ⟨h.dk.below hb, h.k.below hb h.k.pos, h.no⟩
theorem KAt.chg {p : Nat -> Prop} {w W : World} (h : KAt w) (hc : Chg p w W) (hp : ¬ p 1) : KAt W := fun j hj => by
 rw [<- h j hj]
 exact World.cell?_of_block (hc.block 1 h.pos hp)
theorem Dsk.to {w W : World} {o o' : Ow} {d d' : S.Dk} (h : Dsk w o d) (h1 : aZ W o' d') (h2 : dK o w o' W) : Dsk W o' d' :=
 ⟨h1, h.k.chg h2.chg h.no, fun e => by rcases h2.own 1 e with e | e; exact h.no e; have := h.k.pos; omega⟩
theorem DT (w : World) (u v : Value) (xs ys : List UInt8) (h1 : SliceAt w u xs) (h2 : SliceAt w v ys) : pU (w.alloc (.cells #[u, v] 22)) w.heap.size [xs, ys] := by
 have hb : Below w.heap.size w (w.alloc (.cells #[u, v] 22)) := ba ..
 refine ⟨by simp, fun j hj => ?_⟩
 have hc := heap_alloc_new w (.cells #[u, v] 22)
 rcases j with _ | _ | j
 ·exact ⟨u, by rw [cell_of_row _ _ 0 _ _ _ hc]; rfl, h1.below hb (lr _)⟩
 ·exact ⟨v, by rw [cell_of_row _ _ 1 _ _ _ hc]; rfl, h2.below hb (lr _)⟩
 ·have : j + 1 + 1 < 2 := hj
  omega
theorem gW.below {w W : World} {g : Nat} {v : Value} {bs : List UInt8} (h : gW w g v bs) (hb : Below w.heap.size w W) : gW W g v bs := h.chg (p := fun _ => False) (Chg.ofBelow' hb) (fun e => e) (fun _ _ e => e)
theorem az {w : World} {g n : Nat} {xs : List UInt8} (h : w.heap[g]? = some (.cells (S.v8 xs) 5 (0, 0))) (hn : n = xs.length) (hl : xs.length <= 140737488355328) : SliceAt w (.slice (some ⟨g, 0, none⟩) n n) xs := by
 subst hn
 exact (uw (p := fun _ => False) h (fun e => e) hl).now
theorem wZ {w : World} {g n : Nat} {xs : List UInt8} (h : Room w g n xs) (hn : n = xs.length) : w.heap[g]? = some (.cells (S.v8 xs) 5 (0, 0)) := by
 obtain ⟨cur, h1, h2, h3, h4⟩ := h
 rw [h1]
 have e : cur = S.v8 xs := by
  apply Array.ext'
  rw [S.jL]
  rw [List.take_of_length_le (by rw [Array.length_toList]; omega)] at h4
  exact h4
 rw [e]
end Go.Proofs.YteealihknndclabGreatDoor
