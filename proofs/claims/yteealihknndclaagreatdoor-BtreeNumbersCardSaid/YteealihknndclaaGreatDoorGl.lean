/- A log in plain words: heads, sectors, what is met as whole, torn or alien; what a crash leaves of them. Nothing of the program. -/
/- A log's calls in plain words: what they write, and what a crash in their midst leaves. Nothing of the program. -/
import Derived.Test.YteealihknndclaaGreatDoorGk
import Derived.Test.YteealihknndclaaGreatDoorGe
namespace Go.Proofs.YteealihknndclaaGreatDoor
namespace S
structure Hd where
 turn : Nat
 used : Nat
 sl : List UInt8
deriving DecidableEq
def Hd.none : Hd := ⟨0, 0, zeros 32⟩
structure Hd.Ok (h : Hd) : Prop where
 turn : h.turn < 18446744073709551616
 used : h.used < 16777216
 sl : h.sl.length = 32
theorem Hd.none_ok : Hd.none.Ok := ⟨by decide, by decide, zeros_length _⟩
def marked (f c k : Nat) (m : UInt8) (x : List UInt8) : List UInt8 := tag f c k ++ (m :: (x ++ (zeros (118 - x.length) ++ [m])))
theorem marked_length (f c k : Nat) (m : UInt8) (x : List UInt8) (h : x.length ≤ 118) : (marked f c k m x).length = 128 := by
 simp [marked, tag_length, zeros_length]; omega
def blank (f c k : Nat) : List UInt8 := marked f c k 15 []
theorem blank_length (f c k : Nat) : (blank f c k).length = 128 := marked_length _ _ _ _ _ (by simp)
def ht (h : Hd) : List UInt8 := num h.turn 8 ++ (num h.used 3 ++ h.sl)
theorem ht_length {h : Hd} (o : h.Ok) : (ht h).length = 43 := by simp [ht, num_length, o.sl]
def htext (h : Hd) : List UInt8 := ht h ++ sum (ht h)
theorem htext_length {h : Hd} (o : h.Ok) : (htext h).length = 75 := by simp [htext, ht_length o, sum_length]
def headSec (f c k : Nat) (h : Hd) : List UInt8 := marked f c k 240 (htext h)
theorem headSec_length {f c k : Nat} {h : Hd} (o : h.Ok) : (headSec f c k h).length = 128 := marked_length _ _ _ _ _ (by rw [htext_length o]; omega)
theorem marked_tag (f c k : Nat) (m : UInt8) (x : List UInt8) : tag f c k <+: marked f c k m x := List.prefix_append _ _
theorem marked_first (f c k : Nat) (m : UInt8) (x : List UInt8) : (marked f c k m x).getD 8 0 = m := by
 unfold marked
 rw [List.getD_eq_getElem?_getD, List.getElem?_append_right (by rw [tag_length]; omega), tag_length]
 rfl
theorem marked_last (f c k : Nat) (m : UInt8) (x : List UInt8) (h : x.length ≤ 118) : (marked f c k m x).getD 127 0 = m := by
 have e : marked f c k m x = (tag f c k ++ (m :: (x ++ zeros (118 - x.length)))) ++ [m] := by simp [marked]
 have hl : (tag f c k ++ (m :: (x ++ zeros (118 - x.length)))).length = 127 := by simp [tag_length, zeros_length]; omega
 rw [e, List.getD_eq_getElem?_getD, List.getElem?_append_right (by omega), hl]
 rfl
def hdIn (s : List UInt8) : Hd := ⟨val ((s.drop 9).take 8), val ((s.drop 17).take 3), (s.drop 20).take 32⟩
theorem hdIn_ok (s : List UInt8) (h : s.length = 128) : (hdIn s).Ok := by
 refine ⟨?_, ?_, by simp [hdIn, h]⟩
 ·have h1 := val_lt ((s.drop 9).take 8)
  have h2 : ((s.drop 9).take 8).length = 8 := by simp [h]
  rw [h2] at h1
  exact h1
 ·have h1 := val_lt ((s.drop 17).take 3)
  have h2 : ((s.drop 17).take 3).length = 3 := by simp [h]
  rw [h2] at h1
  exact h1
theorem hdIn_head {f c k : Nat} {h : Hd} (o : h.Ok) : hdIn (headSec f c k h) = h := by
 have e9 : (headSec f c k h).drop 9 = num h.turn 8 ++ (num h.used 3 ++ (h.sl ++ (sum (ht h) ++ (zeros 43 ++ [240])))) := by
  have hl := htext_length o
  unfold headSec marked
  rw [show (9 : Nat) = (tag f c k).length + 1 from by rw [tag_length], List.drop_length_add_append, List.drop_succ_cons, List.drop_zero, hl]
  simp [htext, ht]
 have e17 : (headSec f c k h).drop 17 = num h.used 3 ++ (h.sl ++ (sum (ht h) ++ (zeros 43 ++ [240]))) := by
  rw [show (17 : Nat) = 9 + 8 from rfl, ← List.drop_drop, e9]
  exact List.drop_left' (num_length _ _)
 have e20 : (headSec f c k h).drop 20 = h.sl ++ (sum (ht h) ++ (zeros 43 ++ [240])) := by
  rw [show (20 : Nat) = 17 + 3 from rfl, ← List.drop_drop, e17]
  exact List.drop_left' (num_length _ _)
 unfold hdIn
 rw [e9, e17, e20]
 have t8 : (num h.turn 8 ++ (num h.used 3 ++ (h.sl ++ (sum (ht h) ++ (zeros 43 ++ [240]))))).take 8 = num h.turn 8 := List.take_left' (num_length _ _)
 have t3 : (num h.used 3 ++ (h.sl ++ (sum (ht h) ++ (zeros 43 ++ [240])))).take 3 = num h.used 3 := List.take_left' (num_length _ _)
 have t32 : (h.sl ++ (sum (ht h) ++ (zeros 43 ++ [240]))).take 32 = h.sl := List.take_left' o.sl
 rw [t8, t3, t32, val_num, val_num, Nat.mod_eq_of_lt o.turn, Nat.mod_eq_of_lt o.used]
def isMark (b : UInt8) : Bool := b == 15 || b == 240
def sight (f c k : Nat) (s : List UInt8) : Nat :=
 if tag f c k <+: s ∧ isMark (s.getD 8 0) = true ∧ isMark (s.getD 127 0) = true then (if s.getD 8 0 = 15 ∨ s.getD 127 0 = 15 then 1 else if s = headSec f c k (hdIn s) then 2 else 0) else 0
def hdAt (f c k : Nat) (s : List UInt8) : Hd := if sight f c k s = 2 then hdIn s else Hd.none
theorem hdAt_ok (f c k : Nat) (s : List UInt8) (h : s.length = 128) : (hdAt f c k s).Ok := by
 unfold hdAt; split
 ·exact hdIn_ok s h
 ·exact Hd.none_ok
def holds (h : Hd) (m : Nat) (b : Hd) (mb : Nat) : Bool := decide (m = 2) && (decide (mb = 1) || (decide (mb = 2) && decide ((b.turn + 1) % 18446744073709551616 = h.turn)))
def cur (f c : Nat) (s0 s1 : List UInt8) : Option (Hd × Nat) :=
 if holds (hdAt f c 1 s1) (sight f c 1 s1) (hdAt f c 0 s0) (sight f c 0 s0) = true then some (hdAt f c 1 s1, 1)
 else if holds (hdAt f c 0 s0) (sight f c 0 s0) (hdAt f c 1 s1) (sight f c 1 s1) = true then some (hdAt f c 0 s0, 0) else .none
theorem sight_head {f c k : Nat} {h : Hd} (o : h.Ok) : sight f c k (headSec f c k h) = 2 := by
 unfold sight
 have h8 : (headSec f c k h).getD 8 0 = 240 := marked_first _ _ _ _ _
 have h127 : (headSec f c k h).getD 127 0 = 240 := marked_last _ _ _ _ _ (by rw [htext_length o]; omega)
 rw [h8, h127, hdIn_head o, if_pos ⟨marked_tag _ _ _ _ _, by decide, by decide⟩, if_neg (by decide), if_pos rfl]
theorem hdAt_head {f c k : Nat} {h : Hd} (o : h.Ok) : hdAt f c k (headSec f c k h) = h := by rw [hdAt, if_pos (sight_head o), hdIn_head o]
structure Loose (f c q t : Nat) (s : List UInt8) : Prop where
 len : s.length = 128
 tag : tag f c q <+: s
 first : isMark (s.getD 8 0) = true
 last : isMark (s.getD 127 0) = true
 torn : s.getD 8 0 = 15 ∨ s.getD 127 0 = 15 ∨ ∃ h : Hd, h.Ok ∧ h.turn + 1 = t ∧ s = headSec f c q h
theorem blank_first (f c k : Nat) : (blank f c k).getD 8 0 = 15 := marked_first _ _ _ _ _
theorem blank_last (f c k : Nat) : (blank f c k).getD 127 0 = 15 := marked_last _ _ _ _ _ (by simp)
theorem blank_loose (f c q t : Nat) : Loose f c q t (blank f c q) :=
 ⟨blank_length _ _ _, marked_tag _ _ _ _ _, by rw [blank_first]; decide, by rw [blank_last]; decide, Or.inl (blank_first _ _ _)⟩
theorem head_loose {f c q t : Nat} {h : Hd} (o : h.Ok) (e : h.turn + 1 = t) : Loose f c q t (headSec f c q h) :=
 ⟨headSec_length o, marked_tag _ _ _ _ _, by rw [headSec, marked_first]; decide, by rw [headSec, marked_last _ _ _ _ _ (by rw [htext_length o]; omega)]; decide, Or.inr (Or.inr ⟨h, o, e, rfl⟩)⟩
theorem Loose.met {f c q t : Nat} {s : List UInt8} (l : Loose f c q t s) : sight f c q s = 1 ∨ (sight f c q s = 2 ∧ (hdAt f c q s).turn + 1 = t) := by
 rcases l.torn with h | h | ⟨h, o, e, rfl⟩
 ·left; unfold sight; rw [if_pos ⟨l.tag, l.first, l.last⟩, if_pos (Or.inl h)]
 ·left; unfold sight; rw [if_pos ⟨l.tag, l.first, l.last⟩, if_pos (Or.inr h)]
 ·right; rw [sight_head o, hdAt_head o]; exact ⟨rfl, e⟩
theorem cur_front {f c : Nat} {h : Hd} {s : List UInt8} (o : h.Ok) (l : Loose f c 1 h.turn s) : cur f c (headSec f c 0 h) s = some (h, 0) := by
 unfold cur
 rw [sight_head o, hdAt_head o]
 have ht := o.turn
 rcases l.met with m | ⟨m, e⟩
 ·rw [m, if_neg (by simp [holds]), if_pos (by simp [holds])]
 ·rw [m, if_neg (by simp [holds]; omega), if_pos (by simp [holds, e]; omega)]
theorem cur_back {f c : Nat} {h : Hd} {s : List UInt8} (o : h.Ok) (l : Loose f c 0 h.turn s) : cur f c s (headSec f c 1 h) = some (h, 1) := by
 unfold cur
 rw [sight_head o, hdAt_head o]
 have ht := o.turn
 rcases l.met with m | ⟨m, e⟩
 ·rw [m, if_pos (by simp [holds])]
 ·rw [m, if_pos (by simp [holds, e]; omega)]
theorem mix_tag {n : Nat} {g a b : List UInt8} (ha : g <+: a) (hb : g <+: b) : g <+: mix n a b := by
 obtain ⟨x, rfl⟩ := ha
 obtain ⟨y, rfl⟩ := hb
 unfold mix
 by_cases h : n ≤ g.length
 ·rw [List.take_append_of_le_length h, List.drop_append_of_le_length h, ← List.append_assoc, List.take_append_drop]
  exact List.prefix_append _ _
 ·rw [List.take_append, List.take_of_length_le (by omega), List.append_assoc]
  exact List.prefix_append _ _
theorem mix_short {n : Nat} {g a b : List UInt8} (ha : g <+: a) (hb : g <+: b) (h : n ≤ g.length) : mix n a b = b := by
 obtain ⟨x, rfl⟩ := ha
 obtain ⟨y, rfl⟩ := hb
 unfold mix
 rw [List.take_append_of_le_length h, List.drop_append_of_le_length h, ← List.append_assoc, List.take_append_drop]
theorem blank_over {f c q t n : Nat} {s : List UInt8} (l : Loose f c q t s) (hn : n ≤ 128) : Loose f c q t (mix n (blank f c q) s) := by
 by_cases h : n ≤ 8
 ·rw [blank, mix_short (marked_tag _ _ _ _ _) l.tag (by rw [tag_length]; exact h)]
  exact l
 ·have e8 : (mix n (blank f c q) s).getD 8 0 = 15 := by rw [mix_at _ _ _ _ (by rw [blank_length]; exact hn), if_pos (by omega), blank_first]
  refine ⟨by rw [mix_length _ _ _ (by rw [blank_length]; exact hn) (by rw [blank_length, l.len]), l.len], mix_tag (marked_tag _ _ _ _ _) l.tag, by rw [e8]; decide, ?_, Or.inl e8⟩
  rw [mix_at _ _ _ _ (by rw [blank_length]; exact hn)]
  split
  ·rw [blank_last]; decide
  ·exact l.last
theorem head_over {f c q t n : Nat} {h : Hd} (o : h.Ok) (hn : n < 128) : Loose f c q t (mix n (headSec f c q h) (blank f c q)) := by
 have hl : n ≤ (headSec f c q h).length := by rw [headSec_length o]; omega
 have e127 : (mix n (headSec f c q h) (blank f c q)).getD 127 0 = 15 := by rw [mix_at _ _ _ _ hl, if_neg (by omega), blank_last]
 refine ⟨by rw [mix_length _ _ _ hl (by rw [headSec_length o, blank_length]), blank_length], mix_tag (marked_tag _ _ _ _ _) (marked_tag _ _ _ _ _), ?_, by rw [e127]; decide, Or.inr (Or.inl e127)⟩
 rw [mix_at _ _ _ _ hl]
 split
 ·rw [headSec, marked_first]; decide
 ·rw [blank_first]; decide
def Owned (f c k : Nat) (s : List UInt8) : Prop := s.length = 128 ∧ (tag f c k <+: s ∨ ∃ m, m ≤ 8 ∧ s = (tag f c k).take m ++ zeros (128 - m))
theorem trimTo_of (xs : List UInt8) (m n : Nat) (h : ∀ i, m ≤ i → i < n → xs.getD i 0 = 0) (hm : m ≤ n) : trimTo xs n ≤ m := by
 induction n with
 | zero => exact Nat.zero_le _
 | succ n ih =>
  rw [trimTo]
  by_cases e : m ≤ n
  ·rw [if_pos (h n e (by omega))]
   exact ih (fun i h1 h2 => h i h1 (by omega)) e
  ·have := trimTo_le xs n
   split <;> omega
theorem zeros_at (n j : Nat) : (zeros n).getD j 0 = 0 := by
 rw [List.getD_eq_getElem?_getD, zeros]
 by_cases h : j < n
 ·simp [h]
 ·simp [h]
theorem app_at (a b : List UInt8) (j : Nat) : (a ++ b).getD j 0 = if j < a.length then a.getD j 0 else b.getD (j - a.length) 0 := by
 simp only [List.getD_eq_getElem?_getD]
 by_cases h : j < a.length
 ·rw [if_pos h, List.getElem?_append_left h]
 ·rw [if_neg h, List.getElem?_append_right (by omega)]
theorem Owned.asks {f c k : Nat} {s : List UInt8} (h : Owned f c k s) : tag f c k <+: s ∨ s.take (trimTo s s.length) <+: tag f c k := by
 rcases h.2 with h2 | ⟨m, hm, e⟩
 ·exact Or.inl h2
 ·right
  have hl : ((tag f c k).take m).length = m := by rw [List.length_take, tag_length]; omega
  have ht : trimTo s s.length ≤ m := by
   refine trimTo_of _ _ _ (fun i h1 h2 => ?_) (by rw [h.1]; omega)
   rw [e, app_at, if_neg (by omega), zeros_at]
  rw [e, List.take_append_of_le_length (by rw [hl, ← e]; exact ht), List.take_take]
  exact List.take_prefix _ _
theorem Owned.over {f c k n : Nat} {a s : List UInt8} (h : Owned f c k s) (ha : a.length = 128) (hg : tag f c k <+: a) (hn : n ≤ 128) : Owned f c k (mix n a s) := by
 refine ⟨by rw [mix_length _ _ _ (by omega) (by rw [ha, h.1]), h.1], ?_⟩
 rcases h.2 with h2 | ⟨m, hm, e⟩
 ·exact Or.inl (mix_tag hg h2)
 ·obtain ⟨x, rfl⟩ := hg
  by_cases h8 : 8 ≤ n
  ·left
   unfold mix
   rw [List.take_append, List.take_of_length_le (by rw [tag_length]; exact h8), List.append_assoc]
   exact List.prefix_append _ _
  ·right
   have hl : ((tag f c k).take m).length = m := by rw [List.length_take, tag_length]; omega
   refine ⟨max n m, by omega, ?_⟩
   unfold mix
   rw [List.take_append_of_le_length (by rw [tag_length]; omega), e]
   by_cases hnm : n ≤ m
   ·rw [List.drop_append_of_le_length (by omega), show max n m = m from by omega, ← List.append_assoc]
    congr 1
    have : (tag f c k).take n = ((tag f c k).take m).take n := by rw [List.take_take]; congr 1; omega
    rw [this, List.take_append_drop]
   ·rw [List.drop_append, List.drop_eq_nil_of_le (by omega), hl, List.nil_append, show max n m = n from by omega]
    congr 1
    simp [zeros]
    omega
def enc (rs : List (List UInt8)) : List UInt8 := rs.flatMap fun r => lenOf r.length ++ r
def sealOf (rs : List (List UInt8)) : List UInt8 := rs.foldl (fun a r => sum (a ++ r)) (zeros 32)
theorem enc_snoc (rs : List (List UInt8)) (b : List UInt8) : enc (rs ++ [b]) = enc rs ++ (lenOf b.length ++ b) := by simp [enc]
theorem enc_snoc_length (rs : List (List UInt8)) (b : List UInt8) : (enc (rs ++ [b])).length = (enc rs).length + (3 + b.length) := by rw [enc_snoc]; simp [lenOf_length]
theorem seal_snoc (rs : List (List UInt8)) (b : List UInt8) : sealOf (rs ++ [b]) = sum (sealOf rs ++ b) := by simp [sealOf]
theorem seal_length (rs : List (List UInt8)) : (sealOf rs).length = 32 := by
 rcases List.eq_nil_or_concat rs with rfl | ⟨l, b, rfl⟩
 ·exact zeros_length _
 ·rw [List.concat_eq_append, seal_snoc, sum_length]
def hdOf (t : Nat) (rs : List (List UInt8)) : Hd := ⟨t, (enc rs).length, sealOf rs⟩
def TextAt (ss : List (List UInt8)) (f : Nat) (x : List UInt8) : Prop := ∀ j, j < x.length → (ss.getD (f + (2 + j / 120)) []).getD (8 + j % 120) 0 = x.getD j 0
structure Good (ss : List (List UInt8)) (f c p t : Nat) (rs : List (List UInt8)) : Prop where
 few : f + c ≤ ss.length
 four : 4 ≤ c
 most : c ≤ 8192
 place : p ≤ 1
 turn : t < 18446744073709551616
 room : (enc rs).length ≤ room c
 head : ss.getD (f + p) [] = headSec f c p (hdOf t rs)
 loose : Loose f c (1 - p) t (ss.getD (f + (1 - p)) [])
 own : ∀ k, 2 ≤ k → k < c → Owned f c k (ss.getD (f + k) [])
 text : TextAt ss f (enc rs)
theorem room_le {c : Nat} (h : c ≤ 8192) : room c ≤ 982800 := by unfold room; omega
theorem Good.hd {ss : List (List UInt8)} {f c p t : Nat} {rs : List (List UInt8)} (g : Good ss f c p t rs) : (hdOf t rs).Ok :=
 ⟨g.turn, by have := room_le g.most; have := g.room; show (enc rs).length < _; omega, seal_length _⟩
theorem Good.cur {ss : List (List UInt8)} {f c p t : Nat} {rs : List (List UInt8)} (g : Good ss f c p t rs) : cur f c (ss.getD (f + 0) []) (ss.getD (f + 1) []) = some (hdOf t rs, p) := by
 have hh := g.head
 have hl := g.loose
 rcases Nat.le_one_iff_eq_zero_or_eq_one.1 g.place with rfl | rfl
 ·rw [hh]; exact cur_front g.hd hl
 ·rw [hh]; exact cur_back g.hd hl
theorem Good.turned {ss ss' : List (List UInt8)} {f c p t : Nat} {rs : List (List UInt8)} (g : Good ss f c p t rs) (hl : ss'.length = ss.length) (hs : ∀ j, j ≠ f + (1 - p) → ss'.getD j [] = ss.getD j []) (l : Loose f c (1 - p) t (ss'.getD (f + (1 - p)) [])) : Good ss' f c p t rs := by
 have hp := g.place
 refine ⟨by rw [hl]; exact g.few, g.four, g.most, g.place, g.turn, g.room, by rw [hs _ (by omega)]; exact g.head, l, fun k h1 h2 => by rw [hs _ (by omega)]; exact g.own k h1 h2, fun j hj => ?_⟩
 rw [hs _ (by omega)]
 exact g.text j hj
theorem Good.switch {ss ss' : List (List UInt8)} {f c p t : Nat} {rs rs' : List (List UInt8)} (g : Good ss f c p t rs) (hl : ss'.length = ss.length) (hs : ∀ j, j ≠ f + (1 - p) → ss'.getD j [] = ss.getD j []) (ht : t + 1 < 18446744073709551616) (hr : (enc rs').length ≤ S.room c) (hx : TextAt ss f (enc rs')) (hh : ss'.getD (f + (1 - p)) [] = headSec f c (1 - p) (hdOf (t + 1) rs')) : Good ss' f c (1 - p) (t + 1) rs' := by
 have hp := g.place
 have e : 1 - (1 - p) = p := by omega
 refine ⟨by rw [hl]; exact g.few, g.four, g.most, by omega, ht, hr, hh, ?_, fun k h1 h2 => by rw [hs _ (by omega)]; exact g.own k h1 h2, fun j hj => ?_⟩
 ·rw [e, hs _ (by omega), g.head]
  exact head_loose g.hd rfl
 ·rw [hs _ (by omega)]
  exact hx j hj
structure May (old : List (List UInt8)) (f c p t : Nat) (rs rs' : List (List UInt8)) (new : List (List UInt8)) : Prop where
 len : new.length = old.length
 stay : ∀ j, j < f ∨ f + c ≤ j → new.getD j [] = old.getD j []
 log : Good new f c p t rs ∨ Good new f c (1 - p) (t + 1) rs'
def Fated (d : Dk) (l : List Act) (P : List (List UInt8) → Prop) : Prop := ∀ n, n ≤ l.length → ∀ c, P ((d.acts (l.take n)).crash c).safe
theorem fated_nil {d : Dk} {P : List (List UInt8) → Prop} (hd : d.pend = []) (h : P d.safe) : Fated d [] P := fun n _ c => by
 rw [List.take_nil, Dk.acts_nil, Dk.crash_flushed _ hd]
 exact h
theorem fated_stage {d : Dk} {ws : Ws} {l : List Act} {P : List (List UInt8) → Prop} (hd : d.pend = []) (hs : Ws.Sole ws d.safe.length) (h1 : ∀ new, Torn d.safe ws new → P new) (h2 : Fated { d with safe := over d.safe ws, pend := [] } l P) : Fated d (ws.acts ++ .flush :: l) P := fun n hn c => by
 rcases d.fate hd ws hs l n hn c with h | ⟨m, hm, h⟩
 ·exact h1 _ h
 ·rw [h]
  exact h2 m hm c
theorem sole_one {i n : Nat} {x : List UInt8} (hi : i < n) (hx : x.length = 128) : Ws.Sole [(i, x)] n :=
 ⟨fun k hk => by
  obtain rfl : k = 0 := by simpa using hk
  exact ⟨hi, hx⟩, fun k m hk hm _ => by simp at hk hm; omega⟩
theorem torn_one {old new : List (List UInt8)} {i : Nat} {x : List UInt8} (h : Torn old [(i, x)] new) : new.length = old.length ∧ (∀ j, j ≠ i → new.getD j [] = old.getD j []) ∧ ∃ n, n ≤ 128 ∧ new.getD i [] = mix n x (old.getD i []) :=
 ⟨h.len, fun j hj => h.stay j (fun k hk => by
  obtain rfl : k = 0 := by simpa using hk
  exact fun e => hj e.symm), h.part 0 (by simp)⟩
theorem set_at {old : List (List UInt8)} {i : Nat} {x : List UInt8} (hi : i < old.length) : (old.set i x).length = old.length ∧ (∀ j, j ≠ i → (old.set i x).getD j [] = old.getD j []) ∧ (old.set i x).getD i [] = x :=
 ⟨by simp, fun j hj => by rw [getD_set _ _ _ _ _ hi, if_neg (fun e => hj e.symm)], by rw [getD_set _ _ _ _ _ hi, if_pos rfl]⟩
end S
end Go.Proofs.YteealihknndclaaGreatDoor
namespace Go.Proofs.YteealihknndclaaGreatDoor
namespace S
def secOf (f c k : Nat) (x : List UInt8) (a : Nat) : List UInt8 := tag f c k ++ ((x.drop a).take 120 ++ zeros (120 - ((x.drop a).take 120).length))
theorem secOf_length (f c k : Nat) (x : List UInt8) (a : Nat) : (secOf f c k x a).length = 128 := by
 simp [secOf, tag_length, zeros_length]; omega
theorem secOf_tag (f c k : Nat) (x : List UInt8) (a : Nat) : tag f c k <+: secOf f c k x a := List.prefix_append _ _
theorem secOf_at (f c k : Nat) (x : List UInt8) (a r : Nat) (hr : r < 120) (h : a + r < x.length) : (secOf f c k x a).getD (8 + r) 0 = x.getD (a + r) 0 := by
 unfold secOf
 have hl : ((x.drop a).take 120).length = min 120 (x.length - a) := by simp
 rw [app_at, if_neg (by rw [tag_length]; omega), tag_length, app_at, if_pos (by omega)]
 simp only [List.getD_eq_getElem?_getD]
 rw [List.getElem?_take, if_pos (by omega), List.getElem?_drop]
 congr 2
 omega
def textWs (f c : Nat) (x : List UInt8) (s m : Nat) : Ws := (List.range m).map fun i => (f + (2 + (s + i)), secOf f c (2 + (s + i)) x ((s + i) * 120))
theorem textWs_length (f c : Nat) (x : List UInt8) (s m : Nat) : (textWs f c x s m).length = m := by simp [textWs]
theorem textWs_nth (f c : Nat) (x : List UInt8) (s m i : Nat) (h : i < m) : Ws.nth (textWs f c x s m) i = (f + (2 + (s + i)), secOf f c (2 + (s + i)) x ((s + i) * 120)) := by
 simp [Ws.nth, textWs, List.getD_eq_getElem?_getD, h]
theorem textWs_succ (f c : Nat) (x : List UInt8) (s m : Nat) : textWs f c x s (m + 1) = textWs f c x s m ++ [(f + (2 + (s + m)), secOf f c (2 + (s + m)) x ((s + m) * 120))] := by
 simp [textWs, List.range_succ]
structure TextFor (f c p t : Nat) (rs rs' : List (List UInt8)) (ws : Ws) (ss : List (List UInt8)) : Prop where
 sole : Ws.Sole ws ss.length
 torn : ∀ new, Torn ss ws new → Good new f c p t rs
 whole : Good (over ss ws) f c p t rs
 text : TextAt (over ss ws) f (enc rs')
 at_ : ∀ k, k < ws.length → f + 2 ≤ (Ws.nth ws k).1 ∧ (Ws.nth ws k).1 < f + c
theorem good_text {ss new : List (List UInt8)} {f c p t : Nat} {rs : List (List UInt8)} (g : Good ss f c p t rs) (s m : Nat) (hl : new.length = ss.length) (hs : ∀ j, (∀ i, i < m → f + (2 + (s + i)) ≠ j) → new.getD j [] = ss.getD j [])
  (hp : ∀ i, i < m → Owned f c (2 + (s + i)) (new.getD (f + (2 + (s + i))) []) ∧ ∀ r, r < 120 → (s + i) * 120 + r < (enc rs).length → (new.getD (f + (2 + (s + i))) []).getD (8 + r) 0 = (enc rs).getD ((s + i) * 120 + r) 0) : Good new f c p t rs := by
 have hpl := g.place
 refine ⟨by rw [hl]; exact g.few, g.four, g.most, g.place, g.turn, g.room, by rw [hs _ (by omega)]; exact g.head, by rw [hs _ (by omega)]; exact g.loose, fun k h1 h2 => ?_, fun j hj => ?_⟩
 ·by_cases e : ∃ i, i < m ∧ k = 2 + (s + i)
  ·obtain ⟨i, hi, rfl⟩ := e
   exact (hp i hi).1
  ·rw [hs _ (fun i hi he => e ⟨i, hi, by omega⟩)]
   exact g.own k h1 h2
 ·by_cases e : ∃ i, i < m ∧ j / 120 = s + i
  ·obtain ⟨i, hi, e⟩ := e
   have := (hp i hi).2 (j % 120) (Nat.mod_lt _ (by omega)) (by omega)
   rw [e, this]
   congr 1
   omega
  ·rw [hs _ (fun i hi he => e ⟨i, hi, by omega⟩)]
   exact g.text j hj
theorem textFor {ss : List (List UInt8)} {f c p t : Nat} {rs : List (List UInt8)} {y : List UInt8} {rs' : List (List UInt8)} (g : Good ss f c p t rs) (hx : enc rs' = enc rs ++ y) (hr : (enc rs').length ≤ room c) (s m : Nat) (hs : s = (enc rs).length / 120) (hm : s + m = ((enc rs').length + 119) / 120) : TextFor f c p t rs rs' (textWs f c (enc rs') s m) ss := by
 have hroom : room c = (c - 2) * 120 := rfl
 have hfew := g.few
 have hfour := g.four
 have hle : (enc rs).length ≤ (enc rs').length := by rw [hx, List.length_append]; omega
 have hc : ∀ i, i < m → 2 + (s + i) < c := fun i hi => by omega
 have so : Ws.Sole (textWs f c (enc rs') s m) ss.length := by
  refine ⟨fun k hk => ?_, fun k n hk hn he => ?_⟩
  ·rw [textWs_length] at hk
   rw [textWs_nth _ _ _ _ _ _ hk]
   exact ⟨by have := hc k hk; show f + (2 + (s + k)) < _; omega, secOf_length _ _ _ _ _⟩
  ·rw [textWs_length] at hk hn
   rw [textWs_nth _ _ _ _ _ _ hk, textWs_nth _ _ _ _ _ _ hn] at he
   have he' : f + (2 + (s + k)) = f + (2 + (s + n)) := he
   omega
 have byte : ∀ i, i < m → ∀ r, r < 120 → (s + i) * 120 + r < (enc rs).length → (secOf f c (2 + (s + i)) (enc rs') ((s + i) * 120)).getD (8 + r) 0 = (enc rs).getD ((s + i) * 120 + r) 0 := fun i hi r hr h => by
  rw [secOf_at _ _ _ _ _ _ hr (by omega), hx, app_at, if_pos h]
 refine ⟨so, fun new h => ?_, ?_, fun j hj => ?_, fun k hk => ?_⟩
 ·refine good_text g s m h.len (fun j hj => h.stay j fun k hk => ?_) fun i hi => ?_
  ·rw [textWs_length] at hk
   rw [textWs_nth _ _ _ _ _ _ hk]
   exact hj k hk
  ·obtain ⟨n, hn, e⟩ := h.part i (by rw [textWs_length]; exact hi)
   rw [textWs_nth _ _ _ _ _ _ hi] at e
   have e' : new.getD (f + (2 + (s + i))) [] = mix n (secOf f c (2 + (s + i)) (enc rs') ((s + i) * 120)) (ss.getD (f + (2 + (s + i))) []) := e
   rw [e']
   refine ⟨(g.own _ (by omega) (hc i hi)).over (secOf_length _ _ _ _ _) (secOf_tag _ _ _ _ _) hn, fun r hr h => ?_⟩
   rw [mix_at _ _ _ _ (by rw [secOf_length]; exact hn)]
   split
   ·exact byte i hi r hr h
   ·have := g.text ((s + i) * 120 + r) h
    rw [show ((s + i) * 120 + r) / 120 = s + i from by omega, show ((s + i) * 120 + r) % 120 = r from by omega] at this
    exact this
 ·refine good_text g s m (overTo_length _ _ _) (fun j hj => over_stay so j fun k hk => ?_) fun i hi => ?_
  ·rw [textWs_length] at hk
   rw [textWs_nth _ _ _ _ _ _ hk]
   exact hj k hk
  ·have e := over_sole so i (by rw [textWs_length]; exact hi)
   rw [textWs_nth _ _ _ _ _ _ hi] at e
   have e' : (over ss (textWs f c (enc rs') s m)).getD (f + (2 + (s + i))) [] = secOf f c (2 + (s + i)) (enc rs') ((s + i) * 120) := e
   rw [e']
   exact ⟨⟨secOf_length _ _ _ _ _, Or.inl (secOf_tag _ _ _ _ _)⟩, byte i hi⟩
 ·by_cases h : s ≤ j / 120
  ·have hi : j / 120 - s < m := by omega
   have e := over_sole so (j / 120 - s) (by rw [textWs_length]; exact hi)
   rw [textWs_nth _ _ _ _ _ _ hi, show s + (j / 120 - s) = j / 120 from by omega] at e
   have e' : (over ss (textWs f c (enc rs') s m)).getD (f + (2 + j / 120)) [] = secOf f c (2 + j / 120) (enc rs') (j / 120 * 120) := e
   rw [e', secOf_at _ _ _ _ _ _ (by omega) (by omega)]
   congr 1
   omega
  ·have e := over_stay so (f + (2 + j / 120)) fun k hk => by
    rw [textWs_length] at hk
    rw [textWs_nth _ _ _ _ _ _ hk]
    show f + (2 + (s + k)) ≠ _
    omega
   rw [e, g.text j (by omega), hx, app_at, if_pos (by omega)]
 ·rw [textWs_length] at hk
  rw [textWs_nth _ _ _ _ _ _ hk]
  have := hc k hk
  show f + 2 ≤ f + (2 + (s + k)) ∧ f + (2 + (s + k)) < f + c
  omega
theorem textFor_none {ss : List (List UInt8)} {f c p t : Nat} {rs : List (List UInt8)} (g : Good ss f c p t rs) : TextFor f c p t rs [] [] ss :=
 ⟨⟨fun k hk => absurd hk (by simp), fun k m hk => absurd hk (by simp)⟩, fun new h => by
  have e : new = ss := ext_getD h.len fun j _ => h.stay j fun k hk => absurd hk (by simp)
  rw [e]; exact g, g, fun j hj => absurd hj (by simp [enc]), fun k hk => absurd hk (by simp)⟩
def spareActs (f c q : Nat) (s : List UInt8) : List Act := if s = blank f c q then [] else [.write (f + q) (blank f c q), .flush]
def textActs (ws : Ws) : List Act := if ws = [] then [] else ws.acts ++ [.flush]
def turnActs (f c p : Nat) (h : Hd) : List Act := [.write (f + (1 - p)) (headSec f c (1 - p) h), .flush, .write (f + p) (blank f c p), .flush]
def changeActs (f c p : Nat) (s : List UInt8) (ws : Ws) (h : Hd) : List Act := spareActs f c (1 - p) s ++ (textActs ws ++ turnActs f c p h)
theorem fated_one {d : Dk} {i : Nat} {x : List UInt8} {l : List Act} {P : List (List UInt8) → Prop} (hd : d.pend = []) (hi : i < d.safe.length) (hx : x.length = 128) (h1 : ∀ new, Torn d.safe [(i, x)] new → P new) (h2 : Fated { d with safe := d.safe.set i x, pend := [] } l P) : Fated d (.write i x :: .flush :: l) P :=
 fated_stage (ws := [(i, x)]) hd (sole_one hi hx) h1 h2
theorem fated_text {d : Dk} {ws : Ws} {l : List Act} {P : List (List UInt8) → Prop} (hd : d.pend = []) (hs : Ws.Sole ws d.safe.length) (h1 : ∀ new, Torn d.safe ws new → P new) (h2 : Fated { d with safe := over d.safe ws, pend := [] } l P) : Fated d (textActs ws ++ l) P := by
 unfold textActs
 by_cases e : ws = []
 ·rw [if_pos e, List.nil_append]
  rw [e, over_nil] at h2
  have : ({ d with safe := d.safe, pend := [] } : Dk) = d := by cases d; simp only at hd; subst hd; rfl
  rw [this] at h2
  exact h2
 ·rw [if_neg e, List.append_assoc]
  exact fated_stage hd hs h1 h2
theorem acts_one {d : Dk} {i : Nat} {x : List UInt8} {l : List Act} (hd : d.pend = []) : d.acts (.write i x :: .flush :: l) = ({ d with safe := d.safe.set i x, pend := [] } : Dk).acts l := by
 rw [Dk.acts_cons, Dk.acts_cons]
 congr 1
 simp only [Dk.act, Dk.write, Dk.flush, Dk.seen, hd]
 rfl
theorem acts_text {d : Dk} {ws : Ws} {l : List Act} (hd : d.pend = []) : d.acts (textActs ws ++ l) = ({ d with safe := over d.safe ws, pend := [] } : Dk).acts l := by
 unfold textActs
 by_cases e : ws = []
 ·rw [if_pos e, List.nil_append, e, over_nil]
  congr 1
  cases d; simp only at hd; subst hd; rfl
 ·rw [if_neg e, List.append_assoc, Dk.acts_app, Dk.acts_writes, hd]
  rfl
theorem spare_at {ss : List (List UInt8)} {f c p t : Nat} {rs : List (List UInt8)} (g : Good ss f c p t rs) : Good (ss.set (f + (1 - p)) (blank f c (1 - p))) f c p t rs := by
 have hf := g.few
 have h4 := g.four
 obtain ⟨a, b, e⟩ := set_at (old := ss) (i := f + (1 - p)) (x := blank f c (1 - p)) (by omega)
 exact g.turned a b (by rw [e]; exact blank_loose _ _ _ _)
theorem set_self {ss : List (List UInt8)} {i : Nat} {x : List UInt8} (h : ss.getD i [] = x) : ss.set i x = ss := by
 apply List.ext_getElem?
 intro j
 rw [List.getElem?_set]
 split
 ·rename_i e
  subst e
  split
  ·rename_i hi
   rw [← h, List.getD_eq_getElem?_getD, List.getElem?_eq_getElem hi]
   rfl
  ·rename_i hi
   exact (List.getElem?_eq_none (by omega)).symm
 ·rfl
def changed (f c p : Nat) (ss : List (List UInt8)) (ws : Ws) (h : Hd) : List (List UInt8) := ((over (ss.set (f + (1 - p)) (blank f c (1 - p))) ws).set (f + (1 - p)) (headSec f c (1 - p) h)).set (f + p) (blank f c p)
theorem change_acts {d : Dk} {f c p : Nat} {ws : Ws} {h : Hd} (hd : d.pend = []) : d.acts (changeActs f c p (d.safe.getD (f + (1 - p)) []) ws h) = { d with safe := changed f c p d.safe ws h, pend := [] } := by
 have key : ∀ d : Dk, d.pend = [] → d.acts (textActs ws ++ turnActs f c p h) = { d with safe := ((over d.safe ws).set (f + (1 - p)) (headSec f c (1 - p) h)).set (f + p) (blank f c p), pend := [] } := fun d hd => by
  rw [acts_text hd, turnActs, acts_one rfl, acts_one rfl, Dk.acts_nil]
 unfold changeActs spareActs changed
 by_cases e : d.safe.getD (f + (1 - p)) [] = blank f c (1 - p)
 ·rw [if_pos e, List.nil_append, key d hd, set_self e]
 ·rw [if_neg e, List.cons_append, List.cons_append, List.nil_append, acts_one hd, key _ rfl]
theorem May.of {old mid new : List (List UInt8)} {f c p t : Nat} {rs rs' : List (List UInt8)} (h1 : mid.length = old.length) (h2 : ∀ j, j < f ∨ f + c ≤ j → mid.getD j [] = old.getD j []) (m : May mid f c p t rs rs' new) : May old f c p t rs rs' new :=
 ⟨m.len.trans h1, fun j hj => (m.stay j hj).trans (h2 j hj), m.log⟩
theorem may_one {ss new : List (List UInt8)} {f c p t : Nat} {rs rs' : List (List UInt8)} {i : Nat} (hi : f ≤ i ∧ i < f + c) (hl : new.length = ss.length) (hs : ∀ j, j ≠ i → new.getD j [] = ss.getD j []) (h : Good new f c p t rs ∨ Good new f c (1 - p) (t + 1) rs') : May ss f c p t rs rs' new :=
 ⟨hl, fun j hj => hs j (by omega), h⟩
theorem turn_fated {d : Dk} {f c p t : Nat} {rs rs' : List (List UInt8)} (hd : d.pend = []) (g : Good d.safe f c p t rs) (hb : d.safe.getD (f + (1 - p)) [] = blank f c (1 - p)) (ht : t + 1 < 18446744073709551616) (hr : (enc rs').length ≤ room c) (hx : TextAt d.safe f (enc rs')) :
  Fated d (turnActs f c p (hdOf (t + 1) rs')) (May d.safe f c p t rs rs') ∧ Good ((d.safe.set (f + (1 - p)) (headSec f c (1 - p) (hdOf (t + 1) rs'))).set (f + p) (blank f c p)) f c (1 - p) (t + 1) rs' := by
 have hp := g.place
 have h4 := g.four
 have hf := g.few
 have ho : (hdOf (t + 1) rs').Ok := ⟨ht, by have := room_le g.most; show (enc rs').length < _; omega, seal_length _⟩
 obtain ⟨a1, a2, a3⟩ := set_at (old := d.safe) (i := f + (1 - p)) (x := headSec f c (1 - p) (hdOf (t + 1) rs')) (by omega)
 have g1 : Good (d.safe.set (f + (1 - p)) (headSec f c (1 - p) (hdOf (t + 1) rs'))) f c (1 - p) (t + 1) rs' := g.switch a1 a2 ht hr hx a3
 obtain ⟨b1, b2, b3⟩ := set_at (old := d.safe.set (f + (1 - p)) (headSec f c (1 - p) (hdOf (t + 1) rs'))) (i := f + p) (x := blank f c p) (by omega)
 have e : 1 - (1 - p) = p := by omega
 have g2 : Good ((d.safe.set (f + (1 - p)) (headSec f c (1 - p) (hdOf (t + 1) rs'))).set (f + p) (blank f c p)) f c (1 - p) (t + 1) rs' :=
  g1.turned b1 (fun j hj => b2 j (by rw [e] at hj; exact hj)) (by rw [e, b3]; exact blank_loose _ _ _ _)
 refine ⟨?_, g2⟩
 refine fated_one hd (by omega) (headSec_length ho) (fun new h => ?_) (fated_one rfl (by show _ < (d.safe.set _ _).length; omega) (blank_length _ _ _) (fun new h => ?_) (fated_nil rfl ?_))
 ·obtain ⟨l1, l2, n, hn, l3⟩ := torn_one h
  refine may_one (i := f + (1 - p)) (by omega) l1 l2 ?_
  rw [hb] at l3
  by_cases hn' : n < 128
  ·exact Or.inl (g.turned l1 l2 (by rw [l3]; exact head_over ho hn'))
  ·refine Or.inr (g.switch l1 l2 ht hr hx ?_)
   rw [l3]
   exact mix_all _ _ _ (by rw [headSec_length ho]; omega) (by rw [blank_length]; omega)
 ·obtain ⟨l1, l2, n, hn, l3⟩ := torn_one h
  refine May.of a1 (fun j hj => a2 j (by omega)) (may_one (i := f + p) (by omega) l1 l2 (Or.inr ?_))
  refine g1.turned l1 (fun j hj => l2 j (by rw [e] at hj; exact hj)) ?_
  rw [e, l3]
  have hl := g1.loose
  rw [e] at hl
  exact blank_over hl hn
 ·exact May.of a1 (fun j hj => a2 j (by omega)) (may_one (i := f + p) (by omega) b1 b2 (Or.inr g2))
theorem change_fated {d : Dk} {f c p t : Nat} {rs rs' : List (List UInt8)} {ws : Ws} (hd : d.pend = []) (g : Good d.safe f c p t rs) (ht : t + 1 < 18446744073709551616) (hr : (enc rs').length ≤ room c) (hw : ∀ ss, ss.length = d.safe.length → Good ss f c p t rs → TextFor f c p t rs rs' ws ss) :
  Fated d (changeActs f c p (d.safe.getD (f + (1 - p)) []) ws (hdOf (t + 1) rs')) (May d.safe f c p t rs rs') ∧ Good (changed f c p d.safe ws (hdOf (t + 1) rs')) f c (1 - p) (t + 1) rs' := by
 have hp := g.place
 have h4 := g.four
 have hf := g.few
 have key : ∀ e : Dk, e.pend = [] → e.safe.length = d.safe.length → (∀ j, j < f ∨ f + c ≤ j → e.safe.getD j [] = d.safe.getD j []) → Good e.safe f c p t rs → e.safe.getD (f + (1 - p)) [] = blank f c (1 - p) →
   Fated e (textActs ws ++ turnActs f c p (hdOf (t + 1) rs')) (May d.safe f c p t rs rs') ∧ Good (((over e.safe ws).set (f + (1 - p)) (headSec f c (1 - p) (hdOf (t + 1) rs'))).set (f + p) (blank f c p)) f c (1 - p) (t + 1) rs' := fun e he hel hes ge hb => by
  have tf := hw e.safe hel ge
  have hov : ∀ j, (∀ k, k < ws.length → (Ws.nth ws k).1 ≠ j) → (over e.safe ws).getD j [] = e.safe.getD j [] := fun j hj => over_stay tf.sole j hj
  have hbl : (over e.safe ws).getD (f + (1 - p)) [] = blank f c (1 - p) := by rw [hov _ (fun k hk => by have := tf.at_ k hk; omega), hb]
  have tr := turn_fated (d := { e with safe := over e.safe ws, pend := [] }) (rs' := rs') rfl tf.whole hbl ht hr tf.text
  refine ⟨fated_text he tf.sole (fun new h => ⟨h.len.trans hel, fun j hj => (h.stay j fun k hk => by have := tf.at_ k hk; omega).trans (hes j hj), Or.inl (tf.torn new h)⟩) ?_, tr.2⟩
  intro n hn cc
  exact May.of ((overTo_length _ _ _).trans hel) (fun j hj => (hov j fun k hk => by have := tf.at_ k hk; omega).trans (hes j hj)) (tr.1 n hn cc)
 obtain ⟨a1, a2, a3⟩ := set_at (old := d.safe) (i := f + (1 - p)) (x := blank f c (1 - p)) (by omega)
 have k2 := key { d with safe := d.safe.set (f + (1 - p)) (blank f c (1 - p)), pend := [] } rfl a1 (fun j hj => a2 j (by omega)) (spare_at g) a3
 refine ⟨?_, k2.2⟩
 unfold changeActs spareActs
 by_cases e : d.safe.getD (f + (1 - p)) [] = blank f c (1 - p)
 ·rw [if_pos e, List.nil_append]
  exact (key d hd rfl (fun _ _ => rfl) g e).1
 ·rw [if_neg e, List.cons_append, List.cons_append, List.nil_append]
  refine fated_one hd (by omega) (blank_length _ _ _) (fun new h => ?_) k2.1
  obtain ⟨l1, l2, n, hn, l3⟩ := torn_one h
  exact may_one (i := f + (1 - p)) (by omega) l1 l2 (Or.inl (g.turned l1 l2 (by rw [l3]; exact blank_over g.loose hn)))
end S
end Go.Proofs.YteealihknndclaaGreatDoor
