/- Package bytes, as far as a log uses it: Equal, HasPrefix, Clone, TrimRight of noughts. -/
import Derived.Test.YteealihknndclaaGreatDoorGi
import Derived.Laws.IdiomStrings
import Derived.Lib.BufferRead
import Derived.Lib.LazyBuf
import Derived.Test.YteealihknndclaaGreatDoorGe
namespace Go.Proofs.YteealihknndclaaGreatDoor
open Go.RowKit
theorem fB {w : World} {v : Value} {bs : List UInt8} (h : SliceAt w v bs) : (convert 32 9 v).run Tryz.prog w = .ok (.string ⟨bs.toArray⟩) w := by
 rcases h with ⟨rfl, rfl⟩ | ⟨a, cap, rfl, _, rfl⟩ | ⟨b, off, cap, rfl, h1, h2, h3, h4⟩
 ·exact Lib.run_convert_nil_bytes w 32 9 5 0 Tryz.underlying32 Tryz.underlying5 Tryz.underlying9
 ·exact run_convert_bytes_back w 32 9 5 a cap [] Tryz.underlying32 Tryz.underlying5 Tryz.underlying9 (fun j hj => by simp at hj)
 ·refine run_convert_bytes_back w 32 9 5 ⟨b, off, none⟩ cap bs Tryz.underlying32 Tryz.underlying5 Tryz.underlying9 (fun j hj => ?_)
  rw [Addr.add_lit]
  have := h4 j hj
  simp only [List.getD_eq_getElem?_getD, List.getElem?_eq_getElem hj, Option.getD_some] at this
  simpa using this
set_option maxRecDepth 10000 in
theorem jU (v u : Value) (xs ys : List UInt8) (w : World) (h1 : SliceAt w v xs) (h2 : SliceAt w u ys) :
  Calls Tryz.prog 80 #[v, u] w fun e w' => e = .returned (.bool (decide (xs = ys))) /\ w = w' := by
 have k1 := fB h1
 have k2 := fB h2
 obtain ⟨ao, l1, c1, rfl, z1⟩ := h1.form
 obtain ⟨bo, l2, c2, rfl, z2⟩ := h2.form
 clear h1 h2 z1 z2
 obtain ⟨A, hA⟩ : ∃ A : ByteArray, A = ⟨xs.toArray⟩ := ⟨_, rfl⟩
 obtain ⟨B, hB⟩ : ∃ A : ByteArray, A = ⟨ys.toArray⟩ := ⟨_, rfl⟩
 rw [<- hA] at k1
 rw [<- hB] at k2
 have HE : Hid ((A.toList == B.toList) = decide (xs = ys)) := by
  show (A.toList == B.toList) = decide (xs = ys)
  rw [hA, hB, ByteArray.toList_eq, ByteArray.toList_eq]
  rw [Bool.eq_iff_iff]
  simp
 clear hA hB
 go_enter Tryz.func80, Tryz.ntmps80
 go_wp2
 go_ret
 exact ⟨by rw [<- HE.out]; rfl, rfl⟩
theorem vL (xs ys : List UInt8) : decide (xs.take ys.length = ys) = decide (ys <+: xs) := by
 rw [decide_eq_decide]
 exact ⟨fun e => List.prefix_iff_eq_take.2 e.symm, fun e => (List.prefix_iff_eq_take.1 e).symm⟩
set_option maxRecDepth 10000 in
theorem mh (v u : Value) (xs ys : List UInt8) (w : World) (h1 : SliceAt w v xs) (h2 : SliceAt w u ys) :
  Calls Tryz.prog 211 #[v, u] w fun e w' => e = .returned (.bool (decide (ys <+: xs))) /\ w = w' := by
 obtain ⟨ao, l1, c1, rfl, hl1, hm1⟩ := h1.form
 obtain ⟨bo, l2, c2, rfl, hl2, hm2⟩ := h2.form
 have H1 := hide h1
 have H2 := hide h2
 have L1 := hide hl1
 have L2 := hide hl2
 by_cases hlt : l2 <= l1
 ·have q1 : (l2 : Int) <= (l1 : Int) := by omega
  have q2 : (0 : Int) <= (l2 : Int) := by omega
  have q3 : (l1 : Int) <= (c1 : Int) := by have := h1.le_cap; omega
  have q4 : (l2 : Int) <= (c1 : Int) := by omega
  have HP := hide (mV h1 l2 hlt)
  have HQ := hide (vL xs ys)
  clear h1 h2 hl1 hl2
  go_enter Tryz.func211, Tryz.ntmps211
  go_wp2_with fail
  refine (jU _ _ _ _ w HP.out H2.out).mono ?_
  rintro e w1 ⟨rfl, rfl⟩
  rw [L2.out, HQ.out]
  obtain ⟨B, hB⟩ : ∃ B, B = decide (ys <+: xs) := ⟨_, rfl⟩
  rw [<- hB]
  have HB := hide hB
  clear hB
  have E := L2.out
  go_wp2_with fail
  go_ret
  exact ⟨by rw [<- HB.out]; rfl, rfl⟩
 ·have q1 : ¬ (l2 : Int) <= (l1 : Int) := by omega
  have HQ : Hid (decide (ys <+: xs) = false) := by
   refine decide_eq_false fun e => ?_
   have := e.length_le
   omega
  clear h1 h2 hl1 hl2
  go_enter Tryz.func211, Tryz.ntmps211
  go_wp2_with fail
  go_ret
  exact ⟨by rw [HQ.out]; rfl, rfl⟩
namespace S
def dU (xs : List UInt8) : Nat -> Nat
 | 0 => 0
 | n + 1 => if xs.getD n 0 = 0 then dU xs n else n + 1
theorem sJ (xs : List UInt8) (n : Nat) : dU xs n <= n := by
 induction n with
 | zero => exact lr _
 | succ n ih => rw [dU]; split <;> omega
end S
theorem byte_zero (x : UInt8) : ((x.toNat : Int) = 0) ↔ x = 0 := by
 constructor
 ·intro h
  apply UInt8.toNat_inj.1
  have : x.toNat = 0 := by omega
  rw [this]; rfl
 ·rintro rfl; rfl
set_option maxRecDepth 10000 in
theorem mH (b off n cap : Nat) (xs : List UInt8) (w : World) (h1 : SliceAt w (.slice (some ⟨b, off, none⟩) n cap) xs) :
  Calls Tryz.prog 227 #[.slice (some ⟨b, off, none⟩) n cap, .int .u8 0] w fun e w' => e = .returned (.slice (some ⟨b, off, none⟩) (S.dU xs n) cap) /\ w = w' := by
 obtain ⟨ax, l1, c1, hv, hl1, hm1⟩ := h1.form
 simp only [Value.slice.injEq] at hv
 obtain ⟨rfl, rfl, rfl⟩ := hv
 have hcap := h1.le_cap
 have HC : Hid (∀ j, j < n -> w.cell? ⟨b, off + j, none⟩ = some (.int .u8 ((xs.getD j 0).toNat : Int))) := fun j hj => by
  obtain ⟨b', off', e, _, _, h⟩ := h1.src (by omega)
  simp only [Option.some.injEq, Addr.mk.injEq, and_true] at e
  obtain ⟨rfl, rfl⟩ := e
  exact h j (by omega)
 clear h1 hl1
 go_enter Tryz.func227, Tryz.ntmps227
 go_wp2_with fail
 go_loopw [0] (fun s wr => ∃ k : Nat, k <= n /\ s = .slice (some ⟨b, off, none⟩) k cap /\ Hid (S.dU xs k = S.dU xs n) /\ wr = w) (fun s _ => match s with | .slice _ k _ => k | _ => 0)
 case atStart => exact ⟨n, lr _, rfl, rfl, rfl⟩
 case round =>
  obtain ⟨k, hk, rfl, ht, rfl⟩ := hrel
  rcases k with _ | m
  ·go_wp2_with fail
   go_ret
   exact ⟨by rw [<- ht.out]; rfl, rfl⟩
  ·have q1 : (0 : Int) < ((m + 1 : Nat) : Int) := by omega
   have q2 : ((m + 1 : Nat) : Int) - 1 = (m : Int) := by omega
   have q3 : (0 : Int) <= (m : Int) := by omega
   have q4 : (m : Int) <= (cap : Int) := by omega
   have q5 : (m : Int) < ((m + 1 : Nat) : Int) := by omega
   have c1 := HC.out m (by omega)
   by_cases hx : xs.getD m 0 = 0
   ·have hz : ((xs.getD m 0).toNat : Int) = 0 := (byte_zero _).2 hx
    rw [hz] at c1
    have HT : Hid (S.dU xs m = S.dU xs n) := by
     show S.dU xs m = _
     rw [<- ht.out, S.dU, if_pos hx]
    clear hx hz ht
    go_wp2_with fail
    go_roundw
    case rel => exact ⟨m, by omega, rfl, HT, trivial⟩
    case measure => simp
   ·have hz : ¬ ((xs.getD m 0).toNat : Int) = 0 := fun e => hx ((byte_zero _).1 e)
    obtain ⟨y, hy⟩ : ∃ y : Int, y = ((xs.getD m 0).toNat : Int) := ⟨_, rfl⟩
    rw [<- hy] at c1 hz
    have HT : Hid (S.dU xs n = m + 1) := by
     show S.dU xs n = _
     rw [<- ht.out, S.dU, if_neg hx]
    clear hx hy ht
    go_wp2_with fail
    go_ret
    exact ⟨by rw [HT.out]; rfl, rfl⟩
set_option maxRecDepth 10000 in
theorem rR (b off n cap : Nat) (xs : List UInt8) (w : World) (hn : 0 < n) (h1 : SliceAt w (.slice (some ⟨b, off, none⟩) n cap) xs) :
  Calls Tryz.prog 214 #[.slice (some ⟨b, off, none⟩) n cap, .string ⟨#[0]⟩] w fun e w' => e = .returned (.slice (some ⟨b, off, none⟩) (S.dU xs n) cap) /\ w = w' := by
 have H1 := hide h1
 have q1 : ¬ (n : Int) = 0 := by omega
 have q2 : ¬ n = 0 := by omega
 clear h1 hn
 go_enter Tryz.func214, Tryz.ntmps214
 go_wp2_with fail
 refine (mH b off n cap xs w H1.out).mono ?_
 rintro e w1 ⟨rfl, rfl⟩
 obtain ⟨t, ht⟩ : ∃ t, t = S.dU xs n := ⟨_, rfl⟩
 rw [<- ht]
 have HT := hide ht
 clear ht
 go_wp2_with fail
 go_ret
 exact ⟨by rw [<- HT.out]; rfl, rfl⟩
theorem Cf {w : World} {base : Nat} {v : Value} {bs : List UInt8} (h : Own w base v bs) : ∃ g c, v = .slice (some ⟨g, 0, none⟩) bs.length c /\ base <= g /\ Room w g c bs := by
 obtain ⟨⟨h1, h2⟩, g, cap, rfl⟩ := h
 rcases h2 with ⟨h3, _⟩ | ⟨g', cap', cur, h3, h4, h5, h6, h7, h8, h9⟩
 ·simp at h3
 ·simp only [Value.slice.injEq, Option.some.injEq, Addr.mk.injEq, and_true, true_and] at h3
  obtain ⟨rfl, rfl⟩ := h3
  exact ⟨g, cap, rfl, h4, cur, h5, by omega, h6, by rw [Nat.mul_one] at h9; exact h9⟩
theorem Ch (w : World) : Own (w.alloc (.cells #[] 5)) w.heap.size (.slice (some ⟨w.heap.size, 0, none⟩) 0 0) [] :=
 ⟨⟨rfl, Or.inr ⟨w.heap.size, 0, #[], rfl, lr _, heap_alloc_new _ _, lr _, by simp [maxLen], rfl, rfl⟩⟩, w.heap.size, 0, rfl⟩
theorem eql_nil (a : Addr) (n cap : Nat) (W : World) : (binOp .eql 32 (.slice (some a) n cap) (.slice none 0 0)).run Tryz.prog W = .ok (.bool false) W :=
 by
  have h : ∀ d : Nat, (Op.equalIn (d + 1) 32 (.slice (some a) n cap) (.slice none 0 0)).run Tryz.prog W = .ok false W := fun d => by
   simp [Op.equalIn, run_underlying Tryz.underlying32]
  simp only [binOp]
  simp [Op.equal, Op.maxDepth, h 9999]
set_option maxRecDepth 10000 in
theorem Be (b off n cap : Nat) (xs : List UInt8) (w : World) (h1 : SliceAt w (.slice (some ⟨b, off, none⟩) n cap) xs) :
  Calls Tryz.prog 50 #[.slice (some ⟨b, off, none⟩) n cap] w fun e w' => ∃ g c, e = .returned (.slice (some ⟨g, 0, none⟩) n c) /\ w.heap.size <= g /\ Room w' g c xs /\ Below w.heap.size w w' := by
 have hnil := eql_nil ⟨b, off, none⟩ n cap
 obtain ⟨ax, l1, c1, hv, hl1, hm1⟩ := h1.form
 simp only [Value.slice.injEq] at hv
 obtain ⟨rfl, rfl, rfl⟩ := hv
 have hb0 : Below w.heap.size w (w.alloc (.cells #[] 5)) := ba ..
 have HR := hide (og (w.alloc (.cells #[] 5)) w.heap.size _ (.slice (some ⟨b, off, none⟩) n cap) [] xs 32 (Ch w) (h1.below hb0 (lr _)) (by simp; omega) (by simp))
 have HB := hide hb0
 have HL : Hid (n = xs.length) := hl1
 clear h1 hl1 hb0
 go_enter Tryz.func50, Tryz.ntmps50
 go_wp2_with (refine aU rfl (.tmp 5) (.tmp 6) 32 32 rfl _ _ rfl rfl HR.out ?_)
 intro v' w' hown hbel
 obtain ⟨g, c, rfl, hg, hr⟩ := Cf hown
 have HF : Hid (Below w.heap.size w w') := HB.out.trans (hbel.mono (by simp))
 have HG := hide hg
 have HM := hide hr
 clear hown hbel hg hr
 rw [<- HL.out]
 go_wp2_with fail
 go_ret
 exact ⟨g, c, rfl, HG.out, HM.out, HF.out⟩
end Go.Proofs.YteealihknndclaaGreatDoor
namespace Go.Proofs.YteealihknndclaaGreatDoor
namespace S
structure Hd where
 turn : Nat
 used : Nat
 sl : List UInt8
deriving DecidableEq
def Hd.none : Hd := ⟨0, 0, zeros 32⟩
structure Hd.Ok (h : Hd) : Prop where
 turn : h.turn < 18446744073709551616
 used : h.used < 16777216
 sl : h.sl.length = 32
theorem Hd.none_ok : Hd.none.Ok := ⟨by decide, by decide, zeros_length _⟩
def marked (f c k : Nat) (m : UInt8) (x : List UInt8) : List UInt8 := tag f c k ++ (m :: (x ++ (zeros (118 - x.length) ++ [m])))
theorem ma (f c k : Nat) (m : UInt8) (x : List UInt8) (h : x.length <= 118) : (marked f c k m x).length = 128 := by
 simp [marked, bq, zeros_length]; omega
def blank (f c k : Nat) : List UInt8 := marked f c k 15 []
theorem aO (f c k : Nat) : (blank f c k).length = 128 := ma _ _ _ _ _ (by simp)
def ht (h : Hd) : List UInt8 := num h.turn 8 ++ (num h.used 3 ++ h.sl)
theorem lN {h : Hd} (o : h.Ok) : (ht h).length = 43 := by simp [ht, aK, o.sl]
def htext (h : Hd) : List UInt8 := ht h ++ sum (ht h)
theorem fA {h : Hd} (o : h.Ok) : (htext h).length = 75 := by simp [htext, lN o, sum_length]
def aF (f c k : Nat) (h : Hd) : List UInt8 := marked f c k 240 (htext h)
theorem bg {f c k : Nat} {h : Hd} (o : h.Ok) : (aF f c k h).length = 128 := ma _ _ _ _ _ (by rw [fA o]; omega)
theorem gM (f c k : Nat) (m : UInt8) (x : List UInt8) : tag f c k <+: marked f c k m x := List.prefix_append _ _
theorem iZ (f c k : Nat) (m : UInt8) (x : List UInt8) : (marked f c k m x).getD 8 0 = m := by
 unfold marked
 rw [List.getD_eq_getElem?_getD, List.getElem?_append_right (by rw [bq]; omega), bq]
 rfl
theorem kV (f c k : Nat) (m : UInt8) (x : List UInt8) (h : x.length <= 118) : (marked f c k m x).getD 127 0 = m := by
 have e : marked f c k m x = (tag f c k ++ (m :: (x ++ zeros (118 - x.length)))) ++ [m] := by simp [marked]
 have hl : (tag f c k ++ (m :: (x ++ zeros (118 - x.length)))).length = 127 := by simp [bq, zeros_length]; omega
 rw [e, List.getD_eq_getElem?_getD, List.getElem?_append_right (by omega), hl]
 rfl
def nu (s : List UInt8) : Hd := ⟨val ((s.drop 9).take 8), val ((s.drop 17).take 3), (s.drop 20).take 32⟩
theorem zf (s : List UInt8) (h : s.length = 128) : (nu s).Ok := by
 refine ⟨?_, ?_, by simp [nu, h]⟩
 ·have h1 := nM ((s.drop 9).take 8)
  have h2 : ((s.drop 9).take 8).length = 8 := by simp [h]
  rw [h2] at h1
  exact h1
 ·have h1 := nM ((s.drop 17).take 3)
  have h2 : ((s.drop 17).take 3).length = 3 := by simp [h]
  rw [h2] at h1
  exact h1
theorem tu {f c k : Nat} {h : Hd} (o : h.Ok) : nu (aF f c k h) = h := by
 have e9 : (aF f c k h).drop 9 = num h.turn 8 ++ (num h.used 3 ++ (h.sl ++ (sum (ht h) ++ (zeros 43 ++ [240])))) := by
  have hl := fA o
  unfold aF marked
  rw [show (9 : Nat) = (tag f c k).length + 1 from by rw [bq], List.drop_length_add_append, List.drop_succ_cons, List.drop_zero, hl]
  simp [htext, ht]
 have e17 : (aF f c k h).drop 17 = num h.used 3 ++ (h.sl ++ (sum (ht h) ++ (zeros 43 ++ [240]))) := by
  rw [show (17 : Nat) = 9 + 8 from rfl, <- List.drop_drop, e9]
  exact List.drop_left' (aK _ _)
 have e20 : (aF f c k h).drop 20 = h.sl ++ (sum (ht h) ++ (zeros 43 ++ [240])) := by
  rw [show (20 : Nat) = 17 + 3 from rfl, <- List.drop_drop, e17]
  exact List.drop_left' (aK _ _)
 unfold nu
 rw [e9, e17, e20]
 have t8 : (num h.turn 8 ++ (num h.used 3 ++ (h.sl ++ (sum (ht h) ++ (zeros 43 ++ [240]))))).take 8 = num h.turn 8 := List.take_left' (aK _ _)
 have t3 : (num h.used 3 ++ (h.sl ++ (sum (ht h) ++ (zeros 43 ++ [240])))).take 3 = num h.used 3 := List.take_left' (aK _ _)
 have t32 : (h.sl ++ (sum (ht h) ++ (zeros 43 ++ [240]))).take 32 = h.sl := List.take_left' o.sl
 rw [t8, t3, t32, pY, pY, Nat.mod_eq_of_lt o.turn, Nat.mod_eq_of_lt o.used]
def fO (b : UInt8) : Bool := b == 15 || b == 240
def sight (f c k : Nat) (s : List UInt8) : Nat :=
 if tag f c k <+: s /\ fO (s.getD 8 0) = true /\ fO (s.getD 127 0) = true then (if s.getD 8 0 = 15 \/ s.getD 127 0 = 15 then 1 else if s = aF f c k (nu s) then 2 else 0) else 0
def gV (f c k : Nat) (s : List UInt8) : Hd := if sight f c k s = 2 then nu s else Hd.none
theorem zg (f c k : Nat) (s : List UInt8) (h : s.length = 128) : (gV f c k s).Ok := by
 unfold gV; split
 ·exact zf s h
 ·exact Hd.none_ok
def holds (h : Hd) (m : Nat) (b : Hd) (mb : Nat) : Bool := decide (m = 2) && (decide (mb = 1) || (decide (mb = 2) && decide ((b.turn + 1) % 18446744073709551616 = h.turn)))
def cur (f c : Nat) (s0 s1 : List UInt8) : Option (Hd × Nat) :=
 if holds (gV f c 1 s1) (sight f c 1 s1) (gV f c 0 s0) (sight f c 0 s0) = true then some (gV f c 1 s1, 1)
 else if holds (gV f c 0 s0) (sight f c 0 s0) (gV f c 1 s1) (sight f c 1 s1) = true then some (gV f c 0 s0, 0) else .none
theorem jY {f c k : Nat} {h : Hd} (o : h.Ok) : sight f c k (aF f c k h) = 2 := by
 unfold sight
 have h8 : (aF f c k h).getD 8 0 = 240 := iZ _ _ _ _ _
 have h127 : (aF f c k h).getD 127 0 = 240 := kV _ _ _ _ _ (by rw [fA o]; omega)
 rw [h8, h127, tu o, if_pos ⟨gM _ _ _ _ _, by decide, by decide⟩, if_neg (by decide), if_pos rfl]
theorem oD {f c k : Nat} {h : Hd} (o : h.Ok) : gV f c k (aF f c k h) = h := by rw [gV, if_pos (jY o), tu o]
structure Loose (f c q t : Nat) (s : List UInt8) : Prop where
 len : s.length = 128
 tag : tag f c q <+: s
 first : fO (s.getD 8 0) = true
 last : fO (s.getD 127 0) = true
 torn : s.getD 8 0 = 15 \/ s.getD 127 0 = 15 \/ ∃ h : Hd, h.Ok /\ h.turn + 1 = t /\ s = aF f c q h
theorem jB (f c k : Nat) : (blank f c k).getD 8 0 = 15 := iZ _ _ _ _ _
theorem mG (f c k : Nat) : (blank f c k).getD 127 0 = 15 := kV _ _ _ _ _ (by simp)
theorem lq (f c q t : Nat) : Loose f c q t (blank f c q) :=
 ⟨aO _ _ _, gM _ _ _ _ _, by rw [jB]; decide, by rw [mG]; decide, Or.inl (jB _ _ _)⟩
theorem xI {f c q t : Nat} {h : Hd} (o : h.Ok) (e : h.turn + 1 = t) : Loose f c q t (aF f c q h) :=
 ⟨bg o, gM _ _ _ _ _, by rw [aF, iZ]; decide, by rw [aF, kV _ _ _ _ _ (by rw [fA o]; omega)]; decide, Or.inr (Or.inr ⟨h, o, e, rfl⟩)⟩
theorem Loose.met {f c q t : Nat} {s : List UInt8} (l : Loose f c q t s) : sight f c q s = 1 \/ (sight f c q s = 2 /\ (gV f c q s).turn + 1 = t) := by
 rcases l.torn with h | h | ⟨h, o, e, rfl⟩
 ·left; unfold sight; rw [if_pos ⟨l.tag, l.first, l.last⟩, if_pos (Or.inl h)]
 ·left; unfold sight; rw [if_pos ⟨l.tag, l.first, l.last⟩, if_pos (Or.inr h)]
 ·right; rw [jY o, oD o]; exact ⟨rfl, e⟩
theorem AV {f c : Nat} {h : Hd} {s : List UInt8} (o : h.Ok) (l : Loose f c 1 h.turn s) : cur f c (aF f c 0 h) s = some (h, 0) := by
 unfold cur
 rw [jY o, oD o]
 have ht := o.turn
 rcases l.met with m | ⟨m, e⟩
 ·rw [m, if_neg (by simp [holds]), if_pos (by simp [holds])]
 ·rw [m, if_neg (by simp [holds]; omega), if_pos (by simp [holds, e]; omega)]
theorem Dh {f c : Nat} {h : Hd} {s : List UInt8} (o : h.Ok) (l : Loose f c 0 h.turn s) : cur f c s (aF f c 1 h) = some (h, 1) := by
 unfold cur
 rw [jY o, oD o]
 have ht := o.turn
 rcases l.met with m | ⟨m, e⟩
 ·rw [m, if_pos (by simp [holds])]
 ·rw [m, if_pos (by simp [holds, e]; omega)]
theorem uJ {n : Nat} {g a b : List UInt8} (ha : g <+: a) (hb : g <+: b) : g <+: mix n a b := by
 obtain ⟨x, rfl⟩ := ha
 obtain ⟨y, rfl⟩ := hb
 unfold mix
 by_cases h : n <= g.length
 ·rw [List.take_append_of_le_length h, List.drop_append_of_le_length h, <- List.append_assoc, List.take_append_drop]
  exact List.prefix_append _ _
 ·rw [List.take_append, List.take_of_length_le (by omega), List.append_assoc]
  exact List.prefix_append _ _
theorem zX {n : Nat} {g a b : List UInt8} (ha : g <+: a) (hb : g <+: b) (h : n <= g.length) : mix n a b = b := by
 obtain ⟨x, rfl⟩ := ha
 obtain ⟨y, rfl⟩ := hb
 unfold mix
 rw [List.take_append_of_le_length h, List.drop_append_of_le_length h, <- List.append_assoc, List.take_append_drop]
theorem rF {f c q t n : Nat} {s : List UInt8} (l : Loose f c q t s) (hn : n <= 128) : Loose f c q t (mix n (blank f c q) s) := by
 by_cases h : n <= 8
 ·rw [blank, zX (gM _ _ _ _ _) l.tag (by rw [bq]; exact h)]
  exact l
 ·have e8 : (mix n (blank f c q) s).getD 8 0 = 15 := by rw [qN _ _ _ _ (by rw [aO]; exact hn), if_pos (by omega), jB]
  refine ⟨by rw [mo _ _ _ (by rw [aO]; exact hn) (by rw [aO, l.len]), l.len], uJ (gM _ _ _ _ _) l.tag, by rw [e8]; decide, ?_, Or.inl e8⟩
  rw [qN _ _ _ _ (by rw [aO]; exact hn)]
  split
  ·rw [mG]; decide
  ·exact l.last
theorem Aq {f c q t n : Nat} {h : Hd} (o : h.Ok) (hn : n < 128) : Loose f c q t (mix n (aF f c q h) (blank f c q)) := by
 have hl : n <= (aF f c q h).length := by rw [bg o]; omega
 have e127 : (mix n (aF f c q h) (blank f c q)).getD 127 0 = 15 := by rw [qN _ _ _ _ hl, if_neg (by omega), mG]
 refine ⟨by rw [mo _ _ _ hl (by rw [bg o, aO]), aO], uJ (gM _ _ _ _ _) (gM _ _ _ _ _), ?_, by rw [e127]; decide, Or.inr (Or.inl e127)⟩
 rw [qN _ _ _ _ hl]
 split
 ·rw [aF, iZ]; decide
 ·rw [jB]; decide
def nK (f c k : Nat) (s : List UInt8) : Prop := s.length = 128 /\ (tag f c k <+: s \/ ∃ m, m <= 8 /\ s = (tag f c k).take m ++ zeros (128 - m))
theorem zB (xs : List UInt8) (m n : Nat) (h : ∀ i, m <= i -> i < n -> xs.getD i 0 = 0) (hm : m <= n) : dU xs n <= m := by
 induction n with
 | zero => exact Nat.zero_le _
 | succ n ih =>
  rw [dU]
  by_cases e : m <= n
  ·rw [if_pos (h n e (by omega))]
   exact ih (fun i h1 h2 => h i h1 (by omega)) e
  ·have := sJ xs n
   split <;> omega
theorem Bl (n j : Nat) : (zeros n).getD j 0 = 0 := by
 rw [List.getD_eq_getElem?_getD, zeros]
 by_cases h : j < n
 ·simp [h]
 ·simp [h]
theorem oL (a b : List UInt8) (j : Nat) : (a ++ b).getD j 0 = if j < a.length then a.getD j 0 else b.getD (j - a.length) 0 := by
 simp only [List.getD_eq_getElem?_getD]
 by_cases h : j < a.length
 ·rw [if_pos h, List.getElem?_append_left h]
 ·rw [if_neg h, List.getElem?_append_right (by omega)]
theorem nK.asks {f c k : Nat} {s : List UInt8} (h : nK f c k s) : tag f c k <+: s \/ s.take (dU s s.length) <+: tag f c k := by
 rcases h.2 with h2 | ⟨m, hm, e⟩
 ·exact Or.inl h2
 ·right
  have hl : ((tag f c k).take m).length = m := by rw [List.length_take, bq]; omega
  have ht : dU s s.length <= m := by
   refine zB _ _ _ (fun i h1 h2 => ?_) (by rw [h.1]; omega)
   rw [e, oL, if_neg (by omega), Bl]
  rw [e, List.take_append_of_le_length (by rw [hl, <- e]; exact ht), List.take_take]
  exact List.take_prefix _ _
theorem nK.over {f c k n : Nat} {a s : List UInt8} (h : nK f c k s) (ha : a.length = 128) (hg : tag f c k <+: a) (hn : n <= 128) : nK f c k (mix n a s) := by
 refine ⟨by rw [mo _ _ _ (by omega) (by rw [ha, h.1]), h.1], ?_⟩
 rcases h.2 with h2 | ⟨m, hm, e⟩
 ·exact Or.inl (uJ hg h2)
 ·obtain ⟨x, rfl⟩ := hg
  by_cases h8 : 8 <= n
  ·left
   unfold mix
   rw [List.take_append, List.take_of_length_le (by rw [bq]; exact h8), List.append_assoc]
   exact List.prefix_append _ _
  ·right
   have hl : ((tag f c k).take m).length = m := by rw [List.length_take, bq]; omega
   refine ⟨max n m, by omega, ?_⟩
   unfold mix
   rw [List.take_append_of_le_length (by rw [bq]; omega), e]
   by_cases hnm : n <= m
   ·rw [List.drop_append_of_le_length (by omega), show max n m = m from by omega, <- List.append_assoc]
    congr 1
    have : (tag f c k).take n = ((tag f c k).take m).take n := by rw [List.take_take]; congr 1; omega
    rw [this, List.take_append_drop]
   ·rw [List.drop_append, List.drop_eq_nil_of_le (by omega), hl, List.nil_append, show max n m = n from by omega]
    congr 1
    simp [zeros]
    omega
def enc (rs : List (List UInt8)) : List UInt8 := rs.flatMap fun r => lenOf r.length ++ r
def ed (rs : List (List UInt8)) : List UInt8 := rs.foldl (fun a r => sum (a ++ r)) (zeros 32)
theorem ll (rs : List (List UInt8)) (b : List UInt8) : enc (rs ++ [b]) = enc rs ++ (lenOf b.length ++ b) := by simp [enc]
theorem iV (rs : List (List UInt8)) (b : List UInt8) : (enc (rs ++ [b])).length = (enc rs).length + (3 + b.length) := by rw [ll]; simp [bY]
theorem nW (rs : List (List UInt8)) (b : List UInt8) : ed (rs ++ [b]) = sum (ed rs ++ b) := by simp [ed]
theorem fU (rs : List (List UInt8)) : (ed rs).length = 32 := by
 rcases List.eq_nil_or_concat rs with rfl | ⟨l, b, rfl⟩
 ·exact zeros_length _
 ·rw [List.concat_eq_append, nW, sum_length]
def df (t : Nat) (rs : List (List UInt8)) : Hd := ⟨t, (enc rs).length, ed rs⟩
def rJ (ss : List (List UInt8)) (f : Nat) (x : List UInt8) : Prop := ∀ j, j < x.length -> (ss.getD (f + (2 + j / 120)) []).getD (8 + j % 120) 0 = x.getD j 0
structure Good (ss : List (List UInt8)) (f c p t : Nat) (rs : List (List UInt8)) : Prop where
 few : f + c <= ss.length
 four : 4 <= c
 most : c <= 8192
 place : p <= 1
 turn : t < 18446744073709551616
 room : (enc rs).length <= room c
 head : ss.getD (f + p) [] = aF f c p (df t rs)
 loose : Loose f c (1 - p) t (ss.getD (f + (1 - p)) [])
 own : ∀ k, 2 <= k -> k < c -> nK f c k (ss.getD (f + k) [])
 text : rJ ss f (enc rs)
theorem room_le {c : Nat} (h : c <= 8192) : room c <= 982800 := by unfold room; omega
theorem Good.hd {ss : List (List UInt8)} {f c p t : Nat} {rs : List (List UInt8)} (g : Good ss f c p t rs) : (df t rs).Ok :=
 ⟨g.turn, by have := room_le g.most; have := g.room; show (enc rs).length < _; omega, fU _⟩
theorem Good.cur {ss : List (List UInt8)} {f c p t : Nat} {rs : List (List UInt8)} (g : Good ss f c p t rs) : cur f c (ss.getD (f + 0) []) (ss.getD (f + 1) []) = some (df t rs, p) := by
 have hh := g.head
 have hl := g.loose
 rcases Nat.le_one_iff_eq_zero_or_eq_one.1 g.place with rfl | rfl
 ·rw [hh]; exact AV g.hd hl
 ·rw [hh]; exact Dh g.hd hl
theorem Good.turned {ss ss' : List (List UInt8)} {f c p t : Nat} {rs : List (List UInt8)} (g : Good ss f c p t rs) (hl : ss'.length = ss.length) (hs : ∀ j, j ≠ f + (1 - p) -> ss'.getD j [] = ss.getD j []) (l : Loose f c (1 - p) t (ss'.getD (f + (1 - p)) [])) : Good ss' f c p t rs := by
 have hp := g.place
 refine ⟨by rw [hl]; exact g.few, g.four, g.most, g.place, g.turn, g.room, by rw [hs _ (by omega)]; exact g.head, l, fun k h1 h2 => by rw [hs _ (by omega)]; exact g.own k h1 h2, fun j hj => ?_⟩
 rw [hs _ (by omega)]
 exact g.text j hj
theorem Good.switch {ss ss' : List (List UInt8)} {f c p t : Nat} {rs rs' : List (List UInt8)} (g : Good ss f c p t rs) (hl : ss'.length = ss.length) (hs : ∀ j, j ≠ f + (1 - p) -> ss'.getD j [] = ss.getD j []) (ht : t + 1 < 18446744073709551616) (hr : (enc rs').length <= S.room c) (hx : rJ ss f (enc rs')) (hh : ss'.getD (f + (1 - p)) [] = aF f c (1 - p) (df (t + 1) rs')) : Good ss' f c (1 - p) (t + 1) rs' := by
 have hp := g.place
 have e : 1 - (1 - p) = p := by omega
 refine ⟨by rw [hl]; exact g.few, g.four, g.most, by omega, ht, hr, hh, ?_, fun k h1 h2 => by rw [hs _ (by omega)]; exact g.own k h1 h2, fun j hj => ?_⟩
 ·rw [e, hs _ (by omega), g.head]
  exact xI g.hd rfl
 ·rw [hs _ (by omega)]
  exact hx j hj
structure May (old : List (List UInt8)) (f c p t : Nat) (rs rs' : List (List UInt8)) (new : List (List UInt8)) : Prop where
 len : new.length = old.length
 stay : ∀ j, j < f \/ f + c <= j -> new.getD j [] = old.getD j []
 log : Good new f c p t rs \/ Good new f c (1 - p) (t + 1) rs'
def lG (d : Dk) (l : List Act) (P : List (List UInt8) -> Prop) : Prop := ∀ n, n <= l.length -> ∀ c, P ((d.acts (l.take n)).crash c).safe
theorem AB {d : Dk} {P : List (List UInt8) -> Prop} (hd : d.pend = []) (h : P d.safe) : lG d [] P := fun n _ c => by
 rw [List.take_nil, Dk.acts_nil, Dk.crash_flushed _ hd]
 exact h
theorem pK {d : Dk} {ws : Ws} {l : List Act} {P : List (List UInt8) -> Prop} (hd : d.pend = []) (hs : Ws.Sole ws d.safe.length) (h1 : ∀ new, yh d.safe ws new -> P new) (h2 : lG { d with safe := over d.safe ws, pend := [] } l P) : lG d (ws.acts ++ .flush :: l) P := fun n hn c => by
 rcases d.fate hd ws hs l n hn c with h | ⟨m, hm, h⟩
 ·exact h1 _ h
 ·rw [h]
  exact h2 m hm c
theorem BJ {i n : Nat} {x : List UInt8} (hi : i < n) (hx : x.length = 128) : Ws.Sole [(i, x)] n :=
 ⟨fun k hk => by
  obtain rfl : k = 0 := by simpa using hk
  exact ⟨hi, hx⟩, fun k m hk hm _ => by simp at hk hm; omega⟩
theorem qA {old new : List (List UInt8)} {i : Nat} {x : List UInt8} (h : yh old [(i, x)] new) : new.length = old.length /\ (∀ j, j ≠ i -> new.getD j [] = old.getD j []) /\ ∃ n, n <= 128 /\ new.getD i [] = mix n x (old.getD i []) :=
 ⟨h.len, fun j hj => h.stay j (fun k hk => by
  obtain rfl : k = 0 := by simpa using hk
  exact fun e => hj e.symm), h.part 0 (by simp)⟩
theorem ul {old : List (List UInt8)} {i : Nat} {x : List UInt8} (hi : i < old.length) : (old.set i x).length = old.length /\ (∀ j, j ≠ i -> (old.set i x).getD j [] = old.getD j []) /\ (old.set i x).getD i [] = x :=
 ⟨by simp, fun j hj => by rw [dz _ _ _ _ _ hi, if_neg (fun e => hj e.symm)], by rw [dz _ _ _ _ _ hi, if_pos rfl]⟩
end S
end Go.Proofs.YteealihknndclaaGreatDoor
namespace Go.Proofs.YteealihknndclaaGreatDoor
namespace S
def iP (f c k : Nat) (x : List UInt8) (a : Nat) : List UInt8 := tag f c k ++ ((x.drop a).take 120 ++ zeros (120 - ((x.drop a).take 120).length))
theorem ic (f c k : Nat) (x : List UInt8) (a : Nat) : (iP f c k x a).length = 128 := by
 simp [iP, bq, zeros_length]; omega
theorem sP (f c k : Nat) (x : List UInt8) (a : Nat) : tag f c k <+: iP f c k x a := List.prefix_append _ _
theorem vD (f c k : Nat) (x : List UInt8) (a r : Nat) (hr : r < 120) (h : a + r < x.length) : (iP f c k x a).getD (8 + r) 0 = x.getD (a + r) 0 := by
 unfold iP
 have hl : ((x.drop a).take 120).length = min 120 (x.length - a) := by simp
 rw [oL, if_neg (by rw [bq]; omega), bq, oL, if_pos (by omega)]
 simp only [List.getD_eq_getElem?_getD]
 rw [List.getElem?_take, if_pos (by omega), List.getElem?_drop]
 congr 2
 omega
def dF (f c : Nat) (x : List UInt8) (s m : Nat) : Ws := (List.range m).map fun i => (f + (2 + (s + i)), iP f c (2 + (s + i)) x ((s + i) * 120))
theorem bD (f c : Nat) (x : List UInt8) (s m : Nat) : (dF f c x s m).length = m := by simp [dF]
theorem dZ (f c : Nat) (x : List UInt8) (s m i : Nat) (h : i < m) : Ws.nth (dF f c x s m) i = (f + (2 + (s + i)), iP f c (2 + (s + i)) x ((s + i) * 120)) := by
 simp [Ws.nth, dF, List.getD_eq_getElem?_getD, h]
theorem oQ (f c : Nat) (x : List UInt8) (s m : Nat) : dF f c x s (m + 1) = dF f c x s m ++ [(f + (2 + (s + m)), iP f c (2 + (s + m)) x ((s + m) * 120))] := by
 simp [dF, List.range_succ]
structure nJ (f c p t : Nat) (rs rs' : List (List UInt8)) (ws : Ws) (ss : List (List UInt8)) : Prop where
 sole : Ws.Sole ws ss.length
 torn : ∀ new, yh ss ws new -> Good new f c p t rs
 whole : Good (over ss ws) f c p t rs
 text : rJ (over ss ws) f (enc rs')
 at_ : ∀ k, k < ws.length -> f + 2 <= (Ws.nth ws k).1 /\ (Ws.nth ws k).1 < f + c
theorem tC {ss new : List (List UInt8)} {f c p t : Nat} {rs : List (List UInt8)} (g : Good ss f c p t rs) (s m : Nat) (hl : new.length = ss.length) (hs : ∀ j, (∀ i, i < m -> f + (2 + (s + i)) ≠ j) -> new.getD j [] = ss.getD j [])
  (hp : ∀ i, i < m -> nK f c (2 + (s + i)) (new.getD (f + (2 + (s + i))) []) /\ ∀ r, r < 120 -> (s + i) * 120 + r < (enc rs).length -> (new.getD (f + (2 + (s + i))) []).getD (8 + r) 0 = (enc rs).getD ((s + i) * 120 + r) 0) : Good new f c p t rs := by
 have hpl := g.place
 refine ⟨by rw [hl]; exact g.few, g.four, g.most, g.place, g.turn, g.room, by rw [hs _ (by omega)]; exact g.head, by rw [hs _ (by omega)]; exact g.loose, fun k h1 h2 => ?_, fun j hj => ?_⟩
 ·by_cases e : ∃ i, i < m /\ k = 2 + (s + i)
  ·obtain ⟨i, hi, rfl⟩ := e
   exact (hp i hi).1
  ·rw [hs _ (fun i hi he => e ⟨i, hi, by omega⟩)]
   exact g.own k h1 h2
 ·by_cases e : ∃ i, i < m /\ j / 120 = s + i
  ·obtain ⟨i, hi, e⟩ := e
   have := (hp i hi).2 (j % 120) (Nat.mod_lt _ (by omega)) (by omega)
   rw [e, this]
   congr 1
   omega
  ·rw [hs _ (fun i hi he => e ⟨i, hi, by omega⟩)]
   exact g.text j hj
theorem textFor {ss : List (List UInt8)} {f c p t : Nat} {rs : List (List UInt8)} {y : List UInt8} {rs' : List (List UInt8)} (g : Good ss f c p t rs) (hx : enc rs' = enc rs ++ y) (hr : (enc rs').length <= room c) (s m : Nat) (hs : s = (enc rs).length / 120) (hm : s + m = ((enc rs').length + 119) / 120) : nJ f c p t rs rs' (dF f c (enc rs') s m) ss := by
 have hroom : room c = (c - 2) * 120 := rfl
 have hfew := g.few
 have hfour := g.four
 have hle : (enc rs).length <= (enc rs').length := by rw [hx, List.length_append]; omega
 have hc : ∀ i, i < m -> 2 + (s + i) < c := fun i hi => by omega
 have so : Ws.Sole (dF f c (enc rs') s m) ss.length := by
  refine ⟨fun k hk => ?_, fun k n hk hn he => ?_⟩
  ·rw [bD] at hk
   rw [dZ _ _ _ _ _ _ hk]
   exact ⟨by have := hc k hk; show f + (2 + (s + k)) < _; omega, ic _ _ _ _ _⟩
  ·rw [bD] at hk hn
   rw [dZ _ _ _ _ _ _ hk, dZ _ _ _ _ _ _ hn] at he
   have he' : f + (2 + (s + k)) = f + (2 + (s + n)) := he
   omega
 have byte : ∀ i, i < m -> ∀ r, r < 120 -> (s + i) * 120 + r < (enc rs).length -> (iP f c (2 + (s + i)) (enc rs') ((s + i) * 120)).getD (8 + r) 0 = (enc rs).getD ((s + i) * 120 + r) 0 := fun i hi r hr h => by
  rw [vD _ _ _ _ _ _ hr (by omega), hx, oL, if_pos h]
 refine ⟨so, fun new h => ?_, ?_, fun j hj => ?_, fun k hk => ?_⟩
 ·refine tC g s m h.len (fun j hj => h.stay j fun k hk => ?_) fun i hi => ?_
  ·rw [bD] at hk
   rw [dZ _ _ _ _ _ _ hk]
   exact hj k hk
  ·obtain ⟨n, hn, e⟩ := h.part i (by rw [bD]; exact hi)
   rw [dZ _ _ _ _ _ _ hi] at e
   have e' : new.getD (f + (2 + (s + i))) [] = mix n (iP f c (2 + (s + i)) (enc rs') ((s + i) * 120)) (ss.getD (f + (2 + (s + i))) []) := e
   rw [e']
   refine ⟨(g.own _ (by omega) (hc i hi)).over (ic _ _ _ _ _) (sP _ _ _ _ _) hn, fun r hr h => ?_⟩
   rw [qN _ _ _ _ (by rw [ic]; exact hn)]
   split
   ·exact byte i hi r hr h
   ·have := g.text ((s + i) * 120 + r) h
    rw [show ((s + i) * 120 + r) / 120 = s + i from by omega, show ((s + i) * 120 + r) % 120 = r from by omega] at this
    exact this
 ·refine tC g s m (fM _ _ _) (fun j hj => oh so j fun k hk => ?_) fun i hi => ?_
  ·rw [bD] at hk
   rw [dZ _ _ _ _ _ _ hk]
   exact hj k hk
  ·have e := sQ so i (by rw [bD]; exact hi)
   rw [dZ _ _ _ _ _ _ hi] at e
   have e' : (over ss (dF f c (enc rs') s m)).getD (f + (2 + (s + i))) [] = iP f c (2 + (s + i)) (enc rs') ((s + i) * 120) := e
   rw [e']
   exact ⟨⟨ic _ _ _ _ _, Or.inl (sP _ _ _ _ _)⟩, byte i hi⟩
 ·by_cases h : s <= j / 120
  ·have hi : j / 120 - s < m := by omega
   have e := sQ so (j / 120 - s) (by rw [bD]; exact hi)
   rw [dZ _ _ _ _ _ _ hi, show s + (j / 120 - s) = j / 120 from by omega] at e
   have e' : (over ss (dF f c (enc rs') s m)).getD (f + (2 + j / 120)) [] = iP f c (2 + j / 120) (enc rs') (j / 120 * 120) := e
   rw [e', vD _ _ _ _ _ _ (by omega) (by omega)]
   congr 1
   omega
  ·have e := oh so (f + (2 + j / 120)) fun k hk => by
    rw [bD] at hk
    rw [dZ _ _ _ _ _ _ hk]
    show f + (2 + (s + k)) ≠ _
    omega
   rw [e, g.text j (by omega), hx, oL, if_pos (by omega)]
 ·rw [bD] at hk
  rw [dZ _ _ _ _ _ _ hk]
  have := hc k hk
  show f + 2 <= f + (2 + (s + k)) /\ f + (2 + (s + k)) < f + c
  omega
theorem tZ {ss : List (List UInt8)} {f c p t : Nat} {rs : List (List UInt8)} (g : Good ss f c p t rs) : nJ f c p t rs [] [] ss :=
 ⟨⟨fun k hk => absurd hk (by simp), fun k m hk => absurd hk (by simp)⟩, fun new h => by
  have e : new = ss := CY h.len fun j _ => h.stay j fun k hk => absurd hk (by simp)
  rw [e]; exact g, g, fun j hj => absurd hj (by simp [enc]), fun k hk => absurd hk (by simp)⟩
def dV (f c q : Nat) (s : List UInt8) : List Act := if s = blank f c q then [] else [.write (f + q) (blank f c q), .flush]
def eH (ws : Ws) : List Act := if ws = [] then [] else ws.acts ++ [.flush]
def jP (f c p : Nat) (h : Hd) : List Act := [.write (f + (1 - p)) (aF f c (1 - p) h), .flush, .write (f + p) (blank f c p), .flush]
def eD (f c p : Nat) (s : List UInt8) (ws : Ws) (h : Hd) : List Act := dV f c (1 - p) s ++ (eH ws ++ jP f c p h)
theorem oG {d : Dk} {i : Nat} {x : List UInt8} {l : List Act} {P : List (List UInt8) -> Prop} (hd : d.pend = []) (hi : i < d.safe.length) (hx : x.length = 128) (h1 : ∀ new, yh d.safe [(i, x)] new -> P new) (h2 : lG { d with safe := d.safe.set i x, pend := [] } l P) : lG d (.write i x :: .flush :: l) P :=
 pK (ws := [(i, x)]) hd (BJ hi hx) h1 h2
theorem xS {d : Dk} {ws : Ws} {l : List Act} {P : List (List UInt8) -> Prop} (hd : d.pend = []) (hs : Ws.Sole ws d.safe.length) (h1 : ∀ new, yh d.safe ws new -> P new) (h2 : lG { d with safe := over d.safe ws, pend := [] } l P) : lG d (eH ws ++ l) P := by
 unfold eH
 by_cases e : ws = []
 ·rw [if_pos e, List.nil_append]
  rw [e, vN] at h2
  have : ({ d with safe := d.safe, pend := [] } : Dk) = d := by cases d; simp only at hd; subst hd; rfl
  rw [this] at h2
  exact h2
 ·rw [if_neg e, List.append_assoc]
  exact pK hd hs h1 h2
theorem lw {d : Dk} {i : Nat} {x : List UInt8} {l : List Act} (hd : d.pend = []) : d.acts (.write i x :: .flush :: l) = ({ d with safe := d.safe.set i x, pend := [] } : Dk).acts l := by
 rw [Dk.acts_cons, Dk.acts_cons]
 congr 1
 simp only [Dk.act, Dk.write, Dk.flush, Dk.seen, hd]
 rfl
theorem Bh {d : Dk} {ws : Ws} {l : List Act} (hd : d.pend = []) : d.acts (eH ws ++ l) = ({ d with safe := over d.safe ws, pend := [] } : Dk).acts l := by
 unfold eH
 by_cases e : ws = []
 ·rw [if_pos e, List.nil_append, e, vN]
  congr 1
  cases d; simp only at hd; subst hd; rfl
 ·rw [if_neg e, List.append_assoc, Dk.acts_app, Dk.acts_writes, hd]
  rfl
theorem BA {ss : List (List UInt8)} {f c p t : Nat} {rs : List (List UInt8)} (g : Good ss f c p t rs) : Good (ss.set (f + (1 - p)) (blank f c (1 - p))) f c p t rs := by
 have hf := g.few
 have h4 := g.four
 obtain ⟨a, b, e⟩ := ul (old := ss) (i := f + (1 - p)) (x := blank f c (1 - p)) (by omega)
 exact g.turned a b (by rw [e]; exact lq _ _ _ _)
theorem set_self {ss : List (List UInt8)} {i : Nat} {x : List UInt8} (h : ss.getD i [] = x) : ss.set i x = ss := by
 apply List.ext_getElem?
 intro j
 rw [List.getElem?_set]
 split
 ·rename_i e
  subst e
  split
  ·rename_i hi
   rw [<- h, List.getD_eq_getElem?_getD, List.getElem?_eq_getElem hi]
   rfl
  ·rename_i hi
   exact (List.getElem?_eq_none (by omega)).symm
 ·rfl
def changed (f c p : Nat) (ss : List (List UInt8)) (ws : Ws) (h : Hd) : List (List UInt8) := ((over (ss.set (f + (1 - p)) (blank f c (1 - p))) ws).set (f + (1 - p)) (aF f c (1 - p) h)).set (f + p) (blank f c p)
theorem pO {d : Dk} {f c p : Nat} {ws : Ws} {h : Hd} (hd : d.pend = []) : d.acts (eD f c p (d.safe.getD (f + (1 - p)) []) ws h) = { d with safe := changed f c p d.safe ws h, pend := [] } := by
 have key : ∀ d : Dk, d.pend = [] -> d.acts (eH ws ++ jP f c p h) = { d with safe := ((over d.safe ws).set (f + (1 - p)) (aF f c (1 - p) h)).set (f + p) (blank f c p), pend := [] } := fun d hd => by
  rw [Bh hd, jP, lw rfl, lw rfl, Dk.acts_nil]
 unfold eD dV changed
 by_cases e : d.safe.getD (f + (1 - p)) [] = blank f c (1 - p)
 ·rw [if_pos e, List.nil_append, key d hd, set_self e]
 ·rw [if_neg e, List.cons_append, List.cons_append, List.nil_append, lw hd, key _ rfl]
theorem May.of {old mid new : List (List UInt8)} {f c p t : Nat} {rs rs' : List (List UInt8)} (h1 : mid.length = old.length) (h2 : ∀ j, j < f \/ f + c <= j -> mid.getD j [] = old.getD j []) (m : May mid f c p t rs rs' new) : May old f c p t rs rs' new :=
 ⟨m.len.trans h1, fun j hj => (m.stay j hj).trans (h2 j hj), m.log⟩
theorem qg {ss new : List (List UInt8)} {f c p t : Nat} {rs rs' : List (List UInt8)} {i : Nat} (hi : f <= i /\ i < f + c) (hl : new.length = ss.length) (hs : ∀ j, j ≠ i -> new.getD j [] = ss.getD j []) (h : Good new f c p t rs \/ Good new f c (1 - p) (t + 1) rs') : May ss f c p t rs rs' new :=
 ⟨hl, fun j hj => hs j (by omega), h⟩
theorem wO {d : Dk} {f c p t : Nat} {rs rs' : List (List UInt8)} (hd : d.pend = []) (g : Good d.safe f c p t rs) (hb : d.safe.getD (f + (1 - p)) [] = blank f c (1 - p)) (ht : t + 1 < 18446744073709551616) (hr : (enc rs').length <= room c) (hx : rJ d.safe f (enc rs')) :
  lG d (jP f c p (df (t + 1) rs')) (May d.safe f c p t rs rs') /\ Good ((d.safe.set (f + (1 - p)) (aF f c (1 - p) (df (t + 1) rs'))).set (f + p) (blank f c p)) f c (1 - p) (t + 1) rs' := by
 have hp := g.place
 have h4 := g.four
 have hf := g.few
 have ho : (df (t + 1) rs').Ok := ⟨ht, by have := room_le g.most; show (enc rs').length < _; omega, fU _⟩
 obtain ⟨a1, a2, a3⟩ := ul (old := d.safe) (i := f + (1 - p)) (x := aF f c (1 - p) (df (t + 1) rs')) (by omega)
 have g1 : Good (d.safe.set (f + (1 - p)) (aF f c (1 - p) (df (t + 1) rs'))) f c (1 - p) (t + 1) rs' := g.switch a1 a2 ht hr hx a3
 obtain ⟨b1, b2, b3⟩ := ul (old := d.safe.set (f + (1 - p)) (aF f c (1 - p) (df (t + 1) rs'))) (i := f + p) (x := blank f c p) (by omega)
 have e : 1 - (1 - p) = p := by omega
 have g2 : Good ((d.safe.set (f + (1 - p)) (aF f c (1 - p) (df (t + 1) rs'))).set (f + p) (blank f c p)) f c (1 - p) (t + 1) rs' :=
  g1.turned b1 (fun j hj => b2 j (by rw [e] at hj; exact hj)) (by rw [e, b3]; exact lq _ _ _ _)
 refine ⟨?_, g2⟩
 refine oG hd (by omega) (bg ho) (fun new h => ?_) (oG rfl (by show _ < (d.safe.set _ _).length; omega) (aO _ _ _) (fun new h => ?_) (AB rfl ?_))
 ·obtain ⟨l1, l2, n, hn, l3⟩ := qA h
  refine qg (i := f + (1 - p)) (by omega) l1 l2 ?_
  rw [hb] at l3
  by_cases hn' : n < 128
  ·exact Or.inl (g.turned l1 l2 (by rw [l3]; exact Aq ho hn'))
  ·refine Or.inr (g.switch l1 l2 ht hr hx ?_)
   rw [l3]
   exact mix_all _ _ _ (by rw [bg ho]; omega) (by rw [aO]; omega)
 ·obtain ⟨l1, l2, n, hn, l3⟩ := qA h
  refine May.of a1 (fun j hj => a2 j (by omega)) (qg (i := f + p) (by omega) l1 l2 (Or.inr ?_))
  refine g1.turned l1 (fun j hj => l2 j (by rw [e] at hj; exact hj)) ?_
  rw [e, l3]
  have hl := g1.loose
  rw [e] at hl
  exact rF hl hn
 ·exact May.of a1 (fun j hj => a2 j (by omega)) (qg (i := f + p) (by omega) b1 b2 (Or.inr g2))
theorem nE {d : Dk} {f c p t : Nat} {rs rs' : List (List UInt8)} {ws : Ws} (hd : d.pend = []) (g : Good d.safe f c p t rs) (ht : t + 1 < 18446744073709551616) (hr : (enc rs').length <= room c) (hw : ∀ ss, ss.length = d.safe.length -> Good ss f c p t rs -> nJ f c p t rs rs' ws ss) :
  lG d (eD f c p (d.safe.getD (f + (1 - p)) []) ws (df (t + 1) rs')) (May d.safe f c p t rs rs') /\ Good (changed f c p d.safe ws (df (t + 1) rs')) f c (1 - p) (t + 1) rs' := by
 have hp := g.place
 have h4 := g.four
 have hf := g.few
 have key : ∀ e : Dk, e.pend = [] -> e.safe.length = d.safe.length -> (∀ j, j < f \/ f + c <= j -> e.safe.getD j [] = d.safe.getD j []) -> Good e.safe f c p t rs -> e.safe.getD (f + (1 - p)) [] = blank f c (1 - p) ->
   lG e (eH ws ++ jP f c p (df (t + 1) rs')) (May d.safe f c p t rs rs') /\ Good (((over e.safe ws).set (f + (1 - p)) (aF f c (1 - p) (df (t + 1) rs'))).set (f + p) (blank f c p)) f c (1 - p) (t + 1) rs' := fun e he hel hes ge hb => by
  have tf := hw e.safe hel ge
  have hov : ∀ j, (∀ k, k < ws.length -> (Ws.nth ws k).1 ≠ j) -> (over e.safe ws).getD j [] = e.safe.getD j [] := fun j hj => oh tf.sole j hj
  have hbl : (over e.safe ws).getD (f + (1 - p)) [] = blank f c (1 - p) := by rw [hov _ (fun k hk => by have := tf.at_ k hk; omega), hb]
  have tr := wO (d := { e with safe := over e.safe ws, pend := [] }) (rs' := rs') rfl tf.whole hbl ht hr tf.text
  refine ⟨xS he tf.sole (fun new h => ⟨h.len.trans hel, fun j hj => (h.stay j fun k hk => by have := tf.at_ k hk; omega).trans (hes j hj), Or.inl (tf.torn new h)⟩) ?_, tr.2⟩
  intro n hn cc
  exact May.of ((fM _ _ _).trans hel) (fun j hj => (hov j fun k hk => by have := tf.at_ k hk; omega).trans (hes j hj)) (tr.1 n hn cc)
 obtain ⟨a1, a2, a3⟩ := ul (old := d.safe) (i := f + (1 - p)) (x := blank f c (1 - p)) (by omega)
 have k2 := key { d with safe := d.safe.set (f + (1 - p)) (blank f c (1 - p)), pend := [] } rfl a1 (fun j hj => a2 j (by omega)) (BA g) a3
 refine ⟨?_, k2.2⟩
 unfold eD dV
 by_cases e : d.safe.getD (f + (1 - p)) [] = blank f c (1 - p)
 ·rw [if_pos e, List.nil_append]
  exact (key d hd rfl (fun _ _ => rfl) g e).1
 ·rw [if_neg e, List.cons_append, List.cons_append, List.nil_append]
  refine oG hd (by omega) (aO _ _ _) (fun new h => ?_) k2.1
  obtain ⟨l1, l2, n, hn, l3⟩ := qA h
  exact qg (i := f + (1 - p)) (by omega) l1 l2 (Or.inl (g.turned l1 l2 (by rw [l3]; exact rF g.loose hn)))
end S
end Go.Proofs.YteealihknndclaaGreatDoor
namespace Go.Proofs.YteealihknndclaaGreatDoor
open Go.RowKit

namespace S
structure Hh where
 cnt : Nat
 root : Nat
 lv : Nat
 used : List UInt8
def Hh.none : Hh := ⟨0, 0, 0, zeros 64⟩
def hhc (h : Hh) : List Value := .int .i64 (h.cnt : Int) :: .int .i64 (h.root : Int) :: .int .i64 (h.lv : Int) :: v8l h.used
theorem Fy (h : Hh) : ∀ v ∈ hhc h, v.oneCell' = true := by
 intro v hv
 rcases List.mem_cons.1 hv with rfl | hv
 ·rfl
 ·rcases List.mem_cons.1 hv with rfl | hv
 ·rfl
 ·rcases List.mem_cons.1 hv with rfl | hv
  ·rfl
  ·exact bT h.used v hv
theorem hhc_one (h : Hh) : (hhc h).toArray.all (·.oneCell') = true := all_oneCell_toArray (Fy h)
structure Hh.Ok (h : Hh) : Prop where
 cnt : h.cnt < 4294967296
 root : 0 < h.root /\ h.root < 65536
 lv : h.lv < 256
 used : h.used.length = 64
end S
def hhv (h : S.Hh) : Value := .agg (S.hhc h).toArray
def bP (w : World) (b : Nat) (h : S.Hh) : Prop := w.heap[b]? = some (.cells (S.hhc h).toArray 105 (0, 0))
theorem new105 (w : World) : bP (w.alloc (.cells (S.hhc S.Hh.none).toArray 105)) w.heap.size S.Hh.none := heap_alloc_new _ _
end Go.Proofs.YteealihknndclaaGreatDoor
namespace Go.Proofs.YteealihknndclaaGreatDoor
open Go.RowKit

namespace S
theorem ze (s : List UInt8) : sO (s.drop 9) = nN s := by
 unfold sO nN
 rw [List.drop_drop, List.drop_drop]
theorem yM (x : List UInt8) (h : 43 <= x.length) : (Rd.mk x 0 0 0).number 8 = (⟨x, 8, 0, 0⟩, (sO x).turn) := by
 unfold Rd.number Rd.take
 rw [uV, if_pos rfl, if_pos (by show 0 + 8 <= x.length; omega)]
 rfl
theorem yL (x : List UInt8) (h : 43 <= x.length) : (Rd.mk x 8 0 0).number 3 = (⟨x, 11, 0, 0⟩, (sO x).used) := by
 unfold Rd.number Rd.take
 rw [oC, if_pos rfl, if_pos (by show 8 + 3 <= x.length; omega)]
 rfl
theorem yN (x : List UInt8) (h : 43 <= x.length) : (Rd.mk x 11 0 0).digest = (⟨x, 43, 0, 0⟩, (sO x).sl) := by
 unfold Rd.digest Rd.take
 rw [if_pos rfl, if_pos (by show 11 + 32 <= x.length; omega)]
 have hl : ((x.drop 11).take 32).length = 32 := by simp; omega
 show (_, splice (zeros 32) 0 ((x.drop 11).take 32)) = _
 rw [dM, hl]
 simp [zeros, sO]
theorem za (x : List UInt8) (h : 43 <= x.length) : (sO x).Ok := by
 refine ⟨?_, ?_, by simp [sO]; omega⟩
 ·have h1 := nZ (x.take 8)
 have h2 : (x.take 8).length = 8 := by simp; omega
 rw [h2] at h1
 exact h1
 ·have h1 := nZ ((x.drop 8).take 3)
 have h2 : ((x.drop 8).take 3).length = 3 := by simp; omega
 rw [h2] at h1
 exact h1
end S
end Go.Proofs.YteealihknndclaaGreatDoor
namespace Go.Proofs.YteealihknndclaaGreatDoor
open Go.RowKit

theorem y9 (w : World) (h b : S.Hd) : ∃ w0, w0 = (w.alloc (.cells (S.hc h).toArray 221)).alloc (.cells (S.hc b).toArray 221) /\ Hid (bO w0 w.heap.size h) /\ Hid (bO w0 (w.heap.size + 1) b) /\ Hid (Below w.heap.size w w0) /\ Hid (w0.heap.size = w.heap.size + 2) := by
 refine ⟨_, rfl, ?_, ?_, (ba ..).alloc (by simp) _, by show ((w.alloc _).alloc _).heap.size = _; simp⟩
 ·show ((w.alloc _).alloc _).heap[w.heap.size]? = _
 rw [heap_alloc_old _ _ (by simp)]
 exact heap_alloc_new _ _
 ·show ((w.alloc _).alloc _).heap[w.heap.size + 1]? = _
 rw [show w.heap.size + 1 = (w.alloc (.cells (S.hc h).toArray 221)).heap.size from by simp]
 exact heap_alloc_new _ _
end Go.Proofs.YteealihknndclaaGreatDoor
