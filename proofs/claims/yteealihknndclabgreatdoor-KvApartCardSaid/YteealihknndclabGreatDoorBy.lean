/- Package bytes, as far as a log uses it: Equal, HasPrefix, Clone, TrimRight of noughts. -/
import Derived.Test.YteealihknndclabGreatDoorGi
import Derived.Laws.IdiomStrings
import Derived.Lib.BufferRead
import Derived.Test.YteealihknndclabGreatDoorBa
import Derived.Lib.BytesEntry
import Derived.Lib.LazyBuf
namespace Go.Proofs.YteealihknndclabGreatDoor
open Go.RowKit
theorem dx {w : World} {v : Value} {bs : List UInt8} (h : SliceAt w v bs) : (convert 22 9 v).run Tryz.prog w = .ok (.string ⟨bs.toArray⟩) w := by
 rcases h with ⟨rfl, rfl⟩ | ⟨a, cap, rfl, _, rfl⟩ | ⟨b, off, cap, rfl, h1, h2, h3, h4⟩
 ·exact Lib.run_convert_nil_bytes w 22 9 5 0 Tryz.underlying22 Tryz.underlying5 Tryz.underlying9
 ·exact run_convert_bytes_back w 22 9 5 a cap [] Tryz.underlying22 Tryz.underlying5 Tryz.underlying9 (fun j hj => by simp at hj)
 ·refine run_convert_bytes_back w 22 9 5 ⟨b, off, none⟩ cap bs Tryz.underlying22 Tryz.underlying5 Tryz.underlying9 (fun j hj => ?_)
  rw [Addr.add_lit]
  have := h4 j hj
  simp only [List.getD_eq_getElem?_getD, List.getElem?_eq_getElem hj, Option.getD_some] at this
  simpa using this
set_option maxRecDepth 10000 in
theorem ig (v u : Value) (xs ys : List UInt8) (w : World) (h1 : SliceAt w v xs) (h2 : SliceAt w u ys) :
  Calls Tryz.prog 55 #[v, u] w fun e w' => e = .returned (.bool (decide (xs = ys))) /\ w = w' := by
 have k1 := dx h1
 have k2 := dx h2
 obtain ⟨ao, l1, c1, rfl, z1⟩ := h1.form
 obtain ⟨bo, l2, c2, rfl, z2⟩ := h2.form
 clear h1 h2 z1 z2
 obtain ⟨A, hA⟩ : ∃ A : ByteArray, A = ⟨xs.toArray⟩ := ⟨_, rfl⟩
 obtain ⟨B, hB⟩ : ∃ A : ByteArray, A = ⟨ys.toArray⟩ := ⟨_, rfl⟩
 rw [<- hA] at k1
 rw [<- hB] at k2
 have HE : Hid ((A.toList == B.toList) = decide (xs = ys)) := by
  show (A.toList == B.toList) = decide (xs = ys)
  rw [hA, hB, ByteArray.toList_eq, ByteArray.toList_eq]
  rw [Bool.eq_iff_iff]
  simp
 clear hA hB
 go_enter Tryz.func55, Tryz.ntmps55
 go_wp2
 go_ret
 exact ⟨by rw [<- HE.out]; rfl, rfl⟩
theorem xz (xs ys : List UInt8) : decide (xs.take ys.length = ys) = decide (ys <+: xs) := by
 rw [decide_eq_decide]
 exact ⟨fun e => List.prefix_iff_eq_take.2 e.symm, fun e => (List.prefix_iff_eq_take.1 e).symm⟩
set_option maxRecDepth 10000 in
theorem mU (v u : Value) (xs ys : List UInt8) (w : World) (h1 : SliceAt w v xs) (h2 : SliceAt w u ys) :
  Calls Tryz.prog 199 #[v, u] w fun e w' => e = .returned (.bool (decide (ys <+: xs))) /\ w = w' := by
 obtain ⟨ao, l1, c1, rfl, hl1, hm1⟩ := h1.form
 obtain ⟨bo, l2, c2, rfl, hl2, hm2⟩ := h2.form
 have H1 := hide h1
 have H2 := hide h2
 have L1 := hide hl1
 have L2 := hide hl2
 by_cases hlt : l2 <= l1
 ·have q1 : (l2 : Int) <= (l1 : Int) := by omega
  have q2 : (0 : Int) <= (l2 : Int) := by omega
  have q3 : (l1 : Int) <= (c1 : Int) := by have := h1.le_cap; omega
  have q4 : (l2 : Int) <= (c1 : Int) := by omega
  have HP := hide (j5 h1 l2 hlt)
  have HQ := hide (xz xs ys)
  clear h1 h2 hl1 hl2
  go_enter Tryz.func199, Tryz.ntmps199
  go_wp2_with fail
  refine (ig _ _ _ _ w HP.out H2.out).mono ?_
  rintro e w1 ⟨rfl, rfl⟩
  rw [L2.out, HQ.out]
  obtain ⟨B, hB⟩ : ∃ B, B = decide (ys <+: xs) := ⟨_, rfl⟩
  rw [<- hB]
  have HB := hide hB
  clear hB
  have E := L2.out
  go_wp2_with fail
  go_ret
  exact ⟨by rw [<- HB.out]; rfl, rfl⟩
 ·have q1 : ¬ (l2 : Int) <= (l1 : Int) := by omega
  have HQ : Hid (decide (ys <+: xs) = false) := by
   refine decide_eq_false fun e => ?_
   have := e.length_le
   omega
  clear h1 h2 hl1 hl2
  go_enter Tryz.func199, Tryz.ntmps199
  go_wp2_with fail
  go_ret
  exact ⟨by rw [HQ.out]; rfl, rfl⟩
theorem sS {w : World} {v : Value} {bs : List UInt8} (h : SliceAt w v bs) : (Extern.Bytes.bytesOf v).run Tryz.prog w = .ok ⟨bs.toArray⟩ w := by
 rcases h with ⟨rfl, rfl⟩ | ⟨a, cap, rfl, _, rfl⟩ | ⟨b, off, cap, rfl, h1, h2, h3, h4⟩
 ·rfl
 ·rfl
 ·have hl := Lib.run_loadBytesX (P := Tryz.prog) w (bs.map fun x => (x.toNat : Int)) ⟨b, off, none⟩ .empty (fun j x hj => by
   rw [List.getElem?_map, Option.map_eq_some_iff] at hj
   obtain ⟨y, hy, rfl⟩ := hj
   have hjl : j < bs.length := (List.getElem?_eq_some_iff.1 hy).1
   have := h4 j hjl
   rw [Addr.add_lit, this, List.getD_eq_getElem?_getD, hy]
   rfl)
  rw [List.length_map] at hl
  show (Extern.Bytes.loadBytes _ _ _).run _ _ = _
  rw [hl]
  congr 1
  apply ByteArray.ext
  have e : ((fun n : Int => UInt8.ofNat n.toNat) ∘ fun x : UInt8 => (x.toNat : Int)) = id := by funext x; simp
  simp [Lib.bytesOf, List.map_map, e]
theorem wY {w : World} {v u : Value} {xs ys : List UInt8} (h1 : SliceAt w v xs) (h2 : SliceAt w u ys) : (Extern.BytealgCompare.compare #[v, u]).run Tryz.prog w = .ok (.int .i64 (Lib.compareBytes xs ys)) w := by
 change Sem.run Tryz.prog (do pure (goInt (Extern.BytealgCompare.cmp (<- Extern.Bytes.bytesOf v) (<- Extern.Bytes.bytesOf u)))) w = _
 simp only [Sem.run_bind, sS h1, sS h2, Sem.run_pure, Result.andThen]
 rw [Lib.cmp_eq]
 rfl
set_option maxRecDepth 100000 in
theorem iH (v u : Value) (xs ys : List UInt8) (w : World) (h1 : SliceAt w v xs) (h2 : SliceAt w u ys) :
  Calls Tryz.prog 54 #[v, u] w fun e w' => e = .returned (.int .i64 (Lib.compareBytes xs ys)) /\ w = w' := by
 have hc := wY h1 h2
 obtain ⟨ao, l1, c1, rfl, z1⟩ := h1.form
 obtain ⟨bo, l2, c2, rfl, z2⟩ := h2.form
 clear h1 h2 z1 z2
 generalize Lib.compareBytes xs ys = c at hc ⊢
 go_enter Tryz.func54, Tryz.ntmps54
 go_wp2
 rw [run_callFunc_extern Tryz.func90 (by kernel_rfl) (by kernel_rfl) (by kernel_rfl) (e := Extern.BytealgCompare.compare) (by kernel_rfl), hc]
 simp only [Result.andThen]
 rw [Oper.upon_value]
 go_wp2
 go_ret
 exact ⟨rfl, rfl⟩
namespace S
def bU (a b : List UInt8) : Int := Lib.compareBytes a b
theorem xV : bU [] [] = 0 := rfl
theorem nY (x : UInt8) (a : List UInt8) : bU [] (x :: a) = -1 := by simp [bU, Lib.compareBytes]
theorem iA (x : UInt8) (a : List UInt8) : bU (x :: a) [] = 1 := by simp [bU, Lib.compareBytes]
theorem gq (x y : UInt8) (a b : List UInt8) : bU (x :: a) (y :: b) = if x < y then -1 else if y < x then 1 else bU a b := by simp [bU, Lib.compareBytes]
theorem bY (a : List UInt8) : bU a a = 0 := by
 induction a with
 | nil => rfl
 | cons x a ih => rw [gq, if_neg (UInt8.lt_irrefl x), if_neg (UInt8.lt_irrefl x), ih]
theorem mh (a b : List UInt8) : bU b a = - bU a b := by
 induction a generalizing b with
 | nil => cases b with
  | nil => rfl
  | cons y b => rw [iA, nY]; rfl
 | cons x a ih => cases b with
  | nil => rw [iA, nY]
  | cons y b =>
   rw [gq, gq]
   by_cases h1 : x < y
   ·have h2 : ¬ y < x := fun h => by rw [UInt8.lt_iff_toNat_lt] at h h1; omega
    simp [h1, h2]
   ·by_cases h2 : y < x
    ·simp [h1, h2]
    ·simp [h1, h2, ih]
theorem wo {a b : List UInt8} (h : bU a b = 0) : a = b := by
 induction a generalizing b with
 | nil => cases b with
  | nil => rfl
  | cons y b => rw [nY] at h; omega
 | cons x a ih => cases b with
  | nil => rw [iA] at h; omega
  | cons y b =>
   rw [gq] at h
   by_cases h1 : x < y
   ·rw [if_pos h1] at h; omega
   ·rw [if_neg h1] at h
    by_cases h2 : y < x
    ·rw [if_pos h2] at h; omega
    ·rw [if_neg h2] at h
     have e : x = y := UInt8.toNat_inj.1 (by rw [UInt8.lt_iff_toNat_lt] at h1 h2; omega)
     rw [e, ih h]
theorem ng {a b c : List UInt8} (h1 : bU a b < 0) (h2 : bU b c < 0) : bU a c < 0 := by
 induction a generalizing b c with
 | nil => cases c with
  | nil => cases b with
   | nil => exact h1
   | cons y b => rw [iA] at h2; omega
  | cons z c => rw [nY]; omega
 | cons x a ih => cases b with
  | nil => rw [iA] at h1; omega
  | cons y b => cases c with
   | nil => rw [iA] at h2; omega
   | cons z c =>
    rw [gq] at h1 h2 ⊢
    simp only [UInt8.lt_iff_toNat_lt] at h1 h2 ⊢
    by_cases p1 : x.toNat < y.toNat
    ·by_cases p2 : y.toNat < z.toNat
     ·rw [if_pos (by omega)]; omega
     ·rw [if_neg p2] at h2
      by_cases p3 : z.toNat < y.toNat
      ·rw [if_pos p3] at h2; omega
      ·rw [if_pos (by omega)]; omega
    ·rw [if_neg p1] at h1
     by_cases q1 : y.toNat < x.toNat
     ·rw [if_pos q1] at h1; omega
     ·rw [if_neg q1] at h1
      by_cases p2 : y.toNat < z.toNat
      ·rw [if_pos (by omega)]; omega
      ·rw [if_neg p2] at h2
       by_cases p3 : z.toNat < y.toNat
       ·rw [if_pos p3] at h2; omega
       ·rw [if_neg p3] at h2
        rw [if_neg (by omega), if_neg (by omega)]
        exact ih h1 h2
theorem Cf (a b : List UInt8) : -1 <= bU a b /\ bU a b <= 1 := by
 induction a generalizing b with
 | nil => cases b with
  | nil => rw [xV]; omega
  | cons y b => rw [nY]; omega
 | cons x a ih => cases b with
  | nil => rw [iA]; omega
  | cons y b => rw [gq]; split; omega; split; omega; exact ih b
def up (ks : List (List UInt8)) : Prop := ks.Pairwise (fun a b => bU a b < 0)
def rank (ks : List (List UInt8)) (k : List UInt8) : Nat := ks.countP (fun a => decide (bU a k < 0))
end S
def Els {α : Type} (enc : α -> List Value) (w : World) (v : Value) (d : List α) : Prop :=
 (v = .slice none 0 0 /\ d = []) \/ (∃ a cap, v = .slice (some a) 0 cap /\ d = []) \/
 (∃ b off cap, v = .slice (some ⟨b, off, none⟩) d.length cap /\ d.length <= cap /\ d.length <= 1000000 /\ b < w.heap.size /\ ∀ j u, (d.flatMap enc)[j]? = some u -> w.cell? ⟨b, off + j, none⟩ = some u)
theorem Els.form {α : Type} {enc : α -> List Value} {w : World} {v : Value} {d : List α} (h : Els enc w v d) : ∃ ao cap, v = .slice ao d.length cap /\ d.length <= 1000000 := by
 rcases h with ⟨rfl, rfl⟩ | ⟨a, cap, rfl, rfl⟩ | ⟨b, off, cap, rfl, h1, h2, h3, h4⟩
 ·exact ⟨_, _, rfl, by simp⟩
 ·exact ⟨_, _, rfl, by simp⟩
 ·exact ⟨_, _, rfl, h2⟩
theorem Els.chg {α : Type} {enc : α -> List Value} {p : Nat -> Prop} {w W : World} {v : Value} {d : List α} (h : Els enc w v d) (hc : Chg p w W) (hp : ∀ k, v.ownBlock = some k -> ¬ p k) : Els enc W v d := by
 rcases h with h | h | ⟨b, off, cap, rfl, h1, h2, h3, h4⟩
 ·exact Or.inl h
 ·exact Or.inr (Or.inl h)
 ·exact Or.inr (Or.inr ⟨b, off, cap, rfl, h1, h2, Nat.lt_of_lt_of_le h3 hc.size, fun j u hu => (World.cell?_of_block (hc.block b h3 (hp b rfl))).trans (h4 j u hu)⟩)
theorem Els.below {α : Type} {enc : α -> List Value} {w W : World} {v : Value} {d : List α} (h : Els enc w v d) (hb : Below w.heap.size w W) : Els enc W v d := h.chg (p := fun _ => False) (Chg.ofBelow' hb) (fun _ _ e => e)
theorem flat_get {α : Type} {enc : α -> List Value} {k : Nat} (hk : ∀ x, (enc x).length = k) (d : List α) (i r : Nat) (x : α) (hx : d[i]? = some x) (hr : r < k) : (d.flatMap enc)[i * k + r]? = (enc x)[r]? := by
 induction d generalizing i with
 | nil => simp at hx
 | cons y l ih =>
  rw [List.flatMap_cons]
  match i, hx with
  | 0, hx =>
   simp at hx
   subst hx
   rw [Nat.zero_mul, Nat.zero_add, List.getElem?_append_left (by rw [hk]; exact hr)]
  | i + 1, hx =>
   rw [List.getElem?_append_right (by rw [hk, Nat.add_mul]; omega), hk, <- ih i (by simpa using hx)]
   congr 1
   rw [Nat.add_mul]
   omega
theorem Els.at {α : Type} {enc : α -> List Value} {k : Nat} (hk : ∀ x, (enc x).length = k) {w : World} {v : Value} {d : List α} (h : Els enc w v d) (i : Nat) (x : α) (hx : d[i]? = some x) : ∃ b off cap, v = .slice (some ⟨b, off, none⟩) d.length cap /\ d.length <= cap /\ b < w.heap.size /\ ∀ r u, (enc x)[r]? = some u -> w.cell? ⟨b, off + (i * k + r), none⟩ = some u := by
 rcases h with ⟨rfl, rfl⟩ | ⟨a, cap, rfl, rfl⟩ | ⟨b, off, cap, rfl, h1, h2, h3, h4⟩
 ·simp at hx
 ·simp at hx
 ·refine ⟨b, off, cap, rfl, h1, h3, fun r u hu => h4 _ u ?_⟩
  have hr : r < k := by have := (List.getElem?_eq_some_iff.1 hu).1; rw [hk] at this; exact this
  rw [flat_get hk d i r x hx hr, hu]
structure EnV where
 ka : Option Addr
 kn : Nat
 kc : Nat
 va : Option Addr
 vn : Nat
 vc : Nat
 pg : Int
 nd : Option Addr
def EnV.key (x : EnV) : Value := .slice x.ka x.kn x.kc
def EnV.val (x : EnV) : Value := .slice x.va x.vn x.vc
def aR (x : EnV) : List Value := [.slice x.ka x.kn x.kc, .slice x.va x.vn x.vc, .int .i64 x.pg, .pointer x.nd]
theorem gB (x : EnV) : (aR x).length = 4 := rfl
structure nG (w : World) (x : EnV) (e : S.Ent) : Prop where
 key : SliceAt w x.key e.key
 val : SliceAt w x.val e.val
 page : x.pg = (e.page : Int)
def aX (w : World) (d : List EnV) (es : List S.Ent) : Prop := d.length = es.length /\ ∀ (i : Nat) x e, d[i]? = some x -> es[i]? = some e -> nG w x e
theorem nG.below {w W : World} {x : EnV} {e : S.Ent} (h : nG w x e) (hb : Below w.heap.size w W) : nG W x e := ⟨h.key.below hb (lr _), h.val.below hb (lr _), h.page⟩
theorem aX.below {w W : World} {d : List EnV} {es : List S.Ent} (h : aX w d es) (hb : Below w.heap.size w W) : aX W d es := ⟨h.1, fun i x e hx he => (h.2 i x e hx he).below hb⟩
theorem aX.at {w : World} {d : List EnV} {es : List S.Ent} (h : aX w d es) {i : Nat} (hi : i < es.length) : ∃ x, d[i]? = some x /\ nG w x es[i] := by
 have hd : i < d.length := by rw [h.1]; exact hi
 exact ⟨d[i], List.getElem?_eq_getElem hd, h.2 i _ _ (List.getElem?_eq_getElem hd) (List.getElem?_eq_getElem hi)⟩
set_option maxRecDepth 10000 in
theorem pJ (ka va nd : Option Addr) (kn kc vn vc : Nat) (pg : Int) (kv : Value) (k key : List UInt8) (w : World) (h1 : SliceAt w (.slice ka kn kc) k) (h2 : SliceAt w kv key) :
  Calls Tryz.prog 65 #[.agg #[.slice ka kn kc, .slice va vn vc, .int .i64 pg, .pointer nd], kv] w fun e w' => e = .returned (.int .i64 (S.bU k key)) /\ Below w.heap.size w w' := by
 have H1 := hide h1
 have H2 := hide h2
 obtain ⟨ao, l1, c1, rfl, z1⟩ := h2.form
 obtain ⟨c, hc⟩ : ∃ c, c = S.bU k key := ⟨_, rfl⟩
 rw [<- hc]
 have HC : Hid (Lib.compareBytes k key = c) := hc.symm
 clear h1 h2 z1 hc
 go_enter Tryz.func65, Tryz.ntmps65
 go_wp2_with fail
 have B1 : Hid (Below w.heap.size w (w.alloc (.cells #[.slice ka kn kc, .slice va vn vc, .int .i64 pg, .pointer nd] 95))) := ba ..
 refine (iH _ _ k key _ (H1.out.below B1.out (lr _)) (H2.out.below B1.out (lr _))).mono ?_
 rintro e w1 ⟨rfl, rfl⟩
 rw [HC.out]
 go_wp2_with fail
 go_ret
 exact ⟨rfl, B1.out⟩
theorem yz {w : World} {b off i : Nat} {x : EnV} (h : ∀ (r : Nat) u, (aR x)[r]? = some u -> w.cell? ⟨b, off + (i * 4 + r), none⟩ = some u) :
  w.cell? ⟨b, off + i * 4, none⟩ = some (.slice x.ka x.kn x.kc) /\ w.cell? ⟨b, off + i * 4 + 1, none⟩ = some (.slice x.va x.vn x.vc) /\ w.cell? ⟨b, off + i * 4 + 2, none⟩ = some (.int .i64 x.pg) /\ w.cell? ⟨b, off + i * 4 + 3, none⟩ = some (.pointer x.nd) :=
 ⟨h 0 _ rfl, by rw [Nat.add_assoc]; exact h 1 _ rfl, by rw [Nat.add_assoc]; exact h 2 _ rfl, by rw [Nat.add_assoc]; exact h 3 _ rfl⟩
namespace S
theorem Am (ks : List (List UInt8)) (k : List UInt8) (i : Nat) (hi : i <= ks.length) (h1 : ∀ j (h : j < ks.length), j < i -> bU ks[j] k < 0) (h2 : ∀ j (h : j < ks.length), i <= j -> 0 <= bU ks[j] k) : rank ks k = i := by
 unfold rank
 induction ks generalizing i with
 | nil => simp at hi; simp [hi]
 | cons a l ih =>
  cases i with
  | zero =>
   rw [List.countP_eq_zero]
   intro x hx
   obtain ⟨j, hj, rfl⟩ := List.getElem_of_mem hx
   have := h2 j hj (Nat.zero_le _)
   simp; omega
  | succ i =>
   have h0 := h1 0 (by simp) (by omega)
   rw [List.countP_cons_of_pos (by simpa using h0), ih i (by simpa using hi) (fun j h hj => by have := h1 (j + 1) (by simpa using h) (by omega); simpa using this) (fun j h hj => by have := h2 (j + 1) (by simpa using h) (by omega); simpa using this)]
theorem uq {ks : List (List UInt8)} (h : up ks) {i j : Nat} (hj : j < ks.length) (hij : i < j) : bU ks[i] ks[j] < 0 := List.pairwise_iff_getElem.1 h i j (by omega) hj hij
theorem Er {ks : List (List UInt8)} (h : up ks) (k : List UInt8) (i : Nat) (hi : i <= ks.length) (h1 : ∀ j (h : j < ks.length), j < i -> bU ks[j] k < 0) (h2 : ∀ j (h : j < ks.length), i <= j -> 0 <= bU ks[j] k) : (k ∈ ks) ↔ ∃ hi : i < ks.length, bU ks[i] k = 0 := by
 constructor
 ·intro hm
  obtain ⟨j, hj, rfl⟩ := List.getElem_of_mem hm
  have a1 : i <= j := by
   rcases Nat.lt_or_ge j i with e | e
   ·have := h1 j hj e; rw [bY] at this; omega
   ·exact e
  have a2 : ¬ i < j := fun e => by have := uq h hj e; have := h2 i (by omega) (lr _); omega
  obtain rfl : i = j := by omega
  exact ⟨hj, bY _⟩
 ·rintro ⟨h3, h4⟩
  rw [<- wo h4]
  exact List.getElem_mem _
end S
set_option maxHeartbeats 4000000 in
set_option maxRecDepth 10000 in
theorem yw (v kv : Value) (d : List EnV) (es : List S.Ent) (key : List UInt8) (w : World) (hd : Els aR w v d) (he : aX w d es) (hk : SliceAt w kv key) (hu : S.up (es.map (·.key))) :
  Calls Tryz.prog 64 #[v, kv, .func (.func 65) #[] #[]] w fun e w' => e = .returned (.tuple #[.int .i64 (S.rank (es.map (·.key)) key : Nat), .bool (decide (key ∈ es.map (·.key)))]) /\ Below w.heap.size w w' := by
 obtain ⟨ks, hks⟩ : ∃ ks, ks = es.map (·.key) := ⟨_, rfl⟩
 have hL : d.length = ks.length := by rw [hks, List.length_map]; exact he.1
 have KEY : Hid (∀ i (h : i < ks.length), ∃ x, d[i]? = some x /\ SliceAt w x.key ks[i]) := fun i h => by
  have h' : i < es.length := by rw [hks, List.length_map] at h; exact h
  obtain ⟨x, hx, hi⟩ := he.at h'
  refine ⟨x, hx, ?_⟩
  simp only [hks, List.getElem_map]
  exact hi.key
 rw [<- hks] at hu ⊢
 have HU := hide hu
 have HK := hide hk
 obtain ⟨n, hn⟩ : ∃ n, n = ks.length := ⟨_, rfl⟩
 have HN := hide hn
 have hd2 := hd
 obtain ⟨ao, cap, rfl, hbig⟩ := hd2.form
 obtain ⟨bo, l1, c1, rfl, z1⟩ := hk.form
 obtain ⟨rk, hrk⟩ : ∃ rk, rk = S.rank ks key := ⟨_, rfl⟩
 obtain ⟨fo, hfo⟩ : ∃ fo, fo = decide (key ∈ ks) := ⟨_, rfl⟩
 rw [<- hrk, <- hfo]
 have HRK := hide hrk
 have HFO := hide hfo
 rw [hL, <- hn] at hbig
 have AT : Hid (∀ i, i < n -> ∃ b off x, ao = some ⟨b, off, none⟩ /\ n <= cap /\ d[i]? = some x /\ b < w.heap.size /\ (w.cell? ⟨b, off + i * 4, none⟩ = some (.slice x.ka x.kn x.kc) /\ w.cell? ⟨b, off + i * 4 + 1, none⟩ = some (.slice x.va x.vn x.vc) /\ w.cell? ⟨b, off + i * 4 + 2, none⟩ = some (.int .i64 x.pg) /\ w.cell? ⟨b, off + i * 4 + 3, none⟩ = some (.pointer x.nd))) := fun i hi => by
  have hd1 : i < d.length := by omega
  obtain ⟨b, off, cap', e, h1, h2, h3⟩ := hd.at gB i d[i] (List.getElem?_eq_getElem hd1)
  injection e with e1 e2 e3
  exact ⟨b, off, d[i], e1, by omega, List.getElem?_eq_getElem hd1, h2, yz h3⟩
 rw [hL, <- hn]
 clear hd hd2 he hk hu hks z1 hrk hfo hn hL
 go_enter Tryz.func64, Tryz.ntmps64
 go_wp2_with fail
 go_loopw [9, 10] (fun s9 s10 wr => ∃ lo hi : Nat, s9 = .int .i64 lo /\ s10 = .int .i64 hi /\ lo <= hi /\ hi <= n /\ Hid (Below w.heap.size w wr) /\ Hid ((∀ j (h : j < ks.length), j < lo -> S.bU ks[j] key < 0) /\ (∀ j (h : j < ks.length), hi <= j -> 0 <= S.bU ks[j] key)))
  (fun s9 s10 _ => (intOf s10).toNat - (intOf s9).toNat)
 case atStart => exact ⟨0, n, rfl, rfl, Nat.zero_le _, lr _, Below.refl _ _, ⟨fun j _ h => absurd h (Nat.not_lt_zero _), fun j h1 h2 => by have := HN.out; omega⟩⟩
 case round =>
  obtain ⟨lo, hi, rfl, rfl, hlh, hin, B, I⟩ := hrel
  by_cases hlt : lo < hi
  ·obtain ⟨m, hm⟩ : ∃ m, m = (lo + hi) / 2 := ⟨_, rfl⟩
   have q0 : ((lo : Int) + (hi : Int)) / 2 = (m : Int) := by omega
   have m1 : lo <= m := by omega
   have m2 : m < hi := by omega
   have m3 : m < n := by omega
   obtain ⟨b, off, x, rfl, hcap, hx, hb, t0, t1, t2, t3⟩ := AT.out m m3
   have hmk : m < ks.length := by have := HN.out; omega
   obtain ⟨x', hx', hs⟩ := KEY.out m hmk
   rw [hx] at hx'
   injection hx' with hx'
   subst hx'
   have HS := hide hs
   have u0 := (B.out.cell (p := ⟨b, off + m * 4, none⟩) hb).trans t0
   have u1 := (B.out.cell (p := ⟨b, off + m * 4 + 1, none⟩) hb).trans t1
   have u2 := (B.out.cell (p := ⟨b, off + m * 4 + 2, none⟩) hb).trans t2
   have u3 := (B.out.cell (p := ⟨b, off + m * 4 + 3, none⟩) hb).trans t3
   obtain ⟨c, hc⟩ : ∃ c, c = S.bU ks[m] key := ⟨_, rfl⟩
   have hc2 := S.Cf ks[m] key
   rw [<- hc] at hc2
   have HC := hide hc
   clear t0 t1 t2 t3 hx hs hc hm
   by_cases hneg : c < 0
   ·go_wp2_with (go_at_call 65; refine (pJ _ _ _ _ _ _ _ _ _ ks[m] key wr (HS.out.below B.out (lr _)) (HK.out.below B.out (lr _))).mono ?_; rintro e w1 ⟨rfl, b1⟩; rw [<- HC.out]; have B1 := hide (B.out.trans (b1.mono B.out.size)); clear b1)
    go_roundw
    case rel => exact ⟨m + 1, hi, by go_num, rfl, by omega, hin, B1, ⟨fun j h hj => by
     rcases Nat.lt_or_ge j m with e | e
     ·exact S.ng (S.uq HU.out hmk e) (by rw [<- HC.out]; exact hneg)
     ·obtain rfl : j = m := by omega
      rw [<- HC.out]; exact hneg, I.out.2⟩⟩
    case measure => simp [intOf]; omega
   ·go_wp2_with (go_at_call 65; refine (pJ _ _ _ _ _ _ _ _ _ ks[m] key wr (HS.out.below B.out (lr _)) (HK.out.below B.out (lr _))).mono ?_; rintro e w1 ⟨rfl, b1⟩; rw [<- HC.out]; have B1 := hide (B.out.trans (b1.mono B.out.size)); clear b1)
    go_roundw
    case rel => exact ⟨lo, m, rfl, rfl, by omega, by omega, B1, ⟨I.out.1, fun j h hj => by
     rcases Nat.eq_or_lt_of_le hj with e | e
     ·subst e
      rw [<- HC.out]; omega
     ·have h1 := S.uq HU.out h e
      have h2 : 0 <= S.bU ks[m] key := by rw [<- HC.out]; omega
      by_cases h3 : S.bU ks[j] key < 0
      ·have := S.ng h1 h3; omega
      ·omega⟩⟩
    case measure => simp [intOf]; omega
  ·obtain rfl : hi = lo := by omega
   have hil : hi <= ks.length := by have := HN.out; omega
   obtain rfl : rk = hi := HRK.out.trans (S.Am ks key hi hil I.out.1 I.out.2)
   have MEM := hide (S.Er HU.out key rk hil I.out.1 I.out.2)
   by_cases hn : rk < n
   ·obtain ⟨b, off, x, rfl, hcap, hx, hb, t0, t1, t2, t3⟩ := AT.out rk hn
    have hmk : rk < ks.length := by have := HN.out; omega
    obtain ⟨x', hx', hs⟩ := KEY.out rk hmk
    rw [hx] at hx'
    injection hx' with hx'
    subst hx'
    have HS := hide hs
    have u0 := (B.out.cell (p := ⟨b, off + rk * 4, none⟩) hb).trans t0
    have u1 := (B.out.cell (p := ⟨b, off + rk * 4 + 1, none⟩) hb).trans t1
    have u2 := (B.out.cell (p := ⟨b, off + rk * 4 + 2, none⟩) hb).trans t2
    have u3 := (B.out.cell (p := ⟨b, off + rk * 4 + 3, none⟩) hb).trans t3
    obtain ⟨c, hc⟩ : ∃ c, c = S.bU ks[rk] key := ⟨_, rfl⟩
    have HC := hide hc
    have HM : Hid (fo = (c == 0)) := by
     show fo = (c == 0)
     rw [HFO.out, Bool.eq_iff_iff, decide_eq_true_iff, MEM.out, beq_iff_eq, hc]
     exact ⟨fun ⟨_, h⟩ => h, fun h => ⟨hmk, h⟩⟩
    clear t0 t1 t2 t3 hx hs hc
    go_wp2_with (go_at_call 65; refine (pJ _ _ _ _ _ _ _ _ _ ks[rk] key wr (HS.out.below B.out (lr _)) (HK.out.below B.out (lr _))).mono ?_; rintro e w1 ⟨rfl, b1⟩; rw [<- HC.out]; have B1 := hide (B.out.trans (b1.mono B.out.size)); clear b1)
    go_ret2
    exact ⟨by rw [HM.out]; simp, B1.out⟩
   ·have HM : Hid (fo = false) := by
     show fo = false
     rw [HFO.out, decide_eq_false_iff_not, MEM.out]
     rintro ⟨h, _⟩
     have := HN.out
     omega
    go_wp2_with fail
    go_ret2
    exact ⟨by rw [HM.out]; simp, B.out⟩
structure gT (w : World) (g lv : Nat) (es : List S.Ent) : Prop where
 is : ∃ v d, w.heap[g]? = some (.cells #[.int .i64 (lv : Int), v] 98 (0, 0)) /\ Els aR w v d /\ aX w d es
theorem gT.below {w W : World} {g lv : Nat} {es : List S.Ent} (h : gT w g lv es) (hb : Below w.heap.size w W) : gT W g lv es := by
 obtain ⟨v, d, h1, h2, h3⟩ := h.is
 exact ⟨v, d, (hb.block g (aa h1)).trans h1, h2.below hb, h3.below hb⟩
theorem aK {w : World} {g : Nat} {a b : Value} {t : TypeId} (h : w.heap[g]? = some (.cells #[a, b] t (0, 0))) : w.cell? ⟨g, 0, none⟩ = some a /\ w.cell? ⟨g, 1, none⟩ = some b :=
 ⟨by rw [cell_of_row w g 0 _ _ _ h]; rfl, by rw [cell_of_row w g 1 _ _ _ h]; rfl⟩
set_option maxRecDepth 10000 in
theorem sM (g lv : Nat) (kv : Value) (es : List S.Ent) (key : List UInt8) (w : World) (hn : gT w g lv es) (hk : SliceAt w kv key) (hu : S.up (es.map (·.key))) :
  Calls Tryz.prog 36 #[.pointer (some ⟨g, 0, none⟩), kv] w fun e w' => e = .returned (.tuple #[.int .i64 (S.rank (es.map (·.key)) key : Nat), .bool (decide (key ∈ es.map (·.key)))]) /\ Below w.heap.size w w' := by
 obtain ⟨v, d, h1, h2, h3⟩ := hn.is
 have BS := hide (yw v kv d es key w h2 h3 hk hu)
 obtain ⟨ao, cap, rfl, _⟩ := h2.form
 obtain ⟨c0, c1⟩ := aK h1
 obtain ⟨bo, l1, cc, rfl, z1⟩ := hk.form
 generalize S.rank (es.map (·.key)) key = rk at BS ⊢
 generalize decide (key ∈ es.map (·.key)) = fo at BS ⊢
 clear hn hk hu h1 h2 h3 z1
 go_enter Tryz.func36, Tryz.ntmps36
 go_wp2_with fail
 refine BS.out.mono ?_
 rintro e w1 ⟨rfl, b1⟩
 have B1 := hide b1
 clear b1
 go_wp2_with fail
 go_ret2
 exact ⟨rfl, B1.out⟩
namespace S
def dO (xs : List UInt8) : Nat -> Nat
 | 0 => 0
 | n + 1 => if xs.getD n 0 = 0 then dO xs n else n + 1
theorem ut (xs : List UInt8) (n : Nat) : dO xs n <= n := by
 induction n with
 | zero => exact lr _
 | succ n ih => rw [dO]; split <;> omega
end S
theorem byte_zero (x : UInt8) : ((x.toNat : Int) = 0) ↔ x = 0 := by
 constructor
 ·intro h
  apply UInt8.toNat_inj.1
  have : x.toNat = 0 := by omega
  rw [this]; rfl
 ·rintro rfl; rfl
set_option maxRecDepth 10000 in
theorem nJ (b off n cap : Nat) (xs : List UInt8) (w : World) (h1 : SliceAt w (.slice (some ⟨b, off, none⟩) n cap) xs) :
  Calls Tryz.prog 207 #[.slice (some ⟨b, off, none⟩) n cap, .int .u8 0] w fun e w' => e = .returned (.slice (some ⟨b, off, none⟩) (S.dO xs n) cap) /\ w = w' := by
 obtain ⟨ax, l1, c1, hv, hl1, hm1⟩ := h1.form
 simp only [Value.slice.injEq] at hv
 obtain ⟨rfl, rfl, rfl⟩ := hv
 have hcap := h1.le_cap
 have HC : Hid (∀ j, j < n -> w.cell? ⟨b, off + j, none⟩ = some (.int .u8 ((xs.getD j 0).toNat : Int))) := fun j hj => by
  obtain ⟨b', off', e, _, _, h⟩ := h1.src (by omega)
  simp only [Option.some.injEq, Addr.mk.injEq, and_true] at e
  obtain ⟨rfl, rfl⟩ := e
  exact h j (by omega)
 clear h1 hl1
 go_enter Tryz.func207, Tryz.ntmps207
 go_wp2_with fail
 go_loopw [0] (fun s wr => ∃ k : Nat, k <= n /\ s = .slice (some ⟨b, off, none⟩) k cap /\ Hid (S.dO xs k = S.dO xs n) /\ wr = w) (fun s _ => match s with | .slice _ k _ => k | _ => 0)
 case atStart => exact ⟨n, lr _, rfl, rfl, rfl⟩
 case round =>
  obtain ⟨k, hk, rfl, ht, rfl⟩ := hrel
  rcases k with _ | m
  ·go_wp2_with fail
   go_ret
   exact ⟨by rw [<- ht.out]; rfl, rfl⟩
  ·have q1 : (0 : Int) < ((m + 1 : Nat) : Int) := by omega
   have q2 : ((m + 1 : Nat) : Int) - 1 = (m : Int) := by omega
   have q3 : (0 : Int) <= (m : Int) := by omega
   have q4 : (m : Int) <= (cap : Int) := by omega
   have q5 : (m : Int) < ((m + 1 : Nat) : Int) := by omega
   have c1 := HC.out m (by omega)
   by_cases hx : xs.getD m 0 = 0
   ·have hz : ((xs.getD m 0).toNat : Int) = 0 := (byte_zero _).2 hx
    rw [hz] at c1
    have HT : Hid (S.dO xs m = S.dO xs n) := by
     show S.dO xs m = _
     rw [<- ht.out, S.dO, if_pos hx]
    clear hx hz ht
    go_wp2_with fail
    go_roundw
    case rel => exact ⟨m, by omega, rfl, HT, trivial⟩
    case measure => simp
   ·have hz : ¬ ((xs.getD m 0).toNat : Int) = 0 := fun e => hx ((byte_zero _).1 e)
    obtain ⟨y, hy⟩ : ∃ y : Int, y = ((xs.getD m 0).toNat : Int) := ⟨_, rfl⟩
    rw [<- hy] at c1 hz
    have HT : Hid (S.dO xs n = m + 1) := by
     show S.dO xs n = _
     rw [<- ht.out, S.dO, if_neg hx]
    clear hx hy ht
    go_wp2_with fail
    go_ret
    exact ⟨by rw [HT.out]; rfl, rfl⟩
set_option maxRecDepth 10000 in
theorem tH (b off n cap : Nat) (xs : List UInt8) (w : World) (hn : 0 < n) (h1 : SliceAt w (.slice (some ⟨b, off, none⟩) n cap) xs) :
  Calls Tryz.prog 202 #[.slice (some ⟨b, off, none⟩) n cap, .string ⟨#[0]⟩] w fun e w' => e = .returned (.slice (some ⟨b, off, none⟩) (S.dO xs n) cap) /\ w = w' := by
 have H1 := hide h1
 have q1 : ¬ (n : Int) = 0 := by omega
 have q2 : ¬ n = 0 := by omega
 clear h1 hn
 go_enter Tryz.func202, Tryz.ntmps202
 go_wp2_with fail
 refine (nJ b off n cap xs w H1.out).mono ?_
 rintro e w1 ⟨rfl, rfl⟩
 obtain ⟨t, ht⟩ : ∃ t, t = S.dO xs n := ⟨_, rfl⟩
 rw [<- ht]
 have HT := hide ht
 clear ht
 go_wp2_with fail
 go_ret
 exact ⟨by rw [<- HT.out]; rfl, rfl⟩
theorem Ez {w : World} {base : Nat} {v : Value} {bs : List UInt8} (h : Own w base v bs) : ∃ g c, v = .slice (some ⟨g, 0, none⟩) bs.length c /\ base <= g /\ Room w g c bs := by
 obtain ⟨⟨h1, h2⟩, g, cap, rfl⟩ := h
 rcases h2 with ⟨h3, _⟩ | ⟨g', cap', cur, h3, h4, h5, h6, h7, h8, h9⟩
 ·simp at h3
 ·simp only [Value.slice.injEq, Option.some.injEq, Addr.mk.injEq, and_true, true_and] at h3
  obtain ⟨rfl, rfl⟩ := h3
  exact ⟨g, cap, rfl, h4, cur, h5, by omega, h6, by rw [Nat.mul_one] at h9; exact h9⟩
theorem EB (w : World) : Own (w.alloc (.cells #[] 5)) w.heap.size (.slice (some ⟨w.heap.size, 0, none⟩) 0 0) [] :=
 ⟨⟨rfl, Or.inr ⟨w.heap.size, 0, #[], rfl, lr _, heap_alloc_new _ _, lr _, by simp [maxLen], rfl, rfl⟩⟩, w.heap.size, 0, rfl⟩
theorem eql_nil (a : Addr) (n cap : Nat) (W : World) : (binOp .eql 22 (.slice (some a) n cap) (.slice none 0 0)).run Tryz.prog W = .ok (.bool false) W :=
 by
  have h : ∀ d : Nat, (Op.equalIn (d + 1) 22 (.slice (some a) n cap) (.slice none 0 0)).run Tryz.prog W = .ok false W := fun d => by
   simp [Op.equalIn, run_underlying Tryz.underlying22]
  simp only [binOp]
  simp [Op.equal, Op.maxDepth, h 9999]
set_option maxRecDepth 10000 in
theorem uT (b off n cap : Nat) (xs : List UInt8) (w : World) (h1 : SliceAt w (.slice (some ⟨b, off, none⟩) n cap) xs) :
  Calls Tryz.prog 37 #[.slice (some ⟨b, off, none⟩) n cap] w fun e w' => ∃ g c, e = .returned (.slice (some ⟨g, 0, none⟩) n c) /\ w.heap.size <= g /\ Room w' g c xs /\ Below w.heap.size w w' := by
 have hnil := eql_nil ⟨b, off, none⟩ n cap
 obtain ⟨ax, l1, c1, hv, hl1, hm1⟩ := h1.form
 simp only [Value.slice.injEq] at hv
 obtain ⟨rfl, rfl, rfl⟩ := hv
 have hb0 : Below w.heap.size w (w.alloc (.cells #[] 5)) := ba ..
 have HR := hide (o8 (w.alloc (.cells #[] 5)) w.heap.size _ (.slice (some ⟨b, off, none⟩) n cap) [] xs 22 (EB w) (h1.below hb0 (lr _)) (by simp; omega) (by simp))
 have HB := hide hb0
 have HL : Hid (n = xs.length) := hl1
 clear h1 hl1 hb0
 go_enter Tryz.func37, Tryz.ntmps37
 go_wp2_with (refine aA rfl (.tmp 5) (.tmp 6) 22 22 rfl _ _ rfl rfl HR.out ?_)
 intro v' w' hown hbel
 obtain ⟨g, c, rfl, hg, hr⟩ := Ez hown
 have HF : Hid (Below w.heap.size w w') := HB.out.trans (hbel.mono (by simp))
 have HG := hide hg
 have HM := hide hr
 clear hown hbel hg hr
 rw [<- HL.out]
 go_wp2_with fail
 go_ret
 exact ⟨g, c, rfl, HG.out, HM.out, HF.out⟩
end Go.Proofs.YteealihknndclabGreatDoor
