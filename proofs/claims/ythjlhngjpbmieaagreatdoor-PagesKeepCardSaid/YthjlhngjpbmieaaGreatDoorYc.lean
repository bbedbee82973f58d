/- What PagesKeep's walk carries: the asks, the sheets, the state. -/
import Derived.Test.YthjlhngjpbmieaaGreatDoorYa
import Derived.Test.YthjlhngjpbmieaaGreatDoorUm
namespace Go.Proofs.YthjlhngjpbmieaaGreatDoor
open Go.RowKit

namespace S
/-- An ask, as it came in. -/
structure Ask where
  kind : Int
  after : Int
  again : Int
  ns : List Int
  fill : UInt8
  keep : List Bool
  torn : Int
  bytes : Int
def ask0 : Ask := ⟨0, 0, 0, [], 0, [], 0, 0⟩
/-- The i-th page of an ask, and what it is to be filled with. -/
def Ask.pgN (q : Ask) (i : Nat) : Nat := within (q.ns.getD i 0) 11
def Ask.cB (q : Ask) (i : Nat) : UInt8 := UInt8.ofNat (q.fill.toNat % 200 + i + 1)
theorem Ask.pgN_lt (q : Ask) (i : Nat) : q.pgN i < 12 := by
  have := within_le (q.ns.getD i 0) 11 (by omega)
  unfold Ask.pgN
  omega
theorem Ask.cB_toNat (q : Ask) (i : Nat) (hi : i < 6) : (q.cB i).toNat = q.fill.toNat % 200 + i + 1 := by
  unfold Ask.cB
  rw [UInt8.toNat_ofNat']
  omega
theorem Ask.cB_ne (q : Ask) (i : Nat) (hi : i < 6) : q.cB i ≠ 0 := fun e => by
  have := q.cB_toNat i hi
  rw [e] at this
  simp at this
/-- The map behind the first j sheets. -/
def fA (f : Nat → UInt8) (q : Ask) : Nat → Nat → UInt8
  | 0 => f
  | j + 1 => fun m => if m = q.pgN j then q.cB j else fA f q j m
theorem fA_off (f : Nat → UInt8) (q : Ask) (j m : Nat) (h : ∀ i, i < j → q.pgN i ≠ m) : fA f q j m = f m := by
  induction j with
  | zero => rfl
  | succ j ih =>
    show (if m = q.pgN j then q.cB j else fA f q j m) = f m
    rw [if_neg (fun e => h j (by omega) e.symm)]
    exact ih (fun i hi => h i (by omega))
theorem fA_at (f : Nat → UInt8) (q : Ask) (j i : Nat) (hi : i < j) (hn : ∀ a b, a < j → b < j → q.pgN a = q.pgN b → a = b) : fA f q j (q.pgN i) = q.cB i := by
  induction j with
  | zero => omega
  | succ j ih =>
    show (if q.pgN i = q.pgN j then q.cB j else fA f q j (q.pgN i)) = q.cB i
    by_cases e : q.pgN i = q.pgN j
    · rw [if_pos e, hn i j hi (by omega) e]
    · rw [if_neg e]
      have : i ≠ j := fun h => e (by rw [h])
      exact ih (by omega) (fun a b ha hb => hn a b (by omega) (by omega))
/-- Is a page named twice among the first j? -/
def tw (q : Ask) (j : Nat) : Bool := decide (∃ a, a < j ∧ ∃ b, b < a ∧ q.pgN b = q.pgN a)
theorem tw_no {q : Ask} {j : Nat} (h : tw q j = false) : ∀ a b, a < j → b < j → q.pgN a = q.pgN b → a = b := fun a b ha hb e => by
  have h := of_decide_eq_false h
  rcases Nat.lt_trichotomy a b with c | c | c
  · exact absurd ⟨b, hb, a, c, e⟩ h
  · exact c
  · exact absurd ⟨a, ha, b, c, e.symm⟩ h
theorem tw_yes {q : Ask} {j : Nat} (h : tw q j = true) : ∃ a b, a < j ∧ b < j ∧ a ≠ b ∧ q.pgN a = q.pgN b := by
  obtain ⟨a, ha, b, hb, e⟩ := of_decide_eq_true h
  exact ⟨b, a, by omega, ha, by omega, e⟩
def twTo (q : Ask) (j i : Nat) : Bool := tw q j || decide (∃ b, b < i ∧ q.pgN b = q.pgN j)
theorem twTo_zero (q : Ask) (j : Nat) : twTo q j 0 = tw q j := by
  unfold twTo
  rw [decide_eq_false (fun ⟨_, hb, _⟩ => absurd hb (Nat.not_lt_zero _)), Bool.or_false]
theorem twTo_succ (q : Ask) (j i : Nat) : twTo q j (i + 1) = (twTo q j i || decide (q.pgN i = q.pgN j)) := by
  unfold twTo
  rw [Bool.or_assoc]
  congr 1
  rw [← Bool.decide_or]
  apply decide_eq_decide.2
  constructor
  · rintro ⟨b, hb, e⟩
    by_cases h : b = i
    · exact Or.inr (by rw [← h]; exact e)
    · exact Or.inl ⟨b, by omega, e⟩
  · rintro (⟨b, hb, e⟩ | e)
    · exact ⟨b, by omega, e⟩
    · exact ⟨i, by omega, e⟩
theorem twTo_all (q : Ask) (j : Nat) : twTo q j j = tw q (j + 1) := by
  unfold twTo tw
  rw [← Bool.decide_or]
  apply decide_eq_decide.2
  constructor
  · rintro (⟨a, ha, b, hb, e⟩ | ⟨b, hb, e⟩)
    · exact ⟨a, by omega, b, hb, e⟩
    · exact ⟨j, by omega, b, hb, e⟩
  · rintro ⟨a, ha, b, hb, e⟩
    by_cases h : a = j
    · subst h
      exact Or.inr ⟨b, hb, e⟩
    · exact Or.inl ⟨a, by omega, b, hb, e⟩
theorem tw_zero (q : Ask) : tw q 0 = false := decide_eq_false (fun ⟨_, ha, _⟩ => absurd ha (Nat.not_lt_zero _))
theorem Dk.acts_left (l : List Act) (d : Dk) : (d.acts l).left = d.left := by
  induction l generalizing d with
  | nil => rfl
  | cons a l ih =>
    rw [Dk.acts_cons, ih]
    cases a <;> rfl
theorem homeActs_few (d : Dk) (p t : Nat) (ns : List Nat) (xs : List (List UInt8)) (h : ns.length ≤ 256) : (homeActs d p t ns xs).length ≤ 300000 := by
  have e0 : (enc ([] : List (List UInt8))).length = 0 := rfl
  have c2 := commitActs_few { d with safe := putAll d.safe (homeOf ns) xs ns.length, pend := [] } 1 4 p t [setL ns] [] (by omega)
  unfold homeActs
  simp only [List.length_append, wacts_len, pagesWs_length, List.length_singleton]
  omega
theorem putActs_less (d : Dk) (p t : Nat) (ns : List Nat) (xs : List (List UInt8)) (h : ns.length ≤ 256) : (putActs d p t ns xs).length ≤ 600000 := by
  have e1 := enc_snoc_length [] (setL ns)
  rw [List.nil_append, setL_length] at e1
  have e0 : (enc ([] : List (List UInt8))).length = 0 := rfl
  have c1 := commitActs_few { d with safe := putAll d.safe (fun i => 4101 + i * 8) xs ns.length, pend := [] } 1 4 p t [] [setL ns] (by omega)
  have c2 := homeActs_few { d with safe := after (putAll d.safe (fun i => 4101 + i * 8) xs ns.length) 1 4 p t [] [setL ns], pend := [] } (1 - p) (t + 1) ns xs h
  unfold putActs
  simp only [List.length_append, spTo_length, List.length_singleton]
  omega
end S
theorem PutW.left {w0 w w' : World} {gs : Nat} {o o' : Ow} {d d' : S.Dk} {b : Bool} {p t : Nat} {ns0 : List Nat} {pg : Nat → List UInt8} {ns : List Nat} {xs : List (List UInt8)} (h : PutW w0 w w' gs o o' d d' b p t ns0 pg ns xs) (hl : d.left = none) : b = true ∧ d'.left = none := by
  have g1 := S.Dk.plan_goes (S.settleActs d p t ns0 pg) d hl
  rcases h.how with ⟨d1, h1, rfl, rfl⟩ | ⟨d1, h1, h2⟩
  · rw [h1] at g1
    exact absurd g1.1 (by simp)
  · rw [h1] at g1
    have hl1 : d1.left = none := by
      have := g1.2
      simp only at this
      rw [this, S.Dk.acts_left]
      exact hl
    have g2 := S.Dk.plan_goes (S.putActs d1 (S.pA p ns0) (S.tA t ns0) ns xs) d1 hl1
    rw [h2] at g2
    refine ⟨g2.1, ?_⟩
    have := g2.2
    simp only at this
    rw [this, S.Dk.acts_left]
    exact hl1
theorem PutW.few {w0 w w' : World} {gs : Nat} {o o' : Ow} {d d' : S.Dk} {b : Bool} {p t : Nat} {ns0 : List Nat} {pg : Nat → List UInt8} {ns : List Nat} {xs : List (List UInt8)} (h : PutW w0 w w' gs o o' d d' b p t ns0 pg ns xs) (hp : d.pend = []) (h0 : ns0.length ≤ 256) (hn : ns.length ≤ 256) : d'.pend.length ≤ 1000000 := by
  have s1 := S.Dk.plan_pend (S.settleActs d p t ns0 pg) d
  have s2 : (S.settleActs d p t ns0 pg).length ≤ 300000 := by
    unfold S.settleActs
    split
    · simp
    · exact S.homeActs_few _ _ _ _ _ h0
  rcases h.how with ⟨d1, h1, rfl, rfl⟩ | ⟨d1, h1, h2⟩
  · rw [h1, hp] at s1
    simp at s1
    omega
  · rw [h1, hp] at s1
    have s3 := S.Dk.plan_pend (S.putActs d1 (S.pA p ns0) (S.tA t ns0) ns xs) d1
    rw [h2] at s3
    have s4 := S.putActs_less d1 (S.pA p ns0) (S.tA t ns0) ns xs hn
    simp at s1 s3
    omega
/-- A []int that came in. -/
def IntsAt (w : World) (v : Value) (xs : List Int) : Prop :=
  ∃ ao cap, v = .slice ao xs.length cap ∧ xs.length ≤ 9223372036854775807 ∧ (0 < xs.length → ∃ b off, ao = some ⟨b, off, none⟩ ∧ b < w.heap.size ∧ ∀ j, j < xs.length → w.cell? ⟨b, off + j, none⟩ = some (.int .i64 (xs.getD j 0)) ∧ -9223372036854775808 ≤ xs.getD j 0 ∧ xs.getD j 0 ≤ 9223372036854775807)
/-- The sheets that the statement has made so far. -/
structure Shk (w : World) (base : Nat) (v : Value) (q : S.Ask) (k : Nat) (L : List ShV) : Prop where
  len : L.length = k
  row : w.ownsRow base 37 2 v k (L.flatMap encSh)
  at_ : ∀ i y, L[i]? = some y → y.1 = ((q.pgN i : Nat) : Int) ∧ ∃ bk, y.2 = (some ⟨bk, 0, none⟩, 1024, 1024) ∧ base ≤ bk ∧ w.heap[bk]? = some (.cells (S.v8 (S.pgOf (q.cB i))) 5 (0, 0))
theorem Shk.nil (w : World) (base : Nat) (q : S.Ask) : Shk w base (.slice none 0 0) q 0 [] := ⟨rfl, World.ownsRow_nil _ _ _ _, fun i y h => by simp at h⟩
theorem Shk.below {w W : World} {base : Nat} {v : Value} {q : S.Ask} {k : Nat} {L : List ShV} (h : Shk w base v q k L) (hb : Below w.heap.size w W) : Shk W base v q k L :=
  ⟨h.len, ownsRow_below h.row hb, fun i y hy => by
    obtain ⟨h1, bk, h2, h3, h4⟩ := h.at_ i y hy
    exact ⟨h1, bk, h2, h3, (hb.block bk (block_lt_of_row h4)).trans h4⟩⟩
theorem Shk.snoc {w W : World} {base : Nat} {v v' : Value} {q : S.Ask} {k g : Nat} {L : List ShV} (h : Shk w base v q k L) (ho : W.ownsRow base 37 2 v' (k + 1) (L.flatMap encSh ++ encSh (((q.pgN k : Nat) : Int), some ⟨g, 0, none⟩, 1024, 1024))) (hg : w.grownBy W v.ownBlock) (hb : base ≤ g) (hr : w.heap[g]? = some (.cells (S.v8 (S.pgOf (q.cB k))) 5 (0, 0))) : Shk W base v' q (k + 1) (L ++ [(((q.pgN k : Nat) : Int), some ⟨g, 0, none⟩, 1024, 1024)]) := by
  have keep : ∀ (j : Nat) (cur : Array Value), w.heap[j]? = some (.cells cur 5 (0, 0)) → W.heap[j]? = some (.cells cur 5 (0, 0)) := fun j cur hj => by
    refine (hg.block j (block_lt_of_row hj) (fun e => ?_)).trans hj
    obtain ⟨cc, hc⟩ := owns_type h.row e.symm
    rw [hj] at hc
    injection hc with hc
    injection hc with _ hty
    exact absurd hty (by decide)
  refine ⟨by rw [List.length_append, h.len]; rfl, by rw [List.flatMap_append]; simpa using ho, fun i y hy => ?_⟩
  by_cases hi : i < L.length
  · rw [List.getElem?_append_left hi] at hy
    obtain ⟨h1, bk, h2, h3, h4⟩ := h.at_ i y hy
    exact ⟨h1, bk, h2, h3, keep bk _ h4⟩
  · rw [List.getElem?_append_right (by omega)] at hy
    have hi0 : i - L.length = 0 := by
      cases e : i - L.length with
      | zero => rfl
      | succ n => rw [e] at hy; simp at hy
    rw [hi0] at hy
    have hik : i = k := by have := h.len; omega
    simp at hy
    subst hy hik
    exact ⟨rfl, g, rfl, hb, keep g _ hr⟩
/-- A change of one block that is neither the row nor a page. -/
theorem Shk.map {w W : World} {base : Nat} {v : Value} {q : S.Ask} {k bm : Nat} {L : List ShV} (h : Shk w base v q k L) (hg : w.grownBy W (some bm)) (hn : ∀ cur t, w.heap[bm]? ≠ some (.cells cur t (0, 0))) : Shk W base v q k L := by
  have keep : ∀ (j : Nat) (cur : Array Value) (t : TypeId), w.heap[j]? = some (.cells cur t (0, 0)) → W.heap[j]? = some (.cells cur t (0, 0)) := fun j cur t hj =>
    (hg.block j (block_lt_of_row hj) (fun e => by have e := Option.some.inj e; subst e; exact hn cur t hj)).trans hj
  refine ⟨h.len, ⟨h.row.1, ?_⟩, fun i y hy => ?_⟩
  · rcases h.row.2 with h2 | ⟨g, cap, cur, h1, h2, h3, h4⟩
    · exact Or.inl h2
    · exact Or.inr ⟨g, cap, cur, h1, h2, keep g _ _ h3, h4⟩
  · obtain ⟨h1, bk, h2, h3, h4⟩ := h.at_ i y hy
    exact ⟨h1, bk, h2, h3, keep bk _ _ h4⟩
theorem Shk.page {w : World} {base : Nat} {v : Value} {q : S.Ask} {k : Nat} {L : List ShV} (h : Shk w base v q k L) (i : Nat) (hi : i < k) : ∃ g c, v = .slice (some ⟨g, 0, none⟩) k c ∧ w.cell? ⟨g, i * 2, none⟩ = some (.int .i64 ((q.pgN i : Nat) : Int)) := by
  rcases h.row.2 with ⟨_, h2⟩ | ⟨g, cap, cur, h1, h2, h3, h4, h5, h6, h7⟩
  · omega
  · refine ⟨g, cap, h1, ?_⟩
    have hil : i < L.length := by have := h.len; omega
    have hy := List.getElem?_eq_getElem hil
    obtain ⟨f0, _⟩ := flatSh_get L i _ hy
    rw [← h7, List.getElem?_take_of_lt (by omega), Array.getElem?_toList] at f0
    rw [cell_of_row w g _ _ 37 _ h3, f0, (h.at_ i _ hy).1]
theorem Shk.cells {w : World} {base : Nat} {v : Value} {q : S.Ask} {k : Nat} {L : List ShV} (h : Shk w base v q k L) (hk : 0 < k) : ∃ g c, v = .slice (some ⟨g, 0, none⟩) L.length c ∧ ∀ j x, (L.flatMap encSh)[j]? = some x → w.cell? ⟨g, 0 + j, none⟩ = some x := by
  rcases h.row.2 with ⟨_, h2⟩ | ⟨g, cap, cur, h1, h2, h3, h4, h5, h6, h7⟩
  · omega
  · refine ⟨g, cap, by rw [h1, h.len], fun j x hx => ?_⟩
    have hj : j < (L.flatMap encSh).length := (List.getElem?_eq_some_iff.1 hx).1
    rw [← h7] at hx hj
    rw [List.length_take] at hj
    rw [List.getElem?_take_of_lt (by omega), Array.getElem?_toList] at hx
    rw [Nat.zero_add, cell_of_row w g j _ 37 _ h3]
    exact hx
theorem Shk.mem {w : World} {base : Nat} {v : Value} {q : S.Ask} {k : Nat} {L : List ShV} (h : Shk w base v q k L) (m : Nat) : m ∈ S.pgs L ↔ ∃ i, i < k ∧ q.pgN i = m := by
  unfold S.pgs
  rw [List.mem_map]
  constructor
  · rintro ⟨x, hx, rfl⟩
    obtain ⟨i, hi⟩ := List.getElem?_of_mem hx
    have hil : i < L.length := (List.getElem?_eq_some_iff.1 hi).1
    exact ⟨i, by have := h.len; omega, by rw [(h.at_ i x hi).1]; rfl⟩
  · rintro ⟨i, hi, rfl⟩
    have hil : i < L.length := by have := h.len; omega
    exact ⟨L[i], List.getElem_mem hil, by rw [(h.at_ i _ (List.getElem?_eq_getElem hil)).1]; rfl⟩
theorem Shk.nodup {w : World} {base : Nat} {v : Value} {q : S.Ask} {k : Nat} {L : List ShV} (h : Shk w base v q k L) (hn : S.tw q k = false) : (L.map (·.1)).Nodup := by
  rw [List.Nodup, List.pairwise_map, List.pairwise_iff_getElem]
  intro i j hi hj hij e
  have e1 := (h.at_ i _ (List.getElem?_eq_getElem hi)).1
  have e2 := (h.at_ j _ (List.getElem?_eq_getElem hj)).1
  have := S.tw_no hn i j (by have := h.len; omega) (by have := h.len; omega) (by omega)
  omega
theorem Shk.bad {w : World} {base : Nat} {v : Value} {q : S.Ask} {k : Nat} {L : List ShV} (h : Shk w base v q k L) (hn : S.tw q k = true) : ¬ (L.map (·.1)).Nodup := fun hd => by
  obtain ⟨a, b, ha, hb, hab, e⟩ := S.tw_yes hn
  have hl := h.len
  rw [List.Nodup, List.pairwise_map, List.pairwise_iff_getElem] at hd
  have e1 := (h.at_ a _ (List.getElem?_eq_getElem (show a < L.length by omega))).1
  have e2 := (h.at_ b _ (List.getElem?_eq_getElem (show b < L.length by omega))).1
  rcases Nat.lt_or_gt_of_ne hab with c | c
  · exact hd a b (by omega) (by omega) c (by rw [e1, e2, e])
  · exact hd b a (by omega) (by omega) c (by rw [e1, e2, e])
theorem Shk.ok {w : World} {base : Nat} {v : Value} {q : S.Ask} {k : Nat} {L : List ShV} (h : Shk w base v q k L) (f : Nat → UInt8) (hk : k ≤ 6) (hn : S.tw q k = false) {o : Ow} (ho : ∀ j, o.has j → j < base) : ∀ x ∈ L, ShOk w o (fun m => S.cellPg (S.fA f q k m)) x := fun x hx => by
  obtain ⟨i, hi⟩ := List.getElem?_of_mem hx
  have hil : i < L.length := (List.getElem?_eq_some_iff.1 hi).1
  obtain ⟨h1, bk, h2, h3, h4⟩ := h.at_ i x hi
  have hlen := h.len
  obtain ⟨x1, x2⟩ := x
  simp only at h1 h2
  subst h1 h2
  have hp := q.pgN_lt i
  refine ⟨by simp only; omega, by simp only; omega, rfl, ⟨bk, 0, rfl, fun e => by have := ho bk e; omega, block_lt_of_row h4⟩, ?_⟩
  have e : S.cellPg (S.fA f q k (q.pgN i)) = S.pgOf (q.cB i) := by
    rw [S.fA_at f q k i (by omega) (S.tw_no hn)]
    exact if_neg (q.cB_ne i (by omega))
  show SliceAt w (.slice (some ⟨bk, 0, none⟩) 1024 1024) (S.cellPg (S.fA f q k (q.pgN i)))
  rw [e]
  exact slice_row h4 (S.pgOf_length _).symm (by rw [S.pgOf_length]; omega)
/-- The pages behind the Put are as the map behind it tells. -/
theorem so_put {w : World} {base : Nat} {v : Value} {q : S.Ask} {k : Nat} {L : List ShV} (h : Shk w base v q k L) {f : Nat → UInt8} {pg : Nat → List UInt8} {ns : List Nat} (hso : ∀ m, m < 12 → pg m = S.cellPg (f m)) (hm : ∀ m, m ∈ ns ↔ m ∈ S.pgs L) : ∀ m, m < 12 → S.putPg ns (fun m => S.cellPg (S.fA f q k m)) pg m = S.cellPg (S.fA f q k m) := fun m h12 => by
  unfold S.putPg
  split
  · rfl
  · rename_i hno
    rw [S.fA_off f q k m (fun i hi e => hno ((hm m).2 ((h.mem m).2 ⟨i, hi, e⟩)))]
    exact hso m h12
/-- The state at a round's head. -/
structure Ks (w wr : World) (og gC gs b n : Nat) (o : Ow) (d : S.Dk) (p t : Nat) (ns : List Nat) (pg : Nat → List UInt8) (f : Nat → UInt8) (kv : Value) (c : S.Cut) (ar : Bool) (ag : Int) : Prop where
  pw : Pw w wr o d p t ns pg
  og : o.g = og
  st : StAt wr gs o
  ngs : ¬ o.has gs
  mp : MpIs wr b n f
  nb : ¬ o.has b
  so : ∀ m, m < 12 → pg m = S.cellPg (f m)
  cr : wr.heap[gC]? = some (.cells #[kv, .int .i64 c.torn, .int .i64 c.bytes] 45 (0, 0))
  nc : ¬ o.has gC
  kb : BoolsAt w kv c.keep
  lf : ar = false → d.left = none
  ag1 : ag ≤ 9223372036854775807
  bs : w.heap.size ≤ gs
  bb : w.heap.size ≤ b
  bc : w.heap.size ≤ gC
theorem Ks.then {w wr W : World} {og gC gs b n : Nat} {o : Ow} {d : S.Dk} {p t : Nat} {ns : List Nat} {pg : Nat → List UInt8} {f : Nat → UInt8} {kv : Value} {c : S.Cut} {ar : Bool} {ag : Int} (h : Ks w wr og gC gs b n o d p t ns pg f kv c ar ag) (hb : Below wr.heap.size wr W) : Ks w W og gC gs b n o d p t ns pg f kv c ar ag :=
  ⟨h.pw.then hb, h.og, (hb.block gs (block_lt_of_row h.st)).trans h.st, h.ngs, h.mp.below hb, h.nb, h.so, (hb.block gC (block_lt_of_row h.cr)).trans h.cr, h.nc, h.kb, h.lf, h.ag1, h.bs, h.bb, h.bc⟩
theorem Ks.chg {q : Nat → Prop} {w wr W : World} {og gC gs b n : Nat} {o : Ow} {d : S.Dk} {p t : Nat} {ns : List Nat} {pg : Nat → List UInt8} {f : Nat → UInt8} {kv : Value} {c : S.Cut} {ar : Bool} {ag : Int} (h : Ks w wr og gC gs b n o d p t ns pg f kv c ar ag) (hc : Chg q wr W) (hq : ∀ k, (k < w.heap.size ∨ o.has k ∨ k = gs ∨ k = b ∨ k = gC) → ¬ q k) : Ks w W og gC gs b n o d p t ns pg f kv c ar ag :=
  ⟨⟨⟨h.pw.dk.dk.chg hc (fun k hk => hq k (Or.inr (Or.inl hk))), h.pw.dk.k.chg hc (hq 0 (Or.inl h.pw.pos)), h.pw.dk.no⟩, h.pw.pend, h.pw.has, h.pw.ob, h.pw.below.trans (hc.below _ h.pw.below.size (fun k hk => hq k (Or.inl hk))), h.pw.pos⟩, h.og, hc.row h.st (hq gs (by simp)), h.ngs, h.mp.chg hc (hq b (by simp)), h.nb, h.so, hc.row h.cr (hq gC (by simp)), h.nc, h.kb, h.lf, h.ag1, h.bs, h.bb, h.bc⟩
/-- Another map, that tells the same of the pages. -/
theorem Ks.map {w wr : World} {og gC gs b n b' n' : Nat} {o : Ow} {d : S.Dk} {p t : Nat} {ns : List Nat} {pg : Nat → List UInt8} {f f' : Nat → UInt8} {kv : Value} {c : S.Cut} {ar : Bool} {ag : Int} (h : Ks w wr og gC gs b n o d p t ns pg f kv c ar ag) (hm : MpIs wr b' n' f') (hn : ¬ o.has b') (hb : w.heap.size ≤ b') (hs : ∀ m, m < 12 → pg m = S.cellPg (f' m)) : Ks w wr og gC gs b' n' o d p t ns pg f' kv c ar ag :=
  ⟨h.pw, h.og, h.st, h.ngs, hm, hn, hs, h.cr, h.nc, h.kb, h.lf, h.ag1, h.bs, hb, h.bc⟩
/-- A change of the disk. -/
theorem Ks.disk {w wr W : World} {og gC gs b n : Nat} {o o' : Ow} {d d' : S.Dk} {p t p' t' : Nat} {ns ns' : List Nat} {pg pg' : Nat → List UInt8} {f : Nat → UInt8} {kv : Value} {c : S.Cut} {ar ar' : Bool} {ag : Int} (h : Ks w wr og gC gs b n o d p t ns pg f kv c ar ag) (hd : Dsk W o' d') (hg : o'.g = o.g) (hc : Chg o.has wr W) (ho : ∀ k, o'.has k → o.has k ∨ wr.heap.size ≤ k) (hp : d'.pend = []) (hh : S.Pgs d'.safe p' t' ns' pg') (hs : ∀ m, m < 12 → pg' m = S.cellPg (f m)) (hl : ar' = false → d'.left = none) : Ks w W og gC gs b n o' d' p' t' ns' pg' f kv c ar' ag := by
  have far : ∀ x, ¬ o.has x → x < wr.heap.size → ¬ o'.has x := fun x h1 h2 e => by
    rcases ho x e with e | e
    · exact h1 e
    · omega
  refine ⟨⟨hd, hp, hh, fun k e => ?_, h.pw.below.trans (hc.below _ h.pw.below.size (fun k hk e => by have := h.pw.ob k e; omega)), h.pw.pos⟩, hg.trans h.og, ?_, far gs h.ngs (block_lt_of_row h.st), h.mp.chg hc h.nb, far b h.nb h.mp.lt, hs, hc.row h.cr h.nc, far gC h.nc (block_lt_of_row h.cr), h.kb, hl, h.ag1, h.bs, h.bb, h.bc⟩
  · rcases ho k e with e | e
    · exact h.pw.ob k e
    · exact Nat.le_trans h.pw.below.size e
  · show W.heap[gs]? = some (.cells #[.pointer (some ⟨o'.g, 0, none⟩)] 69 (0, 0))
    rw [hg]
    exact hc.row h.st h.ngs
end Go.Proofs.YthjlhngjpbmieaaGreatDoor
