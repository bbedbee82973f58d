/- Changes sorted by their keys, stably: lists of up to nineteen. -/
import Derived.Shelf.SlSortCmp.InsertionK
import Derived.Shelf.Lay
import Derived.Ground.SlsfProg
import Derived.Test.YteealihknndclaaGreatDoorBn
import Derived.Test.YteealihknndclaaGreatDoorJc
import Derived.Test.YteealihknndclaaGreatDoorBj
import Derived.Test.YteealihknndclaaGreatDoorGk
import Derived.Deep.CutBlock
namespace Go.Proofs
open Go.Shelf Go.RowKit Go.Lib Go.Sort
shelf_lay_g SlLaysF0.n20 Slsf 20 at Tryz 166 as Tryz.insCh
end Go.Proofs
namespace Go.Proofs.YteealihknndclaaGreatDoor
open Go.Shelf Go.RowKit Go.Lib
open Go.Sort (flatK size_flatK get_flatK HoldsK insertionSort insInner insOuter swp)

/-! Sorting goes through a map. -/
theorem map_get {α β : Type} [Inhabited α] [Inhabited β] (f : α → β) (d : Array α) (i : Nat) (h : i < d.size) : (d.map f)[i]! = f d[i]! := by
 rw [getElem!_pos d i h, getElem!_pos (d.map f) i (by simpa using h)]
 simp
theorem swp_size {α : Type} [Inhabited α] (d : Array α) (i j : Nat) : (swp d i j).size = d.size := by simp [swp]
theorem swp_map {α β : Type} [Inhabited α] [Inhabited β] (f : α → β) (d : Array α) (i j : Nat) (hi : i < d.size) (hj : j < d.size) : (swp d i j).map f = swp (d.map f) i j := by
 unfold swp
 rw [map_get f d i hi, map_get f d j hj]
 simp [Array.map_setIfInBounds]
theorem inner_size {α : Type} [Inhabited α] (lt : α → α → Bool) (a j : Nat) (d : Array α) : (insInner lt a j d).size = d.size := by
 induction j generalizing d with
 | zero => rfl
 | succ j ih =>
  unfold insInner
  split
  ·rw [ih, swp_size]
  ·rfl
theorem inner_map {α β : Type} [Inhabited α] [Inhabited β] (f : α → β) (l1 : α → α → Bool) (l2 : β → β → Bool) (hl : ∀ x y, l2 (f x) (f y) = l1 x y) (a j : Nat) (d : Array α) (hj : j < d.size) : (insInner l1 a j d).map f = insInner l2 a j (d.map f) := by
 induction j generalizing d with
 | zero => rfl
 | succ j ih =>
  unfold insInner
  rw [map_get f d (j + 1) hj, map_get f d j (by omega), hl]
  by_cases h : (decide (j + 1 > a) && l1 d[j + 1]! d[j]!) = true
  ·rw [if_pos h, if_pos h, ← swp_map f d (j + 1) j hj (by omega)]
   exact ih _ (by rw [swp_size]; omega)
  ·rw [if_neg h, if_neg h]
theorem outer_go {α : Type} [Inhabited α] (lt : α → α → Bool) (a b i : Nat) (d : Array α) (h : i < b) : insOuter lt a b i d = insOuter lt a b (i + 1) (insInner lt a i d) := by rw [insOuter, if_pos h]
theorem outer_stop {α : Type} [Inhabited α] (lt : α → α → Bool) (a b i : Nat) (d : Array α) (h : ¬ i < b) : insOuter lt a b i d = d := by rw [insOuter, if_neg h]
theorem outer_map {α β : Type} [Inhabited α] [Inhabited β] (f : α → β) (l1 : α → α → Bool) (l2 : β → β → Bool) (hl : ∀ x y, l2 (f x) (f y) = l1 x y) (a b : Nat) : ∀ (n i : Nat) (d : Array α), b - i = n → b ≤ d.size → (insOuter l1 a b i d).map f = insOuter l2 a b i (d.map f) := by
 intro n
 induction n with
 | zero =>
  intro i d hn _
  rw [outer_stop _ _ _ _ _ (by omega), outer_stop _ _ _ _ _ (by omega)]
 | succ n ih =>
  intro i d hn hb
  rw [outer_go l1 a b i d (by omega), outer_go l2 a b i (d.map f) (by omega), ih (i + 1) _ (by omega) (by rw [inner_size]; exact hb), inner_map f l1 l2 hl a i d (by omega)]
theorem sort_map {α β : Type} [Inhabited α] [Inhabited β] (f : α → β) (l1 : α → α → Bool) (l2 : β → β → Bool) (hl : ∀ x y, l2 (f x) (f y) = l1 x y) (b : Nat) (d : Array α) (hb : b ≤ d.size) : (insertionSort l1 d 0 b).map f = insertionSort l2 (d.map f) 0 b := outer_map f l1 l2 hl 0 b _ 1 d rfl hb
theorem outer_size {α : Type} [Inhabited α] (lt : α → α → Bool) (a b : Nat) : ∀ (n i : Nat) (d : Array α), b - i = n → (insOuter lt a b i d).size = d.size := by
 intro n
 induction n with
 | zero => intro i d hn; rw [outer_stop _ _ _ _ _ (by omega)]
 | succ n ih => intro i d hn; rw [outer_go _ _ _ _ _ (by omega), ih (i + 1) _ (by omega), inner_size]
theorem sort_size {α : Type} [Inhabited α] (lt : α → α → Bool) (b : Nat) (d : Array α) : (insertionSort lt d 0 b).size = d.size := outer_size lt 0 b _ 1 d rfl

instance : Inhabited S.Cg := ⟨⟨[], [], false⟩⟩
namespace S
def srt (cs : List Cg) : List Cg := (insertionSort (fun a b : Cg => decide (compareBytes a.key b.key < 0)) cs.toArray 0 cs.length).toList
end S

set_option maxHeartbeats 1000000 in
theorem byKey_any (x y : ChV) (kx ky : List UInt8) (W : World) (hx : SliceAt W (.slice x.ka x.kn x.kc) kx) (hy : SliceAt W (.slice y.ka y.kn y.kc) ky) :
  Calls Tryz.prog 78 #[.agg (encCh x).toArray, .agg (encCh y).toArray] W fun e w' => e = .returned (.int .i64 (compareBytes kx ky)) ∧ ∃ q os', w' = Sort.grow (W.drewN q) os' := by
 have HX := hide hx
 have HY := hide hy
 have e1 : (encCh x).toArray = #[.slice x.ka x.kn x.kc, .slice x.va x.vn x.vc, .bool x.dr] := rfl
 have e2 : (encCh y).toArray = #[.slice y.ka y.kn y.kc, .slice y.va y.vn y.vc, .bool y.dr] := rfl
 rw [e1, e2]
 clear hx hy e1 e2
 go_enter Tryz.func78, Tryz.ntmps78
 go_wp2_with fail
 refine (compare_any _ _ kx ky _ (HX.out.below (((Below.refl _ _).alloc (Nat.le_refl _) _).alloc (by simp) _) (Nat.le_refl _)) (HY.out.below (((Below.refl _ _).alloc (Nat.le_refl _) _).alloc (by simp) _) (Nat.le_refl _))).mono ?_
 rintro e w' ⟨rfl, rfl⟩
 go_wp2_with fail
 go_ret
 exact ⟨rfl, 0, _, by rw [Sort.alloc_eq_grow, Sort.alloc_eq_grow, Sort.grow_grow]; rfl⟩

theorem isAgg34 (w : World) : (isAgg 34).run Tryz.prog w = .ok true w := by kernel_rfl
theorem sizeOf34 (w : World) : (Go.sizeOf 34).run Tryz.prog w = .ok 3 w := by kernel_rfl
theorem flatCh_length (d : List ChV) : (d.flatMap encCh).length = d.length * 3 := by
 induction d with
 | nil => rfl
 | cons x d ih => rw [List.flatMap_cons, List.length_append, ih, encCh_len, List.length_cons]; omega
theorem flatCh_one (d : List ChV) : ∀ v ∈ d.flatMap encCh, v.oneCell' = true := by
 intro v hv
 rw [List.mem_flatMap] at hv
 obtain ⟨x, _, hv⟩ := hv
 simp only [encCh, List.mem_cons, List.not_mem_nil, or_false] at hv
 rcases hv with rfl | rfl | rfl <;> rfl
structure ChR (w : World) (g : Nat) (d : List ChV) : Prop where
 row : ∃ cur, w.heap[g]? = some (.cells cur 34 (0, 0)) ∧ cur.toList.take (d.length * 3) = d.flatMap encCh
theorem ChR.lt {w : World} {g : Nat} {d : List ChV} (h : ChR w g d) : g < w.heap.size := by obtain ⟨cur, h1, _⟩ := h.row; exact block_lt_of_row h1
theorem ChR.below {w W : World} {g : Nat} {d : List ChV} (h : ChR w g d) (hb : Below w.heap.size w W) : ChR W g d := by
 obtain ⟨cur, h1, h2⟩ := h.row
 exact ⟨cur, (hb.block g (block_lt_of_row h1)).trans h1, h2⟩
abbrev Cp (W : World) := {p : ChV × S.Cg // ChIs W p.1 p.2}
instance (W : World) : Inhabited (Cp W) := ⟨⟨(⟨none, 0, 0, none, 0, 0, false⟩, ⟨[], [], false⟩), ⟨Or.inl ⟨rfl, rfl⟩, Or.inl ⟨rfl, rfl⟩, rfl⟩⟩⟩
def encCp {W : World} (p : Cp W) : List Value := encCh p.1.1
def cfCp {W : World} (p q : Cp W) : Int := compareBytes p.1.2.key q.1.2.key
theorem flat_cp {W : World} (d : List (Cp W)) : d.flatMap encCp = (d.map (·.1.1)).flatMap encCh := by
 induction d with
 | nil => rfl
 | cons x d ih => rw [List.flatMap_cons, List.map_cons, List.flatMap_cons, ih]; rfl
theorem flatK_cp {W : World} (d : List (Cp W)) : (flatK encCp 3 d.toArray).toList = (d.map (·.1.1)).flatMap encCh := by
 rw [← flat_cp]
 apply List.ext_getElem?
 intro t
 have hl : (d.flatMap encCp).length = d.length * 3 := by rw [flat_cp, flatCh_length, List.length_map]
 by_cases ht : t < d.length * 3
 ·obtain ⟨i, r, hr, rfl⟩ : ∃ i r, r < 3 ∧ t = i * 3 + r := ⟨t / 3, t % 3, by omega, by omega⟩
  have hi : i < d.length := by omega
  have e0 := flat_get (enc := encCp) (k := 3) (fun _ => rfl) d i r d[i] (List.getElem?_eq_getElem hi) hr
  have hz : i * 3 + r < (flatK encCp 3 d.toArray).size := by simpa using ht
  have e := get_flatK encCp 3 d.toArray (i * 3 + r) (by simpa using ht)
  rw [show (i * 3 + r) / 3 = i by omega, show (i * 3 + r) % 3 = r by omega, getElem!_pos d.toArray i (by simpa using hi), List.getElem_toArray] at e
  have e3 : (flatK encCp 3 d.toArray).toList[i * 3 + r]? = some ((encCp d[i])[r]!) := by
   rw [Array.getElem?_toList, Array.getElem?_eq_getElem hz, ← getElem!_pos (flatK encCp 3 d.toArray) (i * 3 + r) hz, e]
  rw [e3, e0]
  match r, hr with
  | 0, _ => rfl
  | 1, _ => rfl
  | 2, _ => rfl
 ·rw [List.getElem?_eq_none (by simp; omega), List.getElem?_eq_none (by omega)]
theorem sortW_below {W w : World} {g n : Nat} {d' : Array (Cp W)} {os : Array Obj} (B : Nat) (hB : B ≤ g) (hg : g < w.heap.size) : Below B w (sortWorldK encCp 3 w g 0 n d' os) := by
 refine ⟨rfl, rfl, rfl, by simp [sortWorldK, Sort.putRowK, Sort.ahead], fun k hk => ?_⟩
 rw [show sortWorldK encCp 3 w g 0 n d' os = Sort.grow (Sort.putRow id (Sort.ahead w n) g 0 (flatK encCp 3 d')) os from rfl]
 have hks : k < w.heap.size := by omega
 rw [Sort.heap_grow_old _ _ (by simpa using hks)]
 have : g ≠ k := by omega
 simp [Sort.putRow, Sort.mapBlock, Sort.ahead, Array.getElem?_modify, this]
theorem ins_any {W0 w : World} (g c : Nat) (d : List (Cp W0)) (h : ChR w g (d.map (·.1.1))) (hW : Below W0.heap.size W0 w) (hg0 : W0.heap.size ≤ g) (hl : d.length ≤ 100000) :
  Calls Tryz.prog 166 #[.slice (some ⟨g, 0, none⟩) d.length c, .int .i64 0, .int .i64 (d.length : Int), .func (.func 78) #[] #[]] w fun e w' => e = .returned (.tuple #[]) ∧ ∃ d' : List (Cp W0), d'.map (·.1.2) = S.srt (d.map (·.1.2)) ∧ d'.length = d.length ∧ ChR w' g (d'.map (·.1.1)) ∧ Below g w w' := by
 obtain ⟨cur, h1, h2⟩ := h.row
 rw [List.length_map] at h2
 have hgs := block_lt_of_row h1
 have hcs : d.length * 3 ≤ cur.size := by
  have := congrArg List.length h2
  rw [flatCh_length, List.length_take, List.length_map] at this
  have e : cur.toList.length = cur.size := Array.length_toList
  omega
 have hH : HoldsK encCp 3 w g 0 d.toArray := by
  intro j hj
  have hj2 := hj
  rw [size_flatK, List.size_toArray] at hj
  refine ⟨?_, frozen_of_row w g _ cur 34 h1⟩
  rw [cell_of_row w g _ _ 34 _ h1, Nat.zero_add]
  have e : (cur.toList.take (d.length * 3))[j]? = (flatK encCp 3 d.toArray).toList[j]? := by rw [h2, flatK_cp]
  rw [List.getElem?_take_of_lt hj, Array.getElem?_toList, Array.getElem?_toList] at e
  rw [e, Array.getElem?_eq_getElem hj2, getElem!_pos _ j hj2]
  rfl
 have eg : ∀ args w, (callFunc 78 args).run Tryz.prog w = .ok (.enter 78 args) w := enters_of Tryz.func78 (by kernel_rfl) rfl
 have hs := AnyQ.insertionSortCmpFunc Tryz.insCh 3 isAgg34 sizeOf34 (encCp (W := W0)) (fun _ => rfl) (fun x v hv => by
   simp only [encCp, encCh, List.mem_cons, List.not_mem_nil, or_false] at hv
   rcases hv with rfl | rfl | rfl <;> rfl) cfCp 78 #[] g 0 c 0 d.length d.toArray w eg (fun m os dk _ x y => by
    have hb : Below W0.heap.size W0 (sortWorldK encCp 3 w g 0 m dk os) := hW.trans (sortW_below _ hg0 hgs)
    exact byKey_any x.1.1 y.1.1 x.1.2.key y.1.2.key _ (x.2.key.below hb (Nat.le_refl _)) (y.2.key.below hb (Nat.le_refl _))) hH hgs (Nat.zero_le _) (by simp) (by rw [List.size_toArray]; omega)
 rw [List.size_toArray] at hs
 refine Calls.mono hs ?_
 rintro e w' ⟨rfl, n, os, rfl⟩
 obtain ⟨d', hd0⟩ : ∃ d', d' = insertionSort (ltOf cfCp) d.toArray 0 d.length := ⟨_, rfl⟩
 have hp1 : d'.size = d.length := by rw [hd0, sort_size, List.size_toArray]
 have hp3 : d'.toList.length = d.length := hp1
 have hd' : d' = d'.toList.toArray := by simp
 rw [← hd0]
 refine ⟨rfl, d'.toList, ?_, hp3, ⟨Sort.putCells id 0 (flatK encCp 3 d') cur, ?_, ?_⟩, sortW_below _ (Nat.le_refl _) hgs⟩
 ·have := sort_map (fun p : Cp W0 => p.1.2) (ltOf cfCp) (fun a b : S.Cg => decide (compareBytes a.key b.key < 0)) (fun _ _ => rfl) d.length d.toArray (by simp)
  rw [← hd0] at this
  unfold S.srt
  rw [List.length_map]
  have e := congrArg Array.toList this
  simpa using e
 ·rw [show sortWorldK encCp 3 w g 0 n d' os = Sort.grow (Sort.putRow id (Sort.ahead w n) g 0 (flatK encCp 3 d')) os from rfl, Sort.heap_grow_old _ _ (by simpa using hgs)]
  simp [Sort.putRow, Sort.mapBlock, Sort.ahead, Array.getElem?_modify, h1, Sort.onCells]
 ·rw [← flatK_cp, ← hd', List.length_map]
  apply List.ext_getElem?
  intro j
  have hz : (flatK encCp 3 d').size = d.length * 3 := by rw [size_flatK, hp1]
  by_cases hj : j < d'.toList.length * 3
  ·have hj1 : j < d.length * 3 := by rw [hp3] at hj; exact hj
   rw [List.getElem?_take_of_lt hj, Array.getElem?_toList, Array.getElem?_toList]
   have hq : j < (flatK encCp 3 d').size := by omega
   rw [Array.getElem?_eq_getElem hq]
   simp only [Sort.putCells, Array.getElem?_mapIdx, Array.getElem?_eq_getElem (show j < cur.size by omega), Option.map_some]
   rw [if_pos ⟨Nat.zero_le _, by omega⟩, Nat.sub_zero, getElem!_pos _ j hq]
   rfl
  ·rw [hp3] at hj
   have e : (flatK encCp 3 d').toList.length = (flatK encCp 3 d').size := Array.length_toList
   rw [List.getElem?_take_eq_none (by rw [hp3]; omega), List.getElem?_eq_none (by omega)]
end Go.Proofs.YteealihknndclaaGreatDoor
namespace Go.Proofs.YteealihknndclaaGreatDoor
open Go.RowKit

theorem info34 : (Tryz.prog.info? 34).map (fun i => (i.zero, i.size, i.bytes)) = some (some (.agg #[.slice none 0 0, .slice none 0 0, .bool false]), 3, 56) := by kernel_rfl
theorem eql_nil36 (a : Addr) (n cap : Nat) (W : World) : (binOp .eql 36 (.slice (some a) n cap) (.slice none 0 0)).run Tryz.prog W = .ok (.bool false) W :=
 by
  have h : ∀ d : Nat, (Op.equalIn (d + 1) 36 (.slice (some a) n cap) (.slice none 0 0)).run Tryz.prog W = .ok false W := fun d => by
   simp [Op.equalIn, run_underlying Tryz.underlying36]
  simp only [binOp]
  simp [Op.equal, Op.maxDepth, h 9999]
def ChRow (B : Nat) (w : World) (v : Value) (d : List ChV) : Prop := w.ownsRow B 34 3 v d.length (d.flatMap encCh)
theorem ChRow.nil (B : Nat) (w : World) : ChRow B w (.slice none 0 0) [] := ⟨rfl, Or.inl ⟨rfl, rfl⟩⟩
theorem ChRow.els {B : Nat} {w : World} {v : Value} {d : List ChV} (h : ChRow B w v d) (hl : d.length ≤ 1000000) : Els encCh w v d := by
 rcases h.2 with ⟨rfl, h0⟩ | ⟨g, cap, cur, rfl, hB, hr, h1, h2, h3, h4⟩
 ·exact Or.inl ⟨rfl, List.length_eq_zero_iff.1 h0⟩
 ·refine Or.inr (Or.inr ⟨g, 0, cap, rfl, h1, hl, block_lt_of_row hr, fun j u hu => ?_⟩)
  have hj : j < d.length * 3 := by have := (List.getElem?_eq_some_iff.1 hu).1; rw [flatCh_length] at this; exact this
  rw [Nat.zero_add, cell_of_row w g j _ _ _ hr]
  rw [← h4, List.getElem?_take, if_pos hj] at hu
  simpa using hu
theorem ChRow.form {B : Nat} {w : World} {v : Value} {d : List ChV} (h : ChRow B w v d) : ∃ ao cap, v = .slice ao d.length cap := by
 rcases h.2 with ⟨rfl, h0⟩ | ⟨g, cap, cur, rfl, _⟩
 ·exact ⟨none, 0, by rw [h0]⟩
 ·exact ⟨_, _, rfl⟩
theorem ChRow.blk {B : Nat} {w : World} {v : Value} {d : List ChV} (h : ChRow B w v d) {k : Nat} (hk : v.ownBlock = some k) : B ≤ k ∧ k < w.heap.size ∧ ∃ cur, w.heap[k]? = some (.cells cur 34 (0, 0)) := by
 rcases h.2 with ⟨rfl, h0⟩ | ⟨g, cap, cur, rfl, hB, hr, _⟩
 ·simp [Value.ownBlock] at hk
 ·simp only [Value.ownBlock, Option.some.injEq] at hk
  subst hk
  exact ⟨hB, block_lt_of_row hr, cur, hr⟩
theorem ChRow.chg {p : Nat → Prop} {B : Nat} {w W : World} {v : Value} {d : List ChV} (h : ChRow B w v d) (hc : Chg p w W) (hp : ∀ k, v.ownBlock = some k → ¬ p k) : ChRow B W v d := by
 refine ⟨h.1, ?_⟩
 rcases h.2 with h0 | ⟨g, cap, cur, rfl, hB, hr, h1⟩
 ·exact Or.inl h0
 ·exact Or.inr ⟨g, cap, cur, rfl, hB, hc.row hr (hp g rfl), h1⟩
theorem ChRow.below {B : Nat} {w W : World} {v : Value} {d : List ChV} (h : ChRow B w v d) (hb : Below w.heap.size w W) : ChRow B W v d := h.chg (p := fun _ => False) (Chg.ofBelow' hb) (fun _ _ e => e)
theorem run_append_chs (w : World) (B : Nat) (v u : Value) (d y : List ChV) (ty : TypeId) (hown : ChRow B w v d) (hu : Els encCh w u y) (hl : d.length + y.length ≤ 100000) (hB : B ≤ w.heap.size) :
  ∃ v' w', (Builtin.append_ #[36, 36] ty #[v, u]).run Tryz.prog w = .ok v' w' ∧ (ChRow B w' v' (d ++ y) ∧ Chg (fun k => v.ownBlock = some k) w w') := by
 obtain ⟨i, hi, hz0, hz1, hz2⟩ := info_parts info34
 have key : ∀ (a : Addr) (c : Nat), (∀ j x, (y.flatMap encCh)[j]? = some x → w.cell? (a.add j) = some x) → u = .slice (some a) y.length c → ∃ v' w', (Builtin.append_ #[36, 36] ty #[v, u]).run Tryz.prog w = .ok v' w' ∧ (ChRow B w' v' (d ++ y) ∧ Chg (fun k => v.ownBlock = some k) w w') := fun a c hc hu => by
  obtain ⟨v', w', h1, h2, h3, h4⟩ := run_append_own (P := Tryz.prog) w B 36 ty 34 i (.agg #[.slice none 0 0, .slice none 0 0, .bool false]) 3 56 Tryz.underlying36 hi hz0 hz1 hz2 rfl (by omega) v d.length (d.flatMap encCh) hown a y.length c (y.flatMap encCh) (flatCh_length y) hc (flatCh_one y) (by simp [maxLen]; omega) (by omega) hB
  have h2b : ChRow B w' v' (d ++ y) := by unfold ChRow; rw [List.length_append, List.flatMap_append]; exact h2
  exact ⟨v', w', by rw [hu]; exact h1, h2b, (Chg.refl _ w).grown h3 (fun k _ e => e)⟩
 rcases hu with ⟨rfl, rfl⟩ | ⟨a, cap, rfl, rfl⟩ | ⟨b, off, cap, rfl, h1, h2, h3, h4⟩
 ·exact ⟨v, w, run_append_owned_none (P := Tryz.prog) (w := w) B 36 ty 34 i 3 Tryz.underlying36 hi v d.length (d.flatMap encCh) hown, by rw [List.append_nil]; exact hown, Chg.refl _ _⟩
 ·exact key a cap (fun j x h => by simp at h) rfl
 ·exact key ⟨b, off, none⟩ cap (fun j x h => by rw [Addr.add_lit]; exact h4 j x h) rfl
set_option maxHeartbeats 4000000 in
set_option maxRecDepth 10000 in
theorem cclone_any (b off cap : Nat) (d : List ChV) (w : World) (h0 : ∀ j u, (d.flatMap encCh)[j]? = some u → w.cell? ⟨b, off + j, none⟩ = some u) (hd : d ≠ []) (hl : d.length ≤ 100000) :
  Calls Tryz.prog 76 #[.slice (some ⟨b, off, none⟩) d.length cap] w fun e w' => ∃ g c, e = .returned (.slice (some ⟨g, 0, none⟩) d.length c) ∧ w.heap.size ≤ g ∧ ChR w' g d ∧ Below w.heap.size w w' := by
 have hnil := eql_nil36 ⟨b, off, none⟩ d.length cap
 obtain ⟨i, hi, hz0, hz1, hz2⟩ := info_parts info34
 obtain ⟨w1, hw1⟩ : ∃ w1, w1 = w.alloc (.cells #[] 34) := ⟨_, rfl⟩
 have b1 : Below w.heap.size w w1 := by rw [hw1]; exact (Below.refl _ _).alloc (Nat.le_refl _) _
 have r1 : w1.heap[w.heap.size]? = some (.cells #[] 34 (0, 0)) := by rw [hw1]; exact heap_alloc_new _ _
 have hown : w1.ownsRow w.heap.size 34 3 (.slice (some ⟨w.heap.size, 0, none⟩) 0 0) 0 [] := ⟨rfl, Or.inr ⟨w.heap.size, 0, #[], rfl, Nat.le_refl _, r1, Nat.le_refl _, by simp [maxLen], rfl, rfl⟩⟩
 have hdl : 0 < d.length := List.length_pos_iff.2 hd
 have hb0 : b < w.heap.size := by
  obtain ⟨x, r, rfl⟩ := List.exists_cons_of_ne_nil hd
  exact World.block_lt_of_cell? w _ (h0 0 (.slice x.ka x.kn x.kc) rfl)
 have APP := hide (run_append_own (P := Tryz.prog) w1 w.heap.size 36 36 34 i (.agg #[.slice none 0 0, .slice none 0 0, .bool false]) 3 56 Tryz.underlying36 hi hz0 hz1 hz2 rfl (by omega) (.slice (some ⟨w.heap.size, 0, none⟩) 0 0) 0 [] hown ⟨b, off, none⟩ d.length cap (d.flatMap encCh) (flatCh_length d) (fun j u hu => by
  rw [Addr.add_lit]
  exact (b1.cell (p := ⟨b, off + j, none⟩) hb0).trans (h0 j u hu)) (flatCh_one d) (by simp [maxLen]; omega) (by omega) b1.size)
 have HB := hide b1
 have HW := hide hw1
 have HD : Hid (0 < d.length) := hdl
 generalize hdn : d.length = dn at hnil APP HD ⊢
 have HN : Hid (d.length = dn) := hdn
 clear b1 r1 hw1 hown h0 hi hz0 hz1 hz2 hb0 hdn hl hd hdl
 clear i
 go_enter Tryz.func76, Tryz.ntmps76
 go_wp2_with (at_builtin; (rw [← HW.out]; refine wpList_append_known rfl (.tmp 5) (.tmp 6) 36 36 rfl _ _ rfl rfl (by obtain ⟨v', w', h1, h2⟩ := APP.out; exact ⟨v', w', h1, h2⟩) ?_; rintro v2 w2 ⟨ho, hg, hn⟩; have OW := hide ho; have GR := hide hg; clear ho hg hn))
 rcases OW.out.2 with ⟨e, e2⟩ | ⟨g, c, cur, e, hge, h1, h2, h3, h4, h5⟩
 ·exact absurd e2 (by have := HD.out; simp; omega)
 ·subst e
  have S2 : Hid (ChR w2 g d) := ⟨cur, h1, by rw [HN.out]; simpa using h5⟩
  have B2 : Hid (Below w.heap.size w w2) := HB.out.trans (((Chg.refl (fun k => w.heap.size ≤ k) w1).grown GR.out (fun k _ e => by simp only [Value.ownBlock, Option.some.injEq] at e; omega)).below _ HB.out.size (fun k hk e => by omega))
  have GE : Hid (w.heap.size ≤ g) := hge
  clear h1 h2 h3 h4 h5 hge OW GR HB HW APP hnil HD HN
  go_wp2_with fail
  go_ret
  exact ⟨g, c, by simp, GE.out, S2.out, B2.out⟩

set_option maxHeartbeats 1000000 in
theorem stable_any {W0 w : World} (g c : Nat) (d : List (Cp W0)) (h : ChR w g (d.map (·.1.1))) (hW : Below W0.heap.size W0 w) (hg0 : W0.heap.size ≤ g) (hl : d.length ≤ 19) :
  Calls Tryz.prog 122 #[.slice (some ⟨g, 0, none⟩) d.length c, .int .i64 (d.length : Int), .func (.func 78) #[] #[]] w fun e w' => e = .returned (.tuple #[]) ∧ ∃ d' : List (Cp W0), d'.map (·.1.2) = S.srt (d.map (·.1.2)) ∧ d'.length = d.length ∧ ChR w' g (d'.map (·.1.1)) ∧ Below g w w' := by
 have HI := hide (ins_any g c d h hW hg0 (by omega))
 obtain ⟨n, hn⟩ : ∃ n, n = d.length := ⟨_, rfl⟩
 have q1 : ¬ (20 : Int) ≤ (n : Int) := by omega
 have q2 : ¬ (20 : Int) < (n : Int) := by omega
 rw [← hn] at HI ⊢
 have HN := hide hn
 clear h hW hg0 hl hn
 go_enter Tryz.func122, Tryz.ntmps122
 go_wp2_with fail
 go_loopw [7, 8] (fun s7 s8 wr => s7 = .int .i64 0 ∧ s8 = .int .i64 20 ∧ wr = w) (fun _ _ _ => 0)
 case atStart => exact ⟨rfl, rfl, rfl⟩
 case round =>
  obtain ⟨rfl, rfl, hwr⟩ := hrel
  subst hwr
  go_wp2_with fail
  refine HI.out.mono ?_
  rintro e w1 ⟨rfl, H⟩
  have H1 := hide H
  clear H
  go_wp2_with fail
  go_loopw [6] (fun s6 wz => s6 = .int .i64 20 ∧ wz = w1) (fun _ _ => 0)
  case atStart => exact ⟨rfl, rfl⟩
  case round =>
   obtain ⟨rfl, hwr⟩ := hrel
   subst hwr
   go_wp2_with fail
   go_end0
   exact ⟨rfl, H1.out⟩
theorem sortf_any {W0 w : World} (g c : Nat) (d : List (Cp W0)) (h : ChR w g (d.map (·.1.1))) (hW : Below W0.heap.size W0 w) (hg0 : W0.heap.size ≤ g) (hl : d.length ≤ 19) :
  Calls Tryz.prog 77 #[.slice (some ⟨g, 0, none⟩) d.length c, .func (.func 78) #[] #[]] w fun e w' => e = .returned (.tuple #[]) ∧ ∃ d' : List (Cp W0), d'.map (·.1.2) = S.srt (d.map (·.1.2)) ∧ d'.length = d.length ∧ ChR w' g (d'.map (·.1.1)) ∧ Below g w w' := by
 have HI := hide (stable_any g c d h hW hg0 hl)
 obtain ⟨n, hn⟩ : ∃ n, n = d.length := ⟨_, rfl⟩
 rw [← hn] at HI ⊢
 have HN := hide hn
 clear h hW hg0 hl hn
 go_enter Tryz.func77, Tryz.ntmps77
 go_wp2_with fail
 refine HI.out.mono ?_
 rintro e w1 ⟨rfl, H⟩
 have H1 := hide H
 clear H
 go_wp2_with fail
 go_end0
 exact ⟨rfl, H1.out⟩
def keepG {α : Type} (k : α → List UInt8) (xs : List α) (i : Nat) : Bool :=
 match xs[i]?, xs[i + 1]? with
 | some x, some y => !decide (k x = k y)
 | _, _ => true
def lstG {α : Type} (k : α → List UInt8) (xs : List α) : Nat → List α
 | 0 => []
 | i + 1 => lstG k xs i ++ (if keepG k xs i = true then xs[i]?.toList else [])
theorem keepG_map {α β : Type} (f : α → β) (k : α → List UInt8) (k2 : β → List UInt8) (hk : ∀ x, k2 (f x) = k x) (xs : List α) (i : Nat) : keepG k2 (xs.map f) i = keepG k xs i := by
 unfold keepG
 rw [List.getElem?_map, List.getElem?_map]
 cases xs[i]? <;> cases xs[i + 1]? <;> simp [hk]
theorem lstG_map {α β : Type} (f : α → β) (k : α → List UInt8) (k2 : β → List UInt8) (hk : ∀ x, k2 (f x) = k x) (xs : List α) (n : Nat) : (lstG k xs n).map f = lstG k2 (xs.map f) n := by
 induction n with
 | zero => rfl
 | succ n ih =>
  simp only [lstG]
  rw [List.map_append, ih, keepG_map f k k2 hk, List.getElem?_map]
  cases keepG k xs n <;> cases xs[n]? <;> simp
theorem lstG_len {α : Type} (k : α → List UInt8) (xs : List α) (n : Nat) : (lstG k xs n).length ≤ n := by
 induction n with
 | zero => exact Nat.le_refl _
 | succ n ih =>
  simp only [lstG]
  rw [List.length_append]
  have : (if keepG k xs n = true then xs[n]?.toList else []).length ≤ 1 := by
   split
   ·cases xs[n]? <;> simp
   ·simp
  omega
namespace S
def lasts (cs : List Cg) : List Cg := lstG Cg.key (srt cs) cs.length
theorem lasts_length (cs : List Cg) : (lasts cs).length ≤ cs.length := lstG_len _ _ _
end S
structure Ch3 (w : World) (g i : Nat) (x : ChV) : Prop where
 lt : g < w.heap.size
 c0 : w.cell? ⟨g, i * 3, none⟩ = some (.slice x.ka x.kn x.kc)
 c1 : w.cell? ⟨g, i * 3 + 1, none⟩ = some (.slice x.va x.vn x.vc)
 c2 : w.cell? ⟨g, i * 3 + 2, none⟩ = some (.bool x.dr)
theorem Ch3.up {w W : World} {g i : Nat} {x : ChV} (h : Ch3 w g i x) (hb : Below w.heap.size w W) : W.cell? ⟨g, i * 3, none⟩ = some (.slice x.ka x.kn x.kc) ∧ W.cell? ⟨g, i * 3 + 1, none⟩ = some (.slice x.va x.vn x.vc) ∧ W.cell? ⟨g, i * 3 + 2, none⟩ = some (.bool x.dr) :=
 ⟨(hb.cell (p := ⟨g, i * 3, none⟩) (by exact h.lt)).trans h.c0, (hb.cell (p := ⟨g, i * 3 + 1, none⟩) (by exact h.lt)).trans h.c1, (hb.cell (p := ⟨g, i * 3 + 2, none⟩) (by exact h.lt)).trans h.c2⟩
theorem ChR.at {w : World} {g : Nat} {d : List ChV} (h : ChR w g d) (i : Nat) (x : ChV) (hx : d[i]? = some x) : Ch3 w g i x := by
 obtain ⟨cur, h1, h2⟩ := h.row
 have hl : i < d.length := (List.getElem?_eq_some_iff.1 hx).1
 have e : ∀ r, r < 3 → cur[i * 3 + r]? = (encCh x)[r]? := fun r hr => by
  have e0 := flat_get (enc := encCh) (k := 3) (fun _ => rfl) d i r x hx hr
  rw [← h2, List.getElem?_take, if_pos (by omega)] at e0
  rw [← e0]
  simp
 exact ⟨block_lt_of_row h1, by rw [cell_of_row w g _ _ 34 _ h1]; exact e 0 (by omega), by rw [cell_of_row w g _ _ 34 _ h1]; exact e 1 (by omega), by rw [cell_of_row w g _ _ 34 _ h1]; exact e 2 (by omega)⟩
theorem ChR.chg {p : Nat → Prop} {w W : World} {g : Nat} {d : List ChV} (h : ChR w g d) (hc : Chg p w W) (hp : ¬ p g) : ChR W g d := by
 obtain ⟨cur, h1, h2⟩ := h.row
 exact ⟨cur, hc.row h1 hp, h2⟩
theorem one_ch {w : World} {g : Nat} {x : ChV} (h : w.heap[g]? = some (.cells (encCh x).toArray 34 (0, 0))) : Els encCh w (.slice (some ⟨g, 0, none⟩) 1 1) [x] :=
 Or.inr (Or.inr ⟨g, 0, 1, rfl, Nat.le_refl _, by simp, block_lt_of_row h, fun j u hu => by
  rw [Nat.zero_add, cell_of_row w g j _ _ _ h]
  simpa using hu⟩)
def LastIs (w w' : World) (e : Ending) (cs : List S.Cg) : Prop := (∃ v d', e = .returned v ∧ Els encCh w' v d' ∧ ChsAre w' d' (S.lasts cs) ∧ v.oneCell' = true) ∧ Below w.heap.size w w'
set_option maxHeartbeats 16000000 in
set_option maxRecDepth 10000 in
theorem lasts_any (b off cap : Nat) (d : List ChV) (cs : List S.Cg) (w : World) (h0 : ∀ j u, (d.flatMap encCh)[j]? = some u → w.cell? ⟨b, off + j, none⟩ = some u) (hd : d ≠ []) (hl : d.length ≤ 19) (hc : ChsAre w d cs) :
  Calls Tryz.prog 44 #[.slice (some ⟨b, off, none⟩) d.length cap] w fun e w' => LastIs w w' e cs := by
 obtain ⟨ps, hp1, hp2⟩ : ∃ ps : List (Cp w), ps.map (·.1.1) = d ∧ ps.map (·.1.2) = cs := by
  refine ⟨(List.range d.length).attach.map (fun i => ⟨(d[i.1]'(List.mem_range.1 i.2), cs[i.1]'(by rw [← hc.1]; exact List.mem_range.1 i.2)), hc.2 i.1 _ _ (List.getElem?_eq_getElem _) (List.getElem?_eq_getElem _)⟩), ?_, ?_⟩
  ·apply List.ext_getElem
   ·simp
   ·intro i h1 h2; simp
  ·apply List.ext_getElem
   ·simp [hc.1]
   ·intro i h1 h2; simp
 have hpl : ps.length = d.length := by rw [← hp1, List.length_map]
 have HCL := hide (cclone_any b off cap d w h0 hd (by omega))
 obtain ⟨n, hn⟩ : ∃ n, n = d.length := ⟨_, rfl⟩
 have HLN := hide (show n ≤ 19 ∧ ps.length = n by omega)
 rw [← hn] at HCL ⊢
 have HPS := hide (show ps.map (·.1.1) = d ∧ ps.map (·.1.2) = cs from ⟨hp1, hp2⟩)
 clear h0 hd hl hc hp1 hp2 hpl hn
 go_enter Tryz.func44, Tryz.ntmps44
 go_wp2_with fail
 refine HCL.out.mono ?_
 rintro e w1 ⟨g, c, rfl, hg, hr, hb⟩
 have HR1 := hide hr
 have HG := hide hg
 have HB1 := hide hb
 clear hr hg hb
 go_wp2_with fail
 have HSF := sortf_any (W0 := w) (w := w1) g c ps (by rw [HPS.out.1]; exact HR1.out) HB1.out HG.out (by have := HLN.out; omega)
 rw [HLN.out.2] at HSF
 refine HSF.mono ?_
 clear HSF
 rintro e w2 ⟨rfl, xs, hx1, hx2, hx3, hx4⟩
 have HX := hide (show xs.map (·.1.2) = S.srt cs ∧ xs.length = n from ⟨by rw [hx1, HPS.out.2], by rw [hx2]⟩)
 have HR2 := hide hx3
 have HB2 := hide (HB1.out.trans (hx4.mono HG.out))
 clear hx1 hx2 hx3 hx4
 go_wp2_with fail
 go_loopg [3, 12] n (fun gk s3 s12 wr => ∃ i : Nat, i + gk = n ∧ s12 = .int .i64 (i : Int) ∧ Hid (ChRow w2.heap.size wr s3 ((lstG (fun p : Cp w => p.1.2.key) xs i).map (·.1.1))) ∧ Hid (ChR wr g (xs.map (·.1.1))) ∧ Hid (w2.heap.size ≤ wr.heap.size) ∧ Hid (Below w.heap.size w wr))
 case atStart => exact ⟨0, by omega, rfl, hide (ChRow.nil _ _), HR2, hide (Nat.le_refl _), HB2⟩
 case round =>
  have HGL := hide HR2.out.lt
  clear HR1 HB1 HR2
  obtain ⟨i, hi, rfl, HO, HRW, HSZ, HBW⟩ := hrel
  obtain ⟨vo, co, hvo⟩ := HO.out.form
  obtain ⟨no, hno⟩ : ∃ no, no = ((lstG (fun p : Cp w => p.1.2.key) xs i).map (fun p => p.1.1)).length := ⟨_, rfl⟩
  rw [← hno] at hvo
  subst hvo
  have HNE := hide (show (Value.slice vo no co).ownBlock ≠ some g from fun e => by have h1 := (HO.out.blk e).1; have h2 := HGL.out; omega)
  have HNO := hide hno
  clear hno
  cases gk with
  | zero =>
   obtain rfl : i = n := by omega
   have qq : ¬ (i : Int) < (i : Int) := by omega
   clear hi
   go_wp2_with fail
   go_ret
   refine ⟨⟨_, (lstG (fun p : Cp w => p.1.2.key) xs i).map (·.1.1), rfl, ?_, ?_, rfl⟩, HBW.out⟩
   ·have := HO.out.els (by have := lstG_len (fun p : Cp w => p.1.2.key) xs i; rw [List.length_map]; have := HLN.out; omega)
    exact this
   have e1 : (lstG (fun p : Cp w => p.1.2.key) xs i).map (·.1.2) = S.lasts cs := by
    rw [lstG_map (fun p : Cp w => p.1.2) (fun p : Cp w => p.1.2.key) S.Cg.key (fun _ => rfl), HX.out.1, S.lasts, ← HPS.out.2, List.length_map, HLN.out.2]
   rw [← e1]
   refine ⟨by simp, fun j x c hx hc => ?_⟩
   rw [List.getElem?_map] at hx hc
   obtain ⟨p, hp, rfl⟩ := Option.map_eq_some_iff.1 hx
   rw [hp] at hc
   obtain rfl := Option.some.inj hc
   exact p.2.below HBW.out
  | succ gO =>
   have qq : (i : Int) < (n : Int) := by omega
   have q0 : (0 : Int) ≤ (i : Int) := by omega
   have qw : IntKind.i64.wrap ((i : Int) + 1) = (i : Int) + 1 := by rw [IntKind.wrap_i64]; have := HLN.out; omega
   have hlt : i < xs.length := by rw [HX.out.2]; omega
   obtain ⟨x, hx⟩ : ∃ x, xs[i]? = some x := ⟨_, List.getElem?_eq_getElem hlt⟩
   have CI := HRW.out.at i x.1.1 (by rw [List.getElem?_map, hx]; rfl)
   have HXI := hide hx
   have KXW := hide (x.2.key.below HBW.out (Nat.le_refl _))
   obtain ⟨-, c0, c1, c2⟩ := CI
   clear hlt hx
   go_upto_region 7 with fail
   generalize hW1 : wr.alloc _ = W1
   have hb1 : Below wr.heap.size wr W1 := by rw [← hW1]; exact (Below.refl _ _).alloc (Nat.le_refl _) _
   have R5 : Hid (W1.heap[wr.heap.size]? = some (.cells #[.slice x.1.1.ka x.1.1.kn x.1.1.kc, .slice x.1.1.va x.1.1.vn x.1.1.vc, .bool x.1.1.dr] 34 (0, 0))) := by rw [← hW1]; exact heap_alloc_new _ _
   obtain ⟨g5, hg5⟩ : ∃ g, g = wr.heap.size := ⟨_, rfl⟩
   rw [← hg5] at R5 ⊢
   have HO1 := hide (HO.out.below hb1)
   have HRW1 := hide (HRW.out.below hb1)
   have HB1 := hide (HBW.out.trans (hb1.mono HBW.out.size))
   have HS1 := hide hb1.size
   have KX := hide (KXW.out.below hb1 (Nat.le_refl _))
   have HG5 := hide (show g5 ≠ g from fun e => by have := HRW.out.lt; omega)
   clear hW1 hb1 hg5 HO HRW HBW KXW c0 c1 c2
   by_cases hlast : i + 1 = n
   ·have q5 : (i : Int) + 1 = (n : Int) := by omega
    have qwn : IntKind.i64.wrap (n : Int) = (n : Int) := by rw [IntKind.wrap_i64]; have := HLN.out; omega
    have HKP : Hid (keepG (fun p : Cp w => p.1.2.key) xs i = true) := by
     show keepG _ xs i = true
     unfold keepG
     rw [HXI.out, List.getElem?_eq_none (by rw [HX.out.2]; omega)]
    refine wp_region_noPanic ?_
    refine wp_region_held_drew (S := (fun W => Below W1.heap.size W1 W)) follows ((Below.refl _ _).drew) (fun hHeld => ?_)
    clear hHeld
    have hHeld : Below W1.heap.size W1 W1.drew := (Below.refl _ _).drew
    have CZ0 := hide hHeld
    generalize W1.drew = Z0 at CZ0 hHeld ⊢
    refine tq 0 ?_
    simp only [Act.put, uB, uC, uD]
    refine tq 1 ?_
    simp only [Act.put, uB, uC, uD]
    refine tq 2 ?_
    simp only [Act.put, uB, uC, uD]
    refine tq 3 ?_
    simp only [Act.put, uB, uC, uD]
    refine tq 4 ?_
    simp only [Act.put, uB, uC, uD]
    refine tq 5 ?_
    simp only [Act.put, uB, uC, uD]
    refine tk 6 undef rfl (Or.inr ⟨by rfl, rfl⟩) ?_
    simp only [Act.put, uB, uC, uD]
    refine tk 7 undef rfl (Or.inr ⟨by rfl, rfl⟩) ?_
    simp only [Act.put, uB, uC, uD]
    refine tk 8 undef rfl (Or.inr ⟨by rfl, rfl⟩) ?_
    simp only [Act.put, uB, uC, uD]
    refine tk 9 undef rfl (Or.inr ⟨by rfl, rfl⟩) ?_
    simp only [Act.put, uB, uC, uD]
    refine tk 10 undef rfl (Or.inr ⟨by rfl, rfl⟩) ?_
    simp only [Act.put, uB, uC, uD]
    refine tk 11 undef rfl (Or.inr ⟨by rfl, rfl⟩) ?_
    simp only [Act.put, uB, uC, uD]
    refine tk 12 undef rfl (Or.inr ⟨by rfl, rfl⟩) ?_
    simp only [Act.put, uB, uC, uD]
    refine tk 13 undef rfl (Or.inr ⟨by rfl, rfl⟩) ?_
    simp only [Act.put, uB, uC, uD]
    refine tk 14 undef rfl (Or.inr ⟨by rfl, rfl⟩) ?_
    simp only [Act.put, uB, uC, uD]
    refine tk 15 undef rfl (Or.inr ⟨by rfl, rfl⟩) ?_
    simp only [Act.put, uB, uC, uD]
    refine tq 16 ?_
    simp only [Act.put, uB, uC, uD]
    refine wpAnyH_done (by kernel_rfl) ?_ _
    refine NoPanic.normal ?_
    clear hHeld
    have BZ : Hid (Below w.heap.size w Z0) := HB1.out.trans (CZ0.out.mono HB1.out.size)
    have HOZ := hide (HO1.out.below CZ0.out)
    have HRZ := hide (HRW1.out.below CZ0.out)
    obtain ⟨e0, e1, e2⟩ := cells3c ((CZ0.out.block _ (block_lt_of_row R5.out)).trans R5.out)
    have HGZ := hide (show g < Z0.heap.size from HRZ.out.lt)
    obtain ⟨Z2, hZ2⟩ : ∃ Z, Z = Z0.alloc (.cells #[.slice x.1.1.ka x.1.1.kn x.1.1.kc, .slice x.1.1.va x.1.1.vn x.1.1.vc, .bool x.1.1.dr] 34) := ⟨_, rfl⟩
    have hb2 : Below Z0.heap.size Z0 Z2 := by rw [hZ2]; exact (Below.refl _ _).alloc (Nat.le_refl _) _
    have hone : Els encCh Z2 (.slice (some ⟨Z0.heap.size, 0, none⟩) 1 1) [x.1.1] := one_ch (by rw [hZ2]; exact heap_alloc_new _ _)
    have happ := run_append_chs Z2 w2.heap.size (.slice vo no co) (.slice (some ⟨Z0.heap.size, 0, none⟩) 1 1) ((lstG (fun p : Cp w => p.1.2.key) xs i).map (fun p => p.1.1)) [x.1.1] 36 (HOZ.out.below hb2) hone (by rw [← HNO.out]; have := HNO.out; have h2 := lstG_len (fun p : Cp w => p.1.2.key) xs i; rw [List.length_map] at this; have := HLN.out; simp; omega) (Nat.le_trans HSZ.out (Nat.le_trans (Nat.le_trans HS1.out CZ0.out.size) hb2.size))
    have APP := hide happ
    have HZ2 := hide hZ2
    have HBZ2 := hide hb2
    have HRZ2 := hide (HRZ.out.below hb2)
    have BZ2 := hide (BZ.out.trans (hb2.mono BZ.out.size))
    clear hZ2 hb2 hone happ
    go_wp2_with (at_builtin; (rw [← HZ2.out]; refine wpList_append_known rfl (.tmp 34) (.tmp 36) 36 36 rfl _ _ rfl rfl APP.out ?_; rintro v2 w3 ⟨ho, hg⟩; have OW := hide ho; have GR := hide hg; clear ho hg))
    go_roundg gO
    case measure => omega
    case rel =>
     refine ⟨i + 1, by omega, by first | rfl | (simp; done) | (simp; omega), ?_, hide (HRZ2.out.chg GR.out (by exact HNE.out)), ?_, hide (BZ2.out.trans (GR.out.below w.heap.size BZ2.out.size (fun k hk e => by have := (HO1.out.blk e).1; have := HB2.out.size; omega)))⟩
     ·have e5 : (lstG (fun p : Cp w => p.1.2.key) xs (i + 1)).map (fun p => p.1.1) = (lstG (fun p : Cp w => p.1.2.key) xs i).map (fun p => p.1.1) ++ [x.1.1] := by
       simp only [lstG]
       rw [if_pos HKP.out, HXI.out, List.map_append]
       rfl
      rw [e5]
      exact OW
     ·exact hide (Nat.le_trans HSZ.out (Nat.le_trans (Nat.le_trans HS1.out CZ0.out.size) (Nat.le_trans HBZ2.out.size GR.out.size)))
   ·have q5 : ¬ (i : Int) + 1 = (n : Int) := by omega
    have q5b : ((i : Int) + 1 == (n : Int)) = false := by simp; omega
    have q6 : (i : Int) + 1 < (n : Int) := by omega
    have q7 : (0 : Int) ≤ (i : Int) + 1 := by omega
    have q8 : ((i : Int) + 1).toNat = i + 1 := by omega
    obtain ⟨y, hy⟩ : ∃ y, xs[i + 1]? = some y := ⟨_, List.getElem?_eq_getElem (by rw [HX.out.2]; omega)⟩
    have CN := hide (HRW1.out.at (i + 1) y.1.1 (by rw [List.getElem?_map, hy]; rfl))
    have KY := hide (y.2.key.below HB1.out (Nat.le_refl _))
    by_cases hk : x.1.2.key = y.1.2.key
    ·have EQ : Hid (decide (x.1.2.key = y.1.2.key) = true) := decide_eq_true hk
     have HKP : Hid (keepG (fun p : Cp w => p.1.2.key) xs i = false) := by
      show keepG _ xs i = false
      unfold keepG
      rw [HXI.out, hy]
      simp [hk]
     clear hk hy
     refine wp_region_noPanic ?_
     refine wp_region_held_drew (S := (fun W => Below W1.heap.size W1 W)) follows ((Below.refl _ _).drew) (fun hHeld => ?_)
     clear hHeld
     have hHeld : Below W1.heap.size W1 W1.drew := (Below.refl _ _).drew
     have CZ0 := hide hHeld
     generalize W1.drew = Z0 at CZ0 hHeld ⊢
     refine tq 0 ?_
     simp only [Act.put, uB, uC, uD]
     refine tq 1 ?_
     simp only [Act.put, uB, uC, uD]
     refine tq 2 ?_
     simp only [Act.put, uB, uC, uD]
     refine tq 3 ?_
     simp only [Act.put, uB, uC, uD]
     refine tq 4 ?_
     simp only [Act.put, uB, uC, uD]
     refine tq 5 ?_
     simp only [Act.put, uB, uC, uD]
     refine tq 6 ?_
     simp only [Act.put, uB, uC, uD]
     refine tk 7 ?_ rfl (Or.inl ⟨by rfl, ?_⟩) ?_
     rotate_left
     ·intro w hSw
      obtain ⟨e0, e1, e2⟩ := cells3c ((hSw.block _ (block_lt_of_row R5.out)).trans R5.out)
      clear hSw
      go_simp
      all_goals with_reducible rfl
     simp only [Act.put, uB, uC, uD]
     refine tq 8 ?_
     simp only [Act.put, uB, uC, uD]
     refine tq 9 ?_
     simp only [Act.put, uB, uC, uD]
     refine tq 10 ?_
     simp only [Act.put, uB, uC, uD]
     refine tq 11 ?_
     simp only [Act.put, uB, uC, uD]
     refine tq 12 ?_
     simp only [Act.put, uB, uC, uD]
     refine tk 13 ?_ rfl (Or.inl ⟨by rfl, ?_⟩) ?_
     rotate_left
     ·intro w hSw
      obtain ⟨f0, f1, f2⟩ := CN.out.up hSw
      clear hSw
      go_simp
      all_goals with_reducible rfl
     simp only [Act.put, uB, uC, uD]
     refine r1 14 fun K hK => ?_
     go_simp
     refine (equal_any _ _ x.1.2.key y.1.2.key Z0 (KX.out.below CZ0.out (Nat.le_refl _)) (KY.out.below CZ0.out (Nat.le_refl _))).mono ?_
     rintro e Z1 ⟨rfl, rfl⟩
     rw [EQ.out]
     clear hHeld
     refine hK.out _ _ CZ0.out (fun hHeld => ?_)
     clear hK K
     try simp only [Act.put, uB, uC, uD]
     refine tq 15 ?_
     simp only [Act.put, uB, uC, uD]
     refine tq 16 ?_
     simp only [Act.put, uB, uC, uD]
     refine wpAnyH_done (by kernel_rfl) ?_ _
     refine NoPanic.normal ?_
     clear hHeld
     have BZ : Hid (Below w.heap.size w Z0) := HB1.out.trans (CZ0.out.mono HB1.out.size)
     have HOZ := hide (HO1.out.below CZ0.out)
     have HRZ := hide (HRW1.out.below CZ0.out)
     go_wp2_with fail
     go_roundg gO
     case measure => omega
     case rel =>
      refine ⟨i + 1, by omega, by first | rfl | (simp; done) | (simp; omega), ?_, HRZ, hide (Nat.le_trans HSZ.out (Nat.le_trans HS1.out CZ0.out.size)), BZ⟩
      have e5 : (lstG (fun p : Cp w => p.1.2.key) xs (i + 1)).map (fun p => p.1.1) = (lstG (fun p : Cp w => p.1.2.key) xs i).map (fun p => p.1.1) := by
       simp only [lstG]
       rw [HKP.out]
       simp
      rw [e5]
      exact HOZ
    ·have EQ : Hid (decide (x.1.2.key = y.1.2.key) = false) := decide_eq_false hk
     have HKP : Hid (keepG (fun p : Cp w => p.1.2.key) xs i = true) := by
      show keepG _ xs i = true
      unfold keepG
      rw [HXI.out, hy]
      simp [hk]
     clear hk hy
     refine wp_region_noPanic ?_
     refine wp_region_held_drew (S := (fun W => Below W1.heap.size W1 W)) follows ((Below.refl _ _).drew) (fun hHeld => ?_)
     clear hHeld
     have hHeld : Below W1.heap.size W1 W1.drew := (Below.refl _ _).drew
     have CZ0 := hide hHeld
     generalize W1.drew = Z0 at CZ0 hHeld ⊢
     refine tq 0 ?_
     simp only [Act.put, uB, uC, uD]
     refine tq 1 ?_
     simp only [Act.put, uB, uC, uD]
     refine tq 2 ?_
     simp only [Act.put, uB, uC, uD]
     refine tq 3 ?_
     simp only [Act.put, uB, uC, uD]
     refine tq 4 ?_
     simp only [Act.put, uB, uC, uD]
     refine tq 5 ?_
     simp only [Act.put, uB, uC, uD]
     refine tq 6 ?_
     simp only [Act.put, uB, uC, uD]
     refine tk 7 ?_ rfl (Or.inl ⟨by rfl, ?_⟩) ?_
     rotate_left
     ·intro w hSw
      obtain ⟨e0, e1, e2⟩ := cells3c ((hSw.block _ (block_lt_of_row R5.out)).trans R5.out)
      clear hSw
      go_simp
      all_goals with_reducible rfl
     simp only [Act.put, uB, uC, uD]
     refine tq 8 ?_
     simp only [Act.put, uB, uC, uD]
     refine tq 9 ?_
     simp only [Act.put, uB, uC, uD]
     refine tq 10 ?_
     simp only [Act.put, uB, uC, uD]
     refine tq 11 ?_
     simp only [Act.put, uB, uC, uD]
     refine tq 12 ?_
     simp only [Act.put, uB, uC, uD]
     refine tk 13 ?_ rfl (Or.inl ⟨by rfl, ?_⟩) ?_
     rotate_left
     ·intro w hSw
      obtain ⟨f0, f1, f2⟩ := CN.out.up hSw
      clear hSw
      go_simp
      all_goals with_reducible rfl
     simp only [Act.put, uB, uC, uD]
     refine r1 14 fun K hK => ?_
     go_simp
     refine (equal_any _ _ x.1.2.key y.1.2.key Z0 (KX.out.below CZ0.out (Nat.le_refl _)) (KY.out.below CZ0.out (Nat.le_refl _))).mono ?_
     rintro e Z1 ⟨rfl, rfl⟩
     rw [EQ.out]
     clear hHeld
     refine hK.out _ _ CZ0.out (fun hHeld => ?_)
     clear hK K
     try simp only [Act.put, uB, uC, uD]
     refine tq 15 ?_
     simp only [Act.put, uB, uC, uD]
     refine tq 16 ?_
     simp only [Act.put, uB, uC, uD]
     refine wpAnyH_done (by kernel_rfl) ?_ _
     refine NoPanic.normal ?_
     clear hHeld
     have BZ : Hid (Below w.heap.size w Z0) := HB1.out.trans (CZ0.out.mono HB1.out.size)
     have HOZ := hide (HO1.out.below CZ0.out)
     have HRZ := hide (HRW1.out.below CZ0.out)
     obtain ⟨e0, e1, e2⟩ := cells3c ((CZ0.out.block _ (block_lt_of_row R5.out)).trans R5.out)
     have HGZ := hide (show g < Z0.heap.size from HRZ.out.lt)
     obtain ⟨Z2, hZ2⟩ : ∃ Z, Z = Z0.alloc (.cells #[.slice x.1.1.ka x.1.1.kn x.1.1.kc, .slice x.1.1.va x.1.1.vn x.1.1.vc, .bool x.1.1.dr] 34) := ⟨_, rfl⟩
     have hb2 : Below Z0.heap.size Z0 Z2 := by rw [hZ2]; exact (Below.refl _ _).alloc (Nat.le_refl _) _
     have hone : Els encCh Z2 (.slice (some ⟨Z0.heap.size, 0, none⟩) 1 1) [x.1.1] := one_ch (by rw [hZ2]; exact heap_alloc_new _ _)
     have happ := run_append_chs Z2 w2.heap.size (.slice vo no co) (.slice (some ⟨Z0.heap.size, 0, none⟩) 1 1) ((lstG (fun p : Cp w => p.1.2.key) xs i).map (fun p => p.1.1)) [x.1.1] 36 (HOZ.out.below hb2) hone (by rw [← HNO.out]; have := HNO.out; have h2 := lstG_len (fun p : Cp w => p.1.2.key) xs i; rw [List.length_map] at this; have := HLN.out; simp; omega) (Nat.le_trans HSZ.out (Nat.le_trans (Nat.le_trans HS1.out CZ0.out.size) hb2.size))
     have APP := hide happ
     have HZ2 := hide hZ2
     have HBZ2 := hide hb2
     have HRZ2 := hide (HRZ.out.below hb2)
     have BZ2 := hide (BZ.out.trans (hb2.mono BZ.out.size))
     clear hZ2 hb2 hone happ
     go_wp2_with (at_builtin; (rw [← HZ2.out]; refine wpList_append_known rfl (.tmp 34) (.tmp 36) 36 36 rfl _ _ rfl rfl APP.out ?_; rintro v2 w3 ⟨ho, hg⟩; have OW := hide ho; have GR := hide hg; clear ho hg))
     go_roundg gO
     case measure => omega
     case rel =>
      refine ⟨i + 1, by omega, by first | rfl | (simp; done) | (simp; omega), ?_, hide (HRZ2.out.chg GR.out (by exact HNE.out)), ?_, hide (BZ2.out.trans (GR.out.below w.heap.size BZ2.out.size (fun k hk e => by have := (HO1.out.blk e).1; have := HB2.out.size; omega)))⟩
      ·have e5 : (lstG (fun p : Cp w => p.1.2.key) xs (i + 1)).map (fun p => p.1.1) = (lstG (fun p : Cp w => p.1.2.key) xs i).map (fun p => p.1.1) ++ [x.1.1] := by
        simp only [lstG]
        rw [if_pos HKP.out, HXI.out, List.map_append]
        rfl
       rw [e5]
       exact OW
      ·exact hide (Nat.le_trans HSZ.out (Nat.le_trans (Nat.le_trans HS1.out CZ0.out.size) (Nat.le_trans HBZ2.out.size GR.out.size)))
end Go.Proofs.YteealihknndclaaGreatDoor
