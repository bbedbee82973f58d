/- Heads that are the same are the same to the program. -/
import Derived.Test.YtllcnppcncegpaaDoorKb
namespace Go.Proofs.YtllcnppcncegpaaDoor
open Go.RowKit

namespace S
def Hd.eqb (a b : Hd) : Bool := (a.tree == b.tree) && ((a.epoch == b.epoch) && (((a.size : Int) == (b.size : Int)) && (((a.clock : Int) == (b.clock : Int)) && (a.root == b.root))))
def Sg.eqb (a b : Sg) : Bool := a.h.eqb b.h && (a.tag == b.tag)
theorem Hd.eqb_iff (a b : Hd) : a.eqb b = true ↔ a = b := by
  obtain ⟨a1, a2, a3, a4, a5⟩ := a
  obtain ⟨b1, b2, b3, b4, b5⟩ := b
  simp [Hd.eqb]
  intro _ _
  constructor <;> (rintro ⟨x, y, z⟩; exact ⟨by omega, by omega, z⟩)
theorem Hd.eqb_self (a : Hd) : a.eqb a = true := (Hd.eqb_iff a a).2 rfl
theorem Sg.eqb_same (h : Hd) (t u : List UInt8) : (⟨h, t⟩ : Sg).eqb ⟨h, u⟩ = (t == u) := by simp [Sg.eqb, Hd.eqb_self]
end S
theorem part_dig {xs : Array Value} {d : List UInt8} {o : Nat} (w : World) (h : xs.extract o (o + 32) = S.v8 d) : (part 30 xs o).run Tryd.prog w = .ok (.agg (S.v8 d)) w := by
  have ag : (isAgg 30).run Tryd.prog w = .ok true w := by kernel_rfl
  have sz : (sizeOf 30).run Tryd.prog w = .ok 32 w := by kernel_rfl
  simp only [part, Sem.run_bind, ag, sz, Result.andThen_ok, if_true, Sem.run_pure]
  rw [h]
theorem part_hd {xs : Array Value} {d : S.Hd} {o : Nat} (w : World) (h : xs.extract o (o + 36) = (encH d).toArray) : (part 32 xs o).run Tryd.prog w = .ok (.agg (encH d).toArray) w := by
  have ag : (isAgg 32).run Tryd.prog w = .ok true w := by kernel_rfl
  have sz : (sizeOf 32).run Tryd.prog w = .ok 36 w := by kernel_rfl
  simp only [part, Sem.run_bind, ag, sz, Result.andThen_ok, if_true, Sem.run_pure]
  rw [h]
theorem ext_root (a : S.Hd) (ha : a.root.length = 32) : (encH a).toArray.extract 4 (4 + 32) = S.v8 a.root := by
  apply Array.ext'
  rw [Array.toList_extract, S.v8_eq]
  show List.take (4 + 32 - 4) (List.drop 4 (encH a)) = S.v8l a.root
  rw [show List.drop 4 (encH a) = S.v8l a.root from rfl, List.take_of_length_le (by rw [S.v8l_length, ha]; omega)]
theorem ext_head (a : S.Sg) (ha : a.h.root.length = 32) : (encG a).toArray.extract 0 (0 + 36) = (encH a.h).toArray := by
  apply Array.ext'
  rw [Array.toList_extract]
  show List.take (0 + 36 - 0) (List.drop 0 (encG a)) = encH a.h
  rw [List.drop_zero, encG, List.take_append_of_le_length (by rw [encH_length _ ha]; omega), List.take_of_length_le (by rw [encH_length _ ha]; omega)]
theorem ext_tag (a : S.Sg) (ha : a.h.root.length = 32) (ht : a.tag.length = 32) : (encG a).toArray.extract 36 (36 + 32) = S.v8 a.tag := by
  apply Array.ext'
  rw [Array.toList_extract, S.v8_eq]
  show List.take (36 + 32 - 36) (List.drop 36 (encG a)) = S.v8l a.tag
  rw [encG, List.drop_append_of_le_length (by rw [encH_length _ ha]; omega), List.drop_of_length_le (by rw [encH_length _ ha]; omega), List.nil_append, List.take_of_length_le (by rw [S.v8l_length, ht]; omega)]
theorem equal_dg (d : Nat) (xs ys : List UInt8) (hx : xs.length = 32) (hy : ys.length = 32) (w : World) : (Op.equalIn (d + 2) 30 (.agg (S.v8 xs)) (.agg (S.v8 ys))).run Tryd.prog w = .ok (xs == ys) w :=
  run_equalIn_bytes w d 30 5 32 Tryd.underlying30 Tryd.underlying5 (fun _ => by kernel_rfl) xs ys hx hy

def eqBody (d : Nat) (xs ys : Array Value) (f : Field) (_ : Option Bool × Unit) : Sem (ForInStep (Option Bool × Unit)) :=
  if f.name ≠ "_" then do
    let a ← part f.type xs f.offset
    let b ← part f.type ys f.offset
    let r ← Op.equalIn d f.type a b
    if (!r) = true then pure (ForInStep.done (some false, ())) else pure (ForInStep.yield (none, ()))
  else pure (ForInStep.yield (none, ()))
theorem eq_step {d : Nat} {xs ys : Array Value} {f : Field} {fs : List Field} {a b : Value} {r : Bool} {w : World} (hn : f.name ≠ "_") (pa : (part f.type xs f.offset).run Tryd.prog w = .ok a w) (pb : (part f.type ys f.offset).run Tryd.prog w = .ok b w) (e : (Op.equalIn d f.type a b).run Tryd.prog w = .ok r w) :
    (forIn (f :: fs) ((none, ()) : Option Bool × Unit) (eqBody d xs ys)).run Tryd.prog w = if r = true then (forIn fs ((none, ()) : Option Bool × Unit) (eqBody d xs ys)).run Tryd.prog w else .ok (some false, ()) w := by
  have h : (eqBody d xs ys f (none, ())).run Tryd.prog w = if r = true then .ok (ForInStep.yield (none, ())) w else .ok (ForInStep.done (some false, ())) w := by
    rw [eqBody, if_pos hn]
    simp only [Sem.run_bind, pa, pb, e, Result.andThen_ok]
    cases r <;> rfl
  rw [List.forIn_cons, Sem.run_bind, h]
  cases r <;> rfl
theorem eq_all {d t : Nat} {fs : Array Field} {xs ys : Array Value} {r : Bool} {w : World} (hu : Tryd.prog.underlying t = some (.struct fs)) (hp : Tryd.prog.stoodInHeld t = false)
    (h : (forIn fs.toList ((none, ()) : Option Bool × Unit) (eqBody d xs ys)).run Tryd.prog w = .ok (if r = true then none else some false, ()) w) : (Op.equalIn (d + 1) t (.agg xs) (.agg ys)).run Tryd.prog w = .ok r w := by
  rw [Op.equalIn]
  simp only [Sem.run_bind, run_underlying hu, Result.andThen_ok, run_program, hp, Bool.false_eq_true, if_false]
  rw [← Array.forIn_toList]
  unfold eqBody at h
  rw [h]
  cases r <;> rfl
set_option maxRecDepth 100000 in
theorem equal_h (a b : S.Hd) (ha : a.root.length = 32) (hb : b.root.length = 32) (d : Nat) (w : World) : (Op.equalIn (d + 3) 32 (.agg (encH a).toArray) (.agg (encH b).toArray)).run Tryd.prog w = .ok (a.eqb b) w := by
  have hp : Tryd.prog.stoodInHeld 32 = false := by kernel_rfl
  have p0 : ∀ x : S.Hd, (part 3 (encH x).toArray 0).run Tryd.prog w = .ok (.int .i64 x.tree) w := fun x => by simp [part, encH]
  have p1 : ∀ x : S.Hd, (part 3 (encH x).toArray 1).run Tryd.prog w = .ok (.int .i64 x.epoch) w := fun x => by simp [part, encH]
  have p2 : ∀ x : S.Hd, (part 28 (encH x).toArray 2).run Tryd.prog w = .ok (.int .u64 (x.size : Int)) w := fun x => by simp [part, encH]
  have p3 : ∀ x : S.Hd, (part 28 (encH x).toArray 3).run Tryd.prog w = .ok (.int .u64 (x.clock : Int)) w := fun x => by simp [part, encH]
  have p4a := part_dig w (ext_root a ha)
  have p4b := part_dig w (ext_root b hb)
  have e0 : ∀ x y : Int, (Op.equalIn (d + 2) 3 (.int .i64 x) (.int .i64 y)).run Tryd.prog w = .ok (x == y) w := fun x y => run_equalIn_int w (d + 1) 3 .i64 .i64 _ _ Tryd.underlying3
  have e2 : ∀ x y : Int, (Op.equalIn (d + 2) 28 (.int .u64 x) (.int .u64 y)).run Tryd.prog w = .ok (x == y) w := fun x y => run_equalIn_int w (d + 1) 28 .u64 .u64 _ _ Tryd.underlying28
  have e4 := equal_dg d a.root b.root ha hb w
  have p0a := p0 a
  have p0b := p0 b
  have p1a := p1 a
  have p1b := p1 b
  have p2a := p2 a
  have p2b := p2 b
  have p3a := p3 a
  have p3b := p3 b
  have f0 := e0 a.tree b.tree
  have f1 := e0 a.epoch b.epoch
  have f2 := e2 a.size b.size
  have f3 := e2 a.clock b.clock
  clear p0 p1 p2 p3 e0 e2
  rw [S.Hd.eqb]
  refine eq_all Tryd.underlying32 hp ?_
  refine (eq_step (by decide) p0a p0b f0).trans ?_
  cases h0 : (a.tree == b.tree)
  · rfl
  refine (eq_step (by decide) p1a p1b f1).trans ?_
  cases h1 : (a.epoch == b.epoch)
  · rfl
  refine (eq_step (by decide) p2a p2b f2).trans ?_
  cases h2 : ((a.size : Int) == (b.size : Int))
  · rfl
  refine (eq_step (by decide) p3a p3b f3).trans ?_
  cases h3 : ((a.clock : Int) == (b.clock : Int))
  · rfl
  refine (eq_step (by decide) p4a p4b e4).trans ?_
  cases h4 : (a.root == b.root)
  · rfl
  · rfl
set_option maxRecDepth 100000 in
theorem equal_gd (a b : S.Sg) (ha : a.h.root.length = 32) (hb : b.h.root.length = 32) (hs : a.tag.length = 32) (ht : b.tag.length = 32) (d : Nat) (w : World) : (Op.equalIn (d + 4) 34 (.agg (encG a).toArray) (.agg (encG b).toArray)).run Tryd.prog w = .ok (a.eqb b) w := by
  have hp : Tryd.prog.stoodInHeld 34 = false := by kernel_rfl
  have p0a := part_hd w (ext_head a ha)
  have p0b := part_hd w (ext_head b hb)
  have p1a := part_dig w (ext_tag a ha hs)
  have p1b := part_dig w (ext_tag b hb ht)
  have f0 := equal_h a.h b.h ha hb d w
  have f1 := equal_dg (d + 1) a.tag b.tag hs ht w
  rw [S.Sg.eqb]
  refine eq_all Tryd.underlying34 hp ?_
  refine (eq_step (by decide) p0a p0b f0).trans ?_
  cases h0 : a.h.eqb b.h
  · rfl
  refine (eq_step (by decide) p1a p1b f1).trans ?_
  cases h1 : (a.tag == b.tag)
  · rfl
  · rfl
/-- As the walk asks it. -/
theorem equal_g (a b : S.Sg) (ha : a.h.root.length = 32) (hb : b.h.root.length = 32) (hs : a.tag.length = 32) (ht : b.tag.length = 32) (w : World) : (Op.equalIn 10000 34 (.agg (encG a).toArray) (.agg (encG b).toArray)).run Tryd.prog w = .ok (a.eqb b) w := equal_gd a b ha hb hs ht 9996 w
theorem equal_hh (a b : S.Hd) (ha : a.root.length = 32) (hb : b.root.length = 32) (w : World) : (Op.equalIn 10000 32 (.agg (encH a).toArray) (.agg (encH b).toArray)).run Tryd.prog w = .ok (a.eqb b) w := equal_h a b ha hb 9997 w
/-- A digest in a block of its own, sliced whole. -/
theorem dig_all {w : World} {g : Nat} {d : List UInt8} {ty : TypeId} (h : w.heap[g]? = some (.cells (S.v8 d) ty (0, 0))) (hd : d.length = 32) : SliceAt w (.slice (some ⟨g, 0, none⟩) 32 32) d :=
  Or.inr (Or.inr ⟨g, 0, 32, by rw [hd], by omega, by omega, block_lt_of_row h, fun j hj => by rw [Nat.zero_add]; exact v8_cell h j hj⟩)
end Go.Proofs.YtllcnppcncegpaaDoor
namespace Go.Proofs.YtllcnppcncegpaaDoor
open Go.RowKit

set_option maxHeartbeats 8000000 in
set_option maxRecDepth 10000 in
theorem sign_any (k : List UInt8) (h : S.Hd) (w : World) (hk : k.length = 32) (hok : h.Ok) (hK : KAt w) :
   Calls Tryd.prog 17 #[.agg (S.v8 k), .agg (encH h).toArray] w fun e w' => e = .returned (.agg (encG (S.sign k h)).toArray) ∧ Below w.heap.size w w' := by
  have HK := hide hK
  have h0 := hK.pos
  have HOK := hide hok
  have HR := hide hok.r
  have HKL := hide hk
  clear hK hok hk
  go_enter Tryd.func17, Tryd.ntmps17
  go_upto_region 1 with (refine wpList_alloc_known rfl 34 rfl _ _ (alloc34 _) ?_)
  generalize hW0 : w.alloc _ = W0
  generalize hW1 : W0.alloc _ = W1
  generalize hW2 : W1.alloc _ = W2
  have B0 : Below w.heap.size w W0 := by rw [← hW0]; exact (Below.refl _ _).alloc (Nat.le_refl _) _
  have s0 : W0.heap.size = w.heap.size + 1 := by rw [← hW0]; simp
  have r0 : W0.heap[w.heap.size]? = some (.cells (S.v8 k) 30 (0, 0)) := by rw [← hW0]; exact heap_alloc_new _ _
  have B1 : Below W0.heap.size W0 W1 := by rw [← hW1]; exact (Below.refl _ _).alloc (Nat.le_refl _) _
  have s1 : W1.heap.size = w.heap.size + 2 := by rw [← hW1]; simp [s0]
  have r1 : W1.heap[w.heap.size + 1]? = some (.cells (encH h).toArray 32 (0, 0)) := by rw [← hW1, ← s0]; exact heap_alloc_new _ _
  have B2 : Below W1.heap.size W1 W2 := by rw [← hW2]; exact (Below.refl _ _).alloc (Nat.le_refl _) _
  have s2 : W2.heap.size = w.heap.size + 3 := by rw [← hW2]; simp [s1]
  have r2 : W2.heap[w.heap.size + 2]? = some (.cells (encG S.g0).toArray 34 (0, 0)) := by rw [← hW2, ← s1]; exact heap_alloc_new _ _
  have BB : Hid (Below w.heap.size w W2) := ((B0.trans (B1.mono (by omega))).trans (B2.mono (by omega)))
  have Q0 : Hid (W2.heap[w.heap.size]? = some (.cells (S.v8 k) 30 (0, 0))) := ((B2.block _ (by omega)).trans ((B1.block _ (by omega)).trans r0))
  have Q1 : Hid (W2.heap[w.heap.size + 1]? = some (.cells (encH h).toArray 32 (0, 0))) := ((B2.block _ (by omega)).trans r1)
  have Q2 : Hid (W2.heap[w.heap.size + 2]? = some (.cells (encG S.g0).toArray 34 (0, 0))) := r2
  rw [s1]
  clear hW0 B0 s0 r0 hW1 B1 s1 r1 hW2 B2 s2 r2
  refine wp_region_noPanic ?_
  refine wp_region_held_drew (S := (fun W => Chg (fun k => k = w.heap.size + 2) W2 W)) follows ((Chg.refl _ _).drew) (fun hHeld => ?_)
  clear hHeld
  have hHeld : Chg (fun k => k = w.heap.size + 2) W2 W2.drew := (Chg.refl _ _).drew
  have CZ0 := hide hHeld
  have Q0' : Hid (W2.drew.heap[w.heap.size]? = some (.cells (S.v8 k) 30 (0, 0))) := Q0.out
  have Q1' : Hid (W2.drew.heap[(w.heap.size + 1)]? = some (.cells (encH h).toArray 32 (0, 0))) := Q1.out
  have Q2' : Hid (W2.drew.heap[(w.heap.size + 2)]? = some (.cells (encG S.g0).toArray 34 (0, 0))) := Q2.out
  generalize W2.drew = Z0 at CZ0 hHeld Q0' Q1' Q2' ⊢
  refine wpAnyH_take (i := 0) (oi := { dst := some 5, op := Op.load 32 (Operand.tmp 3), type := 32, pos := "keys.go:46", after := #[], guard := none }) (v := .agg (encH h).toArray) rfl (by kernel_rfl) (by kernel_rfl) (by kernel_rfl) (fun _ _ _ h => h) (yieldsIf_load_mid (by rfl) _ _ rfl (w.heap.size + 1) 0 rfl (encH h) _ (fun _ hSw => rangeAt_row (hSw.row Q1.out (by omega))) Tryd.underlying32 rfl (by rw [size_h _ HR.out, List.size_toArray])) (by assumption) ?_
  simp only [Act.put, List.setIfInBounds_toArray, List.set_cons_zero, List.set_cons_succ]
  refine wpAnyH_take (i := 1) (oi := { dst := some 6, op := Op.slice 30 (Operand.tmp 2) none none none, type := 41, pos := "keys.go:46", after := #[], guard := none }) (v := ?_) rfl (by kernel_rfl) (by kernel_rfl) (by kernel_rfl) (fun _ _ _ h => h) (Or.inl ⟨by rfl, ?_⟩) (by assumption) ?_
  rotate_left
  · intro w hSw
    clear hSw
    go_simp
    all_goals with_reducible rfl
  simp only [Act.put, List.setIfInBounds_toArray, List.set_cons_zero, List.set_cons_succ]
  refine wpAnyH_take (i := 2) (oi := { dst := some 7, op := Op.load 32 (Operand.tmp 3), type := 32, pos := "keys.go:46", after := #[], guard := none }) (v := .agg (encH h).toArray) rfl (by kernel_rfl) (by kernel_rfl) (by kernel_rfl) (fun _ _ _ h => h) (yieldsIf_load_mid (by rfl) _ _ rfl (w.heap.size + 1) 0 rfl (encH h) _ (fun _ hSw => rangeAt_row (hSw.row Q1.out (by omega))) Tryd.underlying32 rfl (by rw [size_h _ HR.out, List.size_toArray])) (by assumption) ?_
  simp only [Act.put, List.setIfInBounds_toArray, List.set_cons_zero, List.set_cons_succ]
  refine wpAnyH_ready (rs := [3]) (by kernel_rfl) (by simp) ?_
  refine AllReadyH.cons (o := { dst := some 8, op := Op.call { callee := Callee.value (Operand.func 19), args := #[Operand.tmp 7], argTypes := #[32] }, type := 41, pos := "keys.go:46", after := #[{ on := 2, ground := Ground.data }], guard := none }) rfl (fun K hK => ?_) AllReadyH.nil
  go_simp
  refine (bytes_any h Z0 HOK.out).mono ?_
  rintro e Z1 ⟨gb, rfl, hgb, hrb, hb2⟩
  have SB : Hid (SliceAt Z1 (.slice (some ⟨gb, 0, none⟩) 57 57) (S.hb h)) := by have := hrb.sliceAt (by rw [S.hb_length _ HR.out]; omega); rw [S.hb_length _ HR.out] at this; exact this
  clear hrb hgb
  replace Q0' : Hid (Z1.heap[w.heap.size]? = some (.cells (S.v8 k) 30 (0, 0))) := (hb2.block _ (block_lt_of_row Q0'.out)).trans Q0'.out
  replace Q1' : Hid (Z1.heap[(w.heap.size + 1)]? = some (.cells (encH h).toArray 32 (0, 0))) := (hb2.block _ (block_lt_of_row Q1'.out)).trans Q1'.out
  replace Q2' : Hid (Z1.heap[(w.heap.size + 2)]? = some (.cells (encG S.g0).toArray 34 (0, 0))) := (hb2.block _ (block_lt_of_row Q2'.out)).trans Q2'.out
  have CZ1 : Hid (Chg (fun k => k = w.heap.size + 2) W2 Z1) := CZ0.out.then hb2
  clear hb2 CZ0
  clear hHeld
  refine hK.out _ _ CZ1.out (fun hHeld => ?_)
  clear hK K
  try simp only [Act.put, List.setIfInBounds_toArray, List.set_cons_zero, List.set_cons_succ]
  refine wpAnyH_ready (rs := [4]) (by kernel_rfl) (by simp) ?_
  refine AllReadyH.cons (o := { dst := some 9, op := Op.call { callee := Callee.value (Operand.func 35), args := #[Operand.tmp 6, Operand.tmp 8], argTypes := #[41, 41] }, type := 30, pos := "keys.go:46", after := #[{ on := 1, ground := Ground.data }, { on := 3, ground := Ground.data }, { on := 3, ground := Ground.chain }], guard := none }) rfl (fun K hK => ?_) AllReadyH.nil
  go_simp
  refine (Mac_any _ k _ (S.hb h) Z1 (dig_all Q0'.out HKL.out) SB.out (HK.out.below (BB.out.trans (CZ1.out.below w.heap.size BB.out.size (fun k hk e => by omega))) h0)).mono ?_
  rintro e Z2 ⟨rfl, hb2⟩
  obtain ⟨D, hD⟩ : ∃ DD, DD = S.mac k (S.hb h) := ⟨_, rfl⟩
  rw [← hD]
  have LD := hide (show D.length = 32 by rw [hD]; exact S.mac_length _ _)
  have ED := hide hD
  clear hD
  replace Q0' : Hid (Z2.heap[w.heap.size]? = some (.cells (S.v8 k) 30 (0, 0))) := (hb2.block _ (block_lt_of_row Q0'.out)).trans Q0'.out
  replace Q1' : Hid (Z2.heap[(w.heap.size + 1)]? = some (.cells (encH h).toArray 32 (0, 0))) := (hb2.block _ (block_lt_of_row Q1'.out)).trans Q1'.out
  replace Q2' : Hid (Z2.heap[(w.heap.size + 2)]? = some (.cells (encG S.g0).toArray 34 (0, 0))) := (hb2.block _ (block_lt_of_row Q2'.out)).trans Q2'.out
  replace SB : Hid (SliceAt Z2 (.slice (some ⟨gb, 0, none⟩) 57 57) (S.hb h)) := SB.out.below hb2 (Nat.le_refl _)
  have CZ2 : Hid (Chg (fun k => k = w.heap.size + 2) W2 Z2) := CZ1.out.then hb2
  clear hb2 CZ1
  clear hHeld
  refine hK.out _ _ CZ2.out (fun hHeld => ?_)
  clear hK K
  try simp only [Act.put, List.setIfInBounds_toArray, List.set_cons_zero, List.set_cons_succ]
  refine wpAnyH_ready (rs := [5]) (by kernel_rfl) (by simp) ?_
  refine step_build_as (o := { dst := some 10, op := Op.build 34 #[(0, Operand.tmp 5), (1, Operand.tmp 9)], type := 34, pos := "keys.go:46", after := #[{ on := 0, ground := Ground.data }, { on := 4, ground := Ground.data }], guard := none }) rfl rfl 34 [(0, .tmp 5), (1, .tmp 9)] rfl [(0, .agg (encH h).toArray), (1, .agg (S.v8 D))] rfl (.agg (encG ⟨h, D⟩).toArray) (build34 h HR.out D LD.out Z2) AllReadyH.nil ⟨CZ2.out, fun hHeld => ?_⟩
  simp only [Act.put, List.setIfInBounds_toArray, List.set_cons_zero, List.set_cons_succ]
  refine wpAnyH_ready (rs := [6]) (by kernel_rfl) (by simp) ?_
  obtain ⟨Z3, hst, r6, C6, s6⟩ := store_g (x := ⟨h, D⟩) Q2'.out (by rw [List.size_toArray, encG_length _ (S.zeros_length 32) (S.zeros_length 32)]) HR.out LD.out
  refine step_store_as (o := { dst := none, op := Op.store 34 (Operand.tmp 4) (Operand.tmp 10), type := 0, pos := "keys.go:46", after := #[{ on := 5, ground := Ground.data }, { on := 4, ground := Ground.chain }, { on := 0, ground := Ground.phase }, { on := 1, ground := Ground.phase }, { on := 2, ground := Ground.phase }, { on := 3, ground := Ground.phase }, { on := 4, ground := Ground.phase }, { on := 5, ground := Ground.phase }], guard := none }) rfl rfl 34 (.tmp 4) (.tmp 10) rfl _ _ rfl rfl Z3 hst AllReadyH.nil ⟨CZ2.out.trans C6 (fun k hk e => by first | exact e | exact Or.inl e | exact Or.inr e | omega), fun hHeld => ?_⟩
  replace Q0' : Hid (Z3.heap[w.heap.size]? = some (.cells (S.v8 k) 30 (0, 0))) := C6.row Q0'.out (by omega)
  replace Q1' : Hid (Z3.heap[(w.heap.size + 1)]? = some (.cells (encH h).toArray 32 (0, 0))) := C6.row Q1'.out (by omega)
  replace Q2' : Hid (Z3.heap[(w.heap.size + 2)]? = some (.cells (encG ⟨h, D⟩).toArray 34 (0, 0))) := r6
  have CZ3 : Hid (Chg (fun k => k = w.heap.size + 2) W2 Z3) := CZ2.out.trans C6 (fun k hk e => by first | exact e | exact Or.inl e | exact Or.inr e | omega)
  clear hst r6 C6 s6 CZ2
  simp only [Act.put]
  refine wpAnyH_done (by kernel_rfl) ?_ _
  refine NoPanic.normal ?_
  have BF := hide (BB.out.trans (CZ3.out.below w.heap.size BB.out.size (fun k hk e => by omega)))
  clear hHeld
  generalize Z3 = Y at BF Q2' ⊢
  go_wp2_with fail
  exact bodyPost_ret (v := .agg (encG ⟨h, D⟩).toArray) (results_cell_row (g := w.heap.size + 2) (t := 34) (fr := (0, 0)) Tryd.results17 _ _ _ _ rfl Q2'.out Tryd.underlying34 rfl (size_g ⟨h, D⟩ HR.out LD.out)) rfl ⟨by rw [S.sign, ← ED.out], BF.out⟩
end Go.Proofs.YtllcnppcncegpaaDoor
namespace Go.Proofs.YtllcnppcncegpaaDoor
open Go.RowKit

theorem S.sign_root (k : List UInt8) (h : S.Hd) : (S.sign k h).h = h := by simp only [S.sign]
theorem S.sign_tag (k : List UInt8) (h : S.Hd) : (S.sign k h).tag = S.mac k (S.hb h) := by simp only [S.sign]
theorem S.sign_len (k : List UInt8) (h : S.Hd) : (S.sign k h).tag.length = 32 := by rw [S.sign_tag, S.mac_length]
theorem S.sign_eqb (k : List UInt8) (x : S.Sg) : (S.sign k x.h).eqb x = (S.mac k (S.hb x.h) == x.tag) := by
  rw [S.Sg.eqb, S.sign_root, S.sign_tag, S.Hd.eqb_self, Bool.true_and]

set_option maxHeartbeats 8000000 in
set_option maxRecDepth 10000 in
theorem holds_any (k : List UInt8) (x : S.Sg) (w : World) (hk : k.length = 32) (hok : x.h.Ok) (ht : x.tag.length = 32) (hK : KAt w) :
   Calls Tryd.prog 22 #[.agg (S.v8 k), .agg (encG x).toArray] w fun e w' => e = .returned (.bool (S.mac k (S.hb x.h) == x.tag)) ∧ Below w.heap.size w w' := by
  have HK := hide hK
  have h0 := hK.pos
  have HOK := hide hok
  have HR := hide hok.r
  have HKL := hide hk
  have HTL := hide ht
  clear hK hok hk ht
  go_enter Tryd.func22, Tryd.ntmps22
  go_upto_region 1 with fail
  generalize hW0 : w.alloc _ = W0
  generalize hW1 : W0.alloc _ = W1
  have B0 : Below w.heap.size w W0 := by rw [← hW0]; exact (Below.refl _ _).alloc (Nat.le_refl _) _
  have s0 : W0.heap.size = w.heap.size + 1 := by rw [← hW0]; simp
  have r0 : W0.heap[w.heap.size]? = some (.cells (S.v8 k) 30 (0, 0)) := by rw [← hW0]; exact heap_alloc_new _ _
  have B1 : Below W0.heap.size W0 W1 := by rw [← hW1]; exact (Below.refl _ _).alloc (Nat.le_refl _) _
  have s1 : W1.heap.size = w.heap.size + 2 := by rw [← hW1]; simp [s0]
  have r1 : W1.heap[w.heap.size + 1]? = some (.cells (encG x).toArray 34 (0, 0)) := by rw [← hW1, ← s0]; exact heap_alloc_new _ _
  have BB : Hid (Below w.heap.size w W1) := (B0.trans (B1.mono (by omega)))
  have Q0 : Hid (W1.heap[w.heap.size]? = some (.cells (S.v8 k) 30 (0, 0))) := ((B1.block _ (by omega)).trans r0)
  have Q1 : Hid (W1.heap[w.heap.size + 1]? = some (.cells (encG x).toArray 34 (0, 0))) := r1
  clear hW0 B0 s0 r0 hW1 B1 s1 r1
  refine wp_region_noPanic ?_
  refine wp_region_held_drew (S := (fun W => Chg (fun _ => False) W1 W)) follows ((Chg.refl _ _).drew) (fun hHeld => ?_)
  clear hHeld
  have hHeld : Chg (fun _ => False) W1 W1.drew := (Chg.refl _ _).drew
  have CZ0 := hide hHeld
  have Q0' : Hid (W1.drew.heap[w.heap.size]? = some (.cells (S.v8 k) 30 (0, 0))) := Q0.out
  have Q1' : Hid (W1.drew.heap[(w.heap.size + 1)]? = some (.cells (encG x).toArray 34 (0, 0))) := Q1.out
  generalize W1.drew = Z0 at CZ0 hHeld Q0' Q1' ⊢
  refine wpAnyH_take (i := 0) (oi := { dst := some 5, op := Op.load 30 (Operand.tmp 2), type := 30, pos := "keys.go:50", after := #[], guard := none }) (v := .agg (S.v8l k).toArray) rfl (by kernel_rfl) (by kernel_rfl) (by kernel_rfl) (fun _ _ _ h => h) (yieldsIf_load_mid (by rfl) _ _ rfl w.heap.size 0 rfl (S.v8l k) _ (fun _ hSw => rangeAt_row (hSw.row Q0.out (fun e => e))) Tryd.underlying30 rfl (by rw [size_dig _ HKL.out, S.v8_size, S.v8l_length])) (by assumption) ?_
  simp only [Act.put, List.setIfInBounds_toArray, List.set_cons_zero, List.set_cons_succ]
  refine wpAnyH_take (i := 1) (oi := { dst := some 6, op := Op.fieldAddr 34 (Operand.tmp 3) 0, type := 0, pos := "keys.go:50", after := #[], guard := none }) (v := ?_) rfl (by kernel_rfl) (by kernel_rfl) (by kernel_rfl) (fun _ _ _ h => h) (Or.inl ⟨by rfl, ?_⟩) (by assumption) ?_
  rotate_left
  · intro w hSw
    clear hSw
    go_simp
    all_goals with_reducible rfl
  simp only [Act.put, List.setIfInBounds_toArray, List.set_cons_zero, List.set_cons_succ]
  refine wpAnyH_take (i := 2) (oi := { dst := some 7, op := Op.load 32 (Operand.tmp 6), type := 32, pos := "keys.go:50", after := #[{ on := 1, ground := Ground.data }], guard := none }) (v := .agg (encH x.h).toArray) rfl (by kernel_rfl) (by kernel_rfl) (by kernel_rfl) (fun _ _ _ h => h) (yieldsIf_load_mid (by rfl) _ _ rfl (w.heap.size + 1) 0 rfl (encH x.h) _ (fun _ hSw => g_head (hSw.row Q1.out (fun e => e))) Tryd.underlying32 rfl (by rw [size_h _ HR.out, List.size_toArray])) (by assumption) ?_
  simp only [Act.put, List.setIfInBounds_toArray, List.set_cons_zero, List.set_cons_succ]
  refine wpAnyH_take (i := 4) (oi := { dst := some 9, op := Op.load 34 (Operand.tmp 3), type := 34, pos := "keys.go:50", after := #[], guard := none }) (v := .agg (encG x).toArray) rfl (by kernel_rfl) (by kernel_rfl) (by kernel_rfl) (fun _ _ _ h => h) (yieldsIf_load_mid (by rfl) _ _ rfl (w.heap.size + 1) 0 rfl (encG x) _ (fun _ hSw => rangeAt_row (hSw.row Q1.out (fun e => e))) Tryd.underlying34 rfl (by rw [size_g _ HR.out HTL.out, List.size_toArray])) (by assumption) ?_
  simp only [Act.put, List.setIfInBounds_toArray, List.set_cons_zero, List.set_cons_succ]
  refine wpAnyH_ready (rs := [3]) (by kernel_rfl) (by simp) ?_
  refine AllReadyH.cons (o := { dst := some 8, op := Op.call { callee := Callee.value (Operand.func 17), args := #[Operand.tmp 5, Operand.tmp 7], argTypes := #[30, 32] }, type := 34, pos := "keys.go:50", after := #[{ on := 0, ground := Ground.data }, { on := 2, ground := Ground.data }], guard := none }) rfl (fun K hK => ?_) AllReadyH.nil
  go_simp
  refine (sign_any k x.h Z0 HKL.out HOK.out (HK.out.below (BB.out.trans (CZ0.out.below w.heap.size BB.out.size (fun k hk e => by omega))) h0)).mono ?_
  rintro e Z1 ⟨rfl, hb2⟩
  obtain ⟨G, hG⟩ : ∃ G, G = S.sign k x.h := ⟨_, rfl⟩
  rw [← hG]
  have EQ := fun W => equal_g G x (by rw [hG, S.sign_root]; exact HR.out) HR.out (by rw [hG]; exact S.sign_len _ _) HTL.out W
  have EB := hide (show G.eqb x = (S.mac k (S.hb x.h) == x.tag) by rw [hG]; exact S.sign_eqb k x)
  generalize G.eqb x = b at EQ EB
  clear hG
  replace Q0' : Hid (Z1.heap[w.heap.size]? = some (.cells (S.v8 k) 30 (0, 0))) := (hb2.block _ (block_lt_of_row Q0'.out)).trans Q0'.out
  replace Q1' : Hid (Z1.heap[(w.heap.size + 1)]? = some (.cells (encG x).toArray 34 (0, 0))) := (hb2.block _ (block_lt_of_row Q1'.out)).trans Q1'.out
  have CZ1 : Hid (Chg (fun _ => False) W1 Z1) := CZ0.out.then hb2
  clear hb2 CZ0
  clear hHeld
  refine hK.out _ _ CZ1.out (fun hHeld => ?_)
  clear hK K
  try simp only [Act.put, List.setIfInBounds_toArray, List.set_cons_zero, List.set_cons_succ]
  refine wpAnyH_take (i := 5) (oi := { dst := some 10, op := Op.binOp BinOp.eql 34 (Operand.tmp 8) (Operand.tmp 9) 34, type := 4, pos := "keys.go:50", after := #[{ on := 3, ground := Ground.data }, { on := 4, ground := Ground.data }], guard := none }) (v := ?_) rfl (by kernel_rfl) (by kernel_rfl) (by kernel_rfl) (fun _ _ _ h => h) (Or.inl ⟨by rfl, ?_⟩) (by assumption) ?_
  rotate_left
  · intro w hSw
    clear hSw
    go_simp
    all_goals with_reducible rfl
  simp only [Act.put, List.setIfInBounds_toArray, List.set_cons_zero, List.set_cons_succ]
  refine wpAnyH_take (i := 6) (oi := { dst := some 4, op := Op.assign (Operand.tmp 10), type := 4, pos := "keys.go:50", after := #[{ on := 5, ground := Ground.data }, { on := 3, ground := Ground.chain }, { on := 0, ground := Ground.phase }, { on := 1, ground := Ground.phase }, { on := 2, ground := Ground.phase }, { on := 3, ground := Ground.phase }, { on := 4, ground := Ground.phase }, { on := 5, ground := Ground.phase }], guard := none }) (v := ?_) rfl (by kernel_rfl) (by kernel_rfl) (by kernel_rfl) (fun _ _ _ h => h) (Or.inl ⟨by rfl, ?_⟩) (by assumption) ?_
  rotate_left
  · intro w hSw
    clear hSw
    go_simp
    all_goals with_reducible rfl
  simp only [Act.put, List.setIfInBounds_toArray, List.set_cons_zero, List.set_cons_succ]
  refine wpAnyH_done (by kernel_rfl) ?_ _
  refine NoPanic.normal ?_
  have BF := hide (BB.out.trans (CZ1.out.below w.heap.size BB.out.size (fun k hk e => by omega)))
  clear hHeld EQ
  generalize Z1 = Y at BF ⊢
  go_wp2_with fail
  go_ret
  exact ⟨by rw [← EB.out]; rfl, BF.out⟩
end Go.Proofs.YtllcnppcncegpaaDoor
