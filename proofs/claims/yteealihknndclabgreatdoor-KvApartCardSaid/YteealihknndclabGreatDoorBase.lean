/- Lists of bytes in memory: how a []byte reads, what stays, copies and appends; nothing of one function. -/
import Derived.Test.YteealihknndclabGreatDoorProg
import Derived.WalkKit
import Derived.OrdersHeld
import Derived.WalkSpells
import Derived.WalkLawsBesides
import Derived.Deep.RegionHeld3
import Derived.Deep.QuietTactic
import Derived.BigQuiet
import Derived.Laws.CopyOwn
import Derived.StillTailTactics
import Derived.Stop.BytesEq
import Derived.Laws.OwnMore
import Derived.Lib.AppendZeros
import Derived.Lib.SlBytesConst
import Derived.Lib.JoinLaws
import Derived.Deep.DeepCutAuto
namespace Go.Proofs.YteealihknndclabGreatDoor
open Go.RowKit
/-- Takes number i first; what is plain of it is found. -/
theorem tk {P : Program} {md : Region.Mode} {ops : Array Oper} {Q : Exit -> Act -> World -> Prop} {S : World -> Prop} (i : Nat) {d : Option Tmp} {o : Op} {t : TypeId} {p : String} {f : Array Edge} {g : Option (Nat × Bool)} (v : Value) {fuel : Nat} {listed : Array Bool} {a : Act} {w : World} (hi : ops[i]? = some ⟨d, o, t, p, f, g⟩) (hy : YieldsIf P ops S ⟨d, o, t, p, f, g⟩ v a)
  (h : wpAnyH P md ops Q S fuel (listed.setIfInBounds i true) (a.put (⟨d, o, t, p, f, g⟩ : Oper).dst v) w)
  (hs : Region.noSelect ops = true := by kernel_rfl) (hf : Region.free md ops listed i = true := by kernel_rfl) (hr : (Region.ready md ops listed).contains i = true := by kernel_rfl)
  (hQ : ∀ c a w, Q (.panic c) (a.put (⟨d, o, t, p, f, g⟩ : Oper).dst v) w -> Q (.panic c) a w := by exact fun _ _ _ h => h) (hS : S w := by assumption) : wpAnyH P md ops Q S (fuel + 1) listed a w :=
 wpAnyH_take hi hs hf hr hQ hy hS h
theorem uB {α : Type} (l : List α) (i : Nat) (a : α) : l.toArray.setIfInBounds i a = (l.set i a).toArray := List.setIfInBounds_toArray ..
theorem uC {α : Type} (x : α) (l : List α) (a : α) : (x :: l).set 0 a = a :: l := rfl
theorem uD {α : Type} (x : α) (l : List α) (n : Nat) (a : α) : (x :: l).set (n + 1) a = x :: l.set n a := rfl
theorem uA : (∀ (a : Act) (d : Tmp) (v : Value), a.put (some d) v = { a with tmps := a.tmps.setIfInBounds d v }) /\ (∀ (a : Act) (v : Value), a.put none v = a) /\ (∀ {α : Type} (l : List α) (i : Nat) (a : α), l.toArray.setIfInBounds i a = (l.set i a).toArray) /\ (∀ {α : Type} (x : α) (l : List α) (a : α), (x :: l).set 0 a = a :: l) /\ (∀ {α : Type} (x : α) (l : List α) (n : Nat) (a : α), (x :: l).set (n + 1) a = x :: l.set n a) := ⟨fun _ _ _ => rfl, fun _ _ => rfl, fun _ _ _ => uB .., fun _ _ _ => rfl, fun _ _ _ _ => rfl⟩
theorem ba (w : World) (o : Obj) : Below w.heap.size w (w.alloc o) := (Below.refl _ _).alloc (Nat.le_refl _) _
theorem lr (n : Nat) : n <= n := Nat.le_refl n
theorem ltr {a b c : Nat} (h : a <= b) (k : b <= c) : a <= c := Nat.le_trans h k
theorem tq {P : Program} {md : Region.Mode} {ops : Array Oper} {Q : Exit -> Act -> World -> Prop} {S : World -> Prop} (i : Nat) {d : Option Tmp} {o : Op} {t : TypeId} {p : String} {f : Array Edge} {g : Option (Nat × Bool)} {v : Value} {fuel : Nat} {listed : Array Bool} {a : Act} {w : World}
  (h : wpAnyH P md ops Q S fuel (listed.setIfInBounds i true) (a.put (⟨d, o, t, p, f, g⟩ : Oper).dst v) w)
  (hi : ops[i]? = some ⟨d, o, t, p, f, g⟩ := by exact rfl) (hw : Region.wanted ⟨d, o, t, p, f, g⟩ (yielded ops a.tmps) = true := by rfl)
  (hy : ∀ w, S w -> (execOp a.eval ⟨d, o, t, p, f, g⟩).run P w = .ok (.value v) w := by (intro w hSw; clear hSw; go_simp; all_goals with_reducible rfl))
  (hs : Region.noSelect ops = true := by kernel_rfl) (hf : Region.free md ops listed i = true := by kernel_rfl) (hr : (Region.ready md ops listed).contains i = true := by kernel_rfl)
  (hQ : ∀ c a w, Q (.panic c) (a.put (⟨d, o, t, p, f, g⟩ : Oper).dst v) w -> Q (.panic c) a w := by exact fun _ _ _ h => h) (hS : S w := by assumption) : wpAnyH P md ops Q S (fuel + 1) listed a w :=
 tk i v hi (Or.inl ⟨hw, hy⟩) h hs hf hr hQ hS
theorem c1 {P : Program} {md : Region.Mode} {ops : Array Oper} {Q : Exit -> Act -> World -> Prop} {S : World -> Prop} {fuel : Nat} {listed : Array Bool} {a : Act} {w : World} {i : Nat} {d : Option Tmp} {o : Op} {t : TypeId} {p : String} {f : Array Edge} {g : Option (Nat × Bool)}
  (h : ∀ K' : Act -> World -> Prop, Shut (∀ a w, S w -> (S w -> wpAnyH P md ops Q S fuel (listed.setIfInBounds i true) a w) -> K' a w) -> if Region.wanted (⟨d, o, t, p, f, g⟩ : Oper) (yielded ops a.tmps) = true then Oper.wp P (⟨d, o, t, p, f, g⟩ : Oper) a w K' Q else K' (a.put (⟨d, o, t, p, f, g⟩ : Oper).dst undef) w)
  (ho : ops[i]? = some ⟨d, o, t, p, f, g⟩ := by exact rfl) : AllReadyH P md ops Q S fuel listed a w [i] := AllReadyH.cons ho h AllReadyH.nil
theorem rdy {P : Program} {md : Region.Mode} {ops : Array Oper} {Q : Exit -> Act -> World -> Prop} {S : World -> Prop} {fuel : Nat} {listed : Array Bool} {a : Act} {w : World} (rs : List Nat) (h : AllReadyH P md ops Q S fuel listed a w rs)
  (hr : Region.ready md ops listed = rs := by kernel_rfl) (hne : rs ≠ [] := by simp) : wpAnyH P md ops Q S (fuel + 1) listed a w := wpAnyH_ready hr hne h
theorem r1 {P : Program} {md : Region.Mode} {ops : Array Oper} {Q : Exit -> Act -> World -> Prop} {S : World -> Prop} {fuel : Nat} {listed : Array Bool} {a : Act} {w : World} (i : Nat) {d : Option Tmp} {o : Op} {t : TypeId} {p : String} {f : Array Edge} {g : Option (Nat × Bool)}
  (h : ∀ K' : Act -> World -> Prop, Shut (∀ a w, S w -> (S w -> wpAnyH P md ops Q S fuel (listed.setIfInBounds i true) a w) -> K' a w) -> if Region.wanted (⟨d, o, t, p, f, g⟩ : Oper) (yielded ops a.tmps) = true then Oper.wp P (⟨d, o, t, p, f, g⟩ : Oper) a w K' Q else K' (a.put (⟨d, o, t, p, f, g⟩ : Oper).dst undef) w)
  (ho : ops[i]? = some ⟨d, o, t, p, f, g⟩ := by exact rfl) (hr : Region.ready md ops listed = [i] := by kernel_rfl) : wpAnyH P md ops Q S (fuel + 1) listed a w := rdy [i] (c1 h ho) hr
namespace S
def v8 (l : List UInt8) : Array Value := (l.map (fun x => Value.int .u8 (x.toNat : Int))).toArray
end S
namespace S
theorem aU (l : List UInt8) : (v8 l).size = l.length := by simp [v8]
end S
namespace S
theorem jU (l : List UInt8) : (v8 l).all (·.oneCell') = true := by simp [v8, Value.oneCell']
end S
theorem bL {w : World} {g : Nat} {l : List UInt8} {t : TypeId} (h : w.heap[g]? = some (.cells (S.v8 l) t (0, 0))) (j : Nat) (hj : j < l.length) : w.cell? ⟨g, j, none⟩ = some (.int .u8 ((l.getD j 0).toNat : Int)) := by
 rw [cell_of_row w g j _ t _ h]; simp [S.v8, hj]
theorem jf {w : World} {g : Nat} {l : List UInt8} {t : TypeId} (h : w.heap[g]? = some (.cells (S.v8 l) t (0, 0))) (j : Nat) (x : UInt8) :
  (w.setCell ⟨g, j, none⟩ (.int .u8 (x.toNat : Int))).heap[g]? = some (.cells (S.v8 (l.set j x)) t (0, 0)) := by
 rw [heap_setCell_same w g j _ t _ h]
 congr 2
 apply Array.ext'
 simp [S.v8, List.map_set]
theorem rF : (Tryz.prog.info? 184).map (·.size) = some 32 := by kernel_rfl
theorem hide {p : Prop} (h : p) : Hid p := h
theorem follows : Tryz.prog.follows .mixedOrders = true := by kernel_rfl
def Src (w : World) (ao : Option Addr) (bs : List UInt8) : Prop :=
 0 < bs.length -> ∃ b off, ao = some ⟨b, off, none⟩ /\ b < w.heap.size /\ ∀ j, j < bs.length -> w.cell? ⟨b, off + j, none⟩ = some (.int .u8 ((bs.getD j 0).toNat : Int))
theorem Src.below {w w' : World} {ao : Option Addr} {bs : List UInt8} (h : Src w ao bs) (hb : Below w.heap.size w w') : Src w' ao bs := fun hp => by
 obtain ⟨b, off, e, h1, h2⟩ := h hp
 exact ⟨b, off, e, Nat.lt_of_lt_of_le h1 hb.size, fun j hj => (hb.cell (p := ⟨b, off + j, none⟩) (by exact h1)).trans (h2 j hj)⟩
namespace S
def v8l (l : List UInt8) : List Value := l.map (fun x => Value.int .u8 (x.toNat : Int))
end S
namespace S
theorem ae (l : List UInt8) : (v8l l).length = l.length := by simp [v8l]
end S
namespace S
theorem jL (l : List UInt8) : v8 l = (v8l l).toArray := rfl
end S
namespace S
theorem df (l : List UInt8) : ∀ v ∈ v8l l, v.oneCell' = true := by
 intro v hv; simp only [v8l, List.mem_map] at hv; obtain ⟨x, _, rfl⟩ := hv; rfl
end S
namespace S
theorem mO (a b : List UInt8) (n : Nat) : splice (v8l a) n (v8l b) = v8l (splice a n b) := by simp [splice, v8l, List.map_take, List.map_drop]
end S
namespace S
theorem oK (l : List UInt8) (j : Nat) (v : Value) (h : (v8l l)[j]? = some v) : v = .int .u8 ((l.getD j 0).toNat : Int) /\ j < l.length := by
 simp only [v8l, List.getElem?_map, Option.map_eq_some_iff] at h
 obtain ⟨x, hx, rfl⟩ := h
 have hj : j < l.length := (List.getElem?_eq_some_iff.1 hx).1
 exact ⟨by simp [List.getD_eq_getElem?_getD, hx], hj⟩
end S
namespace S
def zeros (n : Nat) : List UInt8 := List.replicate n 0
end S
namespace S
theorem zeros_length (n : Nat) : (zeros n).length = n := by simp [zeros]
end S
theorem eZ {w w' : World} {ao : Option Addr} {bs : List UInt8} (g : Nat) (h : Src w ao bs) (hb : Below w.heap.size w w') : 0 < (S.v8l bs).length -> some (⟨g, 0, none⟩ : Addr) = some ⟨g, 0, none⟩ /\ ∃ ad, ao = some ad /\ ∀ j v, (S.v8l bs)[j]? = some v -> w'.cell? (ad.add j) = some v := fun hp => by
 obtain ⟨b, off, e, _, hc⟩ := (h.below hb) (by rw [S.ae] at hp; exact hp)
 refine ⟨rfl, _, e, fun j v hv => ?_⟩
 obtain ⟨rfl, hj⟩ := S.oK bs j v hv
 rw [show (⟨b, off, none⟩ : Addr).add j = ⟨b, off + j, none⟩ from by unfold Addr.add; split <;> simp_all]
 exact hc j hj
theorem Ag {w2 : World} {g n : Nat} {bs : List UInt8} (h : Hid (w2.heap[g]? = some (.cells (splice (S.v8l (S.zeros n)) 0 (S.v8l bs)).toArray 5 (0, 0)))) : Hid (w2.heap[g]? = some (.cells (S.v8 (splice (S.zeros n) 0 bs)) 5 (0, 0))) := by
 have := h.out
 rw [S.mO] at this
 exact this
theorem kP : (Tryz.prog.info? 5).map (·.size) = some 1 := by kernel_rfl
theorem uV (c : Nat) : (c : Int) % (256 : Int) = ((UInt8.ofNat c).toNat : Int) := by
 rw [UInt8.toNat_ofNat']; omega
theorem fA (n : Nat) (h : n < 18446744073709551616) : IntKind.u64.wrap (n : Int) = (n : Int) := by rw [IntKind.wrap_u64]; omega
theorem aa {w : World} {g : Nat} {o : Obj} (h : w.heap[g]? = some o) : g < w.heap.size := (Array.getElem?_eq_some_iff.1 h).1
def SliceAt (w : World) (v : Value) (bs : List UInt8) : Prop :=
 (v = .slice none 0 0 /\ bs = []) \/ (∃ a cap, v = .slice (some a) 0 cap /\ 0 <= cap /\ bs = []) \/
 (∃ b off cap, v = .slice (some ⟨b, off, none⟩) bs.length cap /\ bs.length <= cap /\ bs.length <= 140737488355328 /\ b < w.heap.size /\ ∀ j, j < bs.length -> w.cell? ⟨b, off + j, none⟩ = some (.int .u8 ((bs.getD j 0).toNat : Int)))
theorem SliceAt.below {w w' : World} {v : Value} {bs : List UInt8} {B : Nat} (h : SliceAt w v bs) (hb : Below B w w') (hB : w.heap.size <= B) : SliceAt w' v bs := by
 rcases h with h | h | ⟨b, off, cap, e, h1, h2, h3, h4⟩
 ·exact Or.inl h
 ·exact Or.inr (Or.inl h)
 ·exact Or.inr (Or.inr ⟨b, off, cap, e, h1, h2, Nat.lt_of_lt_of_le h3 hb.size, fun j hj => (hb.cell (p := ⟨b, off + j, none⟩) (by show b < B; omega)).trans (h4 j hj)⟩)
theorem SliceAt.shape {w : World} {v : Value} {bs : List UInt8} (h : SliceAt w v bs) : ∃ ao len cap, v = .slice ao len cap /\ len = bs.length /\ len <= 140737488355328 /\ Src w ao bs := by
 rcases h with ⟨rfl, rfl⟩ | ⟨a, cap, rfl, _, rfl⟩ | ⟨b, off, cap, rfl, h1, h2, h3, h4⟩
 ·exact ⟨_, _, _, rfl, rfl, by omega, fun hp => absurd hp (by simp)⟩
 ·exact ⟨_, _, _, rfl, rfl, by omega, fun hp => absurd hp (by simp)⟩
 ·exact ⟨_, _, _, rfl, rfl, by omega, fun _ => ⟨b, off, rfl, h3, h4⟩⟩
theorem jg {w2 : World} {g n : Nat} {bs : List UInt8} {t : TypeId} (h : Hid (w2.heap[g]? = some (.cells (splice (S.v8l (S.zeros n)) 0 (S.v8l bs)).toArray t (0, 0)))) : w2.heap[g]? = some (.cells (S.v8 (splice (S.zeros n) 0 bs)) t (0, 0)) := by
 have := h.out
 rw [S.mO] at this
 exact this
theorem dS (n : Nat) (xs : List UInt8) : splice (S.zeros n) 0 xs = xs ++ S.zeros (n - xs.length) := by
 simp [splice, S.zeros]
theorem info5 : (Tryz.prog.info? 5).map (fun i => (i.zero, i.size, i.bytes)) = some (some (.int .u8 0), 1, 1) := by kernel_rfl
theorem SliceAt.form {w : World} {v : Value} {bs : List UInt8} (h : SliceAt w v bs) : ∃ ao len cap, v = .slice ao len cap /\ len = bs.length /\ len <= 140737488355328 := by
 rcases h with ⟨rfl, rfl⟩ | ⟨a, cap, rfl, _, rfl⟩ | ⟨b, off, cap, rfl, h1, h2, h3, h4⟩
 ·exact ⟨_, _, _, rfl, rfl, by omega⟩
 ·exact ⟨_, _, _, rfl, rfl, by omega⟩
 ·exact ⟨_, _, _, rfl, rfl, by omega⟩
theorem Fy : (Tryz.prog.info? 5).map (fun i => (i.zero, i.size, i.bytes)) = some (some (.int .u8 0), 1, 1) := by kernel_rfl
theorem v8l_app (a b : List UInt8) : S.v8l (a ++ b) = S.v8l a ++ S.v8l b := by simp [S.v8l]
theorem tY (xs ys : List UInt8) (hx : xs.length = 32) (hy : ys.length = 32) (w : World) : (Op.equalIn 10000 184 (.agg (S.v8 xs)) (.agg (S.v8 ys))).run Tryz.prog w = .ok (xs == ys) w :=
 run_equalIn_bytes w 9998 184 5 32 Tryz.underlying184 Tryz.underlying5 (fun _ => by kernel_rfl) xs ys hx hy
theorem aA {w : World} {ops : Array Oper} {rest : List Oper} {o : Oper} {a : Act} {Q : Exit -> Act -> World -> Prop} (hgd : o.guard = none) (s x : Operand) (t tn : TypeId)
  (ho : o.op = .call { callee := .builtin .append, args := #[s, x], argTypes := #[t, tn] }) (vs vx : Value) (hs : a.eval s = vs) (hx : a.eval x = vx) {R : Value -> World -> Prop}
  (hr : ∃ v' w', (Builtin.append_ #[t, tn] o.type #[vs, vx]).run Tryz.prog w = .ok v' w' /\ R v' w')
  (h : ∀ v' w', R v' w' -> wpList Tryz.prog ops Q rest (a.put o.dst v') w') : wpList Tryz.prog ops Q (o :: rest) a w := by
 obtain ⟨v', w', hr, hR⟩ := hr
 exact wpList_plain hgd fun _ hK => Lib.wp_append_run w s x t tn ho vs vx hs hx v' w' hr (hK _ _ (h v' w' hR))
theorem part_at {w0 : World} {b off cap : Nat} {bs : List UInt8} (h1 : bs.length <= cap) (h2 : bs.length <= 140737488355328) (h3 : b < w0.heap.size) (h4 : ∀ j, j < bs.length -> w0.cell? ⟨b, off + j, none⟩ = some (.int .u8 ((bs.getD j 0).toNat : Int))) (i k : Nat) (hik : i <= k) (hk : k <= bs.length) :
  SliceAt w0 (.slice (if cap = i then some ⟨b, off, none⟩ else some ⟨b, off + i, none⟩) (k - i) (cap - i)) ((bs.take k).drop i) := by
 have hl : ((bs.take k).drop i).length = k - i := by rw [List.length_drop, List.length_take]; omega
 by_cases hc : cap = i
 ·rw [if_pos hc]
  obtain rfl : i = k := by omega
  refine Or.inr (Or.inl ⟨_, cap - i, by rw [Nat.sub_self], Nat.zero_le _, ?_⟩)
  exact List.eq_nil_of_length_eq_zero (by omega)
 ·rw [if_neg hc]
  refine Or.inr (Or.inr ⟨b, off + i, cap - i, by rw [hl], by omega, by omega, h3, fun j hj => ?_⟩)
  have e : ((bs.take k).drop i).getD j 0 = bs.getD (i + j) 0 := by
   rw [List.getD_eq_getElem?_getD, List.getD_eq_getElem?_getD, List.getElem?_drop, List.getElem?_take, if_pos (by omega)]
  rw [e, <- h4 (i + j) (by omega), Nat.add_assoc]
theorem SliceAt.le_cap {w : World} {ao : Option Addr} {len cap : Nat} {bs : List UInt8} (h : SliceAt w (.slice ao len cap) bs) : len <= cap := by
 rcases h with ⟨h, _⟩ | ⟨a, c, h, _, _⟩ | ⟨b, off, c, h, h1, _⟩
 ·simp only [Value.slice.injEq] at h; omega
 ·simp only [Value.slice.injEq] at h; omega
 ·simp only [Value.slice.injEq] at h; omega
theorem jS {w : World} {ao : Option Addr} {len cap : Nat} {bs : List UInt8} (h : SliceAt w (.slice ao len cap) bs) (i k : Nat) (hik : i <= k) (hk : k <= len) :
  SliceAt w (.slice (if cap = i then ao else Option.map (fun x => x.add i) ao) (k - i) (cap - i)) ((bs.take k).drop i) := by
 rcases h with ⟨h, rfl⟩ | ⟨a, c, h, _, rfl⟩ | ⟨b, off, c, h, h1, h2, h3, h4⟩
 ·simp only [Value.slice.injEq] at h
  obtain ⟨rfl, rfl, rfl⟩ := h
  obtain rfl : k = 0 := by omega
  obtain rfl : i = 0 := by omega
  exact Or.inl ⟨by simp, by simp⟩
 ·simp only [Value.slice.injEq] at h
  obtain ⟨rfl, rfl, rfl⟩ := h
  obtain rfl : k = 0 := by omega
  obtain rfl : i = 0 := by omega
  by_cases hc : cap = 0
  ·rw [if_pos hc]; exact Or.inr (Or.inl ⟨_, _, rfl, Nat.zero_le _, by simp⟩)
  ·rw [if_neg hc]; exact Or.inr (Or.inl ⟨_, _, rfl, Nat.zero_le _, by simp⟩)
 ·simp only [Value.slice.injEq] at h
  obtain ⟨rfl, rfl, rfl⟩ := h
  have hp := part_at h1 h2 h3 h4 i k hik hk
  rw [Option.map_some, Addr.add_lit]
  exact hp
theorem j5 {w : World} {ao : Option Addr} {len cap : Nat} {bs : List UInt8} (h : SliceAt w (.slice ao len cap) bs) (k : Nat) (hk : k <= len) : SliceAt w (.slice ao k cap) (bs.take k) := by
 have hp := jS h 0 k (Nat.zero_le _) hk
 rw [List.drop_zero, Nat.sub_zero, Nat.sub_zero] at hp
 have e : (if cap = 0 then ao else Option.map (fun x => x.add 0) ao) = ao := by
  split
  ·rfl
  ·cases ao with
   | none => rfl
   | some a => rw [Option.map_some, Addr.add_zero']
 rw [e] at hp
 exact hp
theorem lW {w : World} {ao : Option Addr} {len cap : Nat} {bs : List UInt8} (h : SliceAt w (.slice ao len cap) bs) (hl : len = bs.length) (i : Nat) (hi : i <= len) :
  SliceAt w (.slice (if cap = i then ao else Option.map (fun x => x.add i) ao) (len - i) (cap - i)) (bs.drop i) := by
 have hp := jS h i len hi (lr _)
 rw [hl, List.take_length, <- hl] at hp
 exact hp
def Room (w : World) (g cap : Nat) (bs : List UInt8) : Prop :=
 ∃ cur, w.heap[g]? = some (.cells cur 5 (0, 0)) /\ cur.size = cap /\ bs.length <= cap /\ cur.toList.take bs.length = S.v8l bs
theorem Room.below {w w' : World} {g cap B : Nat} {bs : List UInt8} (h : Room w g cap bs) (hb : Below B w w') (hB : g < B) : Room w' g cap bs := by
 obtain ⟨cur, h1, h2⟩ := h
 exact ⟨cur, (hb.block g hB).trans h1, h2⟩
theorem Room.sliceAt {w : World} {g cap : Nat} {bs : List UInt8} (h : Room w g cap bs) (hr : bs.length <= 140737488355328) : SliceAt w (.slice (some ⟨g, 0, none⟩) bs.length cap) bs := by
 obtain ⟨cur, h1, h2, h3, h4⟩ := h
 refine Or.inr (Or.inr ⟨g, 0, cap, rfl, h3, hr, aa h1, fun j hj => ?_⟩)
 have e : cur.toList[j]? = some (.int .u8 ((bs.getD j 0).toNat : Int)) := by
  have : (cur.toList.take bs.length)[j]? = cur.toList[j]? := by rw [List.getElem?_take, if_pos hj]
  rw [<- this, h4]
  simp [S.v8l, List.getElem?_map, List.getElem?_eq_getElem hj, List.getD_eq_getElem?_getD]
 rw [Nat.zero_add, cell_of_row w g j cur 5 (0, 0) h1]
 simpa using e
theorem SliceAt.src {w : World} {ao : Option Addr} {len cap : Nat} {bs : List UInt8} (h : SliceAt w (.slice ao len cap) bs) (hp : 0 < bs.length) :
  ∃ b off, ao = some ⟨b, off, none⟩ /\ b < w.heap.size /\ len = bs.length /\ ∀ j, j < bs.length -> w.cell? ⟨b, off + j, none⟩ = some (.int .u8 ((bs.getD j 0).toNat : Int)) := by
 rcases h with ⟨_, rfl⟩ | ⟨a, c, _, _, rfl⟩ | ⟨b, off, c, h, h1, h2, h3, h4⟩
 ·simp at hp
 ·simp at hp
 ·simp only [Value.slice.injEq] at h
  exact ⟨b, off, h.1, h3, h.2.1, h4⟩
theorem SliceAt.of_heap {w w' : World} {v : Value} {bs : List UInt8} (h : SliceAt w v bs) (hh : w'.heap = w.heap) : SliceAt w' v bs := by
 rcases h with h | h | ⟨b, off, c, h, h1, h2, h3, h4⟩
 ·exact Or.inl h
 ·exact Or.inr (Or.inl h)
 ·exact Or.inr (Or.inr ⟨b, off, c, h, h1, h2, by rw [hh]; exact h3, fun j hj => by rw [<- h4 j hj]; exact World.cell?_of_block (by rw [hh])⟩)
def Own (w : World) (base : Nat) (v : Value) (bs : List UInt8) : Prop :=
 w.ownsRow base 5 1 v bs.length (S.v8l bs) /\ ∃ g cap, v = .slice (some ⟨g, 0, none⟩) bs.length cap
theorem qY (a b : List UInt8) : S.v8l (a ++ b) = S.v8l a ++ S.v8l b := by simp [S.v8l]
theorem o8 (w : World) (base : Nat) (v u : Value) (bs xs : List UInt8) (ty : TypeId) (hown : Own w base v bs) (hu : SliceAt w u xs) (hb : bs.length + xs.length <= 140737488355328) (hbase : base <= w.heap.size) :
  ∃ v' w', (Builtin.append_ #[22, 22] ty #[v, u]).run Tryz.prog w = .ok v' w' /\ Own w' base v' (bs ++ xs) /\ Below base w w' := by
 obtain ⟨i, hi, hz0, hz1, hz2⟩ := info_parts info5
 have key : ∀ (ad : Addr) (c : Nat), (∀ j x, (S.v8l xs)[j]? = some x -> w.cell? (ad.add j) = some x) -> u = .slice (some ad) xs.length c -> ∃ v' w', (Builtin.append_ #[22, 22] ty #[v, u]).run Tryz.prog w = .ok v' w' /\ Own w' base v' (bs ++ xs) /\ Below base w w' := by
  rintro ad c hc rfl
  obtain ⟨v', w', hr, ho, hg, hiff⟩ := run_append_own (P := Tryz.prog) w base 22 ty 5 i (.int .u8 0) 1 1 Tryz.underlying22 hi hz0 hz1 hz2 rfl (by omega) v bs.length (S.v8l bs) hown.1 ad xs.length c (S.v8l xs) (by rw [S.ae]; omega) hc (S.df _) (by simp only [maxLen]; omega) (by omega) hbase
  have hown' := hown
  obtain ⟨h1, g, cap, rfl⟩ := hown'
  refine ⟨v', w', hr, ⟨by rw [qY, List.length_append]; exact ho, ?_⟩, (Below.refl _ _).grown hg hbase (fun k hk => (h1.lt k hk).1)⟩
  rcases ho.2 with ⟨h2, _⟩ | ⟨g', cap', cur, h2, _⟩
  ·have := (hiff.1 h2).1
   simp at this
  ·exact ⟨g', cap', by rw [List.length_append]; exact h2⟩
 rcases hu with ⟨rfl, rfl⟩ | ⟨a, cap, rfl, _, rfl⟩ | ⟨b, off, cap, rfl, h1, h2, h3, h4⟩
 ·exact ⟨v, w, run_append_owned_none (P := Tryz.prog) (w := w) base 22 ty 5 i 1 Tryz.underlying22 hi v bs.length (S.v8l bs) hown.1, by rw [List.append_nil]; exact hown, Below.refl _ _⟩
 ·exact key a cap (fun j x h => by simp [S.v8l] at h) rfl
 ·refine key ⟨b, off, none⟩ cap (fun j x h => ?_) rfl
  obtain ⟨rfl, hj⟩ := S.oK xs j x h
  rw [Addr.add_lit]
  exact h4 j hj
theorem di (r : Nat) (hr : r <= 140737488355328) (w : World) : (Instr.makeSlice 22 (.int .i64 (r : Int)) (.int .i64 (r : Int))).run Tryz.prog w = .ok (.slice (some ⟨w.heap.size, 0, none⟩) r r) (w.alloc (.cells (S.v8 (S.zeros r)) 5)) := by
 obtain ⟨i, hi, hz0, hz1, hz2⟩ := info_parts info5
 have h := run_make (P := Tryz.prog) w 22 5 i (.int .u8 0) Tryz.underlying22 hi hz0 .i64 .i64 (r : Int) (r : Int) (by omega) (Int.le_refl _) (by rw [hz2]; omega) (by omega)
 rw [h, hz1]
 have e : madeCells (Value.int .u8 0).cells (((r : Int)).toNat * 1) = S.v8 (S.zeros r) := by
  apply Array.ext'
  simp [madeCells, S.v8, S.zeros, Value.cells]
  apply List.ext_getElem
  ·simp
  ·intro j h1 h2
   simp [Nat.mod_one]
 rw [e]
 rfl
structure Chg (p : Nat -> Prop) (w W : World) : Prop where
 os : W.os = w.os
 tape : W.tape = w.tape
 output : W.output = w.output
 size : w.heap.size <= W.heap.size
 block : ∀ k, k < w.heap.size -> ¬ p k -> W.heap[k]? = w.heap[k]?
theorem Chg.refl (p : Nat -> Prop) (w : World) : Chg p w w := ⟨rfl, rfl, rfl, lr _, fun _ _ _ => rfl⟩
theorem Chg.trans {p q : Nat -> Prop} {a b c : World} (h : Chg p a b) (k : Chg q b c) (hq : ∀ j, j < a.heap.size -> q j -> p j) : Chg p a c :=
 ⟨k.os.trans h.os, k.tape.trans h.tape, k.output.trans h.output, ltr h.size k.size, fun j hj hp => (k.block j (Nat.lt_of_lt_of_le hj h.size) (fun e => hp (hq j hj e))).trans (h.block j hj hp)⟩
theorem Chg.drew {p : Nat -> Prop} {w W : World} (h : Chg p w W) : Chg p w W.drew := ⟨h.os, h.tape, h.output, h.size, h.block⟩
theorem Chg.drewN {p : Nat -> Prop} {w W : World} (n : Nat) (h : Chg p w W) : Chg p w (W.drewN n) := ⟨h.os, h.tape, h.output, h.size, h.block⟩
theorem Chg.alloc {p : Nat -> Prop} {w W : World} (h : Chg p w W) (o : Obj) : Chg p w (W.alloc o) :=
 ⟨h.os, h.tape, h.output, ltr h.size (by simp), fun k hk hp => (heap_alloc_old W o (Nat.lt_of_lt_of_le hk h.size)).trans (h.block k hk hp)⟩
theorem Chg.setCell {p : Nat -> Prop} {w W : World} (h : Chg p w W) (g i : Nat) (v : Value) (hg : g < w.heap.size -> p g) : Chg p w (W.setCell ⟨g, i, none⟩ v) :=
 have hb := (Below.refl 0 W).setCell (p := ⟨g, i, none⟩) (Nat.zero_le _) v
 ⟨hb.os.trans h.os, hb.tape.trans h.tape, hb.output.trans h.output, ltr h.size hb.size, fun k hk hp => (heap_setCell_other W ⟨g, i, none⟩ k v (fun e => hp (by have e' : k = g := e; rw [e'] at hk ⊢; exact hg hk))).trans (h.block k hk hp)⟩
theorem Chg.grown {p : Nat -> Prop} {w W W' : World} {row : Option Nat} (h : Chg p w W) (hg : W.grownBy W' row) (hrow : ∀ k, k < w.heap.size -> row = some k -> p k) : Chg p w W' :=
 ⟨hg.os.trans h.os, hg.tape.trans h.tape, hg.output.trans h.output, ltr h.size hg.size, fun k hk hp => (hg.block k (Nat.lt_of_lt_of_le hk h.size) (fun e => hp (hrow k hk e.symm))).trans (h.block k hk hp)⟩
theorem Chg.mono {p q : Nat -> Prop} {w W : World} (h : Chg p w W) (hq : ∀ k, k < w.heap.size -> p k -> q k) : Chg q w W := ⟨h.os, h.tape, h.output, h.size, fun k hk hp => h.block k hk (fun e => hp (hq k hk e))⟩
theorem Chg.below {p : Nat -> Prop} {w W : World} (h : Chg p w W) (B : Nat) (hB : B <= w.heap.size) (hp : ∀ k, k < B -> ¬ p k) : Below B w W := ⟨h.os, h.tape, h.output, h.size, fun k hk => h.block k (Nat.lt_of_lt_of_le hk hB) (hp k hk)⟩
theorem Chg.ofBelow {p : Nat -> Prop} {w W : World} {B : Nat} (h : Below B w W) (hp : ∀ k, k < w.heap.size -> B <= k -> p k) : Chg p w W := ⟨h.os, h.tape, h.output, h.size, fun k hk hn => h.block k (by by_cases e : k < B; exact e; exact absurd (hp k hk (by omega)) hn)⟩
theorem Chg.ofBelow' {p : Nat -> Prop} {w W : World} (h : Below w.heap.size w W) : Chg p w W := Chg.ofBelow h (fun k hk hn => by omega)
theorem Chg.row {p : Nat -> Prop} {w W : World} (h : Chg p w W) {g : Nat} {o : Obj} (hr : w.heap[g]? = some o) (hp : ¬ p g) : W.heap[g]? = some o := (h.block g (aa hr) hp).trans hr
def dz (w : World) (u : Value) (bs : List UInt8) : Prop := w.ownsRow 0 5 1 u bs.length (S.v8l bs)
theorem dz.kept {w w' : World} {u : Value} {bs : List UInt8} (h : dz w u bs) (hb : ∀ k, u.ownBlock = some k -> w'.heap[k]? = w.heap[k]?) : dz w' u bs := by
 refine ⟨h.1, ?_⟩
 rcases h.2 with h2 | ⟨g, cap, cur, rfl, h3, h4, h5⟩
 ·exact Or.inl h2
 ·exact Or.inr ⟨g, cap, cur, rfl, h3, (hb g rfl).trans h4, h5⟩
theorem dz.lt {w : World} {u : Value} {bs : List UInt8} (h : dz w u bs) {k : Nat} (hk : u.ownBlock = some k) : k < w.heap.size := (World.ownsRow.lt h k hk).2
theorem dz.chg {p : Nat -> Prop} {w W : World} {u : Value} {bs : List UInt8} (h : dz w u bs) (hc : Chg p w W) (hp : ∀ k, u.ownBlock = some k -> ¬ p k) : dz W u bs := h.kept fun k hk => hc.block k (h.lt hk) (hp k hk)
theorem dz.sliceAt {w : World} {u : Value} {bs : List UInt8} (h : dz w u bs) (hr : bs.length <= 140737488355328) : SliceAt w u bs := by
 rcases h.2 with ⟨rfl, h3⟩ | ⟨g, cap, cur, rfl, _, h4, h5, _, h6, h7⟩
 ·exact Or.inl ⟨rfl, List.eq_nil_of_length_eq_zero h3⟩
 ·exact Room.sliceAt ⟨cur, h4, by omega, h5, by rw [<- h7, Nat.mul_one]⟩ hr
theorem dz.shape {w : World} {u : Value} {bs : List UInt8} (h : dz w u bs) : ∃ ao c, u = .slice ao bs.length c := by
 rcases h.2 with ⟨rfl, h3⟩ | ⟨g, cap, cur, rfl, _⟩
 ·exact ⟨none, 0, by rw [h3]⟩
 ·exact ⟨_, _, rfl⟩
theorem wR (w : World) : dz w (.slice none 0 0) [] := World.ownsRow_nil w 0 5 1
theorem bf (w : World) (v u : Value) (bs xs : List UInt8) (ty : TypeId) (hv : dz w v bs) (hu : SliceAt w u xs) (hb : bs.length + xs.length <= 140737488355328) :
  ∃ v' w', (Builtin.append_ #[22, 22] ty #[v, u]).run Tryz.prog w = .ok v' w' /\ (dz w' v' (bs ++ xs) /\ w.grownBy w' v.ownBlock /\ ∀ k, v'.ownBlock = some k -> v.ownBlock = some k \/ w.heap.size <= k) := by
 obtain ⟨i, hi, hz0, hz1, hz2⟩ := info_parts Fy
 have key : ∀ (ad : Addr) (c : Nat), (∀ j x, (S.v8l xs)[j]? = some x -> w.cell? (ad.add j) = some x) -> u = .slice (some ad) xs.length c -> ∃ v' w', (Builtin.append_ #[22, 22] ty #[v, u]).run Tryz.prog w = .ok v' w' /\ (dz w' v' (bs ++ xs) /\ w.grownBy w' v.ownBlock /\ ∀ k, v'.ownBlock = some k -> v.ownBlock = some k \/ w.heap.size <= k) := by
  rintro ad c hc rfl
  obtain ⟨v', w', hr, ho, hg, _⟩ := run_append_own (P := Tryz.prog) w 0 22 ty 5 i (.int .u8 0) 1 1 Tryz.underlying22 hi hz0 hz1 hz2 rfl (by omega) v bs.length (S.v8l bs) hv ad xs.length c (S.v8l xs) (by rw [S.ae]; omega) hc (S.df _) (by simp only [maxLen]; omega) (by omega) (Nat.zero_le _)
  refine ⟨v', w', hr, by unfold dz; rw [qY, List.length_append]; exact ho, hg, fun k hk => ?_⟩
  rcases hv.2 with ⟨rfl, h3⟩ | ⟨g, cap, cur, rfl, _, h4, h5, _, h6, h7⟩
  ·obtain ⟨v2, w2, hr2, ho2, _, _⟩ := run_append_own (P := Tryz.prog) w w.heap.size 22 ty 5 i (.int .u8 0) 1 1 Tryz.underlying22 hi hz0 hz1 hz2 rfl (by omega) (.slice none 0 0) 0 [] (World.ownsRow_nil w w.heap.size 5 1) ad xs.length c (S.v8l xs) (by rw [S.ae]; omega) hc (S.df _) (by simp only [maxLen]; omega) (by omega) (lr _)
   rw [hr] at hr2
   simp only [Result.ok.injEq] at hr2
   obtain ⟨rfl, rfl⟩ := hr2
   exact Or.inr (ho2.lt k hk).1
  ·by_cases hroom : bs.length + xs.length <= cap
   ·have hr2 := run_append_room (P := Tryz.prog) w 22 ty 5 i Tryz.underlying22 hi g bs.length cap cur h4 ad xs.length c (S.v8l xs) (by rw [S.ae, hz1]; omega) hc (S.df _) hroom (by rw [S.ae, hz1]; omega)
    rw [hr] at hr2
    simp only [Result.ok.injEq] at hr2
    rw [hr2.1] at hk
    exact Or.inl hk
   ·have holds := hv.cells (g := g) rfl
    have hr2 := run_append_grow (P := Tryz.prog) w 22 ty 5 i (.int .u8 0) Tryz.underlying22 hi hz0 ⟨g, 0, none⟩ bs.length cap (S.v8l bs) (by rw [S.ae, hz1]; omega) holds ad xs.length c (S.v8l xs) (by rw [S.ae, hz1]; omega) hc (by omega) (by omega) (growslice_fits (by omega) (by rw [hz2]; omega))
    rw [hr] at hr2
    simp only [Result.ok.injEq] at hr2
    rw [hr2.1] at hk
    simp only [Value.ownBlock, Option.some.injEq] at hk
    exact Or.inr (by omega)
 rcases hu with ⟨rfl, rfl⟩ | ⟨a, cap, rfl, _, rfl⟩ | ⟨b, off, cap, rfl, h1, h2, h3, h4⟩
 ·exact ⟨v, w, run_append_owned_none (P := Tryz.prog) (w := w) 0 22 ty 5 i 1 Tryz.underlying22 hi v bs.length (S.v8l bs) hv, by rw [List.append_nil]; exact hv, ⟨rfl, rfl, rfl, lr _, fun _ _ _ => rfl⟩, fun k hk => Or.inl hk⟩
 ·exact key a cap (fun j x h => by simp [S.v8l] at h) rfl
 ·refine key ⟨b, off, none⟩ cap (fun j x h => ?_) rfl
  obtain ⟨rfl, hj⟩ := S.oK xs j x h
  rw [Addr.add_lit]
  exact h4 j hj
theorem bK {md : Region.Mode} {ops : Array Oper} {Q : Exit -> Act -> World -> Prop} {S : World -> Prop} {fuel : Nat} {listed : Array Bool} {a : Act} {w : World} {i : Nat} {o : Oper} {rs : List Nat} (ho : ops[i]? = some o) (hgd : o.guard = none) (s x : Operand) (t tn : TypeId)
  (hop : o.op = .call { callee := .builtin .append, args := #[s, x], argTypes := #[t, tn] }) (vs vx : Value) (hs : a.eval s = vs) (hx : a.eval x = vx) {R : Value -> World -> Prop}
  (hr : ∃ v' w', (Builtin.append_ #[t, tn] o.type #[vs, vx]).run Tryz.prog w = .ok v' w' /\ R v' w') (hrest : AllReadyH Tryz.prog md ops Q S fuel listed a w rs)
  (h : ∀ v' w', R v' w' -> S w' /\ (S w' -> wpAnyH Tryz.prog md ops Q S fuel (listed.setIfInBounds i true) (a.put o.dst v') w')) : AllReadyH Tryz.prog md ops Q S fuel listed a w (i :: rs) := by
 obtain ⟨v', w', hr, hR⟩ := hr
 refine AllReadyH.cons ho (fun K hK => ?_) hrest
 rw [if_pos (by simp [Region.wanted, hgd])]
 exact Lib.wp_append_run w s x t tn hop vs vx hs hx v' w' hr (hK.out _ _ (h v' w' hR).1 (h v' w' hR).2)
end Go.Proofs.YteealihknndclabGreatDoor
namespace Go.Proofs.YteealihknndclabGreatDoor
open Go.RowKit
theorem jI {w : World} {g : Nat} {a : Value} {t : TypeId} (h : w.heap[g]? = some (.cells #[a] t (0, 0))) : w.cell? ⟨g, 0, none⟩ = some a := by rw [cell_of_row w g 0 _ _ _ h]; rfl
theorem cells3 {w : World} {g : Nat} {a b c : Value} {t : TypeId} (h : w.heap[g]? = some (.cells #[a, b, c] t (0, 0))) :
  w.cell? ⟨g, 0, none⟩ = some a /\ w.cell? ⟨g, 1, none⟩ = some b /\ w.cell? ⟨g, 2, none⟩ = some c :=
 ⟨by rw [cell_of_row w g 0 _ _ _ h]; rfl, by rw [cell_of_row w g 1 _ _ _ h]; rfl, by rw [cell_of_row w g 2 _ _ _ h]; rfl⟩
theorem aQ {w : World} {g : Nat} {a b c d : Value} {t : TypeId} (h : w.heap[g]? = some (.cells #[a, b, c, d] t (0, 0))) :
  w.cell? ⟨g, 0, none⟩ = some a /\ w.cell? ⟨g, 1, none⟩ = some b /\ w.cell? ⟨g, 2, none⟩ = some c /\ w.cell? ⟨g, 3, none⟩ = some d :=
 ⟨by rw [cell_of_row w g 0 _ _ _ h]; rfl, by rw [cell_of_row w g 1 _ _ _ h]; rfl, by rw [cell_of_row w g 2 _ _ _ h]; rfl, by rw [cell_of_row w g 3 _ _ _ h]; rfl⟩
theorem cells5 {w : World} {g : Nat} {a b c d e : Value} {t : TypeId} (h : w.heap[g]? = some (.cells #[a, b, c, d, e] t (0, 0))) :
  w.cell? ⟨g, 0, none⟩ = some a /\ w.cell? ⟨g, 1, none⟩ = some b /\ w.cell? ⟨g, 2, none⟩ = some c /\ w.cell? ⟨g, 3, none⟩ = some d /\ w.cell? ⟨g, 4, none⟩ = some e :=
 ⟨by rw [cell_of_row w g 0 _ _ _ h]; rfl, by rw [cell_of_row w g 1 _ _ _ h]; rfl, by rw [cell_of_row w g 2 _ _ _ h]; rfl, by rw [cell_of_row w g 3 _ _ _ h]; rfl, by rw [cell_of_row w g 4 _ _ _ h]; rfl⟩
end Go.Proofs.YteealihknndclabGreatDoor
namespace Go.Proofs.YteealihknndclabGreatDoor
open Go.RowKit
namespace S
end S
end Go.Proofs.YteealihknndclabGreatDoor
namespace Go.Proofs.YteealihknndclabGreatDoor
open Go.RowKit
def S.mark (i j : Nat) : Int := if j % 3 = 0 then ((i + 1 : Nat) : Int) else 0
end Go.Proofs.YteealihknndclabGreatDoor
namespace Go.Proofs.YteealihknndclabGreatDoor
open Go.RowKit
def Lists (w : World) (v : Value) (vs : List Value) : Prop :=
 (v = .slice none 0 0 /\ vs = []) \/
 ∃ g off c cur, v = .slice (some ⟨g, off, none⟩) vs.length c /\ w.heap[g]? = some (.cells cur 22 (0, 0)) /\ off + c <= cur.size /\ vs.length <= c /\ ∀ j x, vs[j]? = some x -> cur[off + j]? = some x
theorem Lists.shape {w : World} {v : Value} {vs : List Value} (h : Lists w v vs) : ∃ ao c, v = .slice ao vs.length c := by
 rcases h with ⟨rfl, rfl⟩ | ⟨g, off, c, cur, rfl, _⟩
 ·exact ⟨_, _, rfl⟩
 ·exact ⟨_, _, rfl⟩
theorem Lists.lt {w : World} {v : Value} {vs : List Value} (h : Lists w v vs) {k : Nat} (hk : v.ownBlock = some k) : k < w.heap.size := by
 rcases h with ⟨rfl, rfl⟩ | ⟨g, off, c, cur, rfl, h1, _⟩
 ·simp [Value.ownBlock] at hk
 ·simp [Value.ownBlock] at hk
  subst hk
  exact aa h1
theorem Lists.kept {w w' : World} {v : Value} {vs : List Value} (h : Lists w v vs) (hb : ∀ k, v.ownBlock = some k -> w'.heap[k]? = w.heap[k]?) : Lists w' v vs := by
 rcases h with h | ⟨g, off, c, cur, rfl, h1, h2⟩
 ·exact Or.inl h
 ·exact Or.inr ⟨g, off, c, cur, rfl, (hb g rfl).trans h1, h2⟩
theorem Lists.at {w : World} {v : Value} {vs : List Value} (h : Lists w v vs) (k : Nat) (hk : k < vs.length) :
  ∃ g off c, v = .slice (some ⟨g, off, none⟩) vs.length c /\ vs.length <= c /\ w.cell? ⟨g, off + k, none⟩ = some (vs.getD k default) := by
 rcases h with ⟨_, rfl⟩ | ⟨g, off, c, cur, rfl, h1, h2, h3, h4⟩
 ·simp at hk
 ·refine ⟨g, off, c, rfl, h3, ?_⟩
  rw [cell_of_row w g (off + k) cur 22 (0, 0) h1]
  exact h4 k _ (by rw [List.getElem?_eq_getElem hk, List.getD_eq_getElem?_getD, List.getElem?_eq_getElem hk]; rfl)
theorem infoS : (Tryz.prog.info? 22).map (fun i => (i.zero, i.size, i.bytes)) = some (some (.slice none 0 0), 1, 24) := by kernel_rfl
theorem qD (w : World) (v x : Value) (gx : Nat) (vs : List Value) (ty : TypeId) (h : Lists w v vs) (hx : w.heap[gx]? = some (.cells #[x] 22 (0, 0))) (hx1 : x.oneCell' = true) (hlen : vs.length <= 1000000) :
  ∃ v' w', (Builtin.append_ #[205, 205] ty #[v, .slice (some ⟨gx, 0, none⟩) 1 1]).run Tryz.prog w = .ok v' w' /\ (Lists w' v' (vs ++ [x]) /\ w.grownBy w' v.ownBlock /\ (v'.ownBlock = v.ownBlock \/ v'.ownBlock = some w.heap.size)) := by
 obtain ⟨i, hi, hz0, hz1, hz2⟩ := info_parts infoS
 have hnews : ∀ j u, [x][j]? = some u -> w.cell? ((⟨gx, 0, none⟩ : Addr).add j) = some u := by
  intro j u hu
  rw [Addr.add_lit, Nat.zero_add, cell_of_row w gx j _ 22 (0, 0) hx]
  simpa using hu
 have hone : ∀ u ∈ [x], u.oneCell' = true := by intro u hu; rw [List.mem_singleton.1 hu]; exact hx1
 rcases h with ⟨rfl, rfl⟩ | ⟨g, off, c, cur, rfl, h1, h2, h3, h4⟩
 ·have hr := run_append_nil (P := Tryz.prog) w 205 ty 22 i (.slice none 0 0) Tryz.underlying205 hi hz0 ⟨gx, 0, none⟩ 1 1 [x] (by rw [hz1]; rfl) hnews (by omega) (by omega) (by rw [hz2]; omega)
  refine ⟨_, _, hr, Or.inr ⟨w.heap.size, 0, _, _, rfl, heap_alloc_new w.drew _, ?_, ?_, ?_⟩, ⟨rfl, rfl, rfl, by simp, fun k hk _ => heap_alloc_old w.drew _ hk⟩, Or.inr rfl⟩
  ·have hge := grownCap_ge w 1 0 22
   simp only [Array.size_append, List.size_toArray, size_zeroCells, List.length_singleton]
   have : (Value.slice none 0 0).cells.size = 1 := rfl
   rw [this]
   omega
  ·exact grownCap_ge w 1 0 22
  ·intro j y hy
   rw [Nat.zero_add, Array.getElem?_append_left (by have := (List.getElem?_eq_some_iff.1 hy).1; simpa using this)]
   simpa using hy
 ·by_cases hroom : vs.length + 1 <= c
  ·have hf := run_firstCells_some (P := Tryz.prog) w i.size 1 ⟨gx, 0, none⟩ 1 1 [x] (by rw [hz1]; rfl) hnews
   have hst := run_storeCells_at Tryz.prog g (off + vs.length) 22 [x] 0 cur w h1 (by simp; omega) hone
   simp only [Nat.add_zero] at hst
   rw [hz1] at hf
   have hr : (Builtin.append_ #[205, 205] ty #[.slice (some ⟨g, off, none⟩) vs.length c, .slice (some ⟨gx, 0, none⟩) 1 1]).run Tryz.prog w = .ok (.slice (some ⟨g, off, none⟩) (vs.length + 1) c) (w.setRow g (cur.toList.take (off + vs.length) ++ [x] ++ cur.toList.drop (off + vs.length + 1)).toArray) := by
    simp [Builtin.append_, run_underlying Tryz.underlying205, sizeOf, typeInfo, hi, hz1, Builtin.lenOf, hroom, hf, Addr.add_lit]
    have hst' := hst
    simp only [List.length_singleton, List.append_assoc, List.cons_append, List.nil_append] at hst'
    rw [hst']
    rfl
   refine ⟨_, _, hr, Or.inr ⟨g, off, c, _, by rw [List.length_append, List.length_singleton], setRow_heap w g cur _ 22 _ h1, ?_, by rw [List.length_append]; exact hroom, ?_⟩, ⟨rfl, rfl, rfl, by simp, fun k _ hk => setRow_other w g k _ (fun e => hk (by simp [Value.ownBlock, e]))⟩, Or.inl rfl⟩
   ·simp only [List.size_toArray, List.length_append, List.length_take, List.length_drop, Array.length_toList, List.length_singleton]
    omega
   ·intro j y hy
    have hlt : (cur.toList.take (off + vs.length)).length = off + vs.length := by rw [List.length_take]; have : cur.toList.length = cur.size := Array.length_toList; omega
    rw [List.getElem?_toArray, List.append_assoc]
    by_cases hj : j < vs.length
    ·rw [List.getElem?_append_left (by rw [hlt]; omega), List.getElem?_take, if_pos (by omega)]
     rw [List.getElem?_append_left hj] at hy
     simpa using h4 j y hy
    ·rw [List.getElem?_append_right (by omega)] at hy
     rw [List.getElem?_append_right (by rw [hlt]; omega), hlt]
     have hj0 : j - vs.length = 0 := by have := (List.getElem?_eq_some_iff.1 hy).1; simpa using this
     have hj1 : off + j - (off + vs.length) = 0 := by omega
     rw [hj0] at hy
     rw [hj1]
     simpa using hy
  ·have holds : ∀ j u, vs[j]? = some u -> w.cell? ((⟨g, off, none⟩ : Addr).add j) = some u := by
    intro j u hu
    rw [Addr.add_lit, cell_of_row w g (off + j) _ 22 (0, 0) h1]
    exact h4 j u hu
   have hr := run_append_grow (P := Tryz.prog) w 205 ty 22 i (.slice none 0 0) Tryz.underlying205 hi hz0 ⟨g, off, none⟩ vs.length c vs (by rw [hz1]; omega) holds ⟨gx, 0, none⟩ 1 1 [x] (by rw [hz1]; rfl) hnews (by omega) (by omega) (growslice_fits (by omega) (by rw [hz2]; omega))
   have hge := grownCap_ge w (vs.length + 1) c 22
   refine ⟨_, _, hr, Or.inr ⟨w.heap.size, 0, _, _, by rw [List.length_append, List.length_singleton], heap_alloc_new w.drew _, ?_, by rw [List.length_append]; exact hge, ?_⟩, ⟨rfl, rfl, rfl, by simp, fun k hk _ => heap_alloc_old w.drew _ hk⟩, Or.inr rfl⟩
   ·simp only [Array.size_append, List.size_toArray, size_zeroCells, List.length_singleton]
    have : (Value.slice none 0 0).cells.size = 1 := rfl
    rw [this]
    omega
   ·intro j y hy
    have hj := (List.getElem?_eq_some_iff.1 hy).1
    rw [Nat.zero_add, Array.getElem?_append_left (by simpa using hj)]
    simpa using hy
end Go.Proofs.YteealihknndclabGreatDoor
