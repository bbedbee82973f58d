/- Lists of bytes in memory: how a []byte reads, what stays, copies and appends; nothing of one function. -/
import Derived.Test.YtldkkgdkjddohaaProg
import Derived.WalkKit
import Derived.WalkSpells
import Derived.WalkLawsBesides
import Derived.Deep.RegionHeld3
import Derived.Deep.QuietTactic
import Derived.BigQuiet
import Derived.Laws.CopyOwn
import Derived.StillTailTactics
import Derived.Stop.BytesEq
import Derived.Laws.OwnMore
import Derived.Lib.AppendZeros
import Derived.Lib.SlBytesConst
import Derived.Lib.JoinLaws
import Derived.Deep.DeepCutAuto
namespace Go.Proofs.Ytldkkgdkjddohaa
open Go.RowKit
namespace S
def v8 (l : List Int) : Array Value := (l.map (fun x => Value.int .i64 x)).toArray
end S
namespace S
theorem v8_size (l : List Int) : (v8 l).size = l.length := by simp [v8]
end S
namespace S
theorem v8_one (l : List Int) : (v8 l).all (·.oneCell') = true := by simp [v8, Value.oneCell']
end S
theorem v8_cell {w : World} {g : Nat} {l : List Int} {t : TypeId} (h : w.heap[g]? = some (.cells (S.v8 l) t (0, 0))) (j : Nat) (hj : j < l.length) : w.cell? ⟨g, j, none⟩ = some (.int .i64 (l.getD j 0)) := by
  rw [cell_of_row w g j _ t _ h]; simp [S.v8, hj]
theorem v8_set {w : World} {g : Nat} {l : List Int} {t : TypeId} (h : w.heap[g]? = some (.cells (S.v8 l) t (0, 0))) (j : Nat) (x : Int) :
    (w.setCell ⟨g, j, none⟩ (.int .i64 x)).heap[g]? = some (.cells (S.v8 (l.set j x)) t (0, 0)) := by
  rw [heap_setCell_same w g j _ t _ h]
  congr 2
  apply Array.ext'
  simp [S.v8, List.map_set]
theorem hide {p : Prop} (h : p) : Hid p := h
theorem follows : Try.prog.follows .mixedOrders = true := by kernel_rfl
/-- The bytes bs lie where a slice of that address begins. -/
def Src (w : World) (ao : Option Addr) (bs : List Int) : Prop :=
  0 < bs.length → ∃ b off, ao = some ⟨b, off, none⟩ ∧ b < w.heap.size ∧ ∀ j, j < bs.length → w.cell? ⟨b, off + j, none⟩ = some (.int .i64 (bs.getD j 0))
theorem Src.below {w w' : World} {ao : Option Addr} {bs : List Int} (h : Src w ao bs) (hb : Below w.heap.size w w') : Src w' ao bs := fun hp => by
  obtain ⟨b, off, e, h1, h2⟩ := h hp
  exact ⟨b, off, e, Nat.lt_of_lt_of_le h1 hb.size, fun j hj => (hb.cell (p := ⟨b, off + j, none⟩) (by exact h1)).trans (h2 j hj)⟩
namespace S
def v8l (l : List Int) : List Value := l.map (fun x => Value.int .i64 x)
end S
namespace S
theorem v8l_length (l : List Int) : (v8l l).length = l.length := by simp [v8l]
end S
namespace S
theorem v8_eq (l : List Int) : v8 l = (v8l l).toArray := rfl
end S
namespace S
theorem v8l_one (l : List Int) : ∀ v ∈ v8l l, v.oneCell' = true := by
  intro v hv; simp only [v8l, List.mem_map] at hv; obtain ⟨x, _, rfl⟩ := hv; rfl
end S
namespace S
theorem v8l_splice (a b : List Int) (n : Nat) : splice (v8l a) n (v8l b) = v8l (splice a n b) := by simp [splice, v8l, List.map_take, List.map_drop]
end S
namespace S
theorem v8l_at (l : List Int) (j : Nat) (v : Value) (h : (v8l l)[j]? = some v) : v = .int .i64 (l.getD j 0) ∧ j < l.length := by
  simp only [v8l, List.getElem?_map, Option.map_eq_some_iff] at h
  obtain ⟨x, hx, rfl⟩ := h
  have hj : j < l.length := (List.getElem?_eq_some_iff.1 hx).1
  exact ⟨by simp [List.getD_eq_getElem?_getD, hx], hj⟩
end S
namespace S
def zeros (n : Nat) : List Int := List.replicate n 0
end S
namespace S
theorem zeros_length (n : Nat) : (zeros n).length = n := by simp [zeros]
end S
theorem copy_src {w w' : World} {ao : Option Addr} {bs : List Int} (g : Nat) (h : Src w ao bs) (hb : Below w.heap.size w w') : 0 < (S.v8l bs).length → some (⟨g, 0, none⟩ : Addr) = some ⟨g, 0, none⟩ ∧ ∃ ad, ao = some ad ∧ ∀ j v, (S.v8l bs)[j]? = some v → w'.cell? (ad.add j) = some v := fun hp => by
  obtain ⟨b, off, e, _, hc⟩ := (h.below hb) (by rw [S.v8l_length] at hp; exact hp)
  refine ⟨rfl, _, e, fun j v hv => ?_⟩
  obtain ⟨rfl, hj⟩ := S.v8l_at bs j v hv
  rw [show (⟨b, off, none⟩ : Addr).add j = ⟨b, off + j, none⟩ from by unfold Addr.add; split <;> simp_all]
  exact hc j hj
theorem spl_row {w2 : World} {g n : Nat} {bs : List Int} (h : Hid (w2.heap[g]? = some (.cells (splice (S.v8l (S.zeros n)) 0 (S.v8l bs)).toArray 3 (0, 0)))) : Hid (w2.heap[g]? = some (.cells (S.v8 (splice (S.zeros n) 0 bs)) 3 (0, 0))) := by
  have := h.out
  rw [S.v8l_splice] at this
  exact this
theorem block_lt_of_row {w : World} {g : Nat} {o : Obj} (h : w.heap[g]? = some o) : g < w.heap.size := (Array.getElem?_eq_some_iff.1 h).1
/-- The value v is a slice that reads as the bytes bs. -/
def SliceAt (w : World) (v : Value) (bs : List Int) : Prop :=
  (v = .slice none 0 0 ∧ bs = []) ∨ (∃ a cap, v = .slice (some a) 0 cap ∧ 0 ≤ cap ∧ bs = []) ∨
  (∃ b off cap, v = .slice (some ⟨b, off, none⟩) bs.length cap ∧ bs.length ≤ cap ∧ bs.length ≤ 100000 ∧ b < w.heap.size ∧ ∀ j, j < bs.length → w.cell? ⟨b, off + j, none⟩ = some (.int .i64 (bs.getD j 0)))
theorem SliceAt.below {w w' : World} {v : Value} {bs : List Int} {B : Nat} (h : SliceAt w v bs) (hb : Below B w w') (hB : w.heap.size ≤ B) : SliceAt w' v bs := by
  rcases h with h | h | ⟨b, off, cap, e, h1, h2, h3, h4⟩
  · exact Or.inl h
  · exact Or.inr (Or.inl h)
  · exact Or.inr (Or.inr ⟨b, off, cap, e, h1, h2, Nat.lt_of_lt_of_le h3 hb.size, fun j hj => (hb.cell (p := ⟨b, off + j, none⟩) (by show b < B; omega)).trans (h4 j hj)⟩)
theorem SliceAt.shape {w : World} {v : Value} {bs : List Int} (h : SliceAt w v bs) : ∃ ao len cap, v = .slice ao len cap ∧ len = bs.length ∧ len ≤ 100000 ∧ Src w ao bs := by
  rcases h with ⟨rfl, rfl⟩ | ⟨a, cap, rfl, _, rfl⟩ | ⟨b, off, cap, rfl, h1, h2, h3, h4⟩
  · exact ⟨_, _, _, rfl, rfl, by omega, fun hp => absurd hp (by simp)⟩
  · exact ⟨_, _, _, rfl, rfl, by omega, fun hp => absurd hp (by simp)⟩
  · exact ⟨_, _, _, rfl, rfl, by omega, fun _ => ⟨b, off, rfl, h3, h4⟩⟩
theorem spl_rowT {w2 : World} {g n : Nat} {bs : List Int} {t : TypeId} (h : Hid (w2.heap[g]? = some (.cells (splice (S.v8l (S.zeros n)) 0 (S.v8l bs)).toArray t (0, 0)))) : w2.heap[g]? = some (.cells (S.v8 (splice (S.zeros n) 0 bs)) t (0, 0)) := by
  have := h.out
  rw [S.v8l_splice] at this
  exact this
theorem splice_front (n : Nat) (xs : List Int) : splice (S.zeros n) 0 xs = xs ++ S.zeros (n - xs.length) := by
  simp [splice, S.zeros]
theorem info5 : (Try.prog.info? 3).map (fun i => (i.zero, i.size, i.bytes)) = some (some (.int .i64 0), 1, 8) := by kernel_rfl
theorem SliceAt.form {w : World} {v : Value} {bs : List Int} (h : SliceAt w v bs) : ∃ ao len cap, v = .slice ao len cap ∧ len = bs.length ∧ len ≤ 100000 := by
  rcases h with ⟨rfl, rfl⟩ | ⟨a, cap, rfl, _, rfl⟩ | ⟨b, off, cap, rfl, h1, h2, h3, h4⟩
  · exact ⟨_, _, _, rfl, rfl, by omega⟩
  · exact ⟨_, _, _, rfl, rfl, by omega⟩
  · exact ⟨_, _, _, rfl, rfl, by omega⟩
theorem infoB : (Try.prog.info? 3).map (fun i => (i.zero, i.size, i.bytes)) = some (some (.int .i64 0), 1, 8) := by kernel_rfl
theorem v8l_app (a b : List Int) : S.v8l (a ++ b) = S.v8l a ++ S.v8l b := by simp [S.v8l]
/-- The walk's step at an append whose run is known to answer some v' in some w'. -/
theorem wpList_append_known {w : World} {ops : Array Oper} {rest : List Oper} {o : Oper} {a : Act} {Q : Exit → Act → World → Prop} (hgd : o.guard = none) (s x : Operand) (t tn : TypeId)
    (ho : o.op = .call { callee := .builtin .append, args := #[s, x], argTypes := #[t, tn] }) (vs vx : Value) (hs : a.eval s = vs) (hx : a.eval x = vx) {R : Value → World → Prop}
    (hr : ∃ v' w', (Builtin.append_ #[t, tn] o.type #[vs, vx]).run Try.prog w = .ok v' w' ∧ R v' w')
    (h : ∀ v' w', R v' w' → wpList Try.prog ops Q rest (a.put o.dst v') w') : wpList Try.prog ops Q (o :: rest) a w := by
  obtain ⟨v', w', hr, hR⟩ := hr
  exact wpList_plain hgd fun _ hK => Lib.wp_append_run w s x t tn ho vs vx hs hx v' w' hr (hK _ _ (h v' w' hR))
theorem part_at {w0 : World} {b off cap : Nat} {bs : List Int} (h1 : bs.length ≤ cap) (h2 : bs.length ≤ 100000) (h3 : b < w0.heap.size) (h4 : ∀ j, j < bs.length → w0.cell? ⟨b, off + j, none⟩ = some (.int .i64 (bs.getD j 0))) (i k : Nat) (hik : i ≤ k) (hk : k ≤ bs.length) :
    SliceAt w0 (.slice (if cap = i then some ⟨b, off, none⟩ else some ⟨b, off + i, none⟩) (k - i) (cap - i)) ((bs.take k).drop i) := by
  have hl : ((bs.take k).drop i).length = k - i := by rw [List.length_drop, List.length_take]; omega
  by_cases hc : cap = i
  · rw [if_pos hc]
    obtain rfl : i = k := by omega
    refine Or.inr (Or.inl ⟨_, cap - i, by rw [Nat.sub_self], Nat.zero_le _, ?_⟩)
    exact List.eq_nil_of_length_eq_zero (by omega)
  · rw [if_neg hc]
    refine Or.inr (Or.inr ⟨b, off + i, cap - i, by rw [hl], by omega, by omega, h3, fun j hj => ?_⟩)
    have e : ((bs.take k).drop i).getD j 0 = bs.getD (i + j) 0 := by
      rw [List.getD_eq_getElem?_getD, List.getD_eq_getElem?_getD, List.getElem?_drop, List.getElem?_take, if_pos (by omega)]
    rw [e, ← h4 (i + j) (by omega), Nat.add_assoc]
theorem slice_mid {w0 : World} {v : Value} {bs : List Int} (hv : SliceAt w0 v bs) (i k : Nat) (hik : i ≤ k) (hk : k ≤ bs.length) :
    ∃ x, (∀ w, (Instr.slice 22 v (some (.int .i64 (i : Int))) (some (.int .i64 (k : Int))) none).run Try.prog w = .ok x w) ∧ SliceAt w0 x ((bs.take k).drop i) := by
  have q1 : (0 : Int) ≤ (i : Int) := by omega
  have q2 : (i : Int) ≤ (k : Int) := by omega
  rcases hv with ⟨rfl, rfl⟩ | ⟨a, cap, rfl, _, rfl⟩ | ⟨b, off, cap, rfl, h1, h2, h3, h4⟩
  · obtain rfl : k = 0 := by simpa using hk
    obtain rfl : i = 0 := by omega
    refine ⟨.slice none 0 0, fun w => ?_, Or.inl ⟨rfl, by simp⟩⟩
    go_simp
  · obtain rfl : k = 0 := by simpa using hk
    obtain rfl : i = 0 := by omega
    obtain ⟨bl, of, inn⟩ := a
    have q3 : (0 : Int) ≤ (cap : Int) := by omega
    refine ⟨.slice (if cap = 0 then some ⟨bl, of, inn⟩ else some ((⟨bl, of, inn⟩ : Addr).add 0)) 0 cap, fun w => ?_, ?_⟩
    · go_simp
    · by_cases hc : cap = 0
      · rw [if_pos hc]; exact Or.inr (Or.inl ⟨_, _, rfl, Nat.zero_le _, by simp⟩)
      · rw [if_neg hc]; exact Or.inr (Or.inl ⟨_, _, rfl, Nat.zero_le _, by simp⟩)
  · have q3 : (k : Int) ≤ (cap : Int) := by omega
    refine ⟨_, fun w => ?_, part_at h1 h2 h3 h4 i k hik hk⟩
    go_simp
theorem slice_to {w0 : World} {v : Value} {bs : List Int} (hv : SliceAt w0 v bs) (k : Nat) (hk : k ≤ bs.length) :
    ∃ x, (∀ w, (Instr.slice 22 v none (some (.int .i64 (k : Int))) none).run Try.prog w = .ok x w) ∧ SliceAt w0 x (bs.take k) := by
  have q1 : (0 : Int) ≤ (k : Int) := by omega
  rcases hv with ⟨rfl, rfl⟩ | ⟨a, cap, rfl, _, rfl⟩ | ⟨b, off, cap, rfl, h1, h2, h3, h4⟩
  · obtain rfl : k = 0 := by simpa using hk
    refine ⟨.slice none 0 0, fun w => ?_, Or.inl ⟨rfl, by simp⟩⟩
    go_simp
  · obtain rfl : k = 0 := by simpa using hk
    obtain ⟨bl, of, inn⟩ := a
    have q3 : (0 : Int) ≤ (cap : Int) := by omega
    refine ⟨.slice (if cap = 0 then some ⟨bl, of, inn⟩ else some ((⟨bl, of, inn⟩ : Addr).add 0)) 0 cap, fun w => ?_, ?_⟩
    · go_simp
    · by_cases hc : cap = 0
      · rw [if_pos hc]; exact Or.inr (Or.inl ⟨_, _, rfl, Nat.zero_le _, by simp⟩)
      · rw [if_neg hc]; exact Or.inr (Or.inl ⟨_, _, rfl, Nat.zero_le _, by simp⟩)
  · have q3 : (k : Int) ≤ (cap : Int) := by omega
    have hp := part_at h1 h2 h3 h4 0 k (by omega) hk
    rw [List.drop_zero] at hp
    refine ⟨_, fun w => ?_, hp⟩
    go_simp
theorem slice_from {w0 : World} {v : Value} {bs : List Int} (hv : SliceAt w0 v bs) (i : Nat) (hi : i ≤ bs.length) :
    ∃ x, (∀ w, (Instr.slice 22 v (some (.int .i64 (i : Int))) none none).run Try.prog w = .ok x w) ∧ SliceAt w0 x (bs.drop i) := by
  have q1 : (0 : Int) ≤ (i : Int) := by omega
  rcases hv with ⟨rfl, rfl⟩ | ⟨a, cap, rfl, _, rfl⟩ | ⟨b, off, cap, rfl, h1, h2, h3, h4⟩
  · obtain rfl : i = 0 := by simpa using hi
    refine ⟨.slice none 0 0, fun w => ?_, Or.inl ⟨rfl, by simp⟩⟩
    go_simp
  · obtain rfl : i = 0 := by simpa using hi
    obtain ⟨bl, of, inn⟩ := a
    have q3 : (0 : Int) ≤ (cap : Int) := by omega
    refine ⟨.slice (if cap = 0 then some ⟨bl, of, inn⟩ else some ((⟨bl, of, inn⟩ : Addr).add 0)) 0 cap, fun w => ?_, ?_⟩
    · go_simp
    · by_cases hc : cap = 0
      · rw [if_pos hc]; exact Or.inr (Or.inl ⟨_, _, rfl, Nat.zero_le _, by simp⟩)
      · rw [if_neg hc]; exact Or.inr (Or.inl ⟨_, _, rfl, Nat.zero_le _, by simp⟩)
  · have q3 : (i : Int) ≤ (bs.length : Int) := by omega
    have q4 : (bs.length : Int) ≤ (cap : Int) := by omega
    have q5 : (i : Int) ≤ (cap : Int) := by omega
    have hp := part_at h1 h2 h3 h4 i bs.length hi (Nat.le_refl _)
    rw [List.take_length] at hp
    refine ⟨_, fun w => ?_, hp⟩
    go_simp
theorem SliceAt.le_cap {w : World} {ao : Option Addr} {len cap : Nat} {bs : List Int} (h : SliceAt w (.slice ao len cap) bs) : len ≤ cap := by
  rcases h with ⟨h, _⟩ | ⟨a, c, h, _, _⟩ | ⟨b, off, c, h, h1, _⟩
  · simp only [Value.slice.injEq] at h; omega
  · simp only [Value.slice.injEq] at h; omega
  · simp only [Value.slice.injEq] at h; omega
/-- The value that the slice operation answers, as the walk writes it. -/
theorem part_form {w : World} {ao : Option Addr} {len cap : Nat} {bs : List Int} (h : SliceAt w (.slice ao len cap) bs) (i k : Nat) (hik : i ≤ k) (hk : k ≤ len) :
    SliceAt w (.slice (if cap = i then ao else Option.map (fun x => x.add i) ao) (k - i) (cap - i)) ((bs.take k).drop i) := by
  rcases h with ⟨h, rfl⟩ | ⟨a, c, h, _, rfl⟩ | ⟨b, off, c, h, h1, h2, h3, h4⟩
  · simp only [Value.slice.injEq] at h
    obtain ⟨rfl, rfl, rfl⟩ := h
    obtain rfl : k = 0 := by omega
    obtain rfl : i = 0 := by omega
    exact Or.inl ⟨by simp, by simp⟩
  · simp only [Value.slice.injEq] at h
    obtain ⟨rfl, rfl, rfl⟩ := h
    obtain rfl : k = 0 := by omega
    obtain rfl : i = 0 := by omega
    by_cases hc : cap = 0
    · rw [if_pos hc]; exact Or.inr (Or.inl ⟨_, _, rfl, Nat.zero_le _, by simp⟩)
    · rw [if_neg hc]; exact Or.inr (Or.inl ⟨_, _, rfl, Nat.zero_le _, by simp⟩)
  · simp only [Value.slice.injEq] at h
    obtain ⟨rfl, rfl, rfl⟩ := h
    have hp := part_at h1 h2 h3 h4 i k hik hk
    rw [Option.map_some, Addr.add_lit]
    exact hp
theorem part_to {w : World} {ao : Option Addr} {len cap : Nat} {bs : List Int} (h : SliceAt w (.slice ao len cap) bs) (k : Nat) (hk : k ≤ len) : SliceAt w (.slice ao k cap) (bs.take k) := by
  have hp := part_form h 0 k (Nat.zero_le _) hk
  rw [List.drop_zero, Nat.sub_zero, Nat.sub_zero] at hp
  have e : (if cap = 0 then ao else Option.map (fun x => x.add 0) ao) = ao := by
    split
    · rfl
    · cases ao with
      | none => rfl
      | some a => rw [Option.map_some, Addr.add_zero']
  rw [e] at hp
  exact hp
theorem part_from {w : World} {ao : Option Addr} {len cap : Nat} {bs : List Int} (h : SliceAt w (.slice ao len cap) bs) (hl : len = bs.length) (i : Nat) (hi : i ≤ len) :
    SliceAt w (.slice (if cap = i then ao else Option.map (fun x => x.add i) ao) (len - i) (cap - i)) (bs.drop i) := by
  have hp := part_form h i len hi (Nat.le_refl _)
  rw [hl, List.take_length, ← hl] at hp
  exact hp
/-- Block g is a row of cap bytes that begins with bs. -/
def Room (w : World) (g cap : Nat) (bs : List Int) : Prop :=
  ∃ cur, w.heap[g]? = some (.cells cur 3 (0, 0)) ∧ cur.size = cap ∧ bs.length ≤ cap ∧ cur.toList.take bs.length = S.v8l bs
theorem Room.below {w w' : World} {g cap B : Nat} {bs : List Int} (h : Room w g cap bs) (hb : Below B w w') (hB : g < B) : Room w' g cap bs := by
  obtain ⟨cur, h1, h2⟩ := h
  exact ⟨cur, (hb.block g hB).trans h1, h2⟩
theorem Room.sliceAt {w : World} {g cap : Nat} {bs : List Int} (h : Room w g cap bs) (hr : bs.length ≤ 100000) : SliceAt w (.slice (some ⟨g, 0, none⟩) bs.length cap) bs := by
  obtain ⟨cur, h1, h2, h3, h4⟩ := h
  refine Or.inr (Or.inr ⟨g, 0, cap, rfl, h3, hr, block_lt_of_row h1, fun j hj => ?_⟩)
  have e : cur.toList[j]? = some (.int .i64 (bs.getD j 0)) := by
    have : (cur.toList.take bs.length)[j]? = cur.toList[j]? := by rw [List.getElem?_take, if_pos hj]
    rw [← this, h4]
    simp [S.v8l, List.getElem?_map, List.getElem?_eq_getElem hj, List.getD_eq_getElem?_getD]
  rw [Nat.zero_add, cell_of_row w g j cur 3 (0, 0) h1]
  simpa using e
theorem SliceAt.src {w : World} {ao : Option Addr} {len cap : Nat} {bs : List Int} (h : SliceAt w (.slice ao len cap) bs) (hp : 0 < bs.length) :
    ∃ b off, ao = some ⟨b, off, none⟩ ∧ b < w.heap.size ∧ len = bs.length ∧ ∀ j, j < bs.length → w.cell? ⟨b, off + j, none⟩ = some (.int .i64 (bs.getD j 0)) := by
  rcases h with ⟨_, rfl⟩ | ⟨a, c, _, _, rfl⟩ | ⟨b, off, c, h, h1, h2, h3, h4⟩
  · simp at hp
  · simp at hp
  · simp only [Value.slice.injEq] at h
    exact ⟨b, off, h.1, h3, h.2.1, h4⟩
theorem SliceAt.of_heap {w w' : World} {v : Value} {bs : List Int} (h : SliceAt w v bs) (hh : w'.heap = w.heap) : SliceAt w' v bs := by
  rcases h with h | h | ⟨b, off, c, h, h1, h2, h3, h4⟩
  · exact Or.inl h
  · exact Or.inr (Or.inl h)
  · exact Or.inr (Or.inr ⟨b, off, c, h, h1, h2, by rw [hh]; exact h3, fun j hj => by rw [← h4 j hj]; exact World.cell?_of_block (by rw [hh])⟩)
/-- Nothing but the count of draws has changed. -/
def Still (w w' : World) : Prop := w'.heap = w.heap ∧ w'.os = w.os ∧ w'.tape = w.tape ∧ w'.output = w.output
theorem Still.refl (w : World) : Still w w := ⟨rfl, rfl, rfl, rfl⟩
theorem Still.drew {w w' : World} (h : Still w w') : Still w w'.drew := h
theorem Still.trans {a b c : World} (h : Still a b) (k : Still b c) : Still a c := ⟨k.1.trans h.1, k.2.1.trans h.2.1, k.2.2.1.trans h.2.2.1, k.2.2.2.trans h.2.2.2⟩
theorem Still.below {w w' : World} (h : Still w w') (B : Nat) : Below B w w' := ⟨h.2.1, h.2.2.1, h.2.2.2, by rw [h.1]; exact Nat.le_refl _, fun k _ => by rw [h.1]⟩
/-- A []byte of the call's own that reads as bs: it lies at the start of a block that is not below base. -/
def Own (w : World) (base : Nat) (v : Value) (bs : List Int) : Prop :=
  w.ownsRow base 3 1 v bs.length (S.v8l bs) ∧ ∃ g cap, v = .slice (some ⟨g, 0, none⟩) bs.length cap
theorem Own.sliceAt {w : World} {base : Nat} {v : Value} {bs : List Int} (h : Own w base v bs) (hr : bs.length ≤ 100000) : SliceAt w v bs := by
  obtain ⟨h1, g, cap, rfl⟩ := h
  have hc := h1.cells (g := g) rfl
  have hlt := (h1.lt g rfl).2
  rcases h1.2 with ⟨h2, _⟩ | ⟨g', cap', cur, h2, _, _, hn, _⟩
  · simp at h2
  · simp only [Value.slice.injEq, Option.some.injEq, Addr.mk.injEq, and_true, true_and] at h2
    obtain ⟨rfl, rfl⟩ := h2
    refine Or.inr (Or.inr ⟨g, 0, cap, rfl, hn, hr, hlt, fun j hj => ?_⟩)
    have := hc j (.int .i64 (bs.getD j 0)) (by simp [S.v8l, List.getElem?_map, List.getElem?_eq_getElem hj, List.getD_eq_getElem?_getD])
    rw [Addr.add_lit] at this
    exact this
theorem Own.below {w w' : World} {base B : Nat} {v : Value} {bs : List Int} (h : Own w base v bs) (hb : Below B w w') (hB : w.heap.size ≤ B) : Own w' base v bs := by
  obtain ⟨h1, g, cap, rfl⟩ := h
  have hlt := (h1.lt g rfl).2
  refine ⟨⟨h1.1, ?_⟩, g, cap, rfl⟩
  rcases h1.2 with ⟨h2, _⟩ | ⟨g', cap', cur, h2, h3, h4, h5⟩
  · simp at h2
  · refine Or.inr ⟨g', cap', cur, h2, h3, ?_, h5⟩
    simp only [Value.slice.injEq, Option.some.injEq, Addr.mk.injEq, and_true, true_and] at h2
    rw [hb.block g' (by omega)]
    exact h4
theorem v8l_append (a b : List Int) : S.v8l (a ++ b) = S.v8l a ++ S.v8l b := by simp [S.v8l]
theorem v8l_zeros (m : Nat) : S.v8l (S.zeros m) = List.replicate m (Value.int .i64 0) := by simp [S.v8l, S.zeros]
theorem run_append_bytes (w : World) (base : Nat) (v u : Value) (bs xs : List Int) (ty : TypeId) (hown : Own w base v bs) (hu : SliceAt w u xs) (hb : bs.length + xs.length ≤ 100000) (hbase : base ≤ w.heap.size) :
    ∃ v' w', (Builtin.append_ #[22, 22] ty #[v, u]).run Try.prog w = .ok v' w' ∧ Own w' base v' (bs ++ xs) ∧ Below base w w' := by
  obtain ⟨i, hi, hz0, hz1, hz2⟩ := info_parts info5
  have key : ∀ (ad : Addr) (c : Nat), (∀ j x, (S.v8l xs)[j]? = some x → w.cell? (ad.add j) = some x) → u = .slice (some ad) xs.length c → ∃ v' w', (Builtin.append_ #[22, 22] ty #[v, u]).run Try.prog w = .ok v' w' ∧ Own w' base v' (bs ++ xs) ∧ Below base w w' := by
    rintro ad c hc rfl
    obtain ⟨v', w', hr, ho, hg, hiff⟩ := run_append_own (P := Try.prog) w base 22 ty 3 i (.int .i64 0) 1 8 Try.underlying22 hi hz0 hz1 hz2 rfl (by omega) v bs.length (S.v8l bs) hown.1 ad xs.length c (S.v8l xs) (by rw [S.v8l_length]; omega) hc (S.v8l_one _) (by simp only [maxLen]; omega) (by omega) hbase
    have hown' := hown
    obtain ⟨h1, g, cap, rfl⟩ := hown'
    refine ⟨v', w', hr, ⟨by rw [v8l_append, List.length_append]; exact ho, ?_⟩, (Below.refl _ _).grown hg hbase (fun k hk => (h1.lt k hk).1)⟩
    rcases ho.2 with ⟨h2, _⟩ | ⟨g', cap', cur, h2, _⟩
    · have := (hiff.1 h2).1
      simp at this
    · exact ⟨g', cap', by rw [List.length_append]; exact h2⟩
  rcases hu with ⟨rfl, rfl⟩ | ⟨a, cap, rfl, _, rfl⟩ | ⟨b, off, cap, rfl, h1, h2, h3, h4⟩
  · exact ⟨v, w, run_append_owned_none (P := Try.prog) (w := w) base 22 ty 3 i 1 Try.underlying22 hi v bs.length (S.v8l bs) hown.1, by rw [List.append_nil]; exact hown, Below.refl _ _⟩
  · exact key a cap (fun j x h => by simp [S.v8l] at h) rfl
  · refine key ⟨b, off, none⟩ cap (fun j x h => ?_) rfl
    obtain ⟨rfl, hj⟩ := S.v8l_at xs j x h
    rw [Addr.add_lit]
    exact h4 j hj
/-- The walk's step at an append whose run is known to answer some v' in some w'. -/
theorem wpList_append_some {w : World} {ops : Array Oper} {rest : List Oper} {o : Oper} {a : Act} {Q : Exit → Act → World → Prop} (hgd : o.guard = none) (s x : Operand) (t tn : TypeId)
    (ho : o.op = .call { callee := .builtin .append, args := #[s, x], argTypes := #[t, tn] }) (vs vx : Value) (hs : a.eval s = vs) (hx : a.eval x = vx) {R : Value → World → Prop}
    (hr : ∃ v' w', (Builtin.append_ #[t, tn] o.type #[vs, vx]).run Try.prog w = .ok v' w' ∧ R v' w')
    (h : ∀ v' w', R v' w' → wpList Try.prog ops Q rest (a.put o.dst v') w') : wpList Try.prog ops Q (o :: rest) a w := by
  obtain ⟨v', w', hr, hR⟩ := hr
  exact wpList_plain hgd fun _ hK => Lib.wp_append_run w s x t tn ho vs vx hs hx v' w' hr (hK _ _ (h v' w' hR))
theorem make_bytes_big (r : Nat) (hr : r ≤ 100000) (w : World) : (Instr.makeSlice 22 (.int .i64 (r : Int)) (.int .i64 (r : Int))).run Try.prog w = .ok (.slice (some ⟨w.heap.size, 0, none⟩) r r) (w.alloc (.cells (S.v8 (S.zeros r)) 3)) := by
  obtain ⟨i, hi, hz0, hz1, hz2⟩ := info_parts info5
  have h := run_make (P := Try.prog) w 22 3 i (.int .i64 0) Try.underlying22 hi hz0 .i64 .i64 (r : Int) (r : Int) (by omega) (Int.le_refl _) (by rw [hz2]; omega) (by omega)
  rw [h, hz1]
  have e : madeCells (Value.int .i64 0).cells (((r : Int)).toNat * 1) = S.v8 (S.zeros r) := by
    apply Array.ext'
    simp [madeCells, S.v8, S.zeros, Value.cells]
    apply List.ext_getElem
    · simp
    · intro j h1 h2
      simp [Nat.mod_one]
  rw [e]
  rfl
end Go.Proofs.Ytldkkgdkjddohaa
