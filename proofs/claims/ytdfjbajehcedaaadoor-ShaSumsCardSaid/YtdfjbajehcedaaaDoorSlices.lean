/- A part of a []byte that lies in memory: the slice operation answers a []byte that reads as that part, and changes nothing. -/
import Derived.Test.YtdfjbajehcedaaaDoorPieces
namespace Go.Proofs.YtdfjbajehcedaaaDoor
open Go.RowKit
theorem part_at {w0 : World} {b off cap : Nat} {bs : List UInt8} (h1 : bs.length ≤ cap) (h2 : bs.length ≤ 140737488355328) (h3 : b < w0.heap.size) (h4 : ∀ j, j < bs.length → w0.cell? ⟨b, off + j, none⟩ = some (.int .u8 ((bs.getD j 0).toNat : Int))) (i k : Nat) (hik : i ≤ k) (hk : k ≤ bs.length) :
    SliceAt w0 (.slice (if cap = i then some ⟨b, off, none⟩ else some ⟨b, off + i, none⟩) (k - i) (cap - i)) ((bs.take k).drop i) := by
  have hl : ((bs.take k).drop i).length = k - i := by rw [List.length_drop, List.length_take]; omega
  by_cases hc : cap = i
  · rw [if_pos hc]
    obtain rfl : i = k := by omega
    refine Or.inr (Or.inl ⟨_, cap - i, by rw [Nat.sub_self], Nat.zero_le _, ?_⟩)
    exact List.eq_nil_of_length_eq_zero (by omega)
  · rw [if_neg hc]
    refine Or.inr (Or.inr ⟨b, off + i, cap - i, by rw [hl], by omega, by omega, h3, fun j hj => ?_⟩)
    have e : ((bs.take k).drop i).getD j 0 = bs.getD (i + j) 0 := by
      rw [List.getD_eq_getElem?_getD, List.getD_eq_getElem?_getD, List.getElem?_drop, List.getElem?_take, if_pos (by omega)]
    rw [e, ← h4 (i + j) (by omega), Nat.add_assoc]
theorem slice_mid {w0 : World} {v : Value} {bs : List UInt8} (hv : SliceAt w0 v bs) (i k : Nat) (hik : i ≤ k) (hk : k ≤ bs.length) :
    ∃ x, (∀ w, (Instr.slice 26 v (some (.int .i64 (i : Int))) (some (.int .i64 (k : Int))) none).run Tryd.prog w = .ok x w) ∧ SliceAt w0 x ((bs.take k).drop i) := by
  have q1 : (0 : Int) ≤ (i : Int) := by omega
  have q2 : (i : Int) ≤ (k : Int) := by omega
  rcases hv with ⟨rfl, rfl⟩ | ⟨a, cap, rfl, _, rfl⟩ | ⟨b, off, cap, rfl, h1, h2, h3, h4⟩
  · obtain rfl : k = 0 := by simpa using hk
    obtain rfl : i = 0 := by omega
    refine ⟨.slice none 0 0, fun w => ?_, Or.inl ⟨rfl, by simp⟩⟩
    go_simp
  · obtain rfl : k = 0 := by simpa using hk
    obtain rfl : i = 0 := by omega
    obtain ⟨bl, of, inn⟩ := a
    have q3 : (0 : Int) ≤ (cap : Int) := by omega
    refine ⟨.slice (if cap = 0 then some ⟨bl, of, inn⟩ else some ((⟨bl, of, inn⟩ : Addr).add 0)) 0 cap, fun w => ?_, ?_⟩
    · go_simp
    · by_cases hc : cap = 0
      · rw [if_pos hc]; exact Or.inr (Or.inl ⟨_, _, rfl, Nat.zero_le _, by simp⟩)
      · rw [if_neg hc]; exact Or.inr (Or.inl ⟨_, _, rfl, Nat.zero_le _, by simp⟩)
  · have q3 : (k : Int) ≤ (cap : Int) := by omega
    refine ⟨_, fun w => ?_, part_at h1 h2 h3 h4 i k hik hk⟩
    go_simp
theorem slice_to {w0 : World} {v : Value} {bs : List UInt8} (hv : SliceAt w0 v bs) (k : Nat) (hk : k ≤ bs.length) :
    ∃ x, (∀ w, (Instr.slice 26 v none (some (.int .i64 (k : Int))) none).run Tryd.prog w = .ok x w) ∧ SliceAt w0 x (bs.take k) := by
  have q1 : (0 : Int) ≤ (k : Int) := by omega
  rcases hv with ⟨rfl, rfl⟩ | ⟨a, cap, rfl, _, rfl⟩ | ⟨b, off, cap, rfl, h1, h2, h3, h4⟩
  · obtain rfl : k = 0 := by simpa using hk
    refine ⟨.slice none 0 0, fun w => ?_, Or.inl ⟨rfl, by simp⟩⟩
    go_simp
  · obtain rfl : k = 0 := by simpa using hk
    obtain ⟨bl, of, inn⟩ := a
    have q3 : (0 : Int) ≤ (cap : Int) := by omega
    refine ⟨.slice (if cap = 0 then some ⟨bl, of, inn⟩ else some ((⟨bl, of, inn⟩ : Addr).add 0)) 0 cap, fun w => ?_, ?_⟩
    · go_simp
    · by_cases hc : cap = 0
      · rw [if_pos hc]; exact Or.inr (Or.inl ⟨_, _, rfl, Nat.zero_le _, by simp⟩)
      · rw [if_neg hc]; exact Or.inr (Or.inl ⟨_, _, rfl, Nat.zero_le _, by simp⟩)
  · have q3 : (k : Int) ≤ (cap : Int) := by omega
    have hp := part_at h1 h2 h3 h4 0 k (by omega) hk
    rw [List.drop_zero] at hp
    refine ⟨_, fun w => ?_, hp⟩
    go_simp
theorem slice_from {w0 : World} {v : Value} {bs : List UInt8} (hv : SliceAt w0 v bs) (i : Nat) (hi : i ≤ bs.length) :
    ∃ x, (∀ w, (Instr.slice 26 v (some (.int .i64 (i : Int))) none none).run Tryd.prog w = .ok x w) ∧ SliceAt w0 x (bs.drop i) := by
  have q1 : (0 : Int) ≤ (i : Int) := by omega
  rcases hv with ⟨rfl, rfl⟩ | ⟨a, cap, rfl, _, rfl⟩ | ⟨b, off, cap, rfl, h1, h2, h3, h4⟩
  · obtain rfl : i = 0 := by simpa using hi
    refine ⟨.slice none 0 0, fun w => ?_, Or.inl ⟨rfl, by simp⟩⟩
    go_simp
  · obtain rfl : i = 0 := by simpa using hi
    obtain ⟨bl, of, inn⟩ := a
    have q3 : (0 : Int) ≤ (cap : Int) := by omega
    refine ⟨.slice (if cap = 0 then some ⟨bl, of, inn⟩ else some ((⟨bl, of, inn⟩ : Addr).add 0)) 0 cap, fun w => ?_, ?_⟩
    · go_simp
    · by_cases hc : cap = 0
      · rw [if_pos hc]; exact Or.inr (Or.inl ⟨_, _, rfl, Nat.zero_le _, by simp⟩)
      · rw [if_neg hc]; exact Or.inr (Or.inl ⟨_, _, rfl, Nat.zero_le _, by simp⟩)
  · have q3 : (i : Int) ≤ (bs.length : Int) := by omega
    have q4 : (bs.length : Int) ≤ (cap : Int) := by omega
    have q5 : (i : Int) ≤ (cap : Int) := by omega
    have hp := part_at h1 h2 h3 h4 i bs.length hi (Nat.le_refl _)
    rw [List.take_length] at hp
    refine ⟨_, fun w => ?_, hp⟩
    go_simp
theorem SliceAt.le_cap {w : World} {ao : Option Addr} {len cap : Nat} {bs : List UInt8} (h : SliceAt w (.slice ao len cap) bs) : len ≤ cap := by
  rcases h with ⟨h, _⟩ | ⟨a, c, h, _, _⟩ | ⟨b, off, c, h, h1, _⟩
  · simp only [Value.slice.injEq] at h; omega
  · simp only [Value.slice.injEq] at h; omega
  · simp only [Value.slice.injEq] at h; omega
/-- The value that the slice operation answers, as the walk writes it. -/
theorem part_form {w : World} {ao : Option Addr} {len cap : Nat} {bs : List UInt8} (h : SliceAt w (.slice ao len cap) bs) (i k : Nat) (hik : i ≤ k) (hk : k ≤ len) :
    SliceAt w (.slice (if cap = i then ao else Option.map (fun x => x.add i) ao) (k - i) (cap - i)) ((bs.take k).drop i) := by
  rcases h with ⟨h, rfl⟩ | ⟨a, c, h, _, rfl⟩ | ⟨b, off, c, h, h1, h2, h3, h4⟩
  · simp only [Value.slice.injEq] at h
    obtain ⟨rfl, rfl, rfl⟩ := h
    obtain rfl : k = 0 := by omega
    obtain rfl : i = 0 := by omega
    exact Or.inl ⟨by simp, by simp⟩
  · simp only [Value.slice.injEq] at h
    obtain ⟨rfl, rfl, rfl⟩ := h
    obtain rfl : k = 0 := by omega
    obtain rfl : i = 0 := by omega
    by_cases hc : cap = 0
    · rw [if_pos hc]; exact Or.inr (Or.inl ⟨_, _, rfl, Nat.zero_le _, by simp⟩)
    · rw [if_neg hc]; exact Or.inr (Or.inl ⟨_, _, rfl, Nat.zero_le _, by simp⟩)
  · simp only [Value.slice.injEq] at h
    obtain ⟨rfl, rfl, rfl⟩ := h
    have hp := part_at h1 h2 h3 h4 i k hik hk
    rw [Option.map_some, Addr.add_lit]
    exact hp
theorem part_to {w : World} {ao : Option Addr} {len cap : Nat} {bs : List UInt8} (h : SliceAt w (.slice ao len cap) bs) (k : Nat) (hk : k ≤ len) : SliceAt w (.slice ao k cap) (bs.take k) := by
  have hp := part_form h 0 k (Nat.zero_le _) hk
  rw [List.drop_zero, Nat.sub_zero, Nat.sub_zero] at hp
  have e : (if cap = 0 then ao else Option.map (fun x => x.add 0) ao) = ao := by
    split
    · rfl
    · cases ao with
      | none => rfl
      | some a => rw [Option.map_some, Addr.add_zero']
  rw [e] at hp
  exact hp
theorem part_from {w : World} {ao : Option Addr} {len cap : Nat} {bs : List UInt8} (h : SliceAt w (.slice ao len cap) bs) (hl : len = bs.length) (i : Nat) (hi : i ≤ len) :
    SliceAt w (.slice (if cap = i then ao else Option.map (fun x => x.add i) ao) (len - i) (cap - i)) (bs.drop i) := by
  have hp := part_form h i len hi (Nat.le_refl _)
  rw [hl, List.take_length, ← hl] at hp
  exact hp
end Go.Proofs.YtdfjbajehcedaaaDoor
