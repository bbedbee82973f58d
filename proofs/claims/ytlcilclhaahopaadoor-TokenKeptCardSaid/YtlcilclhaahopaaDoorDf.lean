/- What is encoded is decoded: plain. -/
import Derived.Test.YtlcilclhaahopaaDoorTn
namespace Go.Proofs.YtlcilclhaahopaaDoor
open Go.RowKit

namespace S
theorem size1 : size 1 = 1 := by decide
theorem size4 : size 4 = 4 := by decide
theorem odd_kind {c : Cv} (h : odd c = false) : c.k = 1 ∨ c.k = 2 ∨ c.k = 3 := by
  simp only [odd, Bool.not_eq_false', Bool.or_eq_true, decide_eq_true_eq] at h
  omega
theorem kind_num {c : Cv} (h : odd c = false) : ((val (num (u64 c.k) 1) : Nat) : Int) = c.k := by
  rw [val_num]
  rcases odd_kind h with e | e | e <;> rw [e] <;> decide
theorem oddk_eq (c : Cv) : oddk c.k = odd c := rfl
theorem readCav_app (A C : List UInt8) (ba : Int) (c : Cv) (ho : odd c = false) (hn : c.n < 4294967296) : readCav ⟨A ++ (cb c ++ C), A.length, ba, 0⟩ = (⟨A ++ (cb c ++ C), A.length + 5, ba, 0⟩, c) := by
  have e0 : A ++ (cb c ++ C) = A ++ (num (u64 c.k) 1 ++ (num c.n 4 ++ C)) := by rw [cb, List.append_assoc]
  have e1 := Rd.number_app A (num (u64 c.k) 1) (num c.n 4 ++ C) ba 1 (by rw [num_length, size1])
  have e2 := Rd.number_app (A ++ num (u64 c.k) 1) (num c.n 4) C ba 4 (by rw [num_length, size4])
  rw [List.length_append, num_length, num_length, List.append_assoc] at e2
  rw [num_length] at e1
  rw [e0]
  have ek : kindRd ⟨A ++ (num (u64 c.k) 1 ++ (num c.n 4 ++ C)), A.length, ba, 0⟩ = ⟨A ++ (num (u64 c.k) 1 ++ (num c.n 4 ++ C)), A.length + 1, ba, 0⟩ := by
    unfold kindRd
    rw [e1]
    simp only
    rw [kind_num ho, oddk_eq, ho]
    rfl
  unfold readCav
  rw [ek, e2, e1]
  simp only
  rw [kind_num ho, val_num, Nat.mod_eq_of_lt (by omega)]
theorem readMany_app (cs : List Cv) (A C : List UInt8) (ba : Int) (h : ∀ c ∈ cs, odd c = false ∧ c.n < 4294967296) (n : Nat) (hn : n ≤ cs.length) :
    readMany n ⟨A ++ (cs.flatMap cb ++ C), A.length, ba, 0⟩ = (⟨A ++ (cs.flatMap cb ++ C), A.length + n * 5, ba, 0⟩, cs.take n) := by
  induction n with
  | zero => simp [readMany]
  | succ n ih =>
    have hlt : n < cs.length := by omega
    have hc := h cs[n] (List.getElem_mem hlt)
    have e0 : cs.flatMap cb = (cs.take n).flatMap cb ++ (cb cs[n] ++ (cs.drop (n + 1)).flatMap cb) := by
      have e := List.take_append_drop n cs
      rw [List.drop_eq_getElem_cons hlt] at e
      conv => lhs; rw [← e]
      rw [List.flatMap_append, List.flatMap_cons]
    have e1 : A ++ (cs.flatMap cb ++ C) = (A ++ (cs.take n).flatMap cb) ++ (cb cs[n] ++ ((cs.drop (n + 1)).flatMap cb ++ C)) := by rw [e0]; simp only [List.append_assoc]
    have e2 : (A ++ (cs.take n).flatMap cb).length = A.length + n * 5 := by rw [List.length_append, flat_cb_length, List.length_take]; omega
    have e3 := readCav_app (A ++ (cs.take n).flatMap cb) ((cs.drop (n + 1)).flatMap cb ++ C) ba cs[n] hc.1 hc.2
    rw [← e1, e2] at e3
    simp only [readMany]
    rw [ih (by omega), e3, List.take_succ_eq_append_getElem hlt]
    simp only [Prod.mk.injEq, Rd.mk.injEq, true_and, and_true]
    omega
theorem encode_zero {t : Tk} (h : (encode t).2 = 0) : t.cs.length ≤ 4 ∧ (∀ c ∈ t.cs, odd c = false) ∧ encode t = (bytesOf t, 0) := by
  unfold encode at h ⊢
  by_cases h1 : 4 < t.cs.length
  · rw [if_pos h1] at h; cases h
  · rw [if_neg h1] at h ⊢
    by_cases h2 : t.cs.any odd = true
    · rw [if_pos h2] at h; cases h
    · rw [if_neg h2]
      refine ⟨by omega, fun c hc => ?_, rfl⟩
      cases ho : odd c
      · rfl
      · exact absurd (List.any_eq_true.2 ⟨c, hc, ho⟩) h2
/-- What is encoded is decoded. -/
theorem decode_encode (t : Tk) (ht : t.Ok) (h : (encode t).2 = 0) : decode (encode t).1 = (t, (0, 0)) := by
  obtain ⟨hl, ho, he⟩ := encode_zero h
  rw [he]
  simp only [bytesOf]
  have hid := ht.id2
  have e1 := Rd.number_app [] (num t.id 4) (num t.cs.length 1 ++ (t.cs.flatMap cb ++ t.tag)) 0 4 (by rw [num_length, size4])
  have e2 := Rd.number_app (num t.id 4) (num t.cs.length 1) (t.cs.flatMap cb ++ t.tag) 0 1 (by rw [num_length, size1])
  have e3 := readMany_app t.cs (num t.id 4 ++ num t.cs.length 1) t.tag 0 (fun c hc => ⟨ho c hc, (ht.cs c hc).n2⟩) t.cs.length (Nat.le_refl _)
  have e4 := Rd.digest_app (num t.id 4 ++ num t.cs.length 1 ++ t.cs.flatMap cb) t.tag [] 0 ht.tl
  rw [List.nil_append, List.length_nil, Nat.zero_add, num_length, val_num, Nat.mod_eq_of_lt (by omega)] at e1
  rw [num_length, num_length, val_num, Nat.mod_eq_of_lt (by omega)] at e2
  rw [List.take_length, List.length_append, num_length, num_length, List.append_assoc] at e3
  rw [List.append_nil, List.length_append, List.length_append, num_length, num_length, flat_cb_length] at e4
  have eb : num t.id 4 ++ num t.cs.length 1 ++ t.cs.flatMap cb ++ t.tag = num t.id 4 ++ (num t.cs.length 1 ++ (t.cs.flatMap cb ++ t.tag)) := by simp only [List.append_assoc]
  rw [eb] at e4 ⊢
  have er : readTok ⟨num t.id 4 ++ (num t.cs.length 1 ++ (t.cs.flatMap cb ++ t.tag)), 0, 0, 0⟩ = (⟨num t.id 4 ++ (num t.cs.length 1 ++ (t.cs.flatMap cb ++ t.tag)), 4 + 1 + t.cs.length * 5 + 32, 0, 0⟩, t) := by
    unfold readTok readCavs
    rw [e1]
    simp only
    rw [e2]
    simp only
    rw [if_neg (by omega), e3]
    simp only
    rw [e4]
  have ef : (Rd.mk (num t.id 4 ++ (num t.cs.length 1 ++ (t.cs.flatMap cb ++ t.tag))) (4 + 1 + t.cs.length * 5 + 32) 0 0).fin = (0, 0) := by
    unfold Rd.fin
    simp only [List.length_append, num_length, flat_cb_length, ht.tl, if_true]
    rw [if_neg (by omega)]
  unfold decode
  rw [er, ef]
  simp
end S
end Go.Proofs.YtlcilclhaahopaaDoor
