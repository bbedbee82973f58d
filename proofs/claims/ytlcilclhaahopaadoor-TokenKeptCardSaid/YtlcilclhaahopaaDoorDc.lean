/- What is encoded is decoded, and what was decoded is encoded: plain. -/
import Derived.Test.YtlcilclhaahopaaDoorDa
namespace Go.Proofs.YtlcilclhaahopaaDoor
open Go.RowKit

namespace S
theorem size1 : size 1 = 1 := by decide
theorem size4 : size 4 = 4 := by decide
theorem num_more (n a m : Nat) : num (n + a * 256 ^ m) m = num n m := by
  induction m generalizing a with
  | zero => rfl
  | succ m ih =>
    have e : n + a * 256 ^ (m + 1) = n + (a * 256) * 256 ^ m := by rw [Nat.pow_succ, Nat.mul_assoc, Nat.mul_comm 256]
    simp only [num]
    rw [e, ih (a * 256), Nat.add_mul_div_right _ _ (Nat.pow_pos (by decide))]
    congr 1
    apply UInt8.toNat_inj.1
    simp only [UInt8.toNat_ofNat']
    omega
theorem num_val (xs : List UInt8) : num (val xs) xs.length = xs := by
  induction xs with
  | nil => rfl
  | cons x l ih =>
    rw [val_cons, List.length_cons]
    have hv := val_lt l
    have hp : 0 < 256 ^ l.length := Nat.pow_pos (by decide)
    simp only [num]
    rw [Nat.add_comm, num_more, ih, Nat.add_mul_div_right _ _ hp, Nat.div_eq_of_lt hv, Nat.zero_add]
    simp
theorem odd_kind {c : Cv} (h : odd c = false) : c.k = 1 ∨ c.k = 2 ∨ c.k = 3 := by
  simp only [odd, Bool.not_eq_false', Bool.or_eq_true, decide_eq_true_eq] at h
  omega
theorem kind_num {c : Cv} (h : odd c = false) : ((val (num (u64 c.k) 1) : Nat) : Int) = c.k := by
  rw [val_num]
  rcases odd_kind h with e | e | e <;> rw [e] <;> decide
theorem oddk_eq (c : Cv) : oddk c.k = odd c := rfl
theorem readCav_app (A C : List UInt8) (ba : Int) (c : Cv) (ho : odd c = false) (hn : c.n < 4294967296) : readCav ⟨A ++ (cb c ++ C), A.length, ba, 0⟩ = (⟨A ++ (cb c ++ C), A.length + 5, ba, 0⟩, c) := by
  have e0 : A ++ (cb c ++ C) = A ++ (num (u64 c.k) 1 ++ (num c.n 4 ++ C)) := by rw [cb, List.append_assoc]
  have e1 := Rd.number_app A (num (u64 c.k) 1) (num c.n 4 ++ C) ba 1 (by rw [num_length, size1])
  have e2 := Rd.number_app (A ++ num (u64 c.k) 1) (num c.n 4) C ba 4 (by rw [num_length, size4])
  rw [List.length_append, num_length, num_length, List.append_assoc] at e2
  rw [num_length] at e1
  rw [e0]
  have ek : kindRd ⟨A ++ (num (u64 c.k) 1 ++ (num c.n 4 ++ C)), A.length, ba, 0⟩ = ⟨A ++ (num (u64 c.k) 1 ++ (num c.n 4 ++ C)), A.length + 1, ba, 0⟩ := by
    unfold kindRd
    rw [e1]
    simp only
    rw [kind_num ho, oddk_eq, ho]
    rfl
  unfold readCav
  rw [ek, e2, e1]
  simp only
  rw [kind_num ho, val_num, Nat.mod_eq_of_lt (by omega)]
theorem readMany_app (cs : List Cv) (A C : List UInt8) (ba : Int) (h : ∀ c ∈ cs, odd c = false ∧ c.n < 4294967296) (n : Nat) (hn : n ≤ cs.length) :
    readMany n ⟨A ++ (cs.flatMap cb ++ C), A.length, ba, 0⟩ = (⟨A ++ (cs.flatMap cb ++ C), A.length + n * 5, ba, 0⟩, cs.take n) := by
  induction n with
  | zero => simp [readMany]
  | succ n ih =>
    have hlt : n < cs.length := by omega
    have hc := h cs[n] (List.getElem_mem hlt)
    have e0 : cs.flatMap cb = (cs.take n).flatMap cb ++ (cb cs[n] ++ (cs.drop (n + 1)).flatMap cb) := by
      have e := List.take_append_drop n cs
      rw [List.drop_eq_getElem_cons hlt] at e
      conv => lhs; rw [← e]
      rw [List.flatMap_append, List.flatMap_cons]
    have e1 : A ++ (cs.flatMap cb ++ C) = (A ++ (cs.take n).flatMap cb) ++ (cb cs[n] ++ ((cs.drop (n + 1)).flatMap cb ++ C)) := by rw [e0]; simp only [List.append_assoc]
    have e2 : (A ++ (cs.take n).flatMap cb).length = A.length + n * 5 := by rw [List.length_append, flat_cb_length, List.length_take]; omega
    have e3 := readCav_app (A ++ (cs.take n).flatMap cb) ((cs.drop (n + 1)).flatMap cb ++ C) ba cs[n] hc.1 hc.2
    rw [← e1, e2] at e3
    simp only [readMany]
    rw [ih (by omega), e3, List.take_succ_eq_append_getElem hlt]
    simp only [Prod.mk.injEq, Rd.mk.injEq, true_and, and_true]
    omega
theorem encode_zero {t : Tk} (h : (encode t).2 = 0) : t.cs.length ≤ 4 ∧ (∀ c ∈ t.cs, odd c = false) ∧ encode t = (bytesOf t, 0) := by
  unfold encode at h ⊢
  by_cases h1 : 4 < t.cs.length
  · rw [if_pos h1] at h; cases h
  · rw [if_neg h1] at h ⊢
    by_cases h2 : t.cs.any odd = true
    · rw [if_pos h2] at h; cases h
    · rw [if_neg h2]
      refine ⟨by omega, fun c hc => ?_, rfl⟩
      cases ho : odd c
      · rfl
      · exact absurd (List.any_eq_true.2 ⟨c, hc, ho⟩) h2
/-- What is encoded is decoded. -/
theorem decode_encode (t : Tk) (ht : t.Ok) (h : (encode t).2 = 0) : decode (encode t).1 = (t, (0, 0)) := by
  obtain ⟨hl, ho, he⟩ := encode_zero h
  rw [he]
  simp only [bytesOf]
  have hid := ht.id2
  have e1 := Rd.number_app [] (num t.id 4) (num t.cs.length 1 ++ (t.cs.flatMap cb ++ t.tag)) 0 4 (by rw [num_length, size4])
  have e2 := Rd.number_app (num t.id 4) (num t.cs.length 1) (t.cs.flatMap cb ++ t.tag) 0 1 (by rw [num_length, size1])
  have e3 := readMany_app t.cs (num t.id 4 ++ num t.cs.length 1) t.tag 0 (fun c hc => ⟨ho c hc, (ht.cs c hc).n2⟩) t.cs.length (Nat.le_refl _)
  have e4 := Rd.digest_app (num t.id 4 ++ num t.cs.length 1 ++ t.cs.flatMap cb) t.tag [] 0 ht.tl
  rw [List.nil_append, List.length_nil, Nat.zero_add, num_length, val_num, Nat.mod_eq_of_lt (by omega)] at e1
  rw [num_length, num_length, val_num, Nat.mod_eq_of_lt (by omega)] at e2
  rw [List.take_length, List.length_append, num_length, num_length, List.append_assoc] at e3
  rw [List.append_nil, List.length_append, List.length_append, num_length, num_length, flat_cb_length] at e4
  have eb : num t.id 4 ++ num t.cs.length 1 ++ t.cs.flatMap cb ++ t.tag = num t.id 4 ++ (num t.cs.length 1 ++ (t.cs.flatMap cb ++ t.tag)) := by simp only [List.append_assoc]
  rw [eb] at e4 ⊢
  have er : readTok ⟨num t.id 4 ++ (num t.cs.length 1 ++ (t.cs.flatMap cb ++ t.tag)), 0, 0, 0⟩ = (⟨num t.id 4 ++ (num t.cs.length 1 ++ (t.cs.flatMap cb ++ t.tag)), 4 + 1 + t.cs.length * 5 + 32, 0, 0⟩, t) := by
    unfold readTok readCavs
    rw [e1]
    simp only
    rw [e2]
    simp only
    rw [if_neg (by omega), e3]
    simp only
    rw [e4]
  have ef : (Rd.mk (num t.id 4 ++ (num t.cs.length 1 ++ (t.cs.flatMap cb ++ t.tag))) (4 + 1 + t.cs.length * 5 + 32) 0 0).fin = (0, 0) := by
    unfold Rd.fin
    simp only [List.length_append, num_length, flat_cb_length, ht.tl, if_true]
    rw [if_neg (by omega)]
  unfold decode
  rw [er, ef]
  simp

theorem Rd.take_got (r : Rd) (n : Nat) (h : (r.take n).1.why = 0) : r.why = 0 ∧ (r.take n).1 = { r with pl := r.pl + n } ∧ (r.take n).2.length = n ∧ r.pl + n ≤ r.bs.length ∧ r.bs.take (r.pl + n) = r.bs.take r.pl ++ (r.take n).2 := by
  by_cases h0 : r.why = 0
  · by_cases h1 : r.pl + n ≤ r.bs.length
    · have e : r.take n = ({ r with pl := r.pl + n }, (r.bs.drop r.pl).take n) := by unfold Rd.take; rw [if_pos h0, if_pos h1]
      rw [e]
      refine ⟨h0, rfl, ?_, h1, List.take_add⟩
      rw [List.length_take, List.length_drop]
      omega
    · have e : r.take n = ({ r with ba := r.bs.length, why := 10 }, []) := by unfold Rd.take; rw [if_pos h0, if_neg h1]
      rw [e] at h
      cases h
  · rw [Rd.take_bad r n h0] at h
    exact absurd h h0
theorem Rd.number_got (r : Rd) (k : Int) (h : (r.number k).1.why = 0) : r.why = 0 ∧ (r.number k).1 = { r with pl := r.pl + size k } ∧ r.pl + size k ≤ r.bs.length ∧ r.bs.take (r.pl + size k) = r.bs.take r.pl ++ num (r.number k).2 (size k) := by
  obtain ⟨h1, h2, h3, h4, h5⟩ := r.take_got (size k) h
  refine ⟨h1, h2, h4, ?_⟩
  rw [h5]
  show _ = _ ++ num (val (r.take (size k)).2) (size k)
  have e := num_val (r.take (size k)).2
  rw [h3] at e
  rw [e]
theorem Rd.digest_got (r : Rd) (h : r.digest.1.why = 0) : r.why = 0 ∧ r.digest.1 = { r with pl := r.pl + 32 } ∧ r.bs.take (r.pl + 32) = r.bs.take r.pl ++ r.digest.2 := by
  obtain ⟨h1, h2, h3, _, h5⟩ := r.take_got 32 h
  refine ⟨h1, h2, ?_⟩
  rw [h5]
  show _ = _ ++ splice (zeros 32) 0 (r.take 32).2
  rw [splice_front, h3]
  simp [zeros]
theorem readCav_got (r : Rd) (h : (readCav r).1.why = 0) : r.why = 0 ∧ (readCav r).1 = { r with pl := r.pl + 5 } ∧ odd (readCav r).2 = false ∧ r.bs.take (r.pl + 5) = r.bs.take r.pl ++ cb (readCav r).2 := by
  have hk0 : ((kindRd r).number 4).1.why = 0 := h
  obtain ⟨k1, k2, _, k4⟩ := (kindRd r).number_got 4 hk0
  have ho : oddk ((r.number 1).2 : Int) = false := by
    cases e : oddk ((r.number 1).2 : Int)
    · rfl
    · unfold kindRd at k1
      rw [if_pos e] at k1
      exact absurd k1 (Rd.refuse_why _ _ _ (by decide))
  have ek : kindRd r = (r.number 1).1 := by unfold kindRd; rw [if_neg (by rw [ho]; decide)]
  rw [ek] at k1 k2 k4
  obtain ⟨n1, n2, _, n4⟩ := r.number_got 1 k1
  rw [size1] at n2 n4
  rw [size4] at k2 k4
  rw [n2] at k2 k4
  have hlt := number1_lt r
  refine ⟨n1, ?_, ?_, ?_⟩
  · show ((kindRd r).number 4).1 = _
    rw [ek, n2, k2]
  · rw [readCav_eq]
    exact ho
  · simp only at k4
    rw [show r.pl + 1 + 4 = r.pl + 5 by omega] at k4
    rw [k4, n4, readCav_eq, cb]
    simp only
    rw [ek, n2, List.append_assoc]
    congr 2
    unfold u64
    congr 1
    omega
theorem readMany_got (n : Nat) (r : Rd) (h : (readMany n r).1.why = 0) : r.why = 0 ∧ (readMany n r).1 = { r with pl := r.pl + n * 5 } ∧ (∀ c ∈ (readMany n r).2, odd c = false) ∧ r.bs.take (r.pl + n * 5) = r.bs.take r.pl ++ (readMany n r).2.flatMap cb := by
  induction n with
  | zero => exact ⟨h, rfl, (fun c hc => (by cases hc)), (by simp [readMany])⟩
  | succ n ih =>
    obtain ⟨c1, c2, c3, c4⟩ := readCav_got (readMany n r).1 h
    obtain ⟨i1, i2, i3, i4⟩ := ih c1
    rw [i2] at c2 c4
    refine ⟨i1, ?_, ?_, ?_⟩
    · show (readCav (readMany n r).1).1 = _
      rw [i2, c2]
      simp only [Rd.mk.injEq, true_and, and_true]
      omega
    · intro c hc
      have hc' : c ∈ (readMany n r).2 ++ [(readCav (readMany n r).1).2] := hc
      rcases List.mem_append.1 hc' with hc' | hc'
      · exact i3 c hc'
      · rw [List.mem_singleton.1 hc']; exact c3
    · show _ = _ ++ ((readMany n r).2 ++ [(readCav (readMany n r).1).2]).flatMap cb
      rw [List.flatMap_append, ← List.append_assoc, ← i4]
      simp only at c4
      rw [show r.pl + (n + 1) * 5 = r.pl + n * 5 + 5 by omega, c4]
      simp [i2]
/-- What was decoded is encoded. -/
theorem encode_decode (bs : List UInt8) (h : (decode bs).2.2 = 0) : encode (decode bs).1 = (bs, 0) := by
  unfold decode at h ⊢
  by_cases hf : (readTok ⟨bs, 0, 0, 0⟩).1.fin.2 = 0
  · rw [if_pos hf]
    obtain ⟨R, hR⟩ : ∃ R, R = (readTok ⟨bs, 0, 0, 0⟩).1 := ⟨_, rfl⟩
    rw [← hR] at hf
    have hw : R.why = 0 ∧ R.bs.length ≤ R.pl := by
      unfold Rd.fin at hf
      by_cases h0 : R.why = 0
      · rw [if_pos h0] at hf
        by_cases h1 : R.pl < R.bs.length
        · rw [if_pos h1] at hf; cases hf
        · exact ⟨h0, by omega⟩
      · rw [if_neg h0] at hf
        exact absurd hf h0
    have hR' : R = (readCavs ((⟨bs, 0, 0, 0⟩ : Rd).number 4).1).1.digest.1 := hR
    obtain ⟨d1, d2, d3⟩ := Rd.digest_got (readCavs ((⟨bs, 0, 0, 0⟩ : Rd).number 4).1).1 (by rw [← hR']; exact hw.1)
    obtain ⟨r1, hr1⟩ : ∃ r1, r1 = ((⟨bs, 0, 0, 0⟩ : Rd).number 4).1 := ⟨_, rfl⟩
    rw [← hr1] at d1 d2 d3 hR'
    have hn4 : ¬ 4 < (r1.number 1).2 := by
      intro h4
      unfold readCavs at d1
      rw [if_pos h4] at d1
      exact absurd d1 (Rd.refuse_why _ _ _ (by decide))
    have ec : readCavs r1 = readMany (r1.number 1).2 (r1.number 1).1 := by unfold readCavs; rw [if_neg hn4]
    rw [ec] at d1 d2 d3
    obtain ⟨m1, m2, m3, m4⟩ := readMany_got _ _ d1
    obtain ⟨n1, n2, _, n4⟩ := r1.number_got 1 m1
    rw [hr1] at n1
    obtain ⟨_, p2, _, p4⟩ := (⟨bs, 0, 0, 0⟩ : Rd).number_got 4 n1
    rw [size4] at p2 p4
    rw [size1] at n2 n4
    simp only [Nat.zero_add] at p2 p4
    rw [← hr1] at p2
    have hb1 : r1.bs = bs := by rw [p2]
    have hp1 : r1.pl = 4 := by rw [p2]
    rw [n2] at m2 m4
    simp only [hb1, hp1] at n4 m2 m4
    obtain ⟨n, hn⟩ : ∃ n, n = (r1.number 1).2 := ⟨_, rfl⟩
    have hlen := readMany_length n (r1.number 1).1
    rw [← hn] at m2 m3 m4 n4 d2 d3 hn4 ec
    have ek : (readMany n (r1.number 1).1).1 = ⟨bs, 4 + 1 + n * 5, r1.ba, r1.why⟩ := by
      rw [n2] at d1 ⊢
      rw [n2] at m3
      simp only [hb1, hp1]
      simpa [hb1, hp1] using m2
    rw [ek] at d2 d3
    simp only at d2 d3
    have hpl : R.pl = 4 + 1 + n * 5 + 32 := by rw [hR', ec, ek, d2]
    have hbs : R.bs = bs := by rw [hR', ec, ek, d2]
    have hbl : bs.length ≤ 4 + 1 + n * 5 + 32 := by rw [← hpl, ← hbs]; exact hw.2
    have hfull : bs = num ((⟨bs, 0, 0, 0⟩ : Rd).number 4).2 4 ++ num n 1 ++ (readMany n (r1.number 1).1).2.flatMap cb ++ (Rd.mk bs (4 + 1 + n * 5) r1.ba r1.why).digest.2 := by
      have e := List.take_of_length_le hbl
      rw [d3] at e
      rw [n2] at hlen ⊢
      simp only [hb1, hp1] at hlen ⊢
      rw [m4, n4, p4] at e
      simpa using e.symm
    have et : (readTok ⟨bs, 0, 0, 0⟩).2 = ⟨((⟨bs, 0, 0, 0⟩ : Rd).number 4).2, (readMany n (r1.number 1).1).2, (Rd.mk bs (4 + 1 + n * 5) r1.ba r1.why).digest.2⟩ := by
      unfold readTok
      rw [← hr1, ec, ek]
    rw [et]
    unfold encode
    simp only
    rw [hlen, if_neg hn4, if_neg (by
      intro ha
      obtain ⟨c, hc, ho⟩ := List.any_eq_true.1 ha
      rw [n2] at hc
      simp only [hb1, hp1] at hc
      have := m3 c (by simpa [n2, hb1, hp1] using hc)
      rw [this] at ho
      cases ho)]
    simp only [bytesOf]
    rw [hlen, ← hfull]
  · rw [if_neg hf] at h
    exact absurd h hf
end S
end Go.Proofs.YtlcilclhaahopaaDoor
