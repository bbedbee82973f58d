/- A Reader's Number, Bytes, Digest and Fail: what is read is the plain function's; only the reader's own block changes. -/
import Derived.Test.YtdhaeepaemneaaaDoorRd
import Derived.Laws.Bits64b
import Derived.Laws.BitsAllLaws
namespace Go.Proofs.YtdhaeepaemneaaaDoor
open Go.RowKit
namespace S
/-- The number of some bytes, the highest first. -/
def val (xs : List UInt8) : Nat := xs.foldl (fun a x => a * 256 + x.toNat) 0
theorem val_snoc (xs : List UInt8) (x : UInt8) : val (xs ++ [x]) = val xs * 256 + x.toNat := by simp [val]
theorem val_lt_aux (xs : List UInt8) : ∀ a m : Nat, a < 256 ^ m → xs.foldl (fun a x => a * 256 + x.toNat) a < 256 ^ (m + xs.length) := by
  induction xs with
  | nil => intro a m h; exact h
  | cons x l ih =>
    intro a m h
    rw [List.foldl_cons, List.length_cons, show m + (l.length + 1) = (m + 1) + l.length from by omega]
    refine ih _ _ ?_
    rw [Nat.pow_succ]
    have := x.toNat_lt
    omega
theorem val_lt (xs : List UInt8) : val xs < 256 ^ xs.length := by
  have := val_lt_aux xs 0 0 (by decide)
  rwa [Nat.zero_add] at this
theorem val_take (xs : List UInt8) (k : Nat) (h : k < xs.length) : val (xs.take (k + 1)) = val (xs.take k) * 256 + (xs.getD k 0).toNat := by
  rw [List.take_succ_eq_append_getElem h, val_snoc]
  simp [List.getD_eq_getElem?_getD, h]
def Rd.number (r : Rd) (k : Int) : Rd × Nat := ((r.take (size k)).1, val (r.take (size k)).2)
theorem Rd.take_len (r : Rd) (n : Nat) : (r.take n).2.length ≤ n := by
  unfold Rd.take
  split
  · split
    · simp only [List.length_take]; omega
    · simp
  · simp
end S
theorem or_byte (a : Nat) (x : UInt8) (ha : a * 256 < 18446744073709551616) : bits .or .u64 (IntKind.u64.wrap ((a : Int) * 256)) (IntKind.u64.wrap (x.toNat : Int)) = ((a * 256 + x.toNat : Nat) : Int) := by
  have hx := x.toNat_lt
  have e1 : IntKind.u64.wrap ((a : Int) * 256) = ((a * 256 : Nat) : Int) := by rw [IntKind.wrap_u64]; omega
  have e2 : IntKind.u64.wrap (x.toNat : Int) = (x.toNat : Int) := by rw [IntKind.wrap_u64]; omega
  rw [e1, e2, u64_or_nat _ _ ha (by omega)]
  have := Nat.shiftLeft_add_eq_or_of_lt (i := 8) (b := x.toNat) (by omega) a
  rw [Nat.shiftLeft_eq] at this
  rw [show a * 256 = a * 2 ^ 8 from rfl, this]
theorem val_small (xs : List UInt8) (j : Nat) (h : j < xs.length) (h8 : xs.length ≤ 8) : S.val (xs.take j) * 256 < 18446744073709551616 := by
  have h1 := S.val_lt (xs.take j)
  have h2 : (xs.take j).length ≤ 7 := by rw [List.length_take]; omega
  have h3 : 256 ^ (xs.take j).length ≤ 256 ^ 7 := Nat.pow_le_pow_right (by decide) h2
  have h4 : (256 : Nat) ^ 7 = 72057594037927936 := by decide
  omega
set_option maxHeartbeats 800000 in
set_option maxRecDepth 100000 in
theorem rnumber_any (g t : Nat) (r : S.Rd) (k : Int) (w : World) (hr : RdIs w g t r) :
   Calls Tryd.prog 11 #[.pointer (some ⟨g, 0, none⟩), .int .i64 k] w fun e w' => e = .returned (.int .u64 ((r.number k).2 : Int)) ∧ RdIs w' g t (r.number k).1 ∧ Chg (fun k => k = g) w w' := by
  have HR := hide hr
  clear hr
  go_enter Tryd.func11, Tryd.ntmps11
  go_wp2_with fail
  refine (numberSize_any k w).mono ?_
  rintro e w1 ⟨rfl, rfl⟩
  go_wp2_with fail
  refine (take_any g t r (S.size k) w (by have := S.size_le k; omega) HR.out).mono ?_
  rintro e w1 ⟨v, rfl, hv, hr1, hc1⟩
  obtain ⟨xs, hxs⟩ : ∃ xs, xs = (r.take (S.size k)).2 := ⟨_, rfl⟩
  have hl8 : xs.length ≤ 8 := by rw [hxs]; exact Nat.le_trans (r.take_len _) (S.size_le k)
  rw [← hxs] at hv
  have FIN : Hid (S.val xs = (r.number k).2) := by show S.val xs = (r.number k).2; rw [hxs]; rfl
  have R1 : Hid (RdIs w1 g t (r.number k).1) := hr1
  have C1 := hide hc1
  have HV := hide hv
  obtain ⟨ao, len, cap, rfl, hlen, hmax⟩ := hv.form
  have HL := hide hlen
  clear hv hr1 hc1 hxs hlen HR
  have hln : len ≤ 8 := by have := HL.out; omega
  go_wp2_with fail
  go_loopw [5, 13] (fun n i wr => ∃ k : Nat, k ≤ len ∧ i = .int .i64 (k : Int) ∧ n = .int .u64 (S.val (xs.take k) : Int) ∧ wr = w1) (fun _ i _ => len - (intOf i).toNat)
  case atStart => exact ⟨0, Nat.zero_le _, rfl, rfl, rfl⟩
  case round =>
    obtain ⟨j, hj, rfl, rfl, rfl⟩ := hrel
    by_cases hlt : j < len
    · have q1 : (0 : Int) ≤ (j : Int) := by omega
      have q2 : (j : Int) < (len : Int) := by omega
      have hp : 0 < xs.length := by have := HL.out; omega
      obtain ⟨b, off, rfl, _, _, hc⟩ := HV.out.src hp
      have c1 := hc j (by have := HL.out; omega)
      have q4 : IntKind.i64.wrap ((j : Int) + 1) = (j : Int) + 1 := by rw [IntKind.wrap_i64]; omega
      have hjx : j < xs.length := by have := HL.out; omega
      have e1 := or_byte (S.val (xs.take j)) (xs.getD j 0) (val_small xs j hjx hl8)
      rw [← S.val_take xs j hjx] at e1
      generalize xs.getD j 0 = x at c1 e1
      clear hc
      go_wp2
      exact ⟨⟨j + 1, by omega, by go_num, rfl, trivial⟩, by simp [intOf]; omega⟩
    · obtain rfl : j = len := by omega
      have q2 : ¬ ((j : Int) < (j : Int)) := by omega
      have E : Hid (S.val (xs.take j) = (r.number k).2) := by rw [← FIN.out, HL.out, List.take_length]; exact rfl
      go_wp2
      go_ret
      exact ⟨by rw [← E.out]; rfl, R1.out, C1.out⟩
end Go.Proofs.YtdhaeepaemneaaaDoor
