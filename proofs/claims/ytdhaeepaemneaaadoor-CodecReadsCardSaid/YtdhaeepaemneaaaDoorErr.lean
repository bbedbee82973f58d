/- The text of a number of refusal: for every number some text that is not empty; only new memory. -/
import Derived.Test.YtdhaeepaemneaaaDoorWr
import Derived.Laws.IdiomStrings
import Derived.Lib.BufferRead
namespace Go.Proofs.YtdhaeepaemneaaaDoor
open Go.RowKit
theorem conv_slice {w : World} {v : Value} {bs : List UInt8} (h : SliceAt w v bs) : (convert 24 9 v).run Tryd.prog w = .ok (.string ⟨bs.toArray⟩) w := by
  rcases h with ⟨rfl, rfl⟩ | ⟨a, cap, rfl, _, rfl⟩ | ⟨b, off, cap, rfl, h1, h2, h3, h4⟩
  · exact Lib.run_convert_nil_bytes w 24 9 5 0 Tryd.underlying24 Tryd.underlying5 Tryd.underlying9
  · exact run_convert_bytes_back w 24 9 5 a cap [] Tryd.underlying24 Tryd.underlying5 Tryd.underlying9 (fun j hj => by simp at hj)
  · refine run_convert_bytes_back w 24 9 5 ⟨b, off, none⟩ cap bs Tryd.underlying24 Tryd.underlying5 Tryd.underlying9 (fun j hj => ?_)
    rw [Addr.add_lit]
    have := h4 j hj
    simp only [List.getD_eq_getElem?_getD, List.getElem?_eq_getElem hj, Option.getD_some] at this
    simpa using this
theorem urow_one (w : World) (x : UInt8) : URow (w.alloc (.cells #[.int .u8 (x.toNat : Int)] 5)) (.slice (some ⟨w.heap.size, 0, none⟩) 1 1) [x] :=
  World.ownsRow_lit w #[.int .u8 (x.toNat : Int)] 1 (Nat.zero_le _) (by decide) rfl
def sliceLen : Value → Nat
  | .slice _ n _ => n
  | _ => 0
/-- What is left of the loop. -/
def errLeft (x v : Value) : Nat := 2 * (intOf x).toNat + (if sliceLen v = 0 then 1 else 0)
theorem errLeft_less (m : Nat) (ao ao2 : Option Addr) (n c n2 c2 : Nat) (h : 0 < m ∨ n = 0) (h2 : 0 < n2) : errLeft (.int .i64 ((m / 10 : Nat) : Int)) (.slice ao2 n2 c2) < errLeft (.int .i64 (m : Int)) (.slice ao n c) := by
  show 2 * (m / 10) + (if n2 = 0 then 1 else 0) < 2 * m + (if n = 0 then 1 else 0)
  rw [if_neg (by omega)]
  split <;> omega
theorem digit_cast (m : Nat) : IntKind.u8.wrap (48 + ((m % 10 : Nat) : Int)) = ((UInt8.ofNat (48 + m % 10)).toNat : Int) := by
  rw [IntKind.wrap_u8', UInt8.toNat_ofNat']
  omega
theorem pow_less (m l : Nat) (hl : l ≤ 19) (hm : m < 10 ^ (19 - l)) (h : 0 < m ∨ l = 0) : 1 + l ≤ 19 ∧ m / 10 < 10 ^ (19 - (1 + l)) := by
  by_cases h19 : l = 19
  · subst h19
    simp at hm
    omega
  · refine ⟨by omega, ?_⟩
    rw [show 19 - l = (19 - (1 + l)) + 1 from by omega, Nat.pow_succ] at hm
    omega
set_option maxHeartbeats 800000 in
set_option maxRecDepth 100000 in
theorem errno_any (y : Int) (h1 : -9223372036854775808 ≤ y) (h2 : y ≤ 9223372036854775807) (w : World) :
   Calls Tryd.prog 49 #[.int .i64 y] w fun e w' => ∃ s : ByteArray, e = .returned (.string s) ∧ 0 < s.size ∧ s.size ≤ 60 ∧ Below w.heap.size w w' := by
  by_cases e0 : y = 0
  · subst e0
    go_enter Tryd.func49, Tryd.ntmps49
    go_wp2
    go_ret
    exact ⟨_, rfl, by decide, by decide, Below.refl _ _⟩
  by_cases e1 : y = 1
  · subst e1
    go_enter Tryd.func49, Tryd.ntmps49
    go_wp2
    go_ret
    exact ⟨_, rfl, by decide, by decide, Below.refl _ _⟩
  by_cases e20 : y = 20
  · subst e20
    go_enter Tryd.func49, Tryd.ntmps49
    go_wp2
    go_ret
    exact ⟨_, rfl, by decide, by decide, Below.refl _ _⟩
  by_cases e21 : y = 21
  · subst e21
    go_enter Tryd.func49, Tryd.ntmps49
    go_wp2
    go_ret
    exact ⟨_, rfl, by decide, by decide, Below.refl _ _⟩
  by_cases e22 : y = 22
  · subst e22
    go_enter Tryd.func49, Tryd.ntmps49
    go_wp2
    go_ret
    exact ⟨_, rfl, by decide, by decide, Below.refl _ _⟩
  have b0 : (y == 0) = false := by simp [e0]
  have b1 : (y == 1) = false := by simp [e1]
  have b20 : (y == 20) = false := by simp [e20]
  have b21 : (y == 21) = false := by simp [e21]
  have b22 : (y == 22) = false := by simp [e22]
  clear e0 e1 e20 e21 e22
  go_enter Tryd.func49, Tryd.ntmps49
  go_upto_if 18 with fail
  go_cut [3] (fun x wc => w = wc ∧ ∃ m : Nat, x = .int .i64 (m : Int) ∧ m ≤ 9223372036854775807)
  case first =>
    by_cases h : y < 0
    · go_wp2_with fail
      go_meet
      exact ⟨rfl, 0, rfl, by omega⟩
    · obtain ⟨m, rfl⟩ := Int.eq_ofNat_of_zero_le (by omega : 0 ≤ y)
      go_wp2_with fail
      go_meet
      exact ⟨rfl, m, rfl, by omega⟩
  case rest =>
  obtain ⟨rfl, m0, rfl, hm0⟩ := hcut
  go_wp2_with fail
  go_loopw [3, 4] (fun x v wr => ∃ (m : Nat) (xs : List UInt8), x = .int .i64 (m : Int) ∧ URow wr v xs ∧ xs.length ≤ 19 ∧ m < 10 ^ (19 - xs.length) ∧ m ≤ 9223372036854775807 ∧ Below w.heap.size w wr) (fun x v _ => errLeft x v)
  case atStart => exact ⟨m0, [], rfl, urow_nil w, by simp, by simp only [List.length_nil, Nat.sub_zero]; omega, hm0, Below.refl _ _⟩
  case round => 
    obtain ⟨m, xs, rfl, hu, hl, hm, hmm, hb⟩ := hrel
    obtain ⟨ao, c, hv⟩ := hu.shape
    obtain ⟨n, hn⟩ : ∃ n, n = xs.length := ⟨_, rfl⟩
    rw [← hn] at hv hl hm
    subst hv
    have HN := hide hn
    have HU := hide hu
    have HB := hide hb
    have HM := hide hm
    have SL := hide (hu.sliceAt (by omega))
    clear hu hb hm hn
    by_cases hgo : 0 < m ∨ n = 0
    · obtain ⟨x, hx⟩ : ∃ x : UInt8, x = UInt8.ofNat (48 + m % 10) := ⟨_, rfl⟩
      have q0 : (0 : Int) ≤ (m : Int) := by omega
      have d1 : (m : Int).tmod 10 = ((m % 10 : Nat) : Int) := by rw [Int.tmod_eq_emod_of_nonneg q0]; omega
      have d2 : (m : Int).tdiv 10 = ((m / 10 : Nat) : Int) := by rw [Int.tdiv_eq_ediv_of_nonneg q0]; omega
      have d3 := digit_cast m
      rw [← hx] at d3
      have d4 : IntKind.i64.wrap (48 + ((m % 10 : Nat) : Int)) = 48 + ((m % 10 : Nat) : Int) := by rw [IntKind.wrap_i64]; omega
      have PL := hide (pow_less m n hl HM.out (by omega))
      have HC := hide (errLeft_less m ao)
      generalize hr : m % 10 = r at d1 d3 d4
      generalize hq : m / 10 = q at d2 PL HC
      have NX : Hid (Below wr.heap.size wr (wr.alloc (.cells #[.int .u8 (x.toNat : Int)] 5))) := (Below.refl _ _).alloc (Nat.le_refl _) _
      have hqs : q ≤ 9223372036854775807 := by omega
      have GO := hide hgo
      clear hx hr hq
      by_cases hpos : 0 < m
      · have p1 : (0 : Int) < (m : Int) := by omega
        clear hgo
        go_wp2_with (at_builtin; (refine wpList_append_known rfl (.tmp 30) (.tmp 31) 24 24 rfl _ _ rfl rfl (run_append_row _ _ _ [x] xs 24 (urow_one wr x) (SL.out.below NX.out (Nat.le_refl _)) (by show 1 + xs.length ≤ 140737488355328; have := HN.out; omega)) ?_; rintro v2 Y ⟨hu2, hg2, ho2⟩; obtain ⟨ao2, c2, hv2⟩ := hu2.shape; simp only [List.length_append, List.length_singleton, ← HN.out] at hv2; subst hv2))
        go_roundw
        case rel => exact ⟨q, [x] ++ xs, by go_num, hu2, by rw [List.length_append, ← HN.out]; exact PL.out.1, by rw [List.length_append, ← HN.out]; exact PL.out.2, hqs, HB.out.trans ((NX.out.grown hg2 NX.out.size (fun k hk => by have hk2 : some wr.heap.size = some k := hk; have := Option.some.inj hk2; omega)).mono HB.out.size)⟩
        case measure => exact HC.out _ _ _ _ _ GO.out (by omega)
      · have p1 : ¬ ((0 : Int) < (m : Int)) := by omega
        have p2 : ((n : Int) == 0) = true := by rcases hgo with h | h; omega; simp [h]
        clear hgo
        go_wp2_with (at_builtin; (refine wpList_append_known rfl (.tmp 30) (.tmp 31) 24 24 rfl _ _ rfl rfl (run_append_row _ _ _ [x] xs 24 (urow_one wr x) (SL.out.below NX.out (Nat.le_refl _)) (by show 1 + xs.length ≤ 140737488355328; have := HN.out; omega)) ?_; rintro v2 Y ⟨hu2, hg2, ho2⟩; obtain ⟨ao2, c2, hv2⟩ := hu2.shape; simp only [List.length_append, List.length_singleton, ← HN.out] at hv2; subst hv2))
        go_roundw
        case rel => exact ⟨q, [x] ++ xs, by go_num, hu2, by rw [List.length_append, ← HN.out]; exact PL.out.1, by rw [List.length_append, ← HN.out]; exact PL.out.2, hqs, HB.out.trans ((NX.out.grown hg2 NX.out.size (fun k hk => by have hk2 : some wr.heap.size = some k := hk; have := Option.some.inj hk2; omega)).mono HB.out.size)⟩
        case measure => exact HC.out _ _ _ _ _ GO.out (by omega)
    · obtain rfl : m = 0 := by omega
      have p2 : ((n : Int) == 0) = false := by simp; omega
      have CV := conv_slice SL.out
      obtain ⟨s, hs⟩ : ∃ s : ByteArray, s = ⟨xs.toArray⟩ := ⟨_, rfl⟩
      have hss : s.size ≤ 19 := by rw [hs]; show xs.toArray.size ≤ 19; rw [List.size_toArray]; have := HN.out; omega
      rw [← hs] at CV
      clear hgo hs
      go_wp2
      go_ret
      exact ⟨_, rfl, by rw [ByteArray.size_append]; exact Nat.lt_of_lt_of_le (by decide) (Nat.le_add_right _ _), by rw [ByteArray.size_append]; show 8 + s.size ≤ 60; omega, HB.out⟩
end Go.Proofs.YtdhaeepaemneaaaDoor
