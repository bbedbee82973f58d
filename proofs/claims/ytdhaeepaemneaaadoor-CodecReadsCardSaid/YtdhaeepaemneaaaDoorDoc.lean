/- The document's own writing: width, Number, Bytes: the same bytes, in memory of their own. -/
import Derived.Test.YtdhaeepaemneaaaDoorWrb
import Derived.Test.YtdhaeepaemneaaaDoorErr
namespace Go.Proofs.YtdhaeepaemneaaaDoor
open Go.RowKit
set_option maxHeartbeats 400000 in
theorem width_any (k : Int) (w : World) :
   Calls Tryd.prog 44 #[.int .i64 k] w fun e w' => e = .returned (.int .i64 (S.size k : Int)) ∧ w = w' := by
  go_enter Tryd.func44, Tryd.ntmps44
  by_cases h1 : k < 1
  · have HE : Hid ((S.size k : Int) = 1) := by show (S.size k : Int) = 1; rw [S.size_cast]; omega
    go_wp2
    go_ret
    exact ⟨by rw [HE.out]; rfl, rfl⟩
  · by_cases h8 : 8 < k
    · have HE : Hid ((S.size k : Int) = 8) := by show (S.size k : Int) = 8; rw [S.size_cast]; omega
      go_wp2
      go_ret
      exact ⟨by rw [HE.out]; rfl, rfl⟩
    · have HE : Hid ((S.size k : Int) = k) := by show (S.size k : Int) = k; rw [S.size_cast]; omega
      go_wp2
      go_ret
      exact ⟨by rw [HE.out]; rfl, rfl⟩
theorem urow_empty (w : World) : URow (w.alloc (.cells #[] 5)) (.slice (some ⟨w.heap.size, 0, none⟩) 0 0) [] := World.ownsRow_lit w #[] 0 (Nat.zero_le _) (Nat.zero_le _) rfl
set_option maxHeartbeats 1600000 in
set_option maxRecDepth 100000 in
theorem dnumber_any (v : Value) (bs : List UInt8) (n : Nat) (k : Int) (w : World) (hv : SliceAt w v bs) (hb : bs.length + 8 ≤ 140737488355328) :
   Calls Tryd.prog 18 #[v, .int .u64 (n : Int), .int .i64 k] w fun e w' => ∃ u, e = .returned u ∧ URow w' u (bs ++ S.num n (S.size k)) ∧ (∀ j, u.ownBlock = some j → w.heap.size ≤ j) ∧ Below w.heap.size w w' := by
  have NX : Hid (Below w.heap.size w (w.alloc (.cells #[] 5))) := (Below.refl _ _).alloc (Nat.le_refl _) _
  have SV := hide (hv.below NX.out (Nat.le_refl _))
  have HB := hide hb
  clear hv hb
  go_enter Tryd.func18, Tryd.ntmps18
  go_wp2_with (at_builtin; (refine wpList_append_known rfl (.tmp 9) (.tmp 10) 24 24 rfl _ _ rfl rfl (run_append_row _ _ _ [] bs 24 (urow_empty w) SV.out (by show 0 + bs.length ≤ _; have := HB.out; omega)) ?_; rintro v1 w1 ⟨hu1, hg1, ho1⟩))
  rw [List.nil_append] at hu1
  have hb1 := NX.out.grown hg1 NX.out.size (fun j hj => by have hj2 : some w.heap.size = some j := hj; have := Option.some.inj hj2; omega)
  have U1 := hide hu1
  have B1 := hide hb1
  have O1 : Hid (∀ j, v1.ownBlock = some j → w.heap.size ≤ j) := fun j hj => by
    rcases ho1 j hj with h | h
    · have hj2 : some w.heap.size = some j := h
      have := Option.some.inj hj2
      omega
    · have := NX.out.size
      omega
  clear hu1 hg1 ho1 hb1 SV NX
  refine (width_any k w1).mono ?_
  rintro e w2 ⟨rfl, rfl⟩
  obtain ⟨sz, hsz⟩ : ∃ sz, sz = S.size k := ⟨_, rfl⟩
  have hs8 : sz ≤ 8 := by rw [hsz]; exact S.size_le k
  have hs1 : 1 ≤ sz := by rw [hsz]; exact S.size_ge k
  rw [← hsz]
  have HSZ := hide hsz
  clear hsz
  go_wp2_with fail
  go_loopw [7, 8] (fun v i wr => ∃ (left : Nat) (acc : List UInt8), left ≤ sz ∧ i = .int .i64 ((left : Int) - 1) ∧ acc ++ S.num n left = bs ++ S.num n sz ∧ acc.length + left ≤ bs.length + 8 ∧ URow wr v acc ∧ (∀ j, v.ownBlock = some j → w.heap.size ≤ j) ∧ Below w.heap.size w wr) (fun _ i _ => (intOf i + 1).toNat)
  case atStart => exact ⟨sz, bs, Nat.le_refl _, rfl, rfl, by omega, U1.out, O1.out, B1.out⟩
  case round =>
    obtain ⟨left, acc, hl, rfl, hacc, hal, hu, ho, hb⟩ := hrel
    clear U1 O1 B1
    by_cases h0 : 0 < left
    · obtain ⟨m, rfl⟩ : ∃ m, left = m + 1 := ⟨left - 1, by omega⟩
      have e1 : ((m + 1 : Nat) : Int) - 1 = (m : Int) := by omega
      rw [e1]
      have q1 : (0 : Int) ≤ (m : Int) := by omega
      obtain ⟨ao, c, hv1⟩ := hu.shape
      obtain ⟨an, han⟩ : ∃ an, an = acc.length := ⟨_, rfl⟩
      rw [← han] at hv1
      subst hv1
      obtain ⟨x, hx⟩ : ∃ x : UInt8, x = UInt8.ofNat (n / 256 ^ m) := ⟨_, rfl⟩
      have s1 := shr_byte n m (by omega)
      rw [← hx, show (8 * (m : Int)).toNat = 8 * m from by omega] at s1
      have s2 : (n : Int) / 2 ^ (8 * m) % 256 = (x.toNat : Int) := by rw [← s1, IntKind.wrap_u8']
      have HACC : Hid (acc ++ [x] ++ S.num n m = bs ++ S.num n sz) := by show acc ++ [x] ++ S.num n m = bs ++ S.num n sz; rw [← hacc, hx, List.append_assoc]; rfl
      have w1 : IntKind.i64.wrap (8 * (m : Int)) = 8 * (m : Int) := by rw [IntKind.wrap_i64]; omega
      have w2 : IntKind.u64.wrap (8 * (m : Int)) = 8 * (m : Int) := by rw [IntKind.wrap_u64]; omega
      have UR := hide hu
      have OO := hide ho
      have BB := hide hb
      have HAN := hide han
      clear hx hacc hu ho hb han
      go_wp2_with (at_builtin; (refine wpList_append_known rfl (.tmp 19) (.tmp 26) 24 24 rfl _ _ rfl rfl (run_append_row _ _ _ acc [x] 24 (UR.out.kept fun j hj => heap_alloc_old _ _ (UR.out.lt hj)) (one_new wr x) (by show acc.length + 1 ≤ _; have := HB.out; omega)) ?_; rintro v2 w3 ⟨hu2, hg2, ho2⟩; obtain ⟨ao2, c2, hv2⟩ := hu2.shape; simp only [List.length_append, List.length_singleton, ← HAN.out] at hv2; subst hv2))
      go_roundw
      case rel =>
        refine ⟨m, acc ++ [x], by omega, by go_num, HACC.out, by rw [List.length_append]; show acc.length + 1 + m ≤ _; omega, hu2, fun j hj => ?_, ?_⟩
        · rcases ho2 j hj with h | h
          · exact OO.out j h
          · have := BB.out.size
            have h3 : wr.heap.size ≤ (wr.alloc (.cells #[.int .u8 (x.toNat : Int)] 5)).heap.size := by simp
            omega
        · exact (BB.out.alloc BB.out.size _).grown hg2 (by have := BB.out.size; simp; omega) (fun j hj => OO.out j hj)
      case measure => simp [intOf]
    · obtain rfl : left = 0 := by omega
      have q1 : ¬ ((0 : Int) ≤ ((0 : Nat) : Int) - 1) := by omega
      have FU : Hid (URow wr u7 (bs ++ S.num n (S.size k))) := by
        rw [← HSZ.out, ← hacc, show S.num n 0 = [] from rfl, List.append_nil]
        exact hu
      have OO := hide ho
      have BB := hide hb
      clear hacc hu ho hb
      go_wp2_with fail
      go_ret
      exact ⟨_, rfl, FU.out, OO.out, BB.out⟩
end Go.Proofs.YtdhaeepaemneaaaDoor
