/- Package bytes, as far as a log uses it: Equal, HasPrefix, Clone, TrimRight of noughts. -/
import Derived.Test.YthjlhngjpbmieaaGreatDoorGk
import Derived.Laws.IdiomStrings
import Derived.Lib.BufferRead
import Derived.Lib.LazyBuf
namespace Go.Proofs.YthjlhngjpbmieaaGreatDoor
open Go.RowKit
theorem conv_slice {w : World} {v : Value} {bs : List UInt8} (h : SliceAt w v bs) : (convert 31 9 v).run Tryz.prog w = .ok (.string ⟨bs.toArray⟩) w := by
  rcases h with ⟨rfl, rfl⟩ | ⟨a, cap, rfl, _, rfl⟩ | ⟨b, off, cap, rfl, h1, h2, h3, h4⟩
  · exact Lib.run_convert_nil_bytes w 31 9 5 0 Tryz.underlying31 Tryz.underlying5 Tryz.underlying9
  · exact run_convert_bytes_back w 31 9 5 a cap [] Tryz.underlying31 Tryz.underlying5 Tryz.underlying9 (fun j hj => by simp at hj)
  · refine run_convert_bytes_back w 31 9 5 ⟨b, off, none⟩ cap bs Tryz.underlying31 Tryz.underlying5 Tryz.underlying9 (fun j hj => ?_)
    rw [Addr.add_lit]
    have := h4 j hj
    simp only [List.getD_eq_getElem?_getD, List.getElem?_eq_getElem hj, Option.getD_some] at this
    simpa using this
set_option maxRecDepth 10000 in
theorem equal_any (v u : Value) (xs ys : List UInt8) (w : World) (h1 : SliceAt w v xs) (h2 : SliceAt w u ys) :
   Calls Tryz.prog 61 #[v, u] w fun e w' => e = .returned (.bool (decide (xs = ys))) ∧ w = w' := by
  have k1 := conv_slice h1
  have k2 := conv_slice h2
  obtain ⟨ao, l1, c1, rfl, z1⟩ := h1.form
  obtain ⟨bo, l2, c2, rfl, z2⟩ := h2.form
  clear h1 h2 z1 z2
  obtain ⟨A, hA⟩ : ∃ A : ByteArray, A = ⟨xs.toArray⟩ := ⟨_, rfl⟩
  obtain ⟨B, hB⟩ : ∃ A : ByteArray, A = ⟨ys.toArray⟩ := ⟨_, rfl⟩
  rw [← hA] at k1
  rw [← hB] at k2
  have HE : Hid ((A.toList == B.toList) = decide (xs = ys)) := by
    show (A.toList == B.toList) = decide (xs = ys)
    rw [hA, hB, ByteArray.toList_eq, ByteArray.toList_eq]
    rw [Bool.eq_iff_iff]
    simp
  clear hA hB
  go_enter Tryz.func61, Tryz.ntmps61
  go_wp2
  go_ret
  exact ⟨by rw [← HE.out]; rfl, rfl⟩
theorem prefix_take (xs ys : List UInt8) : decide (xs.take ys.length = ys) = decide (ys <+: xs) := by
  rw [decide_eq_decide]
  exact ⟨fun e => List.prefix_iff_eq_take.2 e.symm, fun e => (List.prefix_iff_eq_take.1 e).symm⟩
set_option maxRecDepth 10000 in
theorem prefix_any (v u : Value) (xs ys : List UInt8) (w : World) (h1 : SliceAt w v xs) (h2 : SliceAt w u ys) :
   Calls Tryz.prog 113 #[v, u] w fun e w' => e = .returned (.bool (decide (ys <+: xs))) ∧ w = w' := by
  obtain ⟨ao, l1, c1, rfl, hl1, hm1⟩ := h1.form
  obtain ⟨bo, l2, c2, rfl, hl2, hm2⟩ := h2.form
  have H1 := hide h1
  have H2 := hide h2
  have L1 := hide hl1
  have L2 := hide hl2
  by_cases hlt : l2 ≤ l1
  · have q1 : (l2 : Int) ≤ (l1 : Int) := by omega
    have q2 : (0 : Int) ≤ (l2 : Int) := by omega
    have q3 : (l1 : Int) ≤ (c1 : Int) := by have := h1.le_cap; omega
    have q4 : (l2 : Int) ≤ (c1 : Int) := by omega
    have HP := hide (part_to h1 l2 hlt)
    have HQ := hide (prefix_take xs ys)
    clear h1 h2 hl1 hl2
    go_enter Tryz.func113, Tryz.ntmps113
    go_wp2_with fail
    refine (equal_any _ _ _ _ w HP.out H2.out).mono ?_
    rintro e w1 ⟨rfl, rfl⟩
    rw [L2.out, HQ.out]
    obtain ⟨B, hB⟩ : ∃ B, B = decide (ys <+: xs) := ⟨_, rfl⟩
    rw [← hB]
    have HB := hide hB
    clear hB
    have E := L2.out
    go_wp2_with fail
    go_ret
    exact ⟨by rw [← HB.out]; rfl, rfl⟩
  · have q1 : ¬ (l2 : Int) ≤ (l1 : Int) := by omega
    have HQ : Hid (decide (ys <+: xs) = false) := by
      refine decide_eq_false fun e => ?_
      have := e.length_le
      omega
    clear h1 h2 hl1 hl2
    go_enter Tryz.func113, Tryz.ntmps113
    go_wp2_with fail
    go_ret
    exact ⟨by rw [HQ.out]; rfl, rfl⟩
end Go.Proofs.YthjlhngjpbmieaaGreatDoor
namespace Go.Proofs.YthjlhngjpbmieaaGreatDoor
open Go.RowKit
namespace S
/-- How many of the first bytes are left when the noughts behind them go. -/
def trimTo (xs : List UInt8) : Nat → Nat
  | 0 => 0
  | n + 1 => if xs.getD n 0 = 0 then trimTo xs n else n + 1
theorem trimTo_le (xs : List UInt8) (n : Nat) : trimTo xs n ≤ n := by
  induction n with
  | zero => exact Nat.le_refl _
  | succ n ih => rw [trimTo]; split <;> omega
end S
theorem byte_zero (x : UInt8) : ((x.toNat : Int) = 0) ↔ x = 0 := by
  constructor
  · intro h
    apply UInt8.toNat_inj.1
    have : x.toNat = 0 := by omega
    rw [this]; rfl
  · rintro rfl; rfl
set_option maxRecDepth 10000 in
theorem trimRightByte_any (b off n cap : Nat) (xs : List UInt8) (w : World) (h1 : SliceAt w (.slice (some ⟨b, off, none⟩) n cap) xs) :
   Calls Tryz.prog 127 #[.slice (some ⟨b, off, none⟩) n cap, .int .u8 0] w fun e w' => e = .returned (.slice (some ⟨b, off, none⟩) (S.trimTo xs n) cap) ∧ w = w' := by
  obtain ⟨ax, l1, c1, hv, hl1, hm1⟩ := h1.form
  simp only [Value.slice.injEq] at hv
  obtain ⟨rfl, rfl, rfl⟩ := hv
  have hcap := h1.le_cap
  have HC : Hid (∀ j, j < n → w.cell? ⟨b, off + j, none⟩ = some (.int .u8 ((xs.getD j 0).toNat : Int))) := fun j hj => by
    obtain ⟨b', off', e, _, _, h⟩ := h1.src (by omega)
    simp only [Option.some.injEq, Addr.mk.injEq, and_true] at e
    obtain ⟨rfl, rfl⟩ := e
    exact h j (by omega)
  clear h1 hl1
  go_enter Tryz.func127, Tryz.ntmps127
  go_wp2_with fail
  go_loopw [0] (fun s wr => ∃ k : Nat, k ≤ n ∧ s = .slice (some ⟨b, off, none⟩) k cap ∧ Hid (S.trimTo xs k = S.trimTo xs n) ∧ wr = w) (fun s _ => match s with | .slice _ k _ => k | _ => 0)
  case atStart => exact ⟨n, Nat.le_refl _, rfl, rfl, rfl⟩
  case round =>
    obtain ⟨k, hk, rfl, ht, rfl⟩ := hrel
    rcases k with _ | m
    · go_wp2_with fail
      go_ret
      exact ⟨by rw [← ht.out]; rfl, rfl⟩
    · have q1 : (0 : Int) < ((m + 1 : Nat) : Int) := by omega
      have q2 : ((m + 1 : Nat) : Int) - 1 = (m : Int) := by omega
      have q3 : (0 : Int) ≤ (m : Int) := by omega
      have q4 : (m : Int) ≤ (cap : Int) := by omega
      have q5 : (m : Int) < ((m + 1 : Nat) : Int) := by omega
      have c1 := HC.out m (by omega)
      by_cases hx : xs.getD m 0 = 0
      · have hz : ((xs.getD m 0).toNat : Int) = 0 := (byte_zero _).2 hx
        rw [hz] at c1
        have HT : Hid (S.trimTo xs m = S.trimTo xs n) := by
          show S.trimTo xs m = _
          rw [← ht.out, S.trimTo, if_pos hx]
        clear hx hz ht
        go_wp2_with fail
        go_roundw
        case rel => exact ⟨m, by omega, rfl, HT, trivial⟩
        case measure => simp
      · have hz : ¬ ((xs.getD m 0).toNat : Int) = 0 := fun e => hx ((byte_zero _).1 e)
        obtain ⟨y, hy⟩ : ∃ y : Int, y = ((xs.getD m 0).toNat : Int) := ⟨_, rfl⟩
        rw [← hy] at c1 hz
        have HT : Hid (S.trimTo xs n = m + 1) := by
          show S.trimTo xs n = _
          rw [← ht.out, S.trimTo, if_neg hx]
        clear hx hy ht
        go_wp2_with fail
        go_ret
        exact ⟨by rw [HT.out]; rfl, rfl⟩
set_option maxRecDepth 10000 in
theorem trimRight_any (b off n cap : Nat) (xs : List UInt8) (w : World) (hn : 0 < n) (h1 : SliceAt w (.slice (some ⟨b, off, none⟩) n cap) xs) :
   Calls Tryz.prog 116 #[.slice (some ⟨b, off, none⟩) n cap, .string ⟨#[0]⟩] w fun e w' => e = .returned (.slice (some ⟨b, off, none⟩) (S.trimTo xs n) cap) ∧ w = w' := by
  have H1 := hide h1
  have q1 : ¬ (n : Int) = 0 := by omega
  have q2 : ¬ n = 0 := by omega
  clear h1 hn
  go_enter Tryz.func116, Tryz.ntmps116
  go_wp2_with fail
  refine (trimRightByte_any b off n cap xs w H1.out).mono ?_
  rintro e w1 ⟨rfl, rfl⟩
  obtain ⟨t, ht⟩ : ∃ t, t = S.trimTo xs n := ⟨_, rfl⟩
  rw [← ht]
  have HT := hide ht
  clear ht
  go_wp2_with fail
  go_ret
  exact ⟨by rw [← HT.out]; rfl, rfl⟩
theorem own_room {w : World} {base : Nat} {v : Value} {bs : List UInt8} (h : Own w base v bs) : ∃ g c, v = .slice (some ⟨g, 0, none⟩) bs.length c ∧ base ≤ g ∧ Room w g c bs := by
  obtain ⟨⟨h1, h2⟩, g, cap, rfl⟩ := h
  rcases h2 with ⟨h3, _⟩ | ⟨g', cap', cur, h3, h4, h5, h6, h7, h8, h9⟩
  · simp at h3
  · simp only [Value.slice.injEq, Option.some.injEq, Addr.mk.injEq, and_true, true_and] at h3
    obtain ⟨rfl, rfl⟩ := h3
    exact ⟨g, cap, rfl, h4, cur, h5, by omega, h6, by rw [Nat.mul_one] at h9; exact h9⟩
theorem own_none (w : World) : Own (w.alloc (.cells #[] 5)) w.heap.size (.slice (some ⟨w.heap.size, 0, none⟩) 0 0) [] :=
  ⟨⟨rfl, Or.inr ⟨w.heap.size, 0, #[], rfl, Nat.le_refl _, heap_alloc_new _ _, Nat.le_refl _, by simp [maxLen], rfl, rfl⟩⟩, w.heap.size, 0, rfl⟩
theorem eql_nil (a : Addr) (n cap : Nat) (W : World) : (binOp .eql 31 (.slice (some a) n cap) (.slice none 0 0)).run Tryz.prog W = .ok (.bool false) W :=
  by
    have h : ∀ d : Nat, (Op.equalIn (d + 1) 31 (.slice (some a) n cap) (.slice none 0 0)).run Tryz.prog W = .ok false W := fun d => by
      simp [Op.equalIn, run_underlying Tryz.underlying31]
    simp only [binOp]
    simp [Op.equal, Op.maxDepth, h 9999]
set_option maxRecDepth 10000 in
theorem clone_any (b off n cap : Nat) (xs : List UInt8) (w : World) (h1 : SliceAt w (.slice (some ⟨b, off, none⟩) n cap) xs) :
   Calls Tryz.prog 70 #[.slice (some ⟨b, off, none⟩) n cap] w fun e w' => ∃ g c, e = .returned (.slice (some ⟨g, 0, none⟩) n c) ∧ w.heap.size ≤ g ∧ Room w' g c xs ∧ Below w.heap.size w w' := by
  have hnil := eql_nil ⟨b, off, none⟩ n cap
  obtain ⟨ax, l1, c1, hv, hl1, hm1⟩ := h1.form
  simp only [Value.slice.injEq] at hv
  obtain ⟨rfl, rfl, rfl⟩ := hv
  have hb0 : Below w.heap.size w (w.alloc (.cells #[] 5)) := (Below.refl _ _).alloc (Nat.le_refl _) _
  have HR := hide (run_append_bytes (w.alloc (.cells #[] 5)) w.heap.size _ (.slice (some ⟨b, off, none⟩) n cap) [] xs 31 (own_none w) (h1.below hb0 (Nat.le_refl _)) (by simp; omega) (by simp))
  have HB := hide hb0
  have HL : Hid (n = xs.length) := hl1
  clear h1 hl1 hb0
  go_enter Tryz.func70, Tryz.ntmps70
  go_wp2_with (refine wpList_append_known rfl (.tmp 5) (.tmp 6) 31 31 rfl _ _ rfl rfl HR.out ?_)
  intro v' w' hown hbel
  obtain ⟨g, c, rfl, hg, hr⟩ := own_room hown
  have HF : Hid (Below w.heap.size w w') := HB.out.trans (hbel.mono (by simp))
  have HG := hide hg
  have HM := hide hr
  clear hown hbel hg hr
  rw [← HL.out]
  go_wp2_with fail
  go_ret
  exact ⟨g, c, rfl, HG.out, HM.out, HF.out⟩
end Go.Proofs.YthjlhngjpbmieaaGreatDoor
