/- Read answers a copy of what was written last, in new memory. -/
import Derived.Test.YtjnbjgkcliaipaaNew
namespace Go.Proofs.Ytjnbjgkcliaipaa
open Go.RowKit
theorem read_no (o : Ow) (d : S.Dk) (n : Int) (w : World) (hd : DkIs w o d) (hn : ¬ (0 ≤ n ∧ n < d.safe.length)) :
   Calls Try.prog 12 #[o.ptr, .int .i64 n] w fun e w' => e = .returned (.tuple #[.slice none 0 0, .int .i64 1]) ∧ w = w' := by
  have E := S.Dk.inside_no hn
  have HD := hide hd
  clear hd hn
  go_enter Try.func12, Try.ntmps12
  go_wp2_with fail
  refine (has_any o d n w HD.out).mono ?_
  rintro e w1 ⟨rfl, rfl⟩
  go_wp2
  go_ret2
  exact ⟨rfl, rfl⟩
set_option maxHeartbeats 800000 in
set_option maxRecDepth 100000 in
theorem read_yes (o : Ow) (d : S.Dk) (n : Nat) (w : World) (hd : DkIs w o d) (hn : n < d.safe.length) :
   Calls Try.prog 12 #[o.ptr, .int .i64 (n : Int)] w fun e w' => e = .returned (.tuple #[.slice (some ⟨w.heap.size, 0, none⟩) 128 128, .int .i64 0]) ∧ w'.heap[w.heap.size]? = some (.cells (S.v8 (d.seen.getD n [])) 5 (0, 0)) ∧ Below w.heap.size w w' := by
  have E := S.Dk.inside_yes hn
  obtain ⟨c0, c1, c2, c3, c4⟩ := cells5 hd.row
  have hlt := block_lt_of_row hd.row
  have q1 : (0 : Int) ≤ (n : Int) := by omega
  have q2 : (n : Int) < (d.safe.length : Int) := by omega
  have hmk : ∀ w : World, (Instr.makeSlice 29 (.int .i64 128) (.int .i64 128)).run Try.prog w = .ok (.slice (some ⟨w.heap.size, 0, none⟩) 128 128) (w.alloc (.cells (S.v8 (S.zeros 128)) 5)) := fun w => make_bytes_big 128 (by omega) w
  obtain ⟨bs, hbs⟩ : ∃ bs, bs = d.seen.getD n [] := ⟨_, rfl⟩
  have hlen : bs.length = 128 := by rw [hbs]; exact hd.ok.seen n hn
  have HS : Hid (Src w (some ⟨o.ge, n * 128, none⟩) bs) := by rw [hbs]; exact hd.seen.src n (by rw [S.Dk.seen_length]; exact hn)
  have HN : Hid ((S.v8l bs).length = Nat.min 128 128) := by show (S.v8l bs).length = Nat.min 128 128; rw [S.v8l_length, hlen]; rfl
  have HF : Hid (0 + (S.v8l bs).length ≤ (S.v8l (S.zeros 128)).length) := by show 0 + (S.v8l bs).length ≤ (S.v8l (S.zeros 128)).length; rw [S.v8l_length, S.v8l_length, S.zeros_length, hlen]; omega
  have HB : Hid (Below w.heap.size w (w.alloc (.cells (S.v8 (S.zeros 128)) 5))) := (Below.refl _ _).alloc (Nat.le_refl _) _
  have HD := hide hd
  have HL := hide hlen
  have HBS := hide hbs
  clear hd hn hlen hbs
  unfold Ow.ptr
  go_enter Try.func12, Try.ntmps12
  go_wp2_with fail
  refine (has_any o d n w HD.out).mono ?_
  rintro e w1 ⟨rfl, rfl⟩
  go_wp2_with (first | (refine wpList_copy_splice rfl (.tmp 12) (.tmp 19) 29 29 rfl 5 Try.underlying29 size5 _ _ _ _ _ _ rfl rfl w.heap.size 0 (S.v8l (S.zeros 128)) 5 (heap_alloc_new _ _) (S.v8l bs) HN.out (copy_src _ HS.out HB.out) HF.out (S.v8l_one _) w.heap.size (w.alloc (.cells (S.v8 (S.zeros 128)) 5)) (Below.refl _ _) (Nat.le_refl _) ?_; intro w2 HG2 hB2; have HG3 := hide (spl_rowT HG2); clear HG2; have HN2 := hide (HB.out.trans hB2); clear hB2))
  go_ret2
  refine ⟨rfl, ?_, HN2.out⟩
  have e : splice (S.zeros 128) 0 bs = bs := by rw [splice_front, HL.out]; simp [S.zeros]
  rw [← HBS.out, ← e]
  exact HG3.out
end Go.Proofs.Ytjnbjgkcliaipaa
