/- The document's hash of a leaf and of a node. -/
import Derived.Test.YtlbggkmblkhjoabDoorNa
import Derived.Test.YtlbggkmblkhjoabDoorMi
namespace Go.Proofs.YtlbggkmblkhjoabDoor
open Go.RowKit

/-- A digest is loaded out of a variable of its own. -/
theorem load_dig {w : World} {g : Nat} {D : List UInt8} (h : w.heap[g]? = some (.cells (S.v8 D) 31 (0, 0))) (hD : D.length = 32) : (Instr.loadAt 31 (.pointer (some ⟨g, 0, none⟩))).run Tryd.prog w = .ok (.agg (S.v8 D)) w := by
  have hr := run_loadVar_mid (P := Tryd.prog) w g 0 31 (S.v8l D) _ (rangeAt_row (cs := S.v8l D) h) Tryd.underlying31 rfl (by rw [S.v8l_length, hD]; exact size23)
  simp only [Instr.loadAt, Instr.sureAddr, Sem.run_bind, Sem.run_pure, Result.andThen_ok, hr]
  rfl
set_option maxHeartbeats 2000000 in
set_option maxRecDepth 10000 in
theorem nodeText_any (gh gT : Nat) (a : Int) (d e : List UInt8) (hd : d.length = 32) (he : e.length = 32) (w : World) (hH : HsAt w gh gT a) :
   Calls Tryd.prog 38 #[.pointer (some ⟨gh, 0, none⟩), .agg (S.v8 d), .agg (S.v8 e)] w fun r w' => ∃ v', r = .returned v' ∧ SliceAt w' v' (1 :: (d.take (S.cw a) ++ e.take (S.cw a))) ∧ Below w.heap.size w w' := by
  obtain ⟨n, hn⟩ : ∃ n, n = S.cw a := ⟨_, rfl⟩
  have hn32 : n ≤ 32 := by rw [hn]; exact S.cw_le a
  have HN := hide hn
  rw [← hn]
  have lh := block_lt_of_row hH.h
  have hc := (cells2 hH.h).2
  rw [← hn] at hc
  clear hn hH
  obtain ⟨W0, hW0⟩ : ∃ W, W = w.alloc (.cells (S.v8 d) 31) := ⟨_, rfl⟩
  obtain ⟨W1, hW1⟩ : ∃ W, W = W0.alloc (.cells (S.v8 e) 31) := ⟨_, rfl⟩
  obtain ⟨W2, hW2⟩ : ∃ W, W = W1.alloc (.cells #[.int .u8 1] 5) := ⟨_, rfl⟩
  have s0 : W0.heap.size = w.heap.size + 1 := by rw [hW0]; simp
  have s1 : W1.heap.size = w.heap.size + 2 := by rw [hW1]; simp [s0]
  have s2 : W2.heap.size = w.heap.size + 3 := by rw [hW2]; simp [s1]
  have B0 : Below w.heap.size w W0 := by rw [hW0]; exact (Below.refl _ _).alloc (Nat.le_refl _) _
  have B1 : Below W0.heap.size W0 W1 := by rw [hW1]; exact (Below.refl _ _).alloc (Nat.le_refl _) _
  have B2 : Below W1.heap.size W1 W2 := by rw [hW2]; exact (Below.refl _ _).alloc (Nat.le_refl _) _
  have ra : W2.heap[w.heap.size]? = some (.cells (S.v8 d) 31 (0, 0)) := (B2.block _ (by omega)).trans ((B1.block _ (by omega)).trans (by rw [hW0]; exact heap_alloc_new _ _))
  have rb : W2.heap[w.heap.size + 1]? = some (.cells (S.v8 e) 31 (0, 0)) := (B2.block _ (by omega)).trans (by rw [hW1, ← s0]; exact heap_alloc_new _ _)
  have rc : W2.heap[w.heap.size + 2]? = some (.cells #[.int .u8 1] 5 (0, 0)) := by rw [hW2, ← s1]; exact heap_alloc_new _ _
  have bb : Below w.heap.size w W2 := (B0.trans (B1.mono (by omega))).trans (B2.mono (by omega))
  have c2 : W2.cell? ⟨gh, 1, none⟩ = some (.int .i64 (n : Int)) := (bb.cell (p := ⟨gh, 1, none⟩) lh).trans hc
  have KEY := hide (run_append_bytes W2 (w.heap.size + 2) (.slice (some ⟨w.heap.size + 2, 0, none⟩) 1 1) (.slice (some ⟨w.heap.size, 0, none⟩) n 32) [1] (d.take n) 22 (own_one (x := 1) rfl rc (Nat.le_refl _)) (dig_part ra hd n hn32) (by simp; omega) (by omega))
  have RB := hide rb
  have BB := hide bb
  have S2 := hide s2
  have C0 := hide (show w.cell? ⟨gh, 1, none⟩ = some (.int .i64 (n : Int)) from hc)
  have HE := hide he
  have HD := hide hd
  have LH := hide lh
  have q1 : (0 : Int) ≤ (n : Int) := by omega
  have q2 : (n : Int) ≤ 32 := by omega
  have e2 := hW2
  rw [hW1, hW0] at e2
  rw [e2] at c2
  rw [e2] at KEY
  rw [show w.heap.size + 2 = w.heap.size + 1 + 1 from rfl] at KEY
  have E2 := hide e2
  clear hW0 hW1 hW2 s0 s1 s2 B0 B1 B2 ra rb rc bb hc hd he lh e2
  go_enter Tryd.func38, Tryd.ntmps38
  have KEY2 : Hid (∀ (v' : Value) (w' : World), Own w' (w.heap.size + 1 + 1) v' ([1] ++ d.take n) → Below (w.heap.size + 1 + 1) W2 w' → (w'.cell? ⟨gh, 1, none⟩ = some (.int .i64 (n : Int)) ∧ Below w.heap.size w w' ∧ ∃ v2 w2, (Builtin.append_ #[22, 22] 22 #[v', .slice (some ⟨w.heap.size + 1, 0, none⟩) n 32]).run Tryd.prog w' = .ok v2 w2 ∧ (Own w2 (w.heap.size + 1 + 1) v2 (([1] ++ d.take n) ++ e.take n) ∧ Below (w.heap.size + 1 + 1) w' w2))) := fun v' w' hO hB => by
    have hs := hB.size
    have hs2 := S2.out
    refine ⟨(hB.cell (p := ⟨gh, 1, none⟩) (by have := LH.out; show gh < _; omega)).trans ((BB.out.cell (p := ⟨gh, 1, none⟩) LH.out).trans C0.out), BB.out.trans (hB.mono (by omega)), ?_⟩
    exact run_append_bytes w' (w.heap.size + 1 + 1) v' _ ([1] ++ d.take n) (e.take n) 22 hO (dig_part ((hB.block _ (by omega)).trans RB.out) HE.out n hn32) (by simp; omega) (by omega)
  rw [E2.out] at KEY2
  clear E2 RB BB S2 C0 LH W2
  go_wp2_with (first | (at_builtin; (refine wpList_append_known rfl (.tmp 8) (.tmp 13) 22 22 rfl _ _ rfl rfl KEY.out ?_; rintro v' w' ⟨hO, hB⟩; obtain ⟨c3, b3, k3⟩ := KEY2.out v' w' hO hB; have K3 := hide k3; have B3 := hide b3; clear k3 b3 hO hB)) | (at_builtin; (refine wpList_append_known rfl (.tmp 15) (.tmp 20) 22 22 rfl _ _ rfl rfl K3.out ?_; rintro v2 w2 ⟨hO2, hB2⟩)))
  have HO := hide hO2
  have HB := hide (B3.out.trans (hB2.mono (by omega)))
  clear hO2 hB2
  go_wp2_with fail
  go_ret
  refine ⟨v2, rfl, ?_, HB.out⟩
  have := HO.out.sliceAt (by simp; omega)
  simpa using this
end Go.Proofs.YtlbggkmblkhjoabDoor
