/- Small facts about a []byte: its shape, its element, two of them one behind the other, and an append whose run is known. -/
import Derived.Test.YtlcilclhaahopaaDoorSum
import Derived.Stop.BytesEq
import Derived.Laws.OwnMore
import Derived.Lib.AppendZeros
import Derived.Lib.JoinLaws
namespace Go.Proofs.YtlcilclhaahopaaDoor
open Go.RowKit
end Go.Proofs.YtlcilclhaahopaaDoor
namespace Go.Proofs.YtlcilclhaahopaaDoor
open Go.RowKit
end Go.Proofs.YtlcilclhaahopaaDoor
namespace Go.Proofs.YtlcilclhaahopaaDoor
open Go.RowKit
/-- Block g holds slices that read as these lists, one behind the other. -/
def ListAt (w : World) (g : Nat) (bss : List (List UInt8)) : Prop :=
  g < w.heap.size ∧ ∀ j, j < bss.length → ∃ v, w.cell? ⟨g, j, none⟩ = some v ∧ SliceAt w v (bss.getD j [])
theorem ListAt.below {w w' : World} {g B : Nat} {bss : List (List UInt8)} (h : ListAt w g bss) (hb : Below B w w') (hB : w.heap.size ≤ B) : ListAt w' g bss :=
  ⟨Nat.lt_of_lt_of_le h.1 hb.size, fun j hj => by
    obtain ⟨v, h1, h2⟩ := h.2 j hj
    exact ⟨v, (hb.cell (p := ⟨g, j, none⟩) (Nat.lt_of_lt_of_le h.1 hB)).trans h1, h2.below hb hB⟩⟩
def S.pre (bss : List (List UInt8)) (k : Nat) : List UInt8 := (bss.take k).flatten
theorem S.pre_zero (bss : List (List UInt8)) : S.pre bss 0 = [] := rfl
theorem S.pre_all (bss : List (List UInt8)) : S.pre bss bss.length = bss.flatten := by rw [S.pre, List.take_length]
theorem S.pre_succ (bss : List (List UInt8)) (k : Nat) (h : k < bss.length) : S.pre bss (k + 1) = S.pre bss k ++ bss.getD k [] := by
  unfold S.pre
  rw [List.take_succ_eq_append_getElem h, List.flatten_append]
  simp [List.getD_eq_getElem?_getD, h]
theorem S.pre_le (bss : List (List UInt8)) (k : Nat) : (S.pre bss k).length ≤ bss.flatten.length := by
  have h : bss.flatten = (bss.take k).flatten ++ (bss.drop k).flatten := by rw [← List.flatten_append, List.take_append_drop]
  rw [h, List.length_append]
  exact Nat.le_add_right _ _
theorem run_append_fit (w : World) (g cap : Nat) (u : Value) (bs xs : List UInt8) (ty : TypeId) (hroom : Room w g cap bs) (hu : SliceAt w u xs) (hfit : bs.length + xs.length ≤ cap) :
    ∃ v' w', (Builtin.append_ #[30, 30] ty #[.slice (some ⟨g, 0, none⟩) bs.length cap, u]).run Tryd.prog w = .ok v' w' ∧ (v' = .slice (some ⟨g, 0, none⟩) (bs ++ xs).length cap ∧ Room w' g cap (bs ++ xs) ∧ Below g w w') := by
  obtain ⟨i, hi, hz0, hz1, hz2⟩ := info_parts infoB
  obtain ⟨cur, h1, h2, h3, h4⟩ := hroom
  have key : ∀ (ad : Addr) (c : Nat), (∀ j x, (S.v8l xs)[j]? = some x → w.cell? (ad.add j) = some x) → u = .slice (some ad) xs.length c → ∃ v' w', (Builtin.append_ #[30, 30] ty #[.slice (some ⟨g, 0, none⟩) bs.length cap, u]).run Tryd.prog w = .ok v' w' ∧ (v' = .slice (some ⟨g, 0, none⟩) (bs ++ xs).length cap ∧ Room w' g cap (bs ++ xs) ∧ Below g w w') := by
    rintro ad c hc rfl
    have hr := run_append_room (P := Tryd.prog) w 30 ty 5 i Tryd.underlying30 hi g bs.length cap cur h1 ad xs.length c (S.v8l xs) (by rw [S.v8l_length, hz1]; omega) hc (S.v8l_one _) hfit (by rw [S.v8l_length, hz1]; omega)
    rw [hz1, Nat.mul_one, S.v8l_length, h4] at hr
    refine ⟨_, _, hr, by rw [List.length_append], ⟨_, setRow_heap w g cur _ 5 _ h1, ?_, by rw [List.length_append]; exact hfit, ?_⟩, below_setRow (Below.refl _ _) (Nat.le_refl _) _⟩
    · simp only [List.size_toArray, List.length_append, List.length_drop, Array.length_toList, S.v8l_length]
      omega
    · rw [v8l_app]
      have hl : (S.v8l bs ++ S.v8l xs).length = (bs ++ xs).length := by rw [List.length_append, List.length_append, S.v8l_length, S.v8l_length]
      rw [← hl]
      exact List.take_left
  rcases hu with ⟨rfl, rfl⟩ | ⟨a, c, rfl, _, rfl⟩ | ⟨b, off, c, rfl, q1, q2, q3, q4⟩
  · refine ⟨.slice (some ⟨g, 0, none⟩) bs.length cap, w, ?_, by rw [List.append_nil], by rw [List.append_nil]; exact ⟨cur, h1, h2, h3, h4⟩, Below.refl _ _⟩
    simp [Builtin.append_, run_underlying Tryd.underlying30, sizeOf, typeInfo, hi, Builtin.lenOf, Builtin.firstCells, h3, storeCells]
  · exact key a c (fun j x h => by simp [S.v8l] at h) rfl
  · refine key ⟨b, off, none⟩ c (fun j x h => ?_) rfl
    obtain ⟨rfl, hj⟩ := S.v8l_at xs j x h
    rw [Addr.add_lit]
    exact q4 j hj
theorem make_room (c : Nat) (hc : c ≤ 140737488355328) (w : World) : (Instr.makeSlice 30 (.int .i64 0) (.int .i64 (c : Int))).run Tryd.prog w = .ok (.slice (some ⟨w.heap.size, 0, none⟩) 0 c) (w.alloc (.cells (madeCells #[.int .u8 0] c) 5)) :=
  run_make_room 30 5 (.int .u8 0) 1 Tryd.underlying30 infoB rfl .i64 .i64 c (by omega) (by omega) w
theorem room_made (w : World) (c : Nat) : Room (w.alloc (.cells (madeCells #[.int .u8 0] c) 5)) w.heap.size c [] :=
  ⟨_, heap_alloc_new w _, by simp [madeCells], Nat.zero_le _, rfl⟩
set_option maxHeartbeats 1600000 in
set_option maxRecDepth 100000 in
theorem join_any (g n c : Nat) (bss : List (List UInt8)) (w : World) (hn : n = bss.length) (hn8 : n ≤ 1000000) (hnc : n ≤ c) (hl : ListAt w g bss) (hT : bss.flatten.length ≤ 140737488355328) :
   Calls Tryd.prog 37 #[.slice (some ⟨g, 0, none⟩) n c] w fun e w' => ∃ g', e = .returned (.slice (some ⟨g', 0, none⟩) bss.flatten.length bss.flatten.length) ∧ w.heap.size ≤ g' ∧ Room w' g' bss.flatten.length bss.flatten ∧ Below w.heap.size w w' := by
  have HL := hide hl
  have HN := hide hn
  obtain ⟨T, hTT⟩ : ∃ T, T = bss.flatten.length := ⟨_, rfl⟩
  rw [← hTT] at hT ⊢
  have HT := hide hTT
  have hmk := make_room T hT
  clear hl hn hTT
  go_enter Tryd.func37, Tryd.ntmps37
  go_wp2
  go_loopw [3, 11] (fun s i wr => ∃ k : Nat, k ≤ n ∧ i = .int .i64 (k : Int) ∧ s = .int .i64 (((S.pre bss k).length : Nat) : Int) ∧ w = wr)
    (fun _ i _ => n - (intOf i).toNat)
  case atStart => exact ⟨0, by omega, rfl, rfl, rfl⟩
  case round =>
    obtain ⟨k, hk, rfl, rfl, rfl⟩ := hrel
    by_cases hlt : k < n
    · obtain ⟨v, hc, hv⟩ := HL.out.2 k (by have := HN.out; omega)
      obtain ⟨ao, len, cap, rfl, hlen, hm⟩ := hv.form
      have hps : (S.pre bss (k + 1)).length = (S.pre bss k).length + len := by rw [S.pre_succ bss k (by have := HN.out; omega), List.length_append, hlen]
      have hpl := S.pre_le bss (k + 1)
      rw [← HT.out, hps] at hpl
      obtain ⟨p, hp⟩ : ∃ p, p = (S.pre bss k).length := ⟨_, rfl⟩
      rw [← hp] at hpl hps ⊢
      have q1 : (0 : Int) ≤ (k : Int) := by omega
      have q2 : (k : Int) < (n : Int) := by omega
      have q3 : IntKind.i64.wrap ((p : Int) + (len : Int)) = (p : Int) + (len : Int) := by rw [IntKind.wrap_i64]; omega
      have q4 : IntKind.i64.wrap ((k : Int) + 1) = (k : Int) + 1 := by rw [IntKind.wrap_i64]; omega
      have PS := hide hps
      clear hp hv hlen hps
      go_wp2
      exact ⟨⟨k + 1, by omega, by simp, by rw [PS.out]; simp, trivial⟩, by simp [intOf]; omega⟩
    · obtain rfl : k = n := by omega
      have hpn : (S.pre bss k).length = T := by rw [HN.out, S.pre_all, HT.out]
      rw [hpn]
      clear hpn hlt hk
      go_wp2
      generalize hW0 : w.alloc _ = W0
      have R0 : Room W0 w.heap.size T [] := by rw [← hW0]; exact room_made w T
      have B0 : Below w.heap.size w W0 := by rw [← hW0]; exact (Below.refl _ _).alloc (Nat.le_refl _) _
      have RH := hide R0
      have BH := hide B0
      clear hW0 R0 B0
      go_loopw [6, 24] (fun s i wr => ∃ j : Nat, j ≤ k ∧ i = .int .i64 (j : Int) ∧ s = .slice (some ⟨w.heap.size, 0, none⟩) (S.pre bss j).length T ∧ Room wr w.heap.size T (S.pre bss j) ∧ Below w.heap.size w wr)
        (fun _ i _ => k - (intOf i).toNat)
      case atStart => exact ⟨0, by omega, rfl, rfl, RH.out, BH.out⟩
      case round =>
        obtain ⟨j, hj, rfl, rfl, hR, hB⟩ := hrel
        by_cases hlt : j < k
        · obtain ⟨v, hc, hv⟩ := (HL.out.below hB (Nat.le_refl _)).2 j (by have := HN.out; omega)
          obtain ⟨ao, len, cap, rfl, hlen, hm⟩ := hv.form
          have hps := S.pre_succ bss j (by have := HN.out; omega)
          have hpl := S.pre_le bss (j + 1)
          rw [← HT.out, hps, List.length_append] at hpl
          have q1 : (0 : Int) ≤ (j : Int) := by omega
          have q2 : (j : Int) < (k : Int) := by omega
          have q4 : IntKind.i64.wrap ((j : Int) + 1) = (j : Int) + 1 := by rw [IntKind.wrap_i64]; omega
          have PS := hide hps
          have RR := hide hR
          have BB := hide hB
          have SS := hide hv
          have PL := hide hpl
          clear hps hR hB hv hlen hm hpl
          go_wp2_with (at_builtin; (refine wpList_append_known rfl (.tmp 28) (.tmp 29) 30 30 rfl _ _ rfl rfl (run_append_fit _ w.heap.size T _ (S.pre bss j) (bss.getD j []) 30 RR.out SS.out PL.out) ?_; rintro v' w' ⟨rfl, hR', hB'⟩))
          have hR2 := hide hR'
          have hlen2 := congrArg List.length PS.out
          rw [List.length_append, List.getD_eq_getElem?_getD] at hlen2
          exact ⟨⟨j + 1, by omega, by simp, by rw [hlen2], by rw [PS.out]; exact hR2.out, BB.out.trans hB'⟩, by simp [intOf]; omega⟩
        · obtain rfl : j = k := by omega
          have hpn : S.pre bss j = bss.flatten := by rw [HN.out, S.pre_all]
          rw [hpn] at hR ⊢
          go_wp2
          go_ret
          exact ⟨_, by rw [HT.out]; rfl, Nat.le_refl _, hR, hB⟩
end Go.Proofs.YtlcilclhaahopaaDoor
