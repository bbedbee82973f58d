/- slices.Clone of sectors and of writes: the same in new memory. -/
import Derived.Test.YtjnbjgkcliaipaaRapp
import Derived.Lib.LazyBuf
namespace Go.Proofs.Ytjnbjgkcliaipaa
open Go.RowKit
theorem empty67 (w : World) : (Instr.buildSlice 67 0 #[]).run Try.prog w = .ok (.slice (some ⟨w.heap.size, 0, none⟩) 0 0) (w.alloc (.cells #[] 73)) := by
  obtain ⟨i, hi, _, _, _⟩ := info_pair info73 zero73
  simp [Instr.buildSlice, run_underlying Try.underlying67, sizeOf, typeInfo, hi, newRow, Instr.fill, Array.range_zero']
theorem empty68 (w : World) : (Instr.buildSlice 68 0 #[]).run Try.prog w = .ok (.slice (some ⟨w.heap.size, 0, none⟩) 0 0) (w.alloc (.cells #[] 75)) := by
  obtain ⟨i, hi, _, _, _⟩ := info_pair info75 zero75
  simp [Instr.buildSlice, run_underlying Try.underlying68, sizeOf, typeInfo, hi, newRow, Instr.fill, Array.range_zero']
namespace S
def scs (ss : List (List UInt8)) : List Value := ss.flatMap v8l
theorem scs_length (ss : List (List UInt8)) (h : ∀ i, i < ss.length → (ss.getD i []).length = 128) : (scs ss).length = ss.length * 128 := by
  induction ss with
  | nil => rfl
  | cons x r ih =>
    have h1 : x.length = 128 := h 0 (by simp)
    have h2 := ih (fun i hi => h (i + 1) (by simpa using hi))
    simp only [scs, List.flatMap_cons, List.length_append, v8l_length, h1, List.length_cons] at h2 ⊢
    omega
theorem scs_at (ss : List (List UInt8)) (h : ∀ i, i < ss.length → (ss.getD i []).length = 128) (i : Nat) (hi : i < ss.length) (j : Nat) (v : Value) (hv : (v8l (ss.getD i []))[j]? = some v) : (scs ss)[i * 128 + j]? = some v := by
  induction ss generalizing i with
  | nil => simp at hi
  | cons x r ih =>
    have h1 : x.length = 128 := h 0 (by simp)
    have hl : (v8l x).length = 128 := by rw [v8l_length, h1]
    show (v8l x ++ scs r)[i * 128 + j]? = some v
    cases i with
    | zero =>
      have hv' : (v8l x)[j]? = some v := hv
      have hj := (List.getElem?_eq_some_iff.1 hv').1
      rw [Nat.zero_mul, Nat.zero_add, List.getElem?_append_left hj]
      exact hv'
    | succ i =>
      rw [List.getElem?_append_right (by omega), hl]
      have := ih (fun i hi => h (i + 1) (by simpa using hi)) i (by simpa using hi) hv
      have e : (i + 1) * 128 + j - 128 = i * 128 + j := by omega
      rw [e]
      exact this
theorem scs_of (ss : List (List UInt8)) (h : ∀ i, i < ss.length → (ss.getD i []).length = 128) (p : Nat) (v : Value) (hv : (scs ss)[p]? = some v) : ∃ i j, i < ss.length ∧ p = i * 128 + j ∧ (v8l (ss.getD i []))[j]? = some v := by
  have hp := (List.getElem?_eq_some_iff.1 hv).1
  rw [scs_length ss h] at hp
  have hi : p / 128 < ss.length := by omega
  have hj : p % 128 < (v8l (ss.getD (p / 128) [])).length := by rw [v8l_length, h _ hi]; omega
  refine ⟨p / 128, p % 128, hi, by omega, ?_⟩
  have := scs_at ss h (p / 128) hi (p % 128) _ (List.getElem?_eq_getElem hj)
  rw [show p / 128 * 128 + p % 128 = p from by omega] at this
  rw [List.getElem?_eq_getElem hj, ← this]
  exact hv
theorem scs_one (ss : List (List UInt8)) : ∀ v ∈ scs ss, v.oneCell' = true := by
  intro v hv
  simp only [scs, List.mem_flatMap] at hv
  obtain ⟨x, _, hx⟩ := hv
  exact v8l_one x v hx
theorem pcs_one (p : Ws) : ∀ v ∈ pcs p, v.oneCell' = true := by
  intro v hv
  simp only [pcs, List.mem_flatMap] at hv
  obtain ⟨x, _, hx⟩ := hv
  exact pc_one x v hx
end S
theorem secAt_own {w : World} {v : Value} {n : Nat} {ss : List (List UInt8)} (h : w.ownsRow 0 73 128 v n (S.scs ss)) (hn : n = ss.length) (hl : ∀ i, i < ss.length → (ss.getD i []).length = 128) (h0 : 0 < ss.length) : ∃ g cap, v = .slice (some ⟨g, 0, none⟩) ss.length cap ∧ ss.length ≤ cap ∧ SecAt w g ss := by
  rcases h.2 with ⟨_, h3⟩ | ⟨g, cap, cur, h1, _, h4, h5, h6, h7, h8⟩
  · omega
  · subst hn
    refine ⟨g, cap, h1, h5, ⟨cur, h4, by omega⟩, hl, fun i hi j x hx => ?_⟩
    subst h1
    have hj := (List.getElem?_eq_some_iff.1 hx).1
    rw [S.v8l_length, hl i hi] at hj
    have := h.cellAt (i * 128 + j) (by omega)
    rw [this]
    exact S.scs_at ss hl i hi j x hx
set_option maxHeartbeats 800000 in
theorem cloneS_any (g n cap : Nat) (ss : List (List UInt8)) (w : World) (h : SecAt w g ss) (hn : n = ss.length) (h0 : 0 < ss.length) (h8 : ss.length ≤ 8192) :
   Calls Try.prog 40 #[.slice (some ⟨g, 0, none⟩) n cap] w fun e w' => ∃ g' cap', e = .returned (.slice (some ⟨g', 0, none⟩) n cap') ∧ n ≤ cap' ∧ SecAt w' g' ss ∧ w.heap.size ≤ g' ∧ Below w.heap.size w w' := by
  obtain ⟨i, hi, hz0, hz1, hz2⟩ := info_pair info73 zero73
  have hbe := empty67
  have bX : Below w.heap.size w (w.alloc (.cells #[] 73)) := (Below.refl _ _).alloc (Nat.le_refl _) _
  have UE : Hid ((w.alloc (.cells #[] 73)).ownsRow w.heap.size 73 128 (.slice (some ⟨w.heap.size, 0, none⟩) 0 0) 0 []) := ⟨rfl, Or.inr ⟨w.heap.size, 0, #[], rfl, Nat.le_refl _, heap_alloc_new _ _, Nat.le_refl _, Nat.zero_le _, rfl, rfl⟩⟩
  have hX := h.chg (p := fun _ => False) (Chg.ofBelow' bX) (fun e => e)
  have RUN : Hid (∃ v' w', (Builtin.append_ #[67, 67] 67 #[.slice (some ⟨w.heap.size, 0, none⟩) 0 0, .slice (some ⟨g, 0, none⟩) n cap]).run Try.prog (w.alloc (.cells #[] 73)) = .ok v' w' ∧ (w'.ownsRow w.heap.size 73 128 v' n (S.scs ss) ∧ (w.alloc (.cells #[] 73)).grownBy w' (some w.heap.size))) := by
    obtain ⟨v', w', hr, ho, hgr, _⟩ := run_append_own (P := Try.prog) (w.alloc (.cells #[] 73)) w.heap.size 67 67 73 i _ 128 128 Try.underlying67 hi hz0 hz1 hz2 (by simp [Value.cells, S.v8_size, S.zeros_length]) (by omega) (.slice (some ⟨w.heap.size, 0, none⟩) 0 0) 0 [] UE.out ⟨g, 0, none⟩ n cap (S.scs ss) (by rw [S.scs_length ss h.len, hn]) (fun p u hu => by
      obtain ⟨a, j, ha, hp, hv⟩ := S.scs_of ss h.len p u hu
      rw [Addr.add_lit, Nat.zero_add, hp]
      exact hX.cells a ha j u hv) (S.scs_one ss) (by simp only [maxLen]; omega) (by omega) bX.size
    rw [Nat.zero_add, List.nil_append] at ho
    exact ⟨v', w', hr, ho, hgr⟩
  have BX := hide bX
  have HN := hide hn
  have HL := hide h.len
  have H0 := hide h0
  clear h hX bX hn h0 h8 hi hz0 hz1 hz2
  have hnil : ∀ W : World, (binOp .eql 67 (.slice (some ⟨g, 0, none⟩) n cap) (.slice none 0 0)).run Try.prog W = .ok (.bool false) W := fun W => Go.run_eql_slice_nil W 67 73 _ _ _ Try.underlying67
  go_enter Try.func40, Try.ntmps40
  go_wp2_with (first | (refine wpList_buildSlice_known rfl 67 0 [] rfl _ _ (hbe _) ?_) | (at_builtin; refine wpList_append_known rfl (.tmp 5) (.tmp 6) 67 67 rfl _ _ rfl rfl RUN.out ?_; rintro v2 Y ⟨hu, hgr⟩; have HU := hide hu; have HGR := hide hgr; clear hu hgr))
  go_ret
  have hu0 : Y.ownsRow 0 73 128 v2 n (S.scs ss) := by
    refine ⟨HU.out.1, ?_⟩
    rcases HU.out.2 with h2 | ⟨g1, c1, cur, h2, h3, h4⟩
    · exact Or.inl h2
    · exact Or.inr ⟨g1, c1, cur, h2, Nat.zero_le _, h4⟩
  obtain ⟨g', cap', rfl, h5, h6⟩ := secAt_own hu0 HN.out HL.out H0.out
  refine ⟨g', cap', by rw [HN.out]; rfl, by rw [HN.out]; exact h5, h6, (HU.out.lt g' rfl).1, ?_⟩
  exact BX.out.trans (((Chg.refl (fun j => w.heap.size ≤ j) _).grown HGR.out (fun j _ e => by simp only [Option.some.injEq] at e; omega)).below w.heap.size BX.out.size (fun j hj e => by omega))
set_option maxHeartbeats 800000 in
theorem cloneW_any (v : Value) (p : S.Ws) (w : World) (h : PRow w v p) (h8 : p.length ≤ 1000000) :
   Calls Try.prog 41 #[v] w fun e w' => ∃ v', e = .returned v' ∧ PRow w' v' p ∧ (∀ k, v'.ownBlock = some k → w.heap.size ≤ k) ∧ Below w.heap.size w w' := by
  rcases h.shape with ⟨rfl, rfl⟩ | ⟨g, cap, rfl, _⟩
  · clear h
    have hnil : ∀ W : World, (binOp .eql 68 (.slice none 0 0) (.slice none 0 0)).run Try.prog W = .ok (.bool true) W := fun W => Go.run_eql_slice_nil W 68 75 _ _ _ Try.underlying68
    go_enter Try.func41, Try.ntmps41
    go_wp2
    go_ret
    exact ⟨_, rfl, prow_nil _, fun k hk => (by cases hk), Below.refl _ _⟩
  · obtain ⟨i, hi, hz0, hz1, hz2⟩ := info_pair info75 zero75
    have hbe := empty68
    have bX : Below w.heap.size w (w.alloc (.cells #[] 75)) := (Below.refl _ _).alloc (Nat.le_refl _) _
    have UE : Hid ((w.alloc (.cells #[] 75)).ownsRow w.heap.size 75 129 (.slice (some ⟨w.heap.size, 0, none⟩) 0 0) 0 []) := ⟨rfl, Or.inr ⟨w.heap.size, 0, #[], rfl, Nat.le_refl _, heap_alloc_new _ _, Nat.le_refl _, Nat.zero_le _, rfl, rfl⟩⟩
    have hX : PRow (w.alloc (.cells #[] 75)) (.slice (some ⟨g, 0, none⟩) p.length cap) p := h.kept (fun k hk => bX.block k (h.lt hk))
    obtain ⟨N, hN⟩ : ∃ N, N = p.length := ⟨_, rfl⟩
    rw [← hN] at hX h8 ⊢
    have RUN : Hid (∃ v' w', (Builtin.append_ #[68, 68] 68 #[.slice (some ⟨w.heap.size, 0, none⟩) 0 0, .slice (some ⟨g, 0, none⟩) N cap]).run Try.prog (w.alloc (.cells #[] 75)) = .ok v' w' ∧ (w'.ownsRow w.heap.size 75 129 v' N (S.pcs p) ∧ (w.alloc (.cells #[] 75)).grownBy w' (some w.heap.size))) := by
      obtain ⟨v', w', hr, ho, hgr, _⟩ := run_append_own (P := Try.prog) (w.alloc (.cells #[] 75)) w.heap.size 68 68 75 i _ 129 136 Try.underlying68 hi hz0 hz1 hz2 (by simp [Value.cells, S.v8l_length, S.zeros_length]) (by omega) (.slice (some ⟨w.heap.size, 0, none⟩) 0 0) 0 [] UE.out ⟨g, 0, none⟩ N cap (S.pcs p) (by rw [h.1, hN]) (fun q u hu => World.ownsRow.cells hX (g := g) rfl q u hu) (S.pcs_one p) (by simp only [maxLen]; omega) (by omega) bX.size
      rw [Nat.zero_add, List.nil_append] at ho
      exact ⟨v', w', hr, ho, hgr⟩
    have BX := hide bX
    have HN := hide hN
    clear h hX bX hN h8 hi hz0 hz1 hz2
    have hnil : ∀ W : World, (binOp .eql 68 (.slice (some ⟨g, 0, none⟩) N cap) (.slice none 0 0)).run Try.prog W = .ok (.bool false) W := fun W => Go.run_eql_slice_nil W 68 75 _ _ _ Try.underlying68
    go_enter Try.func41, Try.ntmps41
    go_wp2_with (first | (refine wpList_buildSlice_known rfl 68 0 [] rfl _ _ (hbe _) ?_) | (at_builtin; refine wpList_append_known rfl (.tmp 5) (.tmp 6) 68 68 rfl _ _ rfl rfl RUN.out ?_; rintro v2 Y ⟨hu, hgr⟩; have HU := hide hu; have HGR := hide hgr; clear hu hgr))
    go_ret
    refine ⟨v2, rfl, ?_, fun k hk => (HU.out.lt k hk).1, ?_⟩
    · have h := HU.out
      rw [HN.out] at h
      refine ⟨h.1, ?_⟩
      rcases h.2 with h2 | ⟨g1, c1, cur, h2, h3, h4⟩
      · exact Or.inl h2
      · exact Or.inr ⟨g1, c1, cur, h2, Nat.zero_le _, h4⟩
    · exact BX.out.trans (((Chg.refl (fun j => w.heap.size ≤ j) _).grown HGR.out (fun j _ e => by simp only [Option.some.injEq] at e; omega)).below w.heap.size BX.out.size (fun j hj e => by omega))
end Go.Proofs.Ytjnbjgkcliaipaa
