/- primes of the document's own answer: the first 64; nothing that was there changes. -/
import Derived.Test.YtlcilclhaahopaaDoorJoin
namespace Go.Proofs.YtlcilclhaahopaaDoor
open Go.RowKit
def P.p64 : List Nat := [2, 3, 5, 7, 11, 13, 17, 19, 23, 29, 31, 37, 41, 43, 47, 53, 59, 61, 67, 71, 73, 79, 83, 89, 97, 101, 103, 107, 109, 113, 127, 131, 137, 139, 149, 151, 157, 163, 167, 173, 179, 181, 191, 193, 197, 199, 211, 223, 227, 229, 233, 239, 241, 251, 257, 263, 269, 271, 277, 281, 283, 293, 307, 311]
def P.pr (p : Nat) : List Nat := P.p64.filter (fun q => decide (q < p))
theorem P.pr_few : ∀ p, p < 312 → (P.pr p).length < 64 := by decide +kernel
theorem P.pr_all : P.pr 312 = P.p64 := by decide +kernel
theorem P.pr_two : P.pr 2 = [] := by decide +kernel
theorem P.pr_next : ∀ p, p < 312 → (2 ≤ p → P.pr (p + 1) = if (P.pr p).all (fun q => p % q != 0) then P.pr p ++ [p] else P.pr p) := by decide +kernel
theorem P.pr_pos (p : Nat) : ∀ q ∈ P.pr p, 2 ≤ q := by
  intro q hq
  have h : ∀ q ∈ P.p64, 2 ≤ q := by decide +kernel
  exact h q (List.mem_filter.1 hq).1
def v64l (l : List Nat) : List Value := l.map fun (x : Nat) => Value.int .u64 (x : Int)
theorem info51 : (Tryd.prog.info? 46).map (fun i => (i.zero, i.size, i.bytes)) = some (some (.int .u64 0), 1, 8) := by kernel_rfl
theorem run_append_u64 (w : World) (base gx : Nat) (v : Value) (l : List Nat) (p : Nat) (ty : TypeId) (h : w.ownsRow base 46 1 v l.length (v64l l)) (hx : w.heap[gx]? = some (.cells #[.int .u64 (p : Int)] 46 (0, 0))) (hl : l.length ≤ 1000) (hb : base ≤ w.heap.size) :
    ∃ v' w', (Builtin.append_ #[104, 104] ty #[v, .slice (some ⟨gx, 0, none⟩) 1 1]).run Tryd.prog w = .ok v' w' ∧ (w'.ownsRow base 46 1 v' (l ++ [p]).length (v64l (l ++ [p])) ∧ Below base w w') := by
  obtain ⟨i, hi, hz0, hz1, hz2⟩ := info_parts info51
  obtain ⟨v', w', hr, ho, hg, _⟩ := run_append_own (P := Tryd.prog) w base 104 ty 46 i (.int .u64 0) 1 8 Tryd.underlying104 hi hz0 hz1 hz2 rfl (by omega) v l.length (v64l l) h ⟨gx, 0, none⟩ 1 1 [.int .u64 (p : Int)] (by simp)
    (fun j u hu => by rw [Addr.add_lit, Nat.zero_add, cell_of_row w gx j _ 46 (0, 0) hx]; simpa using hu) (fun u hu => by rw [List.mem_singleton.1 hu]; rfl) (by simp only [maxLen]; omega) (by omega) hb
  refine ⟨v', w', hr, ?_, (Below.refl _ _).grown hg hb (fun k hk => (h.lt k hk).1)⟩
  rw [List.length_append, List.length_singleton]
  have e : v64l (l ++ [p]) = v64l l ++ [.int .u64 (p : Int)] := by simp [v64l]
  rw [e]
  exact ho
theorem own_shape {w : World} {base n : Nat} {v : Value} {xs : List Value} (h : w.ownsRow base 46 1 v n xs) : ∃ ao cap, v = .slice ao n cap := by
  rcases h.2 with ⟨rfl, rfl⟩ | ⟨g, cap, cur, rfl, _⟩
  · exact ⟨_, _, rfl⟩
  · exact ⟨_, _, rfl⟩
theorem own_kept {w W : World} {base n : Nat} {v : Value} {xs : List Value} (h : w.ownsRow base 46 1 v n xs) (hh : ∀ k, k < w.heap.size → W.heap[k]? = w.heap[k]?) : W.ownsRow base 46 1 v n xs := by
  refine ⟨h.1, ?_⟩
  rcases h.2 with h2 | ⟨g, cap, cur, rfl, h3, h4, h5⟩
  · exact Or.inl h2
  · exact Or.inr ⟨g, cap, cur, rfl, h3, (hh g (block_lt_of_row h4)).trans h4, h5⟩
theorem own_cell {w : World} {base cap : Nat} {ao : Option Addr} {l : List Nat} (h : w.ownsRow base 46 1 (.slice ao l.length cap) l.length (v64l l)) (j : Nat) (hj : j < l.length) : ∃ g, ao = some ⟨g, 0, none⟩ ∧ w.cell? ⟨g, j, none⟩ = some (.int .u64 ((l.getD j 0 : Nat) : Int)) := by
  rcases h.2 with ⟨h2, h3⟩ | ⟨g, cap', cur, h2, h3, h4, h5⟩
  · omega
  · simp only [Value.slice.injEq] at h2
    obtain ⟨rfl, _, rfl⟩ := h2
    refine ⟨g, rfl, ?_⟩
    rw [World.ownsRow.cellAt h j (by omega)]
    simp [v64l, List.getElem?_eq_getElem hj, List.getD_eq_getElem?_getD]
set_option maxHeartbeats 4000000 in
set_option maxRecDepth 100000 in
theorem primes_64 (w : World) :
   Calls Tryd.prog 53 #[.int .i64 64] w fun e w' => ∃ v, e = .returned v ∧ w'.ownsRow w.heap.size 46 1 v 64 (v64l P.p64) ∧ Below w.heap.size w w' := by
  go_enter Tryd.func53, Tryd.ntmps53
  go_wp2
  go_loopw [3, 4] (fun v i wr => ∃ p : Nat, 2 ≤ p ∧ p ≤ 312 ∧ i = .int .u64 (p : Int) ∧ wr.ownsRow w.heap.size 46 1 v (P.pr p).length (v64l (P.pr p)) ∧ Below w.heap.size w wr) (fun _ i _ => 312 - (intOf i).toNat)
  case atStart => exact ⟨2, by omega, by omega, rfl, by rw [P.pr_two]; exact World.ownsRow_nil w _ 46 1, Below.refl _ _⟩
  case round =>
    obtain ⟨p, h2, h3, rfl, hown, hbl⟩ := hrel
    obtain ⟨ao, cap, hv⟩ := own_shape hown
    subst hv
    have hq := P.pr_pos p
    have HO := hide hown
    have BL := hide hbl
    have q0 : IntKind.u64.wrap ((p : Int) + 1) = (p : Int) + 1 := by rw [IntKind.wrap_u64]; omega
    by_cases hlt : p < 312
    · have hfew := P.pr_few p hlt
      have NX := hide (P.pr_next p hlt h2)
      clear hown hbl
      obtain ⟨l, hl⟩ : ∃ l, l = P.pr p := ⟨_, rfl⟩
      rw [← hl] at HO hfew NX hq ⊢
      obtain ⟨n, hn⟩ : ∃ n, n = l.length := ⟨_, rfl⟩
      have q1 : ((n : Nat) : Int) < 64 := by omega
      have HN := hide hn
      rw [← hn] at HO ⊢
      clear hn hl hfew
      go_wp2
      have HO2 : Hid (wr.ownsRow w.heap.size 46 1 (.slice ao l.length cap) l.length (v64l l)) := by rw [← HN.out]; exact HO
      have HO3 : Hid (wr.ownsRow w.heap.size 46 1 (.slice ao n cap) l.length (v64l l)) := by
        show wr.ownsRow w.heap.size 46 1 (.slice ao n cap) l.length (v64l l)
        rw [← HN.out]
        exact HO.out
      obtain ⟨wo, rfl⟩ : ∃ wo : World, wo = wr := ⟨_, rfl⟩
      go_loopw [5, 6] (fun b i wr => ∃ j : Nat, j ≤ n ∧ i = .int .i64 (j : Int) ∧ b = .bool ((l.take j).all fun q => p % q != 0) ∧ wo = wr) (fun _ i _ => n - (intOf i).toNat)
      case atStart => exact ⟨0, by omega, rfl, rfl, rfl⟩
      case round =>
        obtain ⟨j, hj, rfl, rfl, rfl⟩ := hrel
        by_cases hjl : j < n
        · have hjl' : j < l.length := by have := HN.out; omega
          obtain ⟨g, rfl, hc⟩ := own_cell HO2.out j hjl'
          have h2q : 2 ≤ l.getD j 0 := by
            rw [List.getD_eq_getElem?_getD, List.getElem?_eq_getElem hjl']
            exact hq _ (List.getElem_mem hjl')
          have hts : (l.take (j + 1)).all (fun q => p % q != 0) = ((l.take j).all (fun q => p % q != 0) && (p % l.getD j 0 != 0)) := by
            rw [List.take_succ_eq_append_getElem hjl', List.all_append]
            simp [List.getD_eq_getElem?_getD, hjl']
          have TS := hide hts
          generalize l.getD j 0 = q at *
          generalize hb : (l.take j).all (fun q => p % q != 0) = b at *
          have q2 : (0 : Int) ≤ (j : Int) := by omega
          have q3 : (j : Int) < (n : Int) := by omega
          have q4 : ¬ ((q : Nat) : Int) = 0 := by omega
          have q5 : IntKind.i64.wrap ((j : Int) + 1) = (j : Int) + 1 := by rw [IntKind.wrap_i64]; omega
          have q6 : ((p : Int)).tmod (q : Int) = ((p % q : Nat) : Int) := by rw [Int.tmod_eq_emod_of_nonneg (by omega)]; rfl
          clear hts hb
          cases b with
          | false =>
            go_wp2
            exact ⟨⟨j + 1, by omega, by simp, by rw [TS.out]; rfl, trivial⟩, by simp [intOf]; omega⟩
          | true =>
            by_cases h0 : p % q = 0
            · rw [h0] at q6
              go_wp2
              exact ⟨⟨j + 1, by omega, by simp, by rw [TS.out, h0]; rfl, trivial⟩, by simp [intOf]; omega⟩
            · have q7 : ¬ (((p % q : Nat) : Int) = 0) := by omega
              go_wp2
              exact ⟨⟨j + 1, by omega, by simp, by rw [TS.out, show ((p : Int) % (q : Int)) = ((p % q : Nat) : Int) from rfl, Bool.true_and, (bne_iff_ne).2 q7, (bne_iff_ne).2 h0], trivial⟩, by simp [intOf]; omega⟩
        · obtain rfl : n = j := by omega
          have hall : (l.take n).all (fun q => p % q != 0) = l.all (fun q => p % q != 0) := by rw [List.take_of_length_le (by have := HN.out; omega)]
          rw [hall]
          have NX2 := NX.out
          generalize l.all (fun q => p % q != 0) = b at *
          cases b with
          | false =>
            go_wp2
            rw [if_neg (by simp)] at NX2
            refine ⟨⟨p + 1, by omega, by omega, by simp, ?_, BL.out⟩, by simp [intOf]; omega⟩
            rw [NX2]
            exact HO3.out
          | true =>
            go_wp2_with (at_builtin; (refine wpList_append_known rfl (.tmp 30) (.tmp 32) 104 104 rfl _ _ rfl rfl (run_append_u64 _ w.heap.size wo.heap.size _ l p 104 (own_kept HO3.out (fun k hk => heap_alloc_old _ _ hk)) (heap_alloc_new _ _) (by have := HN.out; omega) (Nat.le_trans BL.out.size (by simp))) ?_; rintro v' w' ⟨ho, hbx⟩))
            rw [if_pos rfl] at NX2
            refine ⟨⟨p + 1, by omega, by omega, by simp, ?_, ?_⟩, by simp [intOf]; omega⟩
            · rw [NX2]
              exact ho
            · exact (BL.out.alloc BL.out.size _).trans hbx
    · obtain rfl : p = 312 := by omega
      rw [P.pr_all] at HO ⊢
      clear hown hbl
      have e64 : P.p64.length = 64 := rfl
      rw [e64] at HO ⊢
      go_wp2
      go_ret
      exact ⟨_, rfl, HO.out, BL.out⟩
end Go.Proofs.YtlcilclhaahopaaDoor
