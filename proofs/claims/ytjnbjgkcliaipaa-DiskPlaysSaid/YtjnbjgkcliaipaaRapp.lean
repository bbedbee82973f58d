/- Appends onto the document's lists. -/
import Derived.Test.YtjnbjgkcliaipaaRread
namespace Go.Proofs.Ytjnbjgkcliaipaa
open Go.RowKit
/-- append of one element onto a list of the call's own. -/
theorem run_append_gen (t e : TypeId) (i : TypeInfo) (z : Value) (size bytes : Nat) (ht : Try.prog.underlying t = some (.slice e)) (hi : Try.prog.info? e = some i) (hz0 : i.zero = some z) (hz1 : i.size = size) (hz2 : i.bytes = bytes) (hzc : z.cells.size = size) (hsz : 0 < size) (hby : bytes ≤ 1000)
    (w : World) (v : Value) (n : Nat) (xs news : List Value) (g : Nat) (ty : TypeId) (hv : w.ownsRow 0 e size v n xs) (hl : news.length = size) (h1 : ∀ u ∈ news, u.oneCell' = true) (hg : w.heap[g]? = some (.cells news.toArray e (0, 0))) (hb : n ≤ 1000000) :
    ∃ v' w', (Builtin.append_ #[t, t] ty #[v, .slice (some ⟨g, 0, none⟩) 1 1]).run Try.prog w = .ok v' w' ∧ (w'.ownsRow 0 e size v' (n + 1) (xs ++ news) ∧ w.grownBy w' v.ownBlock ∧ ∀ k, v'.ownBlock = some k → v.ownBlock = some k ∨ w.heap.size ≤ k) := by
  have hc : ∀ j u, news[j]? = some u → w.cell? ((⟨g, 0, none⟩ : Addr).add j) = some u := fun j u hu => by
    rw [Addr.add_lit, Nat.zero_add, cell_of_row w g j _ e (0, 0) hg]
    simpa using hu
  have hbb : ∀ a : Nat, a ≤ 1000001 → a * bytes ≤ 140737488355328 := fun a ha => by
    have := Nat.mul_le_mul ha hby
    omega
  obtain ⟨v', w', hr, ho, hgr, _⟩ := run_append_own (P := Try.prog) w 0 t ty e i z size bytes ht hi hz0 hz1 hz2 hzc hsz v n xs hv ⟨g, 0, none⟩ 1 1 news (by omega) hc h1 (by simp only [maxLen]; omega) (hbb _ (by omega)) (Nat.zero_le _)
  refine ⟨v', w', hr, ho, hgr, fun k hk => ?_⟩
  rcases hv.2 with ⟨rfl, rfl⟩ | ⟨g', cap, cur, rfl, _, h4, h5, _, h6, h7⟩
  · obtain rfl : xs = [] := List.eq_nil_of_length_eq_zero (by rw [hv.1, Nat.zero_mul])
    obtain ⟨v2, w2, hr2, ho2, _, _⟩ := run_append_own (P := Try.prog) w w.heap.size t ty e i z size bytes ht hi hz0 hz1 hz2 hzc hsz (.slice none 0 0) 0 [] (World.ownsRow_nil w w.heap.size e size) ⟨g, 0, none⟩ 1 1 news (by omega) hc h1 (by simp only [maxLen]; omega) (hbb _ (by omega)) (Nat.le_refl _)
    rw [hr] at hr2
    simp only [Result.ok.injEq] at hr2
    obtain ⟨rfl, rfl⟩ := hr2
    exact Or.inr (ho2.lt k hk).1
  · by_cases hroom : n + 1 ≤ cap
    · have hr2 := run_append_room (P := Try.prog) w t ty e i ht hi g' n cap cur h4 ⟨g, 0, none⟩ 1 1 news (by rw [hz1]; omega) hc h1 hroom (by rw [hz1, hl, h6, ← Nat.succ_mul]; exact Nat.mul_le_mul_right _ hroom)
      rw [hr] at hr2
      simp only [Result.ok.injEq] at hr2
      rw [hr2.1] at hk
      exact Or.inl hk
    · have holds := World.ownsRow.cells hv (g := g') rfl
      have hr2 := run_append_grow (P := Try.prog) w t ty e i z ht hi hz0 ⟨g', 0, none⟩ n cap xs (by rw [hv.1, hz1]) holds ⟨g, 0, none⟩ 1 1 news (by rw [hz1]; omega) hc (by omega) (by omega) (growslice_fits (by omega) (by rw [hz2]; exact Nat.le_trans (hbb _ (by omega)) (by omega)))
      rw [hr] at hr2
      simp only [Result.ok.injEq] at hr2
      rw [hr2.1] at hk
      simp only [Value.ownBlock, Option.some.injEq] at hk
      exact Or.inr (by omega)
theorem info81 : (Try.prog.info? 81).map (fun i => (i.size, i.bytes)) = some (2, 32) := by kernel_rfl
theorem zero81 : (Try.prog.info? 81).bind (·.zero) = some (.agg #[.int .i64 0, .slice none 0 0]) := by kernel_rfl
theorem info29 : (Try.prog.info? 29).map (fun i => (i.size, i.bytes)) = some (1, 24) := by kernel_rfl
theorem zero29 : (Try.prog.info? 29).bind (·.zero) = some (.slice none 0 0) := by kernel_rfl
theorem append77 (w : World) (v x : Value) (m : Nat) (ws : List (Nat × Value)) (g : Nat) (hv : w.ownsRow 0 81 2 v ws.length (wcells ws)) (hx : x.oneCell' = true) (hg : w.heap[g]? = some (.cells #[.int .i64 (m : Int), x] 81 (0, 0))) (hb : ws.length ≤ 1000000) :
    ∃ v' w', (Builtin.append_ #[77, 77] 77 #[v, .slice (some ⟨g, 0, none⟩) 1 1]).run Try.prog w = .ok v' w' ∧ (w'.ownsRow 0 81 2 v' (ws ++ [(m, x)]).length (wcells (ws ++ [(m, x)])) ∧ w.grownBy w' v.ownBlock ∧ ∀ k, v'.ownBlock = some k → v.ownBlock = some k ∨ w.heap.size ≤ k) := by
  obtain ⟨i, hi, hz0, hz1, hz2⟩ := info_pair info81 zero81
  have h := run_append_gen 77 81 i _ 2 32 Try.underlying77 hi hz0 hz1 hz2 rfl (by omega) (by omega) w v ws.length (wcells ws) [.int .i64 (m : Int), x] g 77 hv rfl (fun u hu => by simp only [List.mem_cons, List.not_mem_nil, or_false] at hu; rcases hu with rfl | rfl; rfl; exact hx) hg hb
  have e : wcells (ws ++ [(m, x)]) = wcells ws ++ [.int .i64 (m : Int), x] := by simp [wcells]
  rw [e, List.length_append, List.length_singleton]
  exact h
theorem append57 (w : World) (v x : Value) (ts : List Value) (g : Nat) (hv : w.ownsRow 0 29 1 v ts.length ts) (hx : x.oneCell' = true) (hg : w.heap[g]? = some (.cells #[x] 29 (0, 0))) (hb : ts.length ≤ 1000000) :
    ∃ v' w', (Builtin.append_ #[57, 57] 57 #[v, .slice (some ⟨g, 0, none⟩) 1 1]).run Try.prog w = .ok v' w' ∧ (w'.ownsRow 0 29 1 v' (ts ++ [x]).length (ts ++ [x]) ∧ w.grownBy w' v.ownBlock ∧ ∀ k, v'.ownBlock = some k → v.ownBlock = some k ∨ w.heap.size ≤ k) := by
  obtain ⟨i, hi, hz0, hz1, hz2⟩ := info_pair info29 zero29
  have h := run_append_gen 57 29 i _ 1 24 Try.underlying57 hi hz0 hz1 hz2 rfl (by omega) (by omega) w v ts.length ts [x] g 57 hv rfl (fun u hu => by simp only [List.mem_cons, List.not_mem_nil, or_false] at hu; rw [hu]; exact hx) hg hb
  rw [List.length_append, List.length_singleton]
  exact h
theorem buildSlice77 (m : Nat) (x : Value) (w : World) : (Instr.buildSlice 77 1 #[(0, .agg #[.int .i64 (m : Int), x])]).run Try.prog w = .ok (.slice (some ⟨w.heap.size, 0, none⟩) 1 1) (w.alloc (.cells #[.int .i64 (m : Int), x] 81)) := by
  obtain ⟨i, hi, hz, hs, _⟩ := info_pair info81 zero81
  refine run_buildSlice w 77 81 1 _ _ i _ Try.underlying77 hi hz (by rw [hs]; omega) (by rw [hs]; omega) ?_
  have h := Great.fill_whole (s := 2) (by omega) [.agg #[.int .i64 (m : Int), x]] ((Array.range (1 * i.size)).map ((Value.agg #[.int .i64 0, .slice none 0 0]).cells[· % (Value.agg #[.int .i64 0, .slice none 0 0]).cells.size]!)) (fun v hv => by
    simp only [List.mem_singleton] at hv
    subst hv
    rfl) (by simp [hs])
  rw [hs] at h ⊢
  exact h
theorem buildSlice57 (x : Value) (hx : x.cells = #[x]) (w : World) : (Instr.buildSlice 57 1 #[(0, x)]).run Try.prog w = .ok (.slice (some ⟨w.heap.size, 0, none⟩) 1 1) (w.alloc (.cells #[x] 29)) := by
  obtain ⟨i, hi, hz, hs, _⟩ := info_pair info29 zero29
  refine run_buildSlice w 57 29 1 _ _ i _ Try.underlying57 hi hz (by rw [hs]; omega) (by rw [hs]; omega) ?_
  have h := Great.fill_whole (s := 1) (by omega) [x] ((Array.range (1 * i.size)).map ((Value.slice none 0 0).cells[· % (Value.slice none 0 0).cells.size]!)) (fun v hv => by
    simp only [List.mem_singleton] at hv
    subst hv
    rw [hx]
    rfl) (by simp [hs])
  rw [hs] at h ⊢
  rw [show ([x].flatMap fun v => v.cells.toList) = [x] from by simp [hx]] at h
  exact h
end Go.Proofs.Ytjnbjgkcliaipaa
