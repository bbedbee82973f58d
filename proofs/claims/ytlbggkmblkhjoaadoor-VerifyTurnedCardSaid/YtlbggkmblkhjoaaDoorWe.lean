/- A step's text; where a way leads to. -/
import Derived.Test.YtlbggkmblkhjoaaDoorWd
import Derived.Test.YtlbggkmblkhjoaaDoorMi
namespace Go.Proofs.YtlbggkmblkhjoaaDoor
open Go.RowKit

set_option maxHeartbeats 4000000 in
set_option maxRecDepth 10000 in
theorem stext_any (pv : Value) (D t : List UInt8) (hD : D.length = 32) (w : World) (hp : PartsAt w pv t) (hl : t.length ≤ 140737488355328) :
   Calls Tryd.prog 60 #[.agg (S.stc (pv, D)).toArray] w fun e w' => ∃ g', e = .returned (.slice (some ⟨g', 0, none⟩) t.length t.length) ∧ Room w' g' t.length t ∧ Below w.heap.size w w' := by
  obtain ⟨g, n, bss, rfl, hn, hn3, hL, hf⟩ := hp
  have HL := hide hL
  have HF := hide hf
  have HN := hide hn
  have HLn := hide hl
  obtain ⟨cs, hcs⟩ : ∃ cs, cs = S.stc (.slice (some ⟨g, 0, none⟩) n n, D) := ⟨_, rfl⟩
  have h33 : cs.length = 33 := by rw [hcs, S.stc_length _ hD]
  rw [← hcs]
  obtain ⟨Y, hY⟩ : ∃ Y, Y = w.alloc (.cells cs.toArray 91) := ⟨_, rfl⟩
  have rY : Y.heap[w.heap.size]? = some (.cells cs.toArray 91 (0, 0)) := by rw [hY]; exact heap_alloc_new _ _
  have c0 : Y.cell? ⟨w.heap.size, 0, none⟩ = some (.slice (some ⟨g, 0, none⟩) n n) := by rw [cell_of_row Y _ 0 _ _ _ rY, hcs]; rfl
  have BY : Hid (Below w.heap.size w Y) := by rw [hY]; exact (Below.refl _ _).alloc (Nat.le_refl _) _
  rw [hY] at c0
  have HY := hide hY
  clear hL hf hn hl hcs h33 hY rY
  go_enter Tryd.func60, Tryd.ntmps60
  go_wp2_with fail
  rw [← HY.out]
  refine (join_any g n n bss Y HN.out (by omega) (Nat.le_refl _) (HL.out.below BY.out (Nat.le_refl _)) (by rw [HF.out]; exact HLn.out)).mono ?_
  rintro e w2 ⟨g', rfl, h1, h2, h3⟩
  rw [HF.out] at h2 ⊢
  have H2 := hide h2
  have B2 := hide (BY.out.trans (h3.mono BY.out.size))
  obtain ⟨m, hm⟩ : ∃ m, m = t.length := ⟨_, rfl⟩
  rw [← hm] at H2 ⊢
  have HM := hide hm
  clear h1 h2 h3 c0 hm HLn
  go_wp2_with fail
  go_ret
  rw [← HM.out]
  exact ⟨g', rfl, H2.out, B2.out⟩
set_option maxHeartbeats 4000000 in
set_option maxRecDepth 10000 in
theorem top_any (a : Int) (B : Nat) (v : Value) (ts : List (List UInt8)) (w : World) (h : WyIs a B w v ts) (hn : 1 ≤ ts.length) (hm : ts.length ≤ 100000) :
   Calls Tryd.prog 34 #[v] w fun e w' => e = .returned (.agg (S.v8 (S.hsh a (S.lastOf ts)))) ∧ Below w.heap.size w w' := by
  obtain ⟨g, cap, pv, rfl, hg, hr, hr2, hp⟩ := h.at (ts.length - 1) (by omega)
  have hlast : ts.getD (ts.length - 1) [] = S.lastOf ts := by rw [S.lastOf, List.getLast?_eq_getElem?, List.getD_eq_getElem?_getD]
  rw [hlast] at hr2
  obtain ⟨D, hD⟩ : ∃ D, D = S.hsh a (S.lastOf ts) := ⟨_, rfl⟩
  have LD := hide (show D.length = 32 by rw [hD, S.hsh_length])
  rw [← hD] at hr2 ⊢
  obtain ⟨n, hN⟩ : ∃ n, n = ts.length := ⟨_, rfl⟩
  rw [← hN] at hr2 hn hm ⊢
  obtain ⟨m, hM⟩ : ∃ m, m = n - 1 := ⟨_, rfl⟩
  rw [← hM] at hr2
  have e1 : IntKind.i64.wrap ((n : Int) - 1) = (m : Int) := by rw [IntKind.wrap_i64]; omega
  have q1 : (0 : Int) ≤ (m : Int) := by omega
  have q2 : (m : Int) < (n : Int) := by omega
  have hA := alloc31 w
  obtain ⟨A, hAA⟩ : ∃ A, A = w.alloc (.cells (S.v8 (S.zeros 32)) 23) := ⟨_, rfl⟩
  rw [← hAA] at hA
  have bA : Below w.heap.size w A := by rw [hAA]; exact (Below.refl _ _).alloc (Nat.le_refl _) _
  have rA : A.heap[w.heap.size]? = some (.cells (S.v8 (S.zeros 32)) 23 (0, 0)) := by rw [hAA]; exact heap_alloc_new _ _
  have hld := run_loadAt_mid (P := Tryd.prog) A g (m * 33 + 1) 23 (S.v8l D) _ (fun j x hx => (bA.cell (p := ⟨g, m * 33 + 1 + j, none⟩) hg).trans (hr2 j x hx)) Tryd.underlying23 rfl (by rw [S.v8l_length, LD.out]; exact size23)
  rw [← S.v8_eq] at hld
  obtain ⟨Z, hst, r6, C6, s6⟩ := store_dig rA (S.zeros_length _) LD.out
  have B6 := hide (bA.trans (C6.below _ bA.size (fun k hk e => by omega)))
  have R6 := hide r6
  have HM := hide hM
  clear h hr hp hlast hD hN hr2 hg hAA bA rA C6 s6 hM r6
  go_enter Tryd.func34, Tryd.ntmps34
  go_wp2_with (first | (with_reducible refine at_op { dst := some 2, op := Op.alloc 23, type := 0, pos := "way.go:33", after := #[], guard := none } ?_; refine wpList_alloc_known rfl 23 rfl (.pointer (some ⟨w.heap.size, 0, none⟩)) A hA ?_) | (with_reducible refine at_op { dst := some 9, op := Op.load 23 (Operand.tmp 8), type := 23, pos := "way.go:33", after := #[{ on := 5, ground := Ground.data }], guard := none } ?_; refine wpList_load_as rfl 23 (.tmp 8) rfl (.pointer (some ⟨g, m * 33 + 1, none⟩)) rfl (.agg (S.v8 D)) hld ?_) | (with_reducible refine at_op { dst := none, op := Op.store 23 (Operand.tmp 2) (Operand.tmp 9), type := 0, pos := "way.go:33", after := #[{ on := 6, ground := Ground.data }, { on := 0, ground := Ground.phase }, { on := 1, ground := Ground.phase }, { on := 2, ground := Ground.phase }, { on := 3, ground := Ground.phase }, { on := 4, ground := Ground.phase }, { on := 5, ground := Ground.phase }, { on := 6, ground := Ground.phase }], guard := none } ?_; refine wpList_store_as rfl 23 (.tmp 2) (.tmp 9) rfl (.pointer (some ⟨w.heap.size, 0, none⟩)) (.agg (S.v8 D)) rfl rfl Z hst ?_))
  exact bodyPost_ret (v := .agg (S.v8 D)) (results_cell_row (g := w.heap.size) (t := 23) (fr := (0, 0)) Tryd.results34 _ _ _ _ rfl R6.out Tryd.underlying23 rfl (size_dig D LD.out)) rfl ⟨rfl, B6.out⟩
end Go.Proofs.YtlbggkmblkhjoaaDoor
