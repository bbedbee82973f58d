/- What the document gathers of hashes that lie side by side. -/
import Derived.Test.YtkljajfgdelfgaaDoorIa
import Derived.Test.YtkljajfgdelfgaaDoorNc
namespace Go.Proofs.YtkljajfgdelfgaaDoor
open Go.RowKit

/-- A slice of numbers that reads so. -/
def NAt (w : World) (v : Value) (ns : List Nat) : Prop := ∃ ao cap, v = .slice ao ns.length cap ∧ ns.length ≤ cap ∧ (0 < ns.length → ∃ g off, ao = some ⟨g, off, none⟩ ∧ g < w.heap.size ∧ ∀ (j n : Nat), ns[j]? = some n → w.cell? ⟨g, off + j, none⟩ = some (.int .u64 (n : Int)))
theorem NAt.below {w W : World} {v : Value} {ns : List Nat} (h : NAt w v ns) (hb : Below w.heap.size w W) : NAt W v ns := by
  obtain ⟨ao, cap, h1, h2, h3⟩ := h
  refine ⟨ao, cap, h1, h2, fun hp => ?_⟩
  obtain ⟨g, off, h4, h5, h6⟩ := h3 hp
  exact ⟨g, off, h4, Nat.lt_of_lt_of_le h5 hb.size, fun j n hn => (hb.cell (p := ⟨g, off + j, none⟩) h5).trans (h6 j n hn)⟩
theorem NAt.drop {w : World} {g off n cap : Nat} {ns : List Nat} (h : NAt w (.slice (some ⟨g, off, none⟩) n cap) ns) (k : Nat) (hk : k ≤ ns.length) : NAt w (.slice (some ⟨g, off + k, none⟩) (n - k) (cap - k)) (ns.drop k) := by
  obtain ⟨ao, cap', h1, h2, h3⟩ := h
  simp only [Value.slice.injEq] at h1
  obtain ⟨rfl, rfl, rfl⟩ := h1
  refine ⟨_, _, by rw [List.length_drop], by rw [List.length_drop]; omega, fun hp => ?_⟩
  rw [List.length_drop] at hp
  obtain ⟨g', off', e, h5, h6⟩ := h3 (by omega)
  simp only [Option.some.injEq, Addr.mk.injEq, and_true] at e
  obtain ⟨rfl, rfl⟩ := e
  exact ⟨_, _, rfl, h5, fun j n hn => by rw [Nat.add_assoc]; exact h6 (k + j) n (by rw [← List.getElem?_drop]; exact hn)⟩
theorem Rw.nAt {B : Nat} {w : World} {v : Value} {ns : List Nat} (h : NRow B w v ns) : NAt w v ns := by
  rcases h.2 with ⟨rfl, h0⟩ | ⟨g, cap, cur, rfl, hB, hr, q1, q2, q3, q4⟩
  · exact ⟨none, 0, by rw [h0], by omega, fun hp => by omega⟩
  · refine ⟨_, cap, rfl, q1, fun hp => ⟨g, 0, rfl, block_lt_of_row hr, fun j n hn => ?_⟩⟩
    obtain ⟨g', c', e, -, -, hc⟩ := NRow.cell h j n hn
    simp only [Value.slice.injEq, Option.some.injEq, Addr.mk.injEq, and_true] at e
    rw [e.1, Nat.zero_add]; exact hc
/-- A slice of digests that reads so, with its room. -/
def DgC (w : World) (v : Value) (ds : List (List UInt8)) : Prop := DgAt w v ds ∧ ∀ ao n c, v = .slice ao n c → n ≤ c
theorem DgC.below {w W : World} {v : Value} {ds : List (List UInt8)} (h : DgC w v ds) (hb : Below w.heap.size w W) : DgC W v ds := ⟨h.1.below hb, h.2⟩
theorem DgC.drop {w : World} {g off n cap : Nat} {ds : List (List UInt8)} (h : DgC w (.slice (some ⟨g, off, none⟩) n cap) ds) (k : Nat) (hk : k ≤ ds.length) : DgC w (.slice (some ⟨g, off + k * 32, none⟩) (n - k) (cap - k)) (ds.drop k) := by
  have hc := h.2 _ _ _ rfl
  obtain ⟨ao, cap', h1, h2, h3, h4⟩ := h.1
  simp only [Value.slice.injEq] at h1
  obtain ⟨rfl, rfl, rfl⟩ := h1
  refine ⟨⟨_, _, by rw [List.length_drop], by rw [List.length_drop]; omega, fun d hd => h3 d (List.mem_of_mem_drop hd), fun hp => ?_⟩, fun ao n c e => by simp only [Value.slice.injEq] at e; omega⟩
  rw [List.length_drop] at hp
  obtain ⟨g', off', e, h5, h6⟩ := h4 (by omega)
  simp only [Option.some.injEq, Addr.mk.injEq, and_true] at e
  obtain ⟨rfl, rfl⟩ := e
  refine ⟨_, _, rfl, h5, fun j hj => ?_⟩
  rw [List.length_drop] at hj
  have h7 := h6 (k + j) (by omega)
  rw [List.getD_eq_getElem?_getD, List.getElem?_drop, ← List.getD_eq_getElem?_getD, show off + k * 32 + j * 32 = off + (k + j) * 32 by omega]
  exact h7
theorem DgRow.dgC {B : Nat} {w : World} {v : Value} {ds : List (List UInt8)} (h : DgRow B w v ds) (hl : ds.length ≤ 1000000) (hd : ∀ d ∈ ds, d.length = 32) : DgC w v ds := ⟨h.dgAt hl hd, fun ao n c e => by
  subst e
  rcases h.2 with ⟨e', h0⟩ | ⟨g, cap, cur, e', hB, hr, q1, q2, q3, q4⟩
  · simp only [Value.slice.injEq] at e'; omega
  · simp only [Value.slice.injEq] at e'; omega⟩
namespace C
theorem head_half (j p q : Nat) (y : List Nat) (hd : 2 ^ (j + 1) ∣ p) (hT : Tiles (p + 2 ^ j) q y) : y.getD 0 0 ≤ 2 ^ j := by
  cases y with
  | nil => simp
  | cons u us =>
    obtain ⟨⟨i, hi⟩, hu, -⟩ := hT
    show u ≤ 2 ^ j
    rw [hi] at hu ⊢
    by_cases c : i ≤ j
    · exact Nat.pow_le_pow_right (by omega) c
    · exfalso
      have h5 : 2 ^ (j + 1) ∣ p + 2 ^ j := Nat.dvd_trans (Nat.pow_dvd_pow 2 (by omega)) hu
      have h6 : 2 ^ (j + 1) ∣ 2 ^ j := (Nat.dvd_add_right hd).1 h5
      have := Nat.le_of_dvd (two_pos j) h6
      rw [Nat.pow_succ] at this
      have := two_pos j
      omega
theorem gat_head {α : Type} (nd : α → α → α) (z : α) (j : Nat) (ss : List Nat) (hs : List α) (h : ss.getD 0 0 = 2 ^ j) : gat nd z j ss hs = (hs.getD 0 z, 1) := by
  cases j with
  | zero => rfl
  | succ j => rw [gat, if_pos h]
theorem gat_two {α : Type} (nd : α → α → α) (z : α) (j : Nat) (ss : List Nat) (hs : List α) (h : ss.getD 0 0 ≠ 2 ^ (j + 1)) : gat nd z (j + 1) ss hs = (nd (gat nd z j ss hs).1 (gat nd z j (ss.drop (gat nd z j ss hs).2) (hs.drop (gat nd z j ss hs).2)).1, (gat nd z j ss hs).2 + (gat nd z j (ss.drop (gat nd z j ss hs).2) (hs.drop (gat nd z j ss hs).2)).2) := by rw [gat, if_neg h]
/-- What is gathered: where the rest lies. -/
theorem gat_rest {α : Type} (nd : α → α → α) (z : α) (j p q : Nat) (ss : List Nat) (hs : List α) (hT : Tiles p q ss) (hl : hs.length = ss.length) (hd : 2 ^ j ∣ p) (hq : p + 2 ^ j ≤ q) (h1 : ss.getD 0 0 ≤ 2 ^ j) :
    1 ≤ (gat nd z j ss hs).2 ∧ (gat nd z j ss hs).2 ≤ ss.length ∧ Tiles (p + 2 ^ j) q (ss.drop (gat nd z j ss hs).2) := by
  have h := gat_is nd z (fr nd z p ss hs) q (fun r k => sz p ss r = some k) (fun r k k' h1 h2 => Option.some.inj (h1.symm.trans h2)) (fun r j _ _ h => fr_two nd z p ss hs r j h) j p ss hT (all_sz ss [] p p q rfl hT) hd hq h1
  rw [vals_fr nd z ss hs p q hT hl] at h
  obtain ⟨-, x, y, e, hx, hx1, -, hy⟩ := h
  have el := congrArg List.length e
  rw [List.length_append] at el
  refine ⟨by omega, by omega, ?_⟩
  rw [← hx]
  conv => arg 3; rw [e, List.drop_left' rfl]
  exact hy
end C
set_option maxHeartbeats 40000000 in
set_option maxRecDepth 10000 in
theorem gather_any (a : Int) (gh gT : Nat) : ∀ (j : Nat) (z : Int) (p q : Nat) (ss : List Nat) (hs : List (List UInt8)) (vs vh : Value) (w : World), z = ((2 ^ j : Nat) : Int) → j ≤ 32 → C.Tiles p q ss → hs.length = ss.length → 2 ^ j ∣ p → p + 2 ^ j ≤ q → ss.getD 0 0 ≤ 2 ^ j → ss.length ≤ 200 → NAt w vs ss → DgC w vh hs → HsAt w gh gT a →
   Calls Tryd.prog 57 #[.pointer (some ⟨gh, 0, none⟩), .int .u64 z, vs, vh] w fun r w' => r = .returned (.tuple #[.agg (S.v8 (C.gat (S.node a) [] j ss hs).1), .int .i64 ((C.gat (S.node a) [] j ss hs).2 : Int)]) ∧ (C.gat (S.node a) [] j ss hs).1.length = 32 ∧ Below w.heap.size w w' := by
  intro j
  induction j with
  | zero =>
    intro z p q ss hs vs vh w hz hj hT hl hd hq h1 h200 hvs hvh hH
    cases ss with
    | nil => exfalso; simp only [C.Tiles] at hT; rw [Nat.pow_zero] at hq; omega
    | cons t ts =>
      have ht : t = 2 ^ 0 := by
        obtain ⟨⟨i, hi⟩, -⟩ := hT
        have := C.two_pos i
        have h1' : t ≤ 2 ^ 0 := h1
        rw [Nat.pow_zero] at h1' ⊢
        omega
      clear hT hd hq h1
      obtain ⟨so, sc, rfl, hsc, hsrc⟩ := hvs
      obtain ⟨gs, offs, rfl, hgs, hcs⟩ := hsrc (by simp)
      obtain ⟨gu, ou, cu, eu, hgu, hru, hpl⟩ := dg_at hvh.1 0 (by rw [hl]; simp)
      subst eu
      obtain ⟨D, hD⟩ : ∃ D, D = hs.getD 0 [] := ⟨_, rfl⟩
      rw [← hD] at hru hpl
      rw [C.gat_head (S.node a) [] 0 (t :: ts) hs (show (t :: ts).getD 0 0 = 2 ^ (0) from ht), ← hD]
      have LD := hide hpl
      have c0 : w.cell? ⟨gs, offs, none⟩ = some (.int .u64 (t : Int)) := hcs 0 t rfl
      have HRU := hide hru
      have GU := hide hgu
      have GS := hide hgs
      rw [← ht] at hz
      subst hz
      obtain ⟨N, hN⟩ : ∃ N, N = (t :: ts).length := ⟨_, rfl⟩
      have q7 : (0 : Int) < (N : Int) := by rw [hN]; simp
      rw [show hs.length = N by rw [hl, hN], show (t :: ts).length = N from hN.symm]
      clear hN hl hvh hH hsrc hcs hru hpl hD hsc ht h200
      go_enter Tryd.func57, Tryd.ntmps57
      go_upto_region 1 with (with_reducible refine at_op { dst := some 8, op := Op.alloc 23, type := 0, pos := "ref.go:72", after := #[], guard := none } ?_; refine wpList_alloc_known rfl 23 rfl _ _ (alloc31 _) ?_)
      generalize hW0 : w.alloc _ = W0
      have B0 : Below w.heap.size w W0 := by rw [← hW0]; exact (Below.refl _ _).alloc (Nat.le_refl _) _
      have s0 : W0.heap.size = w.heap.size + 1 := by rw [← hW0]; simp
      have r0 : W0.heap[w.heap.size]? = some (.cells (S.v8 (S.zeros 32)) 23 (0, 0)) := by rw [← hW0]; exact heap_alloc_new _ _
      have BB : Hid (Below w.heap.size w W0) := B0
      have Q0 : Hid (W0.heap[w.heap.size]? = some (.cells (S.v8 (S.zeros 32)) 23 (0, 0))) := r0
      clear hW0 B0 s0 r0
      have c1 := (BB.out.cell (p := ⟨gs, offs, none⟩) (show gs < w.heap.size from GS.out)).trans c0
      have hld := load_dmid (below_range BB.out GU.out HRU.out) LD.out
      rw [Nat.zero_mul, Nat.add_zero] at hld
      obtain ⟨YF, hsf, rf, cf, sf⟩ := store_dig Q0.out (S.zeros_length 32) LD.out
      have RF := hide rf
      have BF := hide (BB.out.trans (cf.below w.heap.size BB.out.size (fun j hj e => by omega)))
      obtain ⟨VD, hVD⟩ : ∃ V, V = Value.agg (S.v8 D) := ⟨_, rfl⟩
      rw [← hVD] at hld hsf
      have HVD := hide hVD
      clear rf cf sf hVD c0
      go_wp2_with (first | (with_reducible refine at_op { dst := some 21, op := Op.load 23 (Operand.tmp 20), type := 23, pos := "ref.go:74", after := #[{ on := 1, ground := Ground.data }], guard := none } ?_; refine wpList_load_as rfl 23 (.tmp 20) rfl (.pointer (some ⟨gu, ou, none⟩)) rfl VD hld ?_) | (with_reducible refine at_op { dst := none, op := Op.store 23 (Operand.tmp 8) (Operand.tmp 21), type := 0, pos := "ref.go:74", after := #[{ on := 2, ground := Ground.data }, { on := 0, ground := Ground.phase }, { on := 1, ground := Ground.phase }, { on := 2, ground := Ground.phase }], guard := none } ?_; refine wpList_store_as rfl 23 (.tmp 8) (.tmp 21) rfl (.pointer (some ⟨w.heap.size, 0, none⟩)) VD rfl rfl YF hsf ?_))
      exact bodyPost_ret (v := .tuple #[.agg (S.v8 D), .int .i64 1]) (results_rt Tryd.results57 _ _ w.heap.size _ rfl (var23 RF.out LD.out)) rfl ⟨rfl, LD.out, BF.out⟩
  | succ j ih =>
    intro z p q ss hs vs vh w hz hj hT hl hd hq h1 h200 hvs hvh hH
    cases ss with
    | nil => exfalso; simp only [C.Tiles] at hT; have := C.two_pos (j + 1); omega
    | cons t ts =>
      by_cases ht : t = 2 ^ (j + 1)
      · clear hT hd hq h1 ih
        obtain ⟨so, sc, rfl, hsc, hsrc⟩ := hvs
        obtain ⟨gs, offs, rfl, hgs, hcs⟩ := hsrc (by simp)
        obtain ⟨gu, ou, cu, eu, hgu, hru, hpl⟩ := dg_at hvh.1 0 (by rw [hl]; simp)
        subst eu
        obtain ⟨D, hD⟩ : ∃ D, D = hs.getD 0 [] := ⟨_, rfl⟩
        rw [← hD] at hru hpl
        rw [C.gat_head (S.node a) [] (j + 1) (t :: ts) hs (show (t :: ts).getD 0 0 = 2 ^ (j + 1) from ht), ← hD]
        have LD := hide hpl
        have c0 : w.cell? ⟨gs, offs, none⟩ = some (.int .u64 (t : Int)) := hcs 0 t rfl
        have HRU := hide hru
        have GU := hide hgu
        have GS := hide hgs
        rw [← ht] at hz
        subst hz
        obtain ⟨N, hN⟩ : ∃ N, N = (t :: ts).length := ⟨_, rfl⟩
        have q7 : (0 : Int) < (N : Int) := by rw [hN]; simp
        rw [show hs.length = N by rw [hl, hN], show (t :: ts).length = N from hN.symm]
        clear hN hl hvh hH hsrc hcs hru hpl hD hsc ht h200
        go_enter Tryd.func57, Tryd.ntmps57
        go_upto_region 1 with (with_reducible refine at_op { dst := some 8, op := Op.alloc 23, type := 0, pos := "ref.go:72", after := #[], guard := none } ?_; refine wpList_alloc_known rfl 23 rfl _ _ (alloc31 _) ?_)
        generalize hW0 : w.alloc _ = W0
        have B0 : Below w.heap.size w W0 := by rw [← hW0]; exact (Below.refl _ _).alloc (Nat.le_refl _) _
        have s0 : W0.heap.size = w.heap.size + 1 := by rw [← hW0]; simp
        have r0 : W0.heap[w.heap.size]? = some (.cells (S.v8 (S.zeros 32)) 23 (0, 0)) := by rw [← hW0]; exact heap_alloc_new _ _
        have BB : Hid (Below w.heap.size w W0) := B0
        have Q0 : Hid (W0.heap[w.heap.size]? = some (.cells (S.v8 (S.zeros 32)) 23 (0, 0))) := r0
        clear hW0 B0 s0 r0
        have c1 := (BB.out.cell (p := ⟨gs, offs, none⟩) (show gs < w.heap.size from GS.out)).trans c0
        have hld := load_dmid (below_range BB.out GU.out HRU.out) LD.out
        rw [Nat.zero_mul, Nat.add_zero] at hld
        obtain ⟨YF, hsf, rf, cf, sf⟩ := store_dig Q0.out (S.zeros_length 32) LD.out
        have RF := hide rf
        have BF := hide (BB.out.trans (cf.below w.heap.size BB.out.size (fun j hj e => by omega)))
        obtain ⟨VD, hVD⟩ : ∃ V, V = Value.agg (S.v8 D) := ⟨_, rfl⟩
        rw [← hVD] at hld hsf
        have HVD := hide hVD
        clear rf cf sf hVD c0
        go_wp2_with (first | (with_reducible refine at_op { dst := some 21, op := Op.load 23 (Operand.tmp 20), type := 23, pos := "ref.go:74", after := #[{ on := 1, ground := Ground.data }], guard := none } ?_; refine wpList_load_as rfl 23 (.tmp 20) rfl (.pointer (some ⟨gu, ou, none⟩)) rfl VD hld ?_) | (with_reducible refine at_op { dst := none, op := Op.store 23 (Operand.tmp 8) (Operand.tmp 21), type := 0, pos := "ref.go:74", after := #[{ on := 2, ground := Ground.data }, { on := 0, ground := Ground.phase }, { on := 1, ground := Ground.phase }, { on := 2, ground := Ground.phase }], guard := none } ?_; refine wpList_store_as rfl 23 (.tmp 8) (.tmp 21) rfl (.pointer (some ⟨w.heap.size, 0, none⟩)) VD rfl rfl YF hsf ?_))
        exact bodyPost_ret (v := .tuple #[.agg (S.v8 D), .int .i64 1]) (results_rt Tryd.results57 _ _ w.heap.size _ rfl (var23 RF.out LD.out)) rfl ⟨rfl, LD.out, BF.out⟩
      · have hd' : 2 ^ j ∣ p := Nat.dvd_trans (Nat.pow_dvd_pow 2 (by omega)) hd
        have e2 : 2 ^ (j + 1) = 2 ^ j + 2 ^ j := by rw [Nat.pow_succ]; omega
        have hpj := C.two_pos j
        have ht' : (t :: ts).getD 0 0 ≤ 2 ^ j := by
          show t ≤ 2 ^ j
          obtain ⟨⟨i, hi⟩, -⟩ := hT
          have h1' : t ≤ 2 ^ (j + 1) := h1
          have h3 : 2 ^ i < 2 ^ (j + 1) := by omega
          rw [hi]; exact Nat.pow_le_pow_right (by omega) (by have := C.pow_lt_pow h3; omega)
        have hsz : 2 ^ j ≤ 4294967296 := Nat.pow_le_pow_right (n := 2) (by omega) (show j ≤ 32 by omega)
        obtain ⟨n1a, n1b, hT2⟩ := C.gat_rest (S.node a) [] j p q (t :: ts) hs hT hl hd' (by omega) ht'
        have hg2 := C.gat_two (S.node a) [] j (t :: ts) hs (show (t :: ts).getD 0 0 ≠ 2 ^ (j + 1) from ht)
        have ih1 := ih ((2 ^ j : Nat) : Int) p q (t :: ts) hs
        have ih2 := ih ((2 ^ j : Nat) : Int) (p + 2 ^ j) q ((t :: ts).drop (C.gat (S.node a) [] j (t :: ts) hs).2) (hs.drop (C.gat (S.node a) [] j (t :: ts) hs).2)
        obtain ⟨D1, hD1⟩ : ∃ D, D = (C.gat (S.node a) [] j (t :: ts) hs).1 := ⟨_, rfl⟩
        obtain ⟨n1, hn1⟩ : ∃ n, n = (C.gat (S.node a) [] j (t :: ts) hs).2 := ⟨_, rfl⟩
        rw [← hD1, ← hn1] at ih1 hg2
        rw [← hn1] at ih2 n1a n1b hT2
        obtain ⟨n2a, n2b, -⟩ := C.gat_rest (S.node a) [] j (p + 2 ^ j) q ((t :: ts).drop n1) (hs.drop n1) hT2 (by rw [List.length_drop, List.length_drop, hl]) (Nat.dvd_add hd' (Nat.dvd_refl _)) (by omega) (C.head_half j p q _ hd hT2)
        obtain ⟨D2, hD2⟩ : ∃ D, D = (C.gat (S.node a) [] j ((t :: ts).drop n1) (hs.drop n1)).1 := ⟨_, rfl⟩
        obtain ⟨n2, hn2⟩ : ∃ n, n = (C.gat (S.node a) [] j ((t :: ts).drop n1) (hs.drop n1)).2 := ⟨_, rfl⟩
        rw [← hD2, ← hn2] at ih2 hg2
        rw [← hn2] at n2a n2b
        rw [hg2]
        have hn1l : n1 < (t :: ts).length := by rw [List.length_drop] at n2b; omega
        have hsum : n1 + n2 ≤ 200 := by rw [List.length_drop] at n2b; omega
        obtain ⟨so, sc, rfl, hsc, hsrc⟩ := hvs
        obtain ⟨gs, offs, rfl, hgs, hcs⟩ := hsrc (by simp)
        have hvc := hvh.2
        obtain ⟨ho, hc_, rfl⟩ := hvh.1.form
        have hhc := hvc _ _ _ rfl
        obtain ⟨gu, ou, cu, eu, -, -, -⟩ := dg_at hvh.1 0 (by rw [hl]; simp)
        simp only [Value.slice.injEq] at eu
        obtain ⟨rfl, -, rfl⟩ := eu
        obtain ⟨N, hN⟩ : ∃ N, N = (t :: ts).length := ⟨_, rfl⟩
        rw [hl, ← hN] at hhc
        rw [← hN] at hsc hn1l
        have HVS : Hid (NAt w (.slice (some ⟨gs, offs, none⟩) N sc) (t :: ts)) := by rw [hN]; exact ⟨_, _, rfl, by rw [← hN]; exact hsc, fun hp => ⟨_, _, rfl, hgs, hcs⟩⟩
        have HVH : Hid (DgC w (.slice (some ⟨gu, ou, none⟩) N hc_) hs) := by rw [hN, ← hl]; exact hvh
        rw [show hs.length = N by rw [hl, hN], show (t :: ts).length = N from hN.symm]
        have IH1 := hide (fun W h1 h2 h3 => ih1 (.slice (some ⟨gs, offs, none⟩) N sc) (.slice (some ⟨gu, ou, none⟩) N hc_) W rfl (by omega) hT hl hd' (by omega) ht' h200 h1 h2 h3)
        have IH2 := hide (fun W h1 h2 h3 => ih2 (.slice (some ⟨gs, offs + n1, none⟩) (N - n1) (sc - n1)) (.slice (some ⟨gu, ou + n1 * 32, none⟩) (N - n1) (hc_ - n1)) W rfl (by omega) hT2 (by rw [List.length_drop, List.length_drop, hl]) (Nat.dvd_add hd' (Nat.dvd_refl _)) (by omega) (C.head_half j p q _ hd hT2) (by rw [List.length_drop]; omega) h1 h2 h3)
        have HH := hide hH
        have HLN := hide (And.intro hN hl)
        obtain ⟨sz, hszd⟩ : ∃ n, n = 2 ^ (j + 1) := ⟨_, rfl⟩
        obtain ⟨sh, hshd⟩ : ∃ n, n = 2 ^ j := ⟨_, rfl⟩
        rw [← hszd] at hz
        have hss : sz = 2 * sh := by omega
        rw [← hshd] at IH1 IH2
        subst hz
        have qd : (sz : Int).tdiv 2 = (sh : Int) := by rw [Int.tdiv_eq_ediv_of_nonneg (by omega)]; omega
        have qd2 : (sz : Int) / 2 = (sh : Int) := by omega
        have hsh32 : sh ≤ 4294967296 := by omega
        have qsh : IntKind.u64.wrap (sh : Int) = (sh : Int) := by rw [IntKind.wrap_u64]; omega
        have qt : ((t : Int) == (sz : Int)) = false := by simp; omega
        have qt' : ¬ (t : Int) = (sz : Int) := by omega
        have c0 : w.cell? ⟨gs, offs, none⟩ = some (.int .u64 (t : Int)) := hcs 0 t rfl
        have q1 : (0 : Int) ≤ (n1 : Int) := by omega
        have q2 : (n1 : Int) ≤ (N : Int) := by omega
        have q3 : (N : Int) ≤ (sc : Int) := by omega
        have q4 : (N : Int) ≤ (hc_ : Int) := by omega
        have q5 : ¬ sc = n1 := by omega
        have q6 : ¬ hc_ = n1 := by omega
        have q7 : (0 : Int) < (N : Int) := by omega
        have qs : IntKind.i64.wrap ((n1 : Int) + (n2 : Int)) = ((n1 + n2 : Nat) : Int) := by rw [IntKind.wrap_i64]; omega
        have qz : ((n1 : Int)).toNat = n1 := by omega
        have HB1 := hide (And.intro n1a (And.intro n1b hn1l))
        have GS := hide hgs
        clear ih ih1 ih2 hT hT2 hd hq h1 ht' hd' e2 hpj hsz hg2 hD1 hD2 hn1 hn2 hvh hvc hN hl n2a n2b n1a n1b hn1l hszd hshd hss ht hgs hcs hsrc hhc hsc hH h200
        go_enter Tryd.func57, Tryd.ntmps57
        go_upto_region 1 with (with_reducible refine at_op { dst := some 8, op := Op.alloc 23, type := 0, pos := "ref.go:72", after := #[], guard := none } ?_; refine wpList_alloc_known rfl 23 rfl _ _ (alloc31 _) ?_)
        generalize hW0 : w.alloc _ = W0
        have B0 : Below w.heap.size w W0 := by rw [← hW0]; exact (Below.refl _ _).alloc (Nat.le_refl _) _
        have s0 : W0.heap.size = w.heap.size + 1 := by rw [← hW0]; simp
        have r0 : W0.heap[w.heap.size]? = some (.cells (S.v8 (S.zeros 32)) 23 (0, 0)) := by rw [← hW0]; exact heap_alloc_new _ _
        have BB : Hid (Below w.heap.size w W0) := B0
        have Q0 : Hid (W0.heap[w.heap.size]? = some (.cells (S.v8 (S.zeros 32)) 23 (0, 0))) := r0
        clear hW0 B0 s0 r0
        have c1 := (BB.out.cell (p := ⟨gs, offs, none⟩) (show gs < w.heap.size from GS.out)).trans c0
        go_wp2_with fail
        refine (IH1.out W0 (HVS.out.below BB.out) (HVH.out.below BB.out) (HH.out.below BB.out (Nat.le_refl _))).mono ?_
        rintro r W1 ⟨rfl, hl1, hb1⟩
        have LD1 := hide hl1
        have R0 : Hid (W1.heap[w.heap.size]? = some (.cells (S.v8 (S.zeros 32)) 23 (0, 0))) := (hb1.block _ (block_lt_of_row Q0.out)).trans Q0.out
        have B1 := hide (BB.out.trans (hb1.mono BB.out.size))
        obtain ⟨A1, Y1, hal, hst, ry, by_, -⟩ := lay_dig W1 D1 hl1
        obtain ⟨g10, hg10⟩ : ∃ g, g = W1.heap.size := ⟨_, rfl⟩
        rw [← hg10] at hal hst ry
        have R10 := hide ry
        have R01 : Hid (Y1.heap[w.heap.size]? = some (.cells (S.v8 (S.zeros 32)) 23 (0, 0))) := (by_.block _ (block_lt_of_row R0.out)).trans R0.out
        have BY := hide (B1.out.trans (by_.mono B1.out.size))
        obtain ⟨V1, hV1⟩ : ∃ V, V = Value.agg (S.v8 D1) := ⟨_, rfl⟩
        rw [← hV1] at hst ⊢
        have HV1 := hide hV1
        clear hl1 hb1 by_ ry hg10 hV1 Q0 BB R0 B1 c0 c1
        go_wp2_with (first | (with_reducible refine at_op { dst := some 10, op := Op.alloc 23, type := 0, pos := "ref.go:76", after := #[], guard := none } ?_; refine wpList_alloc_known rfl 23 rfl (.pointer (some ⟨g10, 0, none⟩)) A1 hal ?_) | (with_reducible refine at_op { dst := none, op := Op.store 23 (Operand.tmp 10) (Operand.tmp 29), type := 0, pos := "ref.go:76", after := #[{ on := 9, ground := Ground.data }, { on := 7, ground := Ground.data }, { on := 5, ground := Ground.chain }, { on := 0, ground := Ground.phase }, { on := 1, ground := Ground.phase }, { on := 2, ground := Ground.phase }, { on := 3, ground := Ground.phase }, { on := 4, ground := Ground.phase }, { on := 5, ground := Ground.phase }, { on := 6, ground := Ground.phase }, { on := 7, ground := Ground.phase }, { on := 8, ground := Ground.textOnly Departure.lateStores }, { on := 9, ground := Ground.phase }], guard := none } ?_; refine wpList_store_as rfl 23 (.tmp 10) (.tmp 29) rfl (.pointer (some ⟨g10, 0, none⟩)) V1 rfl rfl Y1 hst ?_))
        clear hal hst
        refine wp_region_noPanic ?_
        refine wp_region_held_drew (S := (fun W => Chg (fun _ => False) Y1 W)) follows ((Chg.refl _ _).drew) (fun hHeld => ?_)
        clear hHeld
        have hHeld : Chg (fun _ => False) Y1 Y1.drew := (Chg.refl _ _).drew
        have CZ0 := hide hHeld
        have R01' : Hid (Y1.drew.heap[w.heap.size]? = some (.cells (S.v8 (S.zeros 32)) 23 (0, 0))) := R01.out
        have R10' : Hid (Y1.drew.heap[g10]? = some (.cells (S.v8 D1) 23 (0, 0))) := R10.out
        generalize Y1.drew = Z0 at CZ0 hHeld R01' R10' ⊢
        refine wpAnyH_take (i := 0) (oi := { dst := some 32, op := Op.move (Operand.tmp 0), type := 42, pos := "ref.go:77", after := #[], guard := none }) (v := ?_) rfl (by kernel_rfl) (by kernel_rfl) (by kernel_rfl) (fun _ _ _ h => h) (Or.inl ⟨by rfl, ?_⟩) (by assumption) ?_
        rotate_left
        · intro w hSw
          clear hSw
          go_simp
          all_goals with_reducible rfl
        simp only [Act.put, List.setIfInBounds_toArray, List.set_cons_zero, List.set_cons_succ]
        refine wpAnyH_take (i := 1) (oi := { dst := some 33, op := Op.move (Operand.tmp 1), type := 27, pos := "ref.go:77", after := #[], guard := none }) (v := ?_) rfl (by kernel_rfl) (by kernel_rfl) (by kernel_rfl) (fun _ _ _ h => h) (Or.inl ⟨by rfl, ?_⟩) (by assumption) ?_
        rotate_left
        · intro w hSw
          clear hSw
          go_simp
          all_goals with_reducible rfl
        simp only [Act.put, List.setIfInBounds_toArray, List.set_cons_zero, List.set_cons_succ]
        refine wpAnyH_take (i := 2) (oi := { dst := some 34, op := Op.binOp BinOp.quo 27 (Operand.tmp 33) (Operand.const (Value.int IntKind.u64 2)) 27, type := 27, pos := "ref.go:77", after := #[{ on := 1, ground := Ground.data }], guard := none }) (v := ?_) rfl (by kernel_rfl) (by kernel_rfl) (by kernel_rfl) (fun _ _ _ h => h) (Or.inl ⟨by rfl, ?_⟩) (by assumption) ?_
        rotate_left
        · intro w hSw
          clear hSw
          go_simp
          all_goals with_reducible rfl
        simp only [Act.put, List.setIfInBounds_toArray, List.set_cons_zero, List.set_cons_succ]
        refine wpAnyH_take (i := 3) (oi := { dst := some 35, op := Op.move (Operand.tmp 2), type := 38, pos := "ref.go:77", after := #[], guard := none }) (v := ?_) rfl (by kernel_rfl) (by kernel_rfl) (by kernel_rfl) (fun _ _ _ h => h) (Or.inl ⟨by rfl, ?_⟩) (by assumption) ?_
        rotate_left
        · intro w hSw
          clear hSw
          go_simp
          all_goals with_reducible rfl
        simp only [Act.put, List.setIfInBounds_toArray, List.set_cons_zero, List.set_cons_succ]
        refine wpAnyH_take (i := 4) (oi := { dst := some 36, op := Op.move (Operand.tmp 11), type := 3, pos := "ref.go:77", after := #[], guard := none }) (v := ?_) rfl (by kernel_rfl) (by kernel_rfl) (by kernel_rfl) (fun _ _ _ h => h) (Or.inl ⟨by rfl, ?_⟩) (by assumption) ?_
        rotate_left
        · intro w hSw
          clear hSw
          go_simp
          all_goals with_reducible rfl
        simp only [Act.put, List.setIfInBounds_toArray, List.set_cons_zero, List.set_cons_succ]
        refine wpAnyH_take (i := 5) (oi := { dst := some 37, op := Op.slice 38 (Operand.tmp 35) (some (Operand.tmp 36)) none none, type := 38, pos := "ref.go:77", after := #[{ on := 3, ground := Ground.data }, { on := 4, ground := Ground.data }], guard := none }) (v := ?_) rfl (by kernel_rfl) (by kernel_rfl) (by kernel_rfl) (fun _ _ _ h => h) (Or.inl ⟨by rfl, ?_⟩) (by assumption) ?_
        rotate_left
        · intro w hSw
          clear hSw
          go_simp
          all_goals with_reducible rfl
        simp only [Act.put, List.setIfInBounds_toArray, List.set_cons_zero, List.set_cons_succ]
        refine wpAnyH_take (i := 6) (oi := { dst := some 38, op := Op.move (Operand.tmp 3), type := 28, pos := "ref.go:77", after := #[], guard := none }) (v := ?_) rfl (by kernel_rfl) (by kernel_rfl) (by kernel_rfl) (fun _ _ _ h => h) (Or.inl ⟨by rfl, ?_⟩) (by assumption) ?_
        rotate_left
        · intro w hSw
          clear hSw
          go_simp
          all_goals with_reducible rfl
        simp only [Act.put, List.setIfInBounds_toArray, List.set_cons_zero, List.set_cons_succ]
        refine wpAnyH_take (i := 7) (oi := { dst := some 39, op := Op.move (Operand.tmp 11), type := 3, pos := "ref.go:77", after := #[], guard := none }) (v := ?_) rfl (by kernel_rfl) (by kernel_rfl) (by kernel_rfl) (fun _ _ _ h => h) (Or.inl ⟨by rfl, ?_⟩) (by assumption) ?_
        rotate_left
        · intro w hSw
          clear hSw
          go_simp
          all_goals with_reducible rfl
        simp only [Act.put, List.setIfInBounds_toArray, List.set_cons_zero, List.set_cons_succ]
        refine wpAnyH_take (i := 8) (oi := { dst := some 40, op := Op.slice 28 (Operand.tmp 38) (some (Operand.tmp 39)) none none, type := 28, pos := "ref.go:77", after := #[{ on := 6, ground := Ground.data }, { on := 7, ground := Ground.data }], guard := none }) (v := ?_) rfl (by kernel_rfl) (by kernel_rfl) (by kernel_rfl) (fun _ _ _ h => h) (Or.inl ⟨by rfl, ?_⟩) (by assumption) ?_
        rotate_left
        · intro w hSw
          clear hSw
          go_simp
          all_goals with_reducible rfl
        simp only [Act.put, List.setIfInBounds_toArray, List.set_cons_zero, List.set_cons_succ]
        refine wpAnyH_ready (rs := [9, 13]) (by kernel_rfl) (by simp) ?_
        refine AllReadyH.cons (o := { dst := some 41, op := Op.call { callee := Callee.value (Operand.func 57), args := #[Operand.tmp 32, Operand.tmp 34, Operand.tmp 37, Operand.tmp 40], argTypes := #[42, 27, 38, 28] }, type := 49, pos := "ref.go:77", after := #[{ on := 0, ground := Ground.data }, { on := 2, ground := Ground.data }, { on := 5, ground := Ground.data }, { on := 8, ground := Ground.data }], guard := none }) rfl (fun K hK => ?_) ?_
        · skip
          go_simp
          refine (IH2.out Z0 ((HVS.out.drop n1 (by rw [← HLN.out.1]; have := HB1.out; omega)).below (BY.out.trans (CZ0.out.below w.heap.size BY.out.size (fun k hk e => by omega)))) ((HVH.out.drop n1 (by rw [HLN.out.2, ← HLN.out.1]; have := HB1.out; omega)).below (BY.out.trans (CZ0.out.below w.heap.size BY.out.size (fun k hk e => by omega)))) (HH.out.below (BY.out.trans (CZ0.out.below w.heap.size BY.out.size (fun k hk e => by omega))) (Nat.le_refl _))).mono ?_
          rintro e Z1 ⟨rfl, hl2, hb2⟩
          have LD2 := hide hl2
          clear hl2
          replace R01' : Hid (Z1.heap[w.heap.size]? = some (.cells (S.v8 (S.zeros 32)) 23 (0, 0))) := (hb2.block _ (block_lt_of_row R01'.out)).trans R01'.out
          replace R10' : Hid (Z1.heap[g10]? = some (.cells (S.v8 D1) 23 (0, 0))) := (hb2.block _ (block_lt_of_row R10'.out)).trans R10'.out
          have CZ1 : Hid (Chg (fun _ => False) Y1 Z1) := CZ0.out.then hb2
          clear hb2 CZ0
          clear hHeld
          refine hK.out _ _ CZ1.out (fun hHeld => ?_)
          clear hK K
          try simp only [Act.put, List.setIfInBounds_toArray, List.set_cons_zero, List.set_cons_succ]
          refine wpAnyH_take (i := 10) (oi := { dst := some 31, op := Op.move (Operand.tmp 41), type := 49, pos := "ref.go:77", after := #[{ on := 9, ground := Ground.data }], guard := none }) (v := ?_) rfl (by kernel_rfl) (by kernel_rfl) (by kernel_rfl) (fun _ _ _ h => h) (Or.inl ⟨by rfl, ?_⟩) (by assumption) ?_
          rotate_left
          · intro w hSw
            clear hSw
            go_simp
            all_goals with_reducible rfl
          simp only [Act.put, List.setIfInBounds_toArray, List.set_cons_zero, List.set_cons_succ]
          refine wpAnyH_take (i := 11) (oi := { dst := some 42, op := Op.extract (Operand.tmp 31) 0, type := 23, pos := "ref.go:77", after := #[{ on := 10, ground := Ground.data }], guard := none }) (v := ?_) rfl (by kernel_rfl) (by kernel_rfl) (by kernel_rfl) (fun _ _ _ h => h) (Or.inl ⟨by rfl, ?_⟩) (by assumption) ?_
          rotate_left
          · intro w hSw
            clear hSw
            go_simp
            all_goals with_reducible rfl
          simp only [Act.put, List.setIfInBounds_toArray, List.set_cons_zero, List.set_cons_succ]
          refine wpAnyH_take (i := 12) (oi := { dst := some 43, op := Op.extract (Operand.tmp 31) 1, type := 3, pos := "ref.go:77", after := #[{ on := 10, ground := Ground.data }, { on := 14, ground := Ground.gcOnly Departure.lateStores }], guard := none }) (v := ?_) rfl (by kernel_rfl) (by kernel_rfl) (by kernel_rfl) (fun _ _ _ h => h) (Or.inl ⟨by rfl, ?_⟩) (by assumption) ?_
          rotate_left
          · intro w hSw
            clear hSw
            go_simp
            all_goals with_reducible rfl
          simp only [Act.put, List.setIfInBounds_toArray, List.set_cons_zero, List.set_cons_succ]
          refine wpAnyH_ready (rs := [13]) (by kernel_rfl) (by simp) ?_
          refine step_alloc_as (o := { dst := some 12, op := Op.alloc 23, type := 0, pos := "ref.go:77", after := #[], guard := none }) rfl rfl 23 rfl _ _ (alloc31 Z1) AllReadyH.nil ⟨CZ1.out.alloc _, fun hHeld => ?_⟩
          clear hHeld
          simp only [Act.put, List.setIfInBounds_toArray, List.set_cons_zero, List.set_cons_succ]
          obtain ⟨g12, hg12⟩ : ∃ gg, gg = Z1.heap.size := ⟨_, rfl⟩
          rw [← hg12]
          generalize hZ : Z1.alloc _ = Z2
          have hb2 : Below Z1.heap.size Z1 Z2 := by rw [← hZ]; exact (Below.refl _ _).alloc (Nat.le_refl _) _
          have Rg12 : Hid (Z2.heap[g12]? = some (.cells (S.v8 (S.zeros 32)) 23 (0, 0))) := by rw [← hZ, hg12]; exact heap_alloc_new _ _
          have Gg12 := hide (show Y1.heap.size ≤ g12 by rw [hg12]; exact CZ1.out.size)
          clear hZ hg12
          replace R01' : Hid (Z2.heap[w.heap.size]? = some (.cells (S.v8 (S.zeros 32)) 23 (0, 0))) := (hb2.block _ (block_lt_of_row R01'.out)).trans R01'.out
          replace R10' : Hid (Z2.heap[g10]? = some (.cells (S.v8 D1) 23 (0, 0))) := (hb2.block _ (block_lt_of_row R10'.out)).trans R10'.out
          have CZ2 : Hid (Chg (fun _ => False) Y1 Z2) := CZ1.out.then hb2
          clear hb2 CZ1
          have hHeld := CZ2.out
          refine wpAnyH_ready (rs := [14]) (by kernel_rfl) (by simp) ?_
          obtain ⟨Z3, hst, r6, C6, s6⟩ := store_dig Rg12.out (S.zeros_length 32) LD2.out
          refine step_store_as (o := { dst := none, op := Op.store 23 (Operand.tmp 12) (Operand.tmp 42), type := 0, pos := "ref.go:77", after := #[{ on := 13, ground := Ground.data }, { on := 11, ground := Ground.data }, { on := 9, ground := Ground.chain }, { on := 0, ground := Ground.phase }, { on := 1, ground := Ground.phase }, { on := 2, ground := Ground.phase }, { on := 3, ground := Ground.phase }, { on := 4, ground := Ground.phase }, { on := 5, ground := Ground.phase }, { on := 6, ground := Ground.phase }, { on := 7, ground := Ground.phase }, { on := 8, ground := Ground.phase }, { on := 9, ground := Ground.phase }, { on := 10, ground := Ground.phase }, { on := 11, ground := Ground.phase }, { on := 12, ground := Ground.textOnly Departure.lateStores }, { on := 13, ground := Ground.phase }], guard := none }) rfl rfl 23 (.tmp 12) (.tmp 42) rfl _ _ rfl rfl Z3 hst AllReadyH.nil ⟨CZ2.out.trans C6 (fun k hk e => by have := Gg12.out; omega), fun hHeld => ?_⟩
          replace R01' : Hid (Z3.heap[w.heap.size]? = some (.cells (S.v8 (S.zeros 32)) 23 (0, 0))) := C6.row R01'.out (by have := Gg12.out; have h1 := block_lt_of_row R01.out; have h2 := block_lt_of_row R10.out; omega)
          replace R10' : Hid (Z3.heap[g10]? = some (.cells (S.v8 D1) 23 (0, 0))) := C6.row R10'.out (by have := Gg12.out; have h1 := block_lt_of_row R01.out; have h2 := block_lt_of_row R10.out; omega)
          replace Rg12 : Hid (Z3.heap[g12]? = some (.cells (S.v8 D2) 23 (0, 0))) := r6
          have CZ3 : Hid (Chg (fun _ => False) Y1 Z3) := CZ2.out.trans C6 (fun k hk e => by have := Gg12.out; omega)
          clear hst r6 C6 s6 CZ2
          simp only [Act.put]
          refine wpAnyH_take (i := 15) (oi := { dst := some 13, op := Op.assign (Operand.tmp 43), type := 3, pos := "ref.go:77", after := #[{ on := 12, ground := Ground.data }, { on := 14, ground := Ground.chain }, { on := 0, ground := Ground.phase }, { on := 1, ground := Ground.phase }, { on := 2, ground := Ground.phase }, { on := 3, ground := Ground.phase }, { on := 4, ground := Ground.phase }, { on := 5, ground := Ground.phase }, { on := 6, ground := Ground.phase }, { on := 7, ground := Ground.phase }, { on := 8, ground := Ground.phase }, { on := 9, ground := Ground.phase }, { on := 10, ground := Ground.phase }, { on := 11, ground := Ground.phase }, { on := 12, ground := Ground.phase }, { on := 13, ground := Ground.phase }, { on := 14, ground := Ground.phase }], guard := none }) (v := ?_) rfl (by kernel_rfl) (by kernel_rfl) (by kernel_rfl) (fun _ _ _ h => h) (Or.inl ⟨by rfl, ?_⟩) (by assumption) ?_
          rotate_left
          · intro w hSw
            clear hSw
            go_simp
            all_goals with_reducible rfl
          simp only [Act.put, List.setIfInBounds_toArray, List.set_cons_zero, List.set_cons_succ]
          refine wpAnyH_done (by kernel_rfl) ?_ _
          refine NoPanic.normal ?_
          clear hHeld
          have BX := hide (BY.out.trans (CZ3.out.below w.heap.size BY.out.size (fun k hk e => by omega)))
          generalize Z3 = X at BX R01' R10' Rg12 ⊢
          clear CZ3
          have hl1 := load_dig R10'.out LD1.out
          have hl2 := load_dig Rg12.out LD2.out
          go_wp2_with (first | (with_reducible refine at_op { dst := some 45, op := Op.load 23 (Operand.tmp 10), type := 23, pos := "ref.go:78", after := #[], guard := none } ?_; refine wpList_load_as rfl 23 (.tmp 10) rfl (.pointer (some ⟨g10, 0, none⟩)) rfl (.agg (S.v8 D1)) hl1 ?_) | (with_reducible refine at_op { dst := some 46, op := Op.load 23 (Operand.tmp 12), type := 23, pos := "ref.go:78", after := #[], guard := none } ?_; refine wpList_load_as rfl 23 (.tmp 12) rfl (.pointer (some ⟨g12, 0, none⟩)) rfl (.agg (S.v8 D2)) hl2 ?_))
          refine (hnode_any gh gT a D1 D2 LD1.out LD2.out X (HH.out.below BX.out (Nat.le_refl _))).mono ?_
          rintro r X1 ⟨rfl, hb1⟩
          obtain ⟨E, hE⟩ : ∃ E, E = S.node a D1 D2 := ⟨_, rfl⟩
          have LE := hide (show E.length = 32 by rw [hE]; exact S.node_length _ _ _)
          rw [← hE]
          have HE := hide hE
          obtain ⟨YF, hsf, rf, cf, sf⟩ := store_dig ((hb1.block _ (block_lt_of_row R01'.out)).trans R01'.out) (S.zeros_length 32) LE.out
          have RF := hide rf
          have BX1 := hide (BX.out.trans (hb1.mono BX.out.size))
          have BF := hide (BX1.out.trans (cf.below w.heap.size BX1.out.size (fun j hj e => by omega)))
          clear rf cf sf hb1 hE hl1 hl2
          go_wp2_with (with_reducible refine at_op { dst := none, op := Op.store 23 (Operand.tmp 8) (Operand.tmp 47), type := 0, pos := "ref.go:78", after := #[{ on := 3, ground := Ground.data }, { on := 3, ground := Ground.chain }, { on := 0, ground := Ground.phase }, { on := 1, ground := Ground.phase }, { on := 2, ground := Ground.phase }, { on := 3, ground := Ground.phase }, { on := 4, ground := Ground.textOnly Departure.lateStores }, { on := 5, ground := Ground.textOnly Departure.lateStores }, { on := 6, ground := Ground.textOnly Departure.lateStores }], guard := none } ?_; refine wpList_store_as rfl 23 (.tmp 8) (.tmp 47) rfl (.pointer (some ⟨w.heap.size, 0, none⟩)) (.agg (S.v8 E)) rfl rfl YF hsf ?_)
          exact bodyPost_ret (v := .tuple #[.agg (S.v8 E), .int .i64 ((n1 + n2 : Nat) : Int)]) (results_rt Tryd.results57 _ _ w.heap.size _ rfl (var23 RF.out LE.out)) rfl ⟨by rw [HE.out], by show (S.node a D1 D2).length = 32; exact S.node_length _ _ _, BF.out⟩
        refine step_alloc_as (o := { dst := some 12, op := Op.alloc 23, type := 0, pos := "ref.go:77", after := #[], guard := none }) rfl rfl 23 rfl _ _ (alloc31 Z0) AllReadyH.nil ⟨CZ0.out.alloc _, fun hHeld => ?_⟩
        clear hHeld
        simp only [Act.put, List.setIfInBounds_toArray, List.set_cons_zero, List.set_cons_succ]
        obtain ⟨g12, hg12⟩ : ∃ gg, gg = Z0.heap.size := ⟨_, rfl⟩
        rw [← hg12]
        generalize hZ : Z0.alloc _ = Z1
        have hb2 : Below Z0.heap.size Z0 Z1 := by rw [← hZ]; exact (Below.refl _ _).alloc (Nat.le_refl _) _
        have Rg12 : Hid (Z1.heap[g12]? = some (.cells (S.v8 (S.zeros 32)) 23 (0, 0))) := by rw [← hZ, hg12]; exact heap_alloc_new _ _
        have Gg12 := hide (show Y1.heap.size ≤ g12 by rw [hg12]; exact CZ0.out.size)
        clear hZ hg12
        replace R01' : Hid (Z1.heap[w.heap.size]? = some (.cells (S.v8 (S.zeros 32)) 23 (0, 0))) := (hb2.block _ (block_lt_of_row R01'.out)).trans R01'.out
        replace R10' : Hid (Z1.heap[g10]? = some (.cells (S.v8 D1) 23 (0, 0))) := (hb2.block _ (block_lt_of_row R10'.out)).trans R10'.out
        have CZ1 : Hid (Chg (fun _ => False) Y1 Z1) := CZ0.out.then hb2
        clear hb2 CZ0
        have hHeld := CZ1.out
        refine wpAnyH_ready (rs := [9]) (by kernel_rfl) (by simp) ?_
        refine AllReadyH.cons (o := { dst := some 41, op := Op.call { callee := Callee.value (Operand.func 57), args := #[Operand.tmp 32, Operand.tmp 34, Operand.tmp 37, Operand.tmp 40], argTypes := #[42, 27, 38, 28] }, type := 49, pos := "ref.go:77", after := #[{ on := 0, ground := Ground.data }, { on := 2, ground := Ground.data }, { on := 5, ground := Ground.data }, { on := 8, ground := Ground.data }], guard := none }) rfl (fun K hK => ?_) AllReadyH.nil
        go_simp
        refine (IH2.out Z1 ((HVS.out.drop n1 (by rw [← HLN.out.1]; have := HB1.out; omega)).below (BY.out.trans (CZ1.out.below w.heap.size BY.out.size (fun k hk e => by omega)))) ((HVH.out.drop n1 (by rw [HLN.out.2, ← HLN.out.1]; have := HB1.out; omega)).below (BY.out.trans (CZ1.out.below w.heap.size BY.out.size (fun k hk e => by omega)))) (HH.out.below (BY.out.trans (CZ1.out.below w.heap.size BY.out.size (fun k hk e => by omega))) (Nat.le_refl _))).mono ?_
        rintro e Z2 ⟨rfl, hl2, hb2⟩
        have LD2 := hide hl2
        clear hl2
        replace R01' : Hid (Z2.heap[w.heap.size]? = some (.cells (S.v8 (S.zeros 32)) 23 (0, 0))) := (hb2.block _ (block_lt_of_row R01'.out)).trans R01'.out
        replace R10' : Hid (Z2.heap[g10]? = some (.cells (S.v8 D1) 23 (0, 0))) := (hb2.block _ (block_lt_of_row R10'.out)).trans R10'.out
        replace Rg12 : Hid (Z2.heap[g12]? = some (.cells (S.v8 (S.zeros 32)) 23 (0, 0))) := (hb2.block _ (block_lt_of_row Rg12.out)).trans Rg12.out
        have CZ2 : Hid (Chg (fun _ => False) Y1 Z2) := CZ1.out.then hb2
        clear hb2 CZ1
        clear hHeld
        refine hK.out _ _ CZ2.out (fun hHeld => ?_)
        clear hK K
        try simp only [Act.put, List.setIfInBounds_toArray, List.set_cons_zero, List.set_cons_succ]
        refine wpAnyH_take (i := 10) (oi := { dst := some 31, op := Op.move (Operand.tmp 41), type := 49, pos := "ref.go:77", after := #[{ on := 9, ground := Ground.data }], guard := none }) (v := ?_) rfl (by kernel_rfl) (by kernel_rfl) (by kernel_rfl) (fun _ _ _ h => h) (Or.inl ⟨by rfl, ?_⟩) (by assumption) ?_
        rotate_left
        · intro w hSw
          clear hSw
          go_simp
          all_goals with_reducible rfl
        simp only [Act.put, List.setIfInBounds_toArray, List.set_cons_zero, List.set_cons_succ]
        refine wpAnyH_take (i := 11) (oi := { dst := some 42, op := Op.extract (Operand.tmp 31) 0, type := 23, pos := "ref.go:77", after := #[{ on := 10, ground := Ground.data }], guard := none }) (v := ?_) rfl (by kernel_rfl) (by kernel_rfl) (by kernel_rfl) (fun _ _ _ h => h) (Or.inl ⟨by rfl, ?_⟩) (by assumption) ?_
        rotate_left
        · intro w hSw
          clear hSw
          go_simp
          all_goals with_reducible rfl
        simp only [Act.put, List.setIfInBounds_toArray, List.set_cons_zero, List.set_cons_succ]
        refine wpAnyH_take (i := 12) (oi := { dst := some 43, op := Op.extract (Operand.tmp 31) 1, type := 3, pos := "ref.go:77", after := #[{ on := 10, ground := Ground.data }, { on := 14, ground := Ground.gcOnly Departure.lateStores }], guard := none }) (v := ?_) rfl (by kernel_rfl) (by kernel_rfl) (by kernel_rfl) (fun _ _ _ h => h) (Or.inl ⟨by rfl, ?_⟩) (by assumption) ?_
        rotate_left
        · intro w hSw
          clear hSw
          go_simp
          all_goals with_reducible rfl
        simp only [Act.put, List.setIfInBounds_toArray, List.set_cons_zero, List.set_cons_succ]
        refine wpAnyH_ready (rs := [14]) (by kernel_rfl) (by simp) ?_
        obtain ⟨Z3, hst, r6, C6, s6⟩ := store_dig Rg12.out (S.zeros_length 32) LD2.out
        refine step_store_as (o := { dst := none, op := Op.store 23 (Operand.tmp 12) (Operand.tmp 42), type := 0, pos := "ref.go:77", after := #[{ on := 13, ground := Ground.data }, { on := 11, ground := Ground.data }, { on := 9, ground := Ground.chain }, { on := 0, ground := Ground.phase }, { on := 1, ground := Ground.phase }, { on := 2, ground := Ground.phase }, { on := 3, ground := Ground.phase }, { on := 4, ground := Ground.phase }, { on := 5, ground := Ground.phase }, { on := 6, ground := Ground.phase }, { on := 7, ground := Ground.phase }, { on := 8, ground := Ground.phase }, { on := 9, ground := Ground.phase }, { on := 10, ground := Ground.phase }, { on := 11, ground := Ground.phase }, { on := 12, ground := Ground.textOnly Departure.lateStores }, { on := 13, ground := Ground.phase }], guard := none }) rfl rfl 23 (.tmp 12) (.tmp 42) rfl _ _ rfl rfl Z3 hst AllReadyH.nil ⟨CZ2.out.trans C6 (fun k hk e => by have := Gg12.out; omega), fun hHeld => ?_⟩
        replace R01' : Hid (Z3.heap[w.heap.size]? = some (.cells (S.v8 (S.zeros 32)) 23 (0, 0))) := C6.row R01'.out (by have := Gg12.out; have h1 := block_lt_of_row R01.out; have h2 := block_lt_of_row R10.out; omega)
        replace R10' : Hid (Z3.heap[g10]? = some (.cells (S.v8 D1) 23 (0, 0))) := C6.row R10'.out (by have := Gg12.out; have h1 := block_lt_of_row R01.out; have h2 := block_lt_of_row R10.out; omega)
        replace Rg12 : Hid (Z3.heap[g12]? = some (.cells (S.v8 D2) 23 (0, 0))) := r6
        have CZ3 : Hid (Chg (fun _ => False) Y1 Z3) := CZ2.out.trans C6 (fun k hk e => by have := Gg12.out; omega)
        clear hst r6 C6 s6 CZ2
        simp only [Act.put]
        refine wpAnyH_take (i := 15) (oi := { dst := some 13, op := Op.assign (Operand.tmp 43), type := 3, pos := "ref.go:77", after := #[{ on := 12, ground := Ground.data }, { on := 14, ground := Ground.chain }, { on := 0, ground := Ground.phase }, { on := 1, ground := Ground.phase }, { on := 2, ground := Ground.phase }, { on := 3, ground := Ground.phase }, { on := 4, ground := Ground.phase }, { on := 5, ground := Ground.phase }, { on := 6, ground := Ground.phase }, { on := 7, ground := Ground.phase }, { on := 8, ground := Ground.phase }, { on := 9, ground := Ground.phase }, { on := 10, ground := Ground.phase }, { on := 11, ground := Ground.phase }, { on := 12, ground := Ground.phase }, { on := 13, ground := Ground.phase }, { on := 14, ground := Ground.phase }], guard := none }) (v := ?_) rfl (by kernel_rfl) (by kernel_rfl) (by kernel_rfl) (fun _ _ _ h => h) (Or.inl ⟨by rfl, ?_⟩) (by assumption) ?_
        rotate_left
        · intro w hSw
          clear hSw
          go_simp
          all_goals with_reducible rfl
        simp only [Act.put, List.setIfInBounds_toArray, List.set_cons_zero, List.set_cons_succ]
        refine wpAnyH_done (by kernel_rfl) ?_ _
        refine NoPanic.normal ?_
        clear hHeld
        have BX := hide (BY.out.trans (CZ3.out.below w.heap.size BY.out.size (fun k hk e => by omega)))
        generalize Z3 = X at BX R01' R10' Rg12 ⊢
        clear CZ3
        have hl1 := load_dig R10'.out LD1.out
        have hl2 := load_dig Rg12.out LD2.out
        go_wp2_with (first | (with_reducible refine at_op { dst := some 45, op := Op.load 23 (Operand.tmp 10), type := 23, pos := "ref.go:78", after := #[], guard := none } ?_; refine wpList_load_as rfl 23 (.tmp 10) rfl (.pointer (some ⟨g10, 0, none⟩)) rfl (.agg (S.v8 D1)) hl1 ?_) | (with_reducible refine at_op { dst := some 46, op := Op.load 23 (Operand.tmp 12), type := 23, pos := "ref.go:78", after := #[], guard := none } ?_; refine wpList_load_as rfl 23 (.tmp 12) rfl (.pointer (some ⟨g12, 0, none⟩)) rfl (.agg (S.v8 D2)) hl2 ?_))
        refine (hnode_any gh gT a D1 D2 LD1.out LD2.out X (HH.out.below BX.out (Nat.le_refl _))).mono ?_
        rintro r X1 ⟨rfl, hb1⟩
        obtain ⟨E, hE⟩ : ∃ E, E = S.node a D1 D2 := ⟨_, rfl⟩
        have LE := hide (show E.length = 32 by rw [hE]; exact S.node_length _ _ _)
        rw [← hE]
        have HE := hide hE
        obtain ⟨YF, hsf, rf, cf, sf⟩ := store_dig ((hb1.block _ (block_lt_of_row R01'.out)).trans R01'.out) (S.zeros_length 32) LE.out
        have RF := hide rf
        have BX1 := hide (BX.out.trans (hb1.mono BX.out.size))
        have BF := hide (BX1.out.trans (cf.below w.heap.size BX1.out.size (fun j hj e => by omega)))
        clear rf cf sf hb1 hE hl1 hl2
        go_wp2_with (with_reducible refine at_op { dst := none, op := Op.store 23 (Operand.tmp 8) (Operand.tmp 47), type := 0, pos := "ref.go:78", after := #[{ on := 3, ground := Ground.data }, { on := 3, ground := Ground.chain }, { on := 0, ground := Ground.phase }, { on := 1, ground := Ground.phase }, { on := 2, ground := Ground.phase }, { on := 3, ground := Ground.phase }, { on := 4, ground := Ground.textOnly Departure.lateStores }, { on := 5, ground := Ground.textOnly Departure.lateStores }, { on := 6, ground := Ground.textOnly Departure.lateStores }], guard := none } ?_; refine wpList_store_as rfl 23 (.tmp 8) (.tmp 47) rfl (.pointer (some ⟨w.heap.size, 0, none⟩)) (.agg (S.v8 E)) rfl rfl YF hsf ?_)
        exact bodyPost_ret (v := .tuple #[.agg (S.v8 E), .int .i64 ((n1 + n2 : Nat) : Int)]) (results_rt Tryd.results57 _ _ w.heap.size _ rfl (var23 RF.out LE.out)) rfl ⟨by rw [HE.out], by show (S.node a D1 D2).length = 32; exact S.node_length _ _ _, BF.out⟩
end Go.Proofs.YtkljajfgdelfgaaDoor
