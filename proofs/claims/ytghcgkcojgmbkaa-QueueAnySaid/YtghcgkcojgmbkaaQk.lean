/- A queue of pairs. -/
import Derived.Test.YtghcgkcojgmbkaaQj
import Derived.Laws.StructEq
namespace Go.Proofs.Ytghcgkcojgmbkaa
open Go.RowKit

theorem idleP (p : Addr) (w : World) :
    CallsD Try.prog 42 #[.pointer (some p)] .returning w fun e u' w' => e = .returned (.tuple #[]) ∧ u' = .returning ∧ w' = w := by
  refine callsD_of_wpS Try.func42 rfl fun c₀ cs hu => ?_
  apply wpS_seq
  apply wpS_region
  simp [wpOpsS, go_sem, recoverD, hu, Try.ntmps42, Exit.thenS]
  refine wpS_cond (t := false) (by simp [Act.eval, Array.replicate]) ?_
  simp only [Bool.false_eq_true, if_false]
  refine wpS_of_wp (wp_skip ?_)
  cases c₀
  simp_all [bodyPostS, results, Try.results42]


theorem pair_part0 (a b : Int) (w : World) : (part 3 #[.int .i64 a, .int .i64 b] (0 * 1)).run Try.prog w = .ok (.int .i64 a) w := by
  simp [part, isAgg, run_underlying Try.underlying3]
theorem pair_part1 (a b : Int) (w : World) : (part 3 #[.int .i64 a, .int .i64 b] 1).run Try.prog w = .ok (.int .i64 b) w := by
  simp [part, isAgg, run_underlying Try.underlying3]
theorem pair_same (a b c d : Int) (w : World) : (Op.equalIn 10000 50 (.agg #[.int .i64 a, .int .i64 b]) (.agg #[.int .i64 c, .int .i64 d])).run Try.prog w = .ok (a == c && b == d) w := by
  have hsz : ∀ w, (sizeOf 3).run Try.prog w = .ok 1 w := fun _ => by kernel_rfl
  have e1 : (Op.equalIn 9999 3 (.int .i64 a) (.int .i64 c)).run Try.prog w = .ok (a == c) w := run_equalIn_int w 9998 3 .i64 .i64 a c Try.underlying3
  have e2 : (Op.equalIn 9999 3 (.int .i64 b) (.int .i64 d)).run Try.prog w = .ok (b == d) w := run_equalIn_int w 9998 3 .i64 .i64 b d Try.underlying3
  have hr : List.range' 0 2 1 = [0, 1] := rfl
  rw [Op.equalIn]
  simp only [Sem.run_bind, run_underlying Try.underlying50, Result.andThen_ok, hsz, Std.Legacy.Range.forIn_eq_forIn_range', Std.Legacy.Range.size, Nat.sub_zero, Nat.add_sub_cancel, Nat.div_one, hr, List.forIn_cons, pair_part0, e1]
  cases h1 : (a == c)
  · simp
  · cases h2 : (b == d)
    · simp [e2, h2, pair_part1]
    · simp [e2, h2, pair_part1]
theorem pair_eql (a b c d : Int) (w : World) : (binOp .eql 50 (.agg #[.int .i64 a, .int .i64 b]) (.agg #[.int .i64 c, .int .i64 d])).run Try.prog w = .ok (.bool (a == c && b == d)) w := by
  rw [run_eql_struct, pair_same]; rfl
theorem pair_neq (a b c d : Int) (w : World) : (binOp .neq 50 (.agg #[.int .i64 a, .int .i64 b]) (.agg #[.int .i64 c, .int .i64 d])).run Try.prog w = .ok (.bool (!(a == c && b == d))) w := by
  rw [run_neq_struct, pair_same]; rfl

theorem cells2p {w : World} {g : Nat} {x y : Value} {t : TypeId} (h : w.heap[g]? = some (.cells #[x, y] t (0, 0))) : w.cell? ⟨g, 0, none⟩ = some x ∧ w.cell? ⟨g, 1, none⟩ = some y := by
  rw [cell_of_row w g 0 _ _ _ h, cell_of_row w g 1 _ _ _ h]; exact ⟨rfl, rfl⟩
set_option maxHeartbeats 1600000 in
set_option maxRecDepth 100000 in
theorem indexP_any (B : Nat) (w : World) (v : Value) (xs : List (Int × Int)) (x : Int × Int) (h : Rw 50 2 encP B w v xs) (hl : xs.length ≤ 100000) :
   Calls Try.prog 43 #[v, .agg #[.int .i64 x.1, .int .i64 x.2]] w fun e w' => e = .returned (.int .i64 (S.idx xs x)) ∧ Below w.heap.size w w' := by
  obtain ⟨xa, xb⟩ := x
  have hpe := pair_eql
  have H0 := hide h
  obtain ⟨ao, cap, rfl⟩ := h.form
  clear h
  have HL := hide hl
  obtain ⟨n, hn⟩ : ∃ n, n = xs.length := ⟨_, rfl⟩
  rw [← hn]
  have HN := hide hn
  clear hn
  go_enter Try.func43, Try.ntmps43
  go_upto_region 1 with fail
  obtain ⟨gb, hgb⟩ : ∃ gb, gb = w.heap.size := ⟨_, rfl⟩
  rw [← hgb]
  generalize hA : w.alloc _ = W1
  have B1 : Hid (Below w.heap.size w W1) := by rw [← hA]; exact (Below.refl _ _).alloc (Nat.le_refl _) _
  have R1 : Hid (W1.heap[gb]? = some (.cells #[.int .i64 xa, .int .i64 xb] 50 (0, 0))) := by rw [← hA, hgb]; exact heap_alloc_new _ _
  have H : Hid (Rw 50 2 encP B W1 (.slice ao xs.length cap) xs) := H0.out.below B1.out
  clear hA H0 hgb
  go_wp2
  go_loopw [8] (fun i wr => ∃ c : Nat, c ≤ n ∧ i = .int .i64 (c : Int) ∧ Still W1 wr ∧ Hid (∀ j, j < c → xs[j]? ≠ some (xa, xb))) (fun i _ => n - (intOf i).toNat)
  case atStart => exact ⟨0, by omega, rfl, Still.refl _, fun j hj => by omega⟩
  case round =>
    obtain ⟨c, hc, rfl, hst, hno⟩ := hrel
    by_cases hlt : c < n
    · obtain ⟨⟨ya, yb⟩, hy⟩ : ∃ y, xs[c]? = some y := ⟨xs[c]'(by have := HN.out; omega), List.getElem?_eq_getElem (by have := HN.out; omega)⟩
      obtain ⟨g, cap', he, _, _, hr⟩ := H.out.at_ (lenP xs) c (ya, yb) hy
      simp only [Value.slice.injEq] at he
      obtain ⟨rfl, _, rfl⟩ := he
      have hbk : ∀ j : Nat, wr.heap[j]? = W1.heap[j]? := fun j => by rw [hst.1]
      have c1 : wr.cell? ⟨g, c * 2, none⟩ = some (.int .i64 ya) := (World.cell?_of_block (hbk g)).trans (hr 0 _ rfl)
      have c2 : wr.cell? ⟨g, c * 2 + 1, none⟩ = some (.int .i64 yb) := (World.cell?_of_block (hbk g)).trans (hr 1 _ rfl)
      have d1 : wr.cell? ⟨gb, 0, none⟩ = some (.int .i64 xa) := (World.cell?_of_block (hbk gb)).trans (cells2p R1.out).1
      have d2 : wr.cell? ⟨gb, 1, none⟩ = some (.int .i64 xb) := (World.cell?_of_block (hbk gb)).trans (cells2p R1.out).2
      clear hr hbk
      have q1 : (0 : Int) ≤ (c : Int) := by omega
      have q2 : (c : Int) < (n : Int) := by omega
      have q4 : IntKind.i64.wrap ((c : Int) + 1) = (c : Int) + 1 := by have := HL.out; have := HN.out; rw [IntKind.wrap_i64]; omega
      have ST := hide hst
      have HY := hide hy
      clear hst hy
      by_cases hxy : xa = ya ∧ xb = yb
      · obtain ⟨rfl, rfl⟩ := hxy
        have hfin : Hid (S.idx xs (xa, xb) = (c : Int)) := S.idx_found HY.out hno.out
        go_wp2
        go_quiet (fail)
        go_wp2
        go_ret
        exact ⟨by rw [hfin.out]; rfl, B1.out.trans (Still.blw (W := wr.drewN _) ST.out _)⟩
      · have hne : (xa == ya && xb == yb) = false := by simp; exact fun e e2 => hxy ⟨e, e2⟩
        go_wp2
        go_quiet (fail)
        go_wp2
        go_roundw
        case rel => exact ⟨c + 1, by omega, by go_num, ST.out, fun j hj => by
          by_cases e : j = c
          · subst e; rw [HY.out]; intro e2; injection e2 with e2; injection e2 with e2 e3; exact hxy ⟨e2.symm, e3.symm⟩
          · exact hno.out j (by omega)⟩
        case measure => simp [intOf]; omega
    · obtain rfl : c = n := by omega
      have hfin : Hid (S.idx xs (xa, xb) = -1) := S.idx_none (fun j hj => hno.out j (by have := HN.out; omega))
      go_wp2
      go_ret
      exact ⟨by rw [hfin.out]; rfl, B1.out.trans (Still.blw hst _)⟩

set_option maxHeartbeats 1600000 in
set_option maxRecDepth 100000 in
theorem findP_any (B : Nat) (w : World) (v : Value) (xs : List (Int × Int)) (x : Int × Int) (h : Rw 50 2 encP B w v xs) (hl : xs.length ≤ 100000) :
   Calls Try.prog 39 #[v, .agg #[.int .i64 x.1, .int .i64 x.2]] w fun e w' => e = .returned (.int .i64 (S.idx xs x)) ∧ Below w.heap.size w w' := by
  have hmf : ∀ (fn : Fn) (first cap : Array Value) (w : World), (Instr.makeFunc fn first cap).run Try.prog w = .ok (.func fn first cap) w := fun _ _ _ _ => rfl
  have H := hide h
  obtain ⟨r, hr⟩ : ∃ r, r = S.idx xs x := ⟨_, rfl⟩
  have HR := hide hr
  clear h hr
  obtain ⟨xa, xb⟩ := x
  obtain ⟨gb, hgb⟩ : ∃ gb, gb = w.heap.size := ⟨_, rfl⟩
  obtain ⟨gr, hgr⟩ : ∃ gr, gr = w.heap.size + 1 := ⟨_, rfl⟩
  go_enter_defers Try.func39, Try.ntmps39
  go_upto_region 1 with fail
  rw [← hgr]
  generalize hA : World.alloc _ _ = W0
  rw [← hgb]
  have B0 : Hid (Below w.heap.size w W0) := by rw [← hA]; exact ((Below.refl _ _).alloc (Nat.le_refl _) _).alloc (by simp) _
  have R0 : Hid (W0.heap[gb]? = some (.cells #[.int .i64 xa, .int .i64 xb] 50 (0, 0))) := by
    show W0.heap[gb]? = _
    rw [← hA, heap_alloc_old _ _ (by rw [hgb]; simp), hgb]; exact heap_alloc_new _ _
  have R1 : Hid (W0.heap[gr]? = some (.cells #[.int .i64 0] 3 (0, 0))) := by
    show W0.heap[gr]? = _
    rw [← hA, hgr, show w.heap.size + 1 = (w.alloc (.cells #[.int .i64 xa, .int .i64 xb] 50)).heap.size by simp]; exact heap_alloc_new _ _
  have GR : Hid (w.heap.size ≤ gr) := by show w.heap.size ≤ gr; omega
  clear hA hgb hgr
  have c1 := (cells2p R0.out).1
  have c2 := (cells2p R0.out).2
  go_wp2_with fail
  go_at_call 43
  refine (indexP_any B W0 v xs (xa, xb) (H.out.below B0.out) hl).mono ?_
  rintro e w1 ⟨rfl, hb⟩
  rw [← HR.out]
  have row1 : Hid (w1.heap[gr]? = some (.cells #[.int .i64 0] 3 (0, 0))) := (hb.block gr (block_lt_of_row R1.out)).trans R1.out
  have B1 : Hid (Below w.heap.size w w1) := B0.out.trans (hb.mono B0.out.size)
  clear hb c1 c2
  have f0 := cells1 row1.out
  have z0 : w1.frozen? ⟨gr, 0, none⟩ = false := frozen_of_row w1 gr 0 _ _ row1.out
  go_wp2
  refine leaves_cons (f := 42) (args := #[.pointer (some ⟨gr, 0, none⟩)]) (by simp) (by simp [go_sem]) ?_
  refine (idleP ⟨gr, 0, none⟩ _).mono ?_
  rintro e u' w'' ⟨rfl, rfl, rfl⟩
  have c2 : (w1.setCell ⟨gr, 0, none⟩ (.int .i64 r)).cell? ⟨gr, 0, none⟩ = some (.int .i64 r) := World.cell?_setCell_same _ _ _ f0
  have B2 : Hid (Below w.heap.size w (w1.setCell ⟨gr, 0, none⟩ (.int .i64 r))) := B1.out.trans ((Below.refl _ _).setCell (p := ⟨gr, 0, none⟩) GR.out _)
  rw [HR.out] at c2 B2
  simp [Leaves, settle, results, Try.results39, go_sem, c2, HR.out, B2.out]

theorem newP_any (w : World) :
   Calls Try.prog 19 #[] w fun e w' => e = .returned (.pointer (some ⟨w.heap.size, 0, none⟩)) ∧ QAt 67 50 2 encP w.heap.size w' w.heap.size (.slice none 0 0) [] ∧ Below w.heap.size w w' := by
  have R : Hid ((w.alloc (.cells #[.slice none 0 0] 67)).heap[w.heap.size]? = some (.cells #[.slice none 0 0] 67 (0, 0))) := heap_alloc_new _ _
  have B1 : Hid (Below w.heap.size w (w.alloc (.cells #[.slice none 0 0] 67))) := (Below.refl _ _).alloc (Nat.le_refl _) _
  go_enter Try.func19, Try.ntmps19
  go_wp2
  go_ret
  exact ⟨rfl, ⟨R.out, Rw.nil _ _ _ _ _, by simp, Nat.le_refl _⟩, B1.out⟩


theorem lenP_any (B : Nat) (w : World) (g : Nat) (v : Value) (xs : List (Int × Int)) (h : QAt 67 50 2 encP B w g v xs) :
   Calls Try.prog 25 #[.pointer (some ⟨g, 0, none⟩)] w fun e w' => e = .returned (.int .i64 (xs.length : Int)) ∧ Still w w' := by
  obtain ⟨ao, cap, rfl⟩ := h.list.form
  have c0 := cells1 h.row
  clear h
  go_enter Try.func25, Try.ntmps25
  go_wp2
  go_ret
  exact ⟨rfl, Still.refl _⟩


theorem takeP_end (B : Nat) (w w1 w2 : World) (g : Nat) (v v' u : Value) (xs : List (Int × Int)) (m : Nat) (H : QAt 67 50 2 encP B w g v xs) (hm : m ≤ xs.length)
    (R1 : Rw 50 2 encP w.heap.size w1 u (xs.take m)) (B1 : Below w.heap.size w w1) (R2 : Rw 50 2 encP B w2 v' (xs.drop m)) (C2 : Chg (fun j => v.ownBlock = some j) w1 w2) (O2 : v'.ownBlock = v.ownBlock)
    (g2 : w2.heap[g]? = some (.cells #[v] 67 (0, 0))) :
    ∃ u' v2, Ending.returned u = .returned u' ∧ Rw 50 2 encP w.heap.size (w2.setCell ⟨g, 0, none⟩ v') u' (xs.take m) ∧ QAt 67 50 2 encP B (w2.setCell ⟨g, 0, none⟩ v') g v2 (xs.drop m) ∧ QTo w g v (w2.setCell ⟨g, 0, none⟩ v') v2 ∧ v2.ownBlock = v.ownBlock := by
  have hng : v.ownBlock ≠ some g := H.list.apart H.row (by decide)
  have C3 : Chg (fun j => j = g) w2 (w2.setCell ⟨g, 0, none⟩ v') := (Chg.refl _ w2).setCell g 0 v' (fun _ => rfl)
  have hgl := H.g_lt
  refine ⟨u, v', rfl, ?_, ⟨?_, ?_, ?_, H.lo⟩, ⟨?_, fun j hj => Or.inl (by rw [← O2]; exact hj)⟩, O2⟩
  · refine (R1.chg C2 (fun j hj c => ?_)).chg C3 (fun j hj c => ?_)
    · have := (R1.blk hj).1; have := H.v_lt c; omega
    · have := (R1.blk hj).1; omega
  · exact one_setCell g2
  · exact R2.chg C3 (fun j hj c => hng (by rw [← O2, hj, c]))
  · have := H.few; rw [List.length_drop]; omega
  · have C1 : Chg (fun j => j = g ∨ v.ownBlock = some j) w w1 := Chg.ofBelow' B1
    exact (C1.trans C2 (fun j _ c => Or.inr c)).trans C3 (fun j _ c => Or.inl c)

set_option maxHeartbeats 1600000 in
theorem takeP_any (B : Nat) (w : World) (g : Nat) (v : Value) (xs : List (Int × Int)) (n : Int) (h : QAt 67 50 2 encP B w g v xs) :
   Calls Try.prog 23 #[.pointer (some ⟨g, 0, none⟩), .int .i64 n] w fun e w' => ∃ u v', e = .returned u ∧ Rw 50 2 encP w.heap.size w' u (xs.take (S.many xs n)) ∧ QAt 67 50 2 encP B w' g v' (xs.drop (S.many xs n)) ∧ QTo w g v w' v' ∧ v'.ownBlock = v.ownBlock := by
  have H := hide h
  have hf := h.few
  obtain ⟨m, hm⟩ : ∃ m, m = S.many xs n := ⟨_, rfl⟩
  have hle : m ≤ xs.length := by rw [hm]; exact S.many_le xs n
  have e1 : min (max n 0) (xs.length : Int) = (m : Int) := by rw [hm]; exact S.many_eq xs n
  rw [← hm]
  clear hm
  obtain ⟨L, hL⟩ : ∃ L, L = xs.length := ⟨_, rfl⟩
  obtain ⟨ao, cap, rfl⟩ := h.list.form
  have hcap : L ≤ cap := by
    rcases h.list.2 with ⟨e, h0⟩ | ⟨g', cap', cur, e, _, _, q1, _⟩
    · omega
    · simp only [Value.slice.injEq] at e; omega
  have HT : Hid (Rw 50 2 encP B w (.slice ao m cap) (xs.take m)) := h.list.take (lenP xs) m hle
  have c0 := cells1 h.row
  have HROW := hide h.row
  have HG := hide h.g_lt
  rw [← hL] at c0 e1 hle
  have HL := hide hL
  have hng : Hid ((Value.slice ao xs.length cap).ownBlock ≠ some g) := h.list.apart h.row (by decide)
  clear h
  rw [← hL] at hf ⊢
  clear hL
  have q3 : (L : Int) ≤ (cap : Int) := by omega
  by_cases hn : n < 0
  · obtain rfl : m = 0 := by omega
    clear e1 hle
    go_enter Try.func23, Try.ntmps23
    go_wp2_with fail
    go_at_call 34
    refine (anewP_any B w (.slice ao 0 cap) (xs.take 0) HT.out (by rw [List.length_take]; have := HL.out; omega)).mono ?_
    rintro e w1 ⟨u, rfl, hr1, hb1⟩
    have c1 := cells1 ((hb1.block g HG.out).trans HROW.out)
    have R1 := hide hr1
    have B1 := hide hb1
    clear hr1 hb1
    rw [← HL.out] at c1
    go_wp2_with fail
    go_at_call 35
    refine (deleteP_any B w1 (.slice ao L cap) xs 0 (by rw [HL.out]; exact H.out.list.below B1.out) (by have := HL.out; omega) (by have := HL.out; omega)).mono ?_
    rintro e w2 ⟨v', rfl, hr2, hc2, ho2⟩
    obtain ⟨ao2, l2, cap2, rfl⟩ : ∃ a l c, v' = Value.slice a l c := by obtain ⟨a, c, e⟩ := hr2.form; exact ⟨a, _, c, e⟩
    have g1 : Hid (w1.heap[g]? = some (.cells #[.slice ao L cap] 67 (0, 0))) := by rw [HL.out]; exact (B1.out.block g HG.out).trans HROW.out
    have g2 : Hid (w2.heap[g]? = some (.cells #[.slice ao L cap] 67 (0, 0))) := hc2.row g1.out (by rw [HL.out]; exact hng.out)
    have c2 := cells1 g2.out
    have z2 : w2.frozen? ⟨g, 0, none⟩ = false := frozen_of_row w2 g 0 _ _ g2.out
    have R2 := hide hr2
    have C2 := hide hc2
    have O2 := hide ho2
    clear hr2 hc2 ho2
    go_wp2
    go_ret
    exact takeP_end B w w1 w2 g (.slice ao L cap) _ u xs 0 (by rw [HL.out]; exact H.out) (by have := HL.out; omega) R1.out B1.out R2.out C2.out O2.out g2.out
  · by_cases hn2 : n ≤ (L : Int)
    · obtain rfl : n = (m : Int) := by omega
      have q4 : (m : Int) ≤ (cap : Int) := by omega
      clear e1
      go_enter Try.func23, Try.ntmps23
      go_wp2_with fail
      go_at_call 34
      refine (anewP_any B w (.slice ao m cap) (xs.take m) HT.out (by rw [List.length_take]; have := HL.out; omega)).mono ?_
      rintro e w1 ⟨u, rfl, hr1, hb1⟩
      have c1 := cells1 ((hb1.block g HG.out).trans HROW.out)
      have R1 := hide hr1
      have B1 := hide hb1
      clear hr1 hb1
      rw [← HL.out] at c1
      go_wp2_with fail
      go_at_call 35
      refine (deleteP_any B w1 (.slice ao L cap) xs m (by rw [HL.out]; exact H.out.list.below B1.out) (by have := HL.out; omega) (by have := HL.out; omega)).mono ?_
      rintro e w2 ⟨v', rfl, hr2, hc2, ho2⟩
      obtain ⟨ao2, l2, cap2, rfl⟩ : ∃ a l c, v' = Value.slice a l c := by obtain ⟨a, c, e⟩ := hr2.form; exact ⟨a, _, c, e⟩
      have g1 : Hid (w1.heap[g]? = some (.cells #[.slice ao L cap] 67 (0, 0))) := by rw [HL.out]; exact (B1.out.block g HG.out).trans HROW.out
      have g2 : Hid (w2.heap[g]? = some (.cells #[.slice ao L cap] 67 (0, 0))) := hc2.row g1.out (by rw [HL.out]; exact hng.out)
      have c2 := cells1 g2.out
      have z2 : w2.frozen? ⟨g, 0, none⟩ = false := frozen_of_row w2 g 0 _ _ g2.out
      have R2 := hide hr2
      have C2 := hide hc2
      have O2 := hide ho2
      clear hr2 hc2 ho2
      go_wp2
      go_ret
      exact takeP_end B w w1 w2 g (.slice ao L cap) _ u xs m (by rw [HL.out]; exact H.out) (by have := HL.out; omega) R1.out B1.out R2.out C2.out O2.out g2.out
    · obtain rfl : m = L := by omega
      clear e1 hle
      go_enter Try.func23, Try.ntmps23
      go_wp2_with fail
      go_at_call 34
      refine (anewP_any B w (.slice ao m cap) (xs.take m) HT.out (by rw [List.length_take]; have := HL.out; omega)).mono ?_
      rintro e w1 ⟨u, rfl, hr1, hb1⟩
      have c1 := cells1 ((hb1.block g HG.out).trans HROW.out)
      have R1 := hide hr1
      have B1 := hide hb1
      clear hr1 hb1
      rw [← HL.out] at c1
      go_wp2_with fail
      go_at_call 35
      refine (deleteP_any B w1 (.slice ao m cap) xs m (by rw [HL.out]; exact H.out.list.below B1.out) (by have := HL.out; omega) (by have := HL.out; omega)).mono ?_
      rintro e w2 ⟨v', rfl, hr2, hc2, ho2⟩
      obtain ⟨ao2, l2, cap2, rfl⟩ : ∃ a l c, v' = Value.slice a l c := by obtain ⟨a, c, e⟩ := hr2.form; exact ⟨a, _, c, e⟩
      have g1 : Hid (w1.heap[g]? = some (.cells #[.slice ao m cap] 67 (0, 0))) := by rw [HL.out]; exact (B1.out.block g HG.out).trans HROW.out
      have g2 : Hid (w2.heap[g]? = some (.cells #[.slice ao m cap] 67 (0, 0))) := hc2.row g1.out (by rw [HL.out]; exact hng.out)
      have c2 := cells1 g2.out
      have z2 : w2.frozen? ⟨g, 0, none⟩ = false := frozen_of_row w2 g 0 _ _ g2.out
      have R2 := hide hr2
      have C2 := hide hc2
      have O2 := hide ho2
      clear hr2 hc2 ho2
      go_wp2
      go_ret
      exact takeP_end B w w1 w2 g (.slice ao m cap) _ u xs m (by rw [HL.out]; exact H.out) (by have := HL.out; omega) R1.out B1.out R2.out C2.out O2.out g2.out

end Go.Proofs.Ytghcgkcojgmbkaa
