/- FairShares' walk. -/
import Derived.Test.YtnplijgdklnipaaFn
import Derived.Deep.CutBlock
namespace Go.Proofs.Ytnplijgdklnipaa
open Go.RowKit
theorem flat_set1 : ∀ (l : List S.Ln) (k : Nat) (b : Int), k < l.length → (l.flatMap encL).set (k * 3 + 1) (.int .i64 b) = (l.set k ⟨(l.getD k S.l0).w, b, (l.getD k S.l0).d⟩).flatMap encL
  | [], k, b, h => by simp at h
  | x :: l, 0, b, _ => by simp [encL]
  | x :: l, k + 1, b, h => by
    have ih := flat_set1 l k b (by simpa using h)
    rw [List.set_cons_succ, List.flatMap_cons, List.flatMap_cons, show (x :: l).getD (k + 1) S.l0 = l.getD k S.l0 from rfl, ← ih, show (k + 1) * 3 + 1 = k * 3 + 1 + 3 by omega]
    simp [encL]
theorem Rw.put1 {el : TypeId} {B : Nat} {w : World} {g n cap : Nat} {l : List S.Ln} (h : Rw el 3 encL B w (.slice (some ⟨g, 0, none⟩) n cap) l) (k : Nat) (b : Int) (hk : k < l.length) :
    Rw el 3 encL B (w.setCell ⟨g, k * 3 + 1, none⟩ (.int .i64 b)) (.slice (some ⟨g, 0, none⟩) n cap) (l.set k ⟨(l.getD k S.l0).w, b, (l.getD k S.l0).d⟩) := by
  have e : ((l.set k ⟨(l.getD k S.l0).w, b, (l.getD k S.l0).d⟩).flatMap encL).length = (l.set k ⟨(l.getD k S.l0).w, b, (l.getD k S.l0).d⟩).length * 3 := flat_gen _ (lenL _)
  rcases h.2 with ⟨e0, _⟩ | ⟨g', cap', cur, e0, hB, hr, q1, q2, q3, q4⟩
  · simp at e0
  · simp only [Value.slice.injEq, Option.some.injEq, Addr.mk.injEq] at e0
    obtain ⟨⟨rfl, -, -⟩, rfl, rfl⟩ := e0
    have h2 := heap_setCell_same w g (k * 3 + 1) _ el (.int .i64 b) hr
    refine ⟨e, Or.inr ⟨g, cap, _, by rw [List.length_set], hB, h2, by rw [List.length_set]; exact q1, q2, by simpa using q3, ?_⟩⟩
    rw [List.length_set]
    simp only [Array.toList_setIfInBounds, List.take_set, q4]
    exact flat_set1 l k b hk
namespace S
def big (x : Ln) : Ln := ⟨x.w, 1048576, x.d⟩
theorem big_more {l : List Ln} {k : Nat} (hk : k < l.length) : ((l.take k).map big ++ l.drop k).set k ⟨(((l.take k).map big ++ l.drop k).getD k l0).w, 1048576, (((l.take k).map big ++ l.drop k).getD k l0).d⟩ = (l.take (k + 1)).map big ++ l.drop (k + 1) := by
  have hl : ((l.take k).map big).length = k := by rw [List.length_map, List.length_take]; omega
  have e : ((l.take k).map big ++ l.drop k).getD k l0 = l[k] := by
    rw [List.getD_eq_getElem?_getD, List.getElem?_append_right (by omega), hl, Nat.sub_self, List.getElem?_drop, Nat.add_zero, List.getElem?_eq_getElem hk]; rfl
  rw [e, List.set_append_right _ _ (by omega), hl, Nat.sub_self, List.drop_eq_getElem_cons hk, List.set_cons_zero, take_more (List.getElem?_eq_getElem hk), List.map_append, List.append_assoc]
  rfl
theorem big_fr {l : List Ln} (h : ∀ x ∈ l, Fr 60 x) : ∀ x ∈ l.map big, Fr 1048576 x := by
  intro x hx
  rw [List.mem_map] at hx
  obtain ⟨y, hy, rfl⟩ := hx
  obtain ⟨h1, h2, h3, h4, h5⟩ := h y hy
  exact ⟨h1, h2, by show (0 : Int) ≤ 1048576; omega, by show (1048576 : Int) ≤ 1048576; omega, h5⟩
theorem big_w (l : List Ln) : (l.map big).map (·.w) = l.map (·.w) := by rw [List.map_map]; rfl
/-- What has been got. -/
def Got (L : List Ln) (k i : Nat) (q : Int) (gs : List Int) : Prop := gs.length = k ∧ ∀ j, j < k → gs.getD j 0 = if on L j then (had (all L) (plc L 0 j) i : Int) * ((L.getD j l0).w * q) else 0
theorem Got.start (L : List Ln) (k : Nat) (q : Int) : Got L k 0 q (zeros k) := by
  refine ⟨zeros_length k, fun j hj => ?_⟩
  rw [had_zero, List.getD_eq_getElem?_getD, zeros, List.getElem?_replicate, if_pos hj]
  simp
theorem Got.turn {L : List Ln} {k i j : Nat} {q : Int} {gs : List Int} (h : Got L k i q gs) (hj : on L j) (_hjk : j < k) (hr : rk L j = (0 + i) % all L) (hp : 0 < all L) : Got L k (i + 1) q (gs.set j (gs.getD j 0 + (L.getD j l0).w * q)) := by
  refine ⟨by rw [List.length_set]; exact h.1, fun x hx => ?_⟩
  rw [List.getD_eq_getElem?_getD]
  have hpt := fun (y : Nat) (c : on L y) => plc_turn (t := 0) c hj hr hp
  by_cases e : j = x
  · subst e
    rw [List.getElem?_set_self (by rw [h.1]; exact hx), if_pos hj, had_more (plc_lt 0 j hp), if_pos ((hpt j hj).2 rfl)]
    show gs.getD j 0 + _ = _
    rw [h.2 j hx, if_pos hj, Int.natCast_add, Int.add_mul]
    simp
  · rw [List.getElem?_set_ne e, ← List.getD_eq_getElem?_getD, h.2 x hx]
    by_cases c : on L x
    · rw [if_pos c, if_pos c, had_more (plc_lt 0 x hp), if_neg (fun z => e (((hpt x c).1 z).symm))]
      rfl
    · rw [if_neg c, if_neg c]
theorem had_le (n p i : Nat) : had n p i ≤ i + 1 := by
  unfold had
  have := Nat.div_le_self i n
  split <;> omega
/-- Shares are near. -/
theorem near {ka kb q wa wb : Int} (h1 : ka ≤ kb + 1) (h2 : kb ≤ ka + 1) (hP : 0 ≤ q * wa * wb) :
    ka * (wa * q) * wb - kb * (wb * q) * wa ≤ q * wa * wb ∧ -(q * wa * wb) ≤ ka * (wa * q) * wb - kb * (wb * q) * wa := by
  have e1 : ka * (wa * q) * wb = ka * (q * wa * wb) := by rw [Int.mul_assoc, Int.mul_comm wa q]
  have e2 : kb * (wb * q) * wa = kb * (q * wa * wb) := by rw [Int.mul_assoc, Int.mul_comm wb q, Int.mul_assoc q wb wa, Int.mul_comm wb wa, ← Int.mul_assoc q wa wb]
  rw [e1, e2, ← Int.sub_mul]
  obtain ⟨P, hPP⟩ : ∃ P, P = q * wa * wb := ⟨_, rfl⟩
  rw [← hPP] at hP ⊢
  rcases (show ka - kb = 1 ∨ ka - kb = 0 ∨ ka - kb = -1 by omega) with h | h | h <;> rw [h] <;> omega
end S
/-- A turn, where there is enough. -/
theorem take_all {L l : List S.Ln} {j : Nat} {q : Int} (hw : 1 ≤ (L.getD j S.l0).w) (hw4 : (L.getD j S.l0).w ≤ 4) (hq : 1 ≤ q ∧ q ≤ 2) (hb : 8 ≤ (l.getD j S.l0).b) : min (S.sh (L.getD j S.l0).w q) (l.getD j S.l0).b = (L.getD j S.l0).w * q ∧ 1 ≤ (L.getD j S.l0).w * q ∧ (L.getD j S.l0).w * q ≤ 8 := by
  have h1 := S.sh_bounds (L.getD j S.l0).w q
  have h2 := S.sh_is hw hw4 hq.1 hq.2
  rw [← h2]
  omega
set_option maxHeartbeats 25600000 in
set_option maxRecDepth 100000 in
theorem fairShares_walk (a0 : Option Addr) (n ca : Nat) (f : Nat → Int) (n1 n2 n3 n4 : Int) (w : World) (hf : InI w a0 n f) :
   Calls Try.prog 6 #[.slice a0 n ca, .int .i64 n1, .int .i64 n2, .int .i64 n3, .int .i64 n4] w fun e w' => e = .returned (.bool true) ∧ Below w.heap.size w w' := by
  have HF := hide hf
  clear hf
  obtain ⟨bb, hbb⟩ : ∃ bb : Int, bb = 1048576 := ⟨_, rfl⟩
  have HBB := hide hbb
  have HB2 : Hid (bb ≤ 100000000) := by show bb ≤ 100000000; omega
  clear hbb
  go_enter Try.func6, Try.ntmps6
  go_wp2_with fail
  go_at_call 18
  refine (fresh_any a0 none n 0 ca 0 f (fun _ => 0) w HF.out (fun h => by omega)).mono ?_
  rintro e W1 ⟨u, rfl, hu, hb⟩
  obtain ⟨k, hk⟩ : ∃ k, k = min n 12 := ⟨_, rfl⟩
  rw [← hk] at hu ⊢
  obtain ⟨L, hL⟩ : ∃ L, L = S.fr 0 f (fun _ => 0) k := ⟨_, rfl⟩
  have HFR : Hid ((∀ x ∈ L, S.Fr 60 x) ∧ L.length = k ∧ k ≤ 12) := by rw [hL]; exact ⟨S.fr_fr 0 f _ k, S.fr_length 0 f _ k, by omega⟩
  rw [← hL] at hu ⊢
  obtain ⟨c, hc⟩ : ∃ c, c = S.cnt L := ⟨_, rfl⟩
  rw [← hc]
  have HC : Hid (c = S.all L ∧ c ≤ k) := by
    rw [hc]
    exact ⟨(S.all_cnt L).symm, by have := S.cnt_le L; have := HFR.out.2.1; omega⟩
  have B1 := hide hb
  have U1 := hide hu
  clear hc hL hk hu hb HF
  by_cases h0 : c = 0
  · subst h0
    go_wp2_with fail
    go_at_call 11
    refine (known_any W1).mono ?_
    rintro e W2 ⟨rfl, hb⟩
    have B2 := hide (B1.out.trans (hb.mono B1.out.size))
    clear hb
    go_wp2
    go_ret
    exact ⟨rfl, B2.out⟩
  · have e0 : ((c : Int) == 0) = false := by simp; omega
    have HP : Hid (0 < S.all L) := by show 0 < S.all L; rw [← HC.out.1]; omega
    have hkp : 1 ≤ k := by have := HC.out.2; omega
    have HK1 := hide hkp
    obtain ⟨au, cu, hf⟩ := U1.out.form
    rw [HFR.out.2.1] at hf
    subst hf
    obtain ⟨gu, cu', e1, -, hgB, -⟩ := Rw.blk0 U1.out (by rw [HFR.out.2.1]; exact hkp)
    simp only [Value.slice.injEq] at e1
    obtain ⟨rfl, -, -⟩ := e1
    have GU := hide hgB
    clear h0 hkp hgB
    go_wp2_with fail
    go_at_call 19
    refine (within_any n2 1 W1 (by omega) (by omega)).mono ?_
    rintro e w1 ⟨rfl, rfl⟩
    obtain ⟨qn, hqn⟩ : ∃ qn, qn = S.within n2 1 := ⟨_, rfl⟩
    have hqle : qn ≤ 1 := by have := S.within_le n2 1 (by omega); omega
    rw [← hqn]
    obtain ⟨q, hq⟩ : ∃ q : Int, q = 1 + (qn : Int) := ⟨_, rfl⟩
    have qq : IntKind.i64.wrap (1 + (qn : Int)) = q := by rw [hq]; exact wrap_small (by omega) (by omega)
    have HQ : Hid (1 ≤ q ∧ q ≤ 2) := by rw [hq]; exact ⟨by omega, by omega⟩
    clear hqn hqle hq
    go_upto_region 5 with fail
    clear qq
    go_wp2_with fail
    go_at_call 19
    refine (within_any n1 200 W1 (by omega) (by omega)).mono ?_
    rintro e w1 ⟨rfl, rfl⟩
    obtain ⟨T, hT⟩ : ∃ T, T = S.within n1 200 := ⟨_, rfl⟩
    have HT : Hid (T ≤ 200) := by show T ≤ 200; have := S.within_le n1 200 (by omega); omega
    rw [← hT]
    clear hT
    go_wp2_with fail
    go_loopw [13] (fun s13 wr => ∃ i : Nat, i ≤ k ∧ s13 = .int .i64 (i : Int) ∧ Hid (Rw 28 3 encL w.heap.size wr (.slice (some ⟨gu, 0, none⟩) k cu) ((L.take i).map S.big ++ L.drop i)) ∧ Hid (Below w.heap.size w wr)) (fun s13 _ => k - (intOf s13).toNat)
    case atStart => exact ⟨0, by omega, rfl, by simpa using U1, B1⟩
    case round =>
      obtain ⟨i, hi, rfl, R, B⟩ := hrel
      by_cases hik : i < k
      · have p1 : (i : Int) < (k : Int) := by omega
        have p0 : (0 : Int) ≤ (i : Int) := by omega
        have p2 : IntKind.i64.wrap ((i : Int) + 1) = (i : Int) + 1 := wrap_small (by omega) (by have := HFR.out; omega)
        have hil : i < L.length := by rw [HFR.out.2.1]; exact hik
        have hil2 : i < ((L.take i).map S.big ++ L.drop i).length := by simp; omega
        have P := R.out.put1 i 1048576 hil2
        rw [S.big_more hil] at P
        have P2 := hide P
        obtain ⟨d0, d1, d2⟩ := lane_cells (R.out.cells i hil2)
        obtain ⟨cur, hcur⟩ : ∃ cur, wr.heap[gu]? = some (.cells cur 28 (0, 0)) := (R.out.blk (j := gu) rfl).2.2
        have f1 := frozen_of_row _ _ (i * 3 + 1) _ _ hcur
        have B2 := hide (B.out.setCell (p := ⟨gu, i * 3 + 1, none⟩) GU.out (.int .i64 1048576))
        have HI := hide hik
        clear P hil hil2 hcur hik hi R B d0 d2
        go_wp2
        exact ⟨⟨i + 1, by have := HI.out; omega, by simp, P2, B2⟩, by simp [intOf]; have := HI.out; omega⟩
      · obtain rfl : k = i := by omega
        have R2 := R.out
        rw [List.take_of_length_le (by rw [HFR.out.2.1]; exact Nat.le_refl _), List.drop_eq_nil_of_le (by rw [HFR.out.2.1]; exact Nat.le_refl _), List.append_nil] at R2
        have R3 := hide R2
        have hmk := make41 k (by have := HFR.out; omega) 
        clear R2 R hik hi
        go_upto_region 12 with fail
        generalize hX : World.alloc _ _ = X
        obtain ⟨gm, hgm⟩ : ∃ gm, gm = wr.heap.size := ⟨_, rfl⟩
        rw [← hgm]
        have X0 : Hid (Tn w L bb 0 k X (.slice (some ⟨gu, 0, none⟩) k cu) (L.map S.big) 0 0 ∧ X.heap[gm]? = some (.cells (S.v8 (S.zeros k)) 3 (0, 0)) ∧ w.heap.size ≤ gm) := by
          have := B.out.size
          show _ ∧ _ ∧ _
          rw [← hX, hgm]
          exact ⟨⟨R3.out.below (one_below _ _), B.out.trans ((one_below _ _).mono this), S.big_w L, (by rw [HBB.out]; exact S.big_fr HFR.out.1), by rw [List.length_map]; exact HFR.out.2.1, S.At.start L 0 (by omega)⟩, heap_alloc_new _ _, this⟩
        have BG0 : Hid (∀ x, x < k → (1048576 : Int) - 8 * ((0 : Nat) : Int) ≤ ((L.map S.big).getD x S.l0).b) := fun x hx => by
          rw [List.getD_eq_getElem?_getD, List.getElem?_map, List.getElem?_eq_getElem (by rw [HFR.out.2.1]; exact hx)]
          show (1048576 : Int) - 8 * ((0 : Nat) : Int) ≤ 1048576
          omega
        clear hX hgm U1 B1 hmk R3 B
        go_wp2_with fail
        go_loopw [11, 15, 16] (fun s11 s15 s16 wr => ∃ (i a : Nat) (l : List S.Ln) (gs : List Int), i ≤ T ∧ s16 = .int .i64 (i : Int) ∧ s15 = .int .i64 (a : Int) ∧ a < k ∧ Hid (Tn w L bb 0 k wr s11 l i a) ∧ Hid (∀ x, x < k → (1048576 : Int) - 8 * (i : Int) ≤ (l.getD x S.l0).b) ∧ Hid (S.Got L k i q gs) ∧ Hid (wr.heap[gm]? = some (.cells (S.v8 gs) 3 (0, 0)))) (fun _ _ s16 _ => T - (intOf s16).toNat)
        case atStart => exact ⟨0, 0, L.map S.big, S.zeros k, by omega, rfl, rfl, HK1.out, X0.out.1, BG0, S.Got.start L k q, X0.out.2.1⟩
        case round =>
          obtain ⟨i, a, l, gs, hi, rfl, rfl, hak, TN, BG, GO, RM⟩ := hrel
          obtain ⟨av, cv, hfv⟩ := TN.out.r.form
          rw [TN.out.len] at hfv
          subst hfv
          have GM : Hid (w.heap.size ≤ gm) := X0.out.2.2
          clear X0 BG0
          by_cases hic : i < T
          · have p1 : (i : Int) < (T : Int) := by omega
            have HI := hide (And.intro hi hic)
            have HAK := hide hak
            clear hi hic hak
            go_wp2_with fail
            go_at_call 9
            refine (TN.out.call (q := q) (at_ := (a : Int)) HFR.out.2.1 (by have := HFR.out; omega) HB2.out HP.out (S.pos_nat HAK.out)).mono ?_
            rintro e W2 ⟨u2, j, nx, l2, rfl, hjk, hon, hrk, hnx, hnxk, hget, htn, hb⟩
            have hlL : (L.getD j S.l0).w ≤ 4 := by
              have hjl : j < L.length := hon.1
              rw [List.getD_eq_getElem?_getD, List.getElem?_eq_getElem hjl]
              exact (HFR.out.1 _ (List.getElem_mem hjl)).2.1
            have hta := take_all (L := L) (l := l) (q := q) hon.2 hlL HQ.out (by have := BG.out j hjk; have := HI.out; have := HT.out; omega)
            rw [hta.1] at hget ⊢
            obtain ⟨tkn, htkn⟩ : ∃ tkn, tkn = (L.getD j S.l0).w * q := ⟨_, rfl⟩
            rw [← htkn] at hget hta ⊢
            have T2 := hide (TN.out.below hb)
            have TN2 := hide htn
            obtain ⟨a2, c2, hf2⟩ := htn.r.form
            rw [htn.len] at hf2
            subst hf2
            have RM2 := hide (hb.block gm (block_lt_of_row RM.out) |>.trans RM.out)
            have GO2 := hide (GO.out.turn hon hjk hrk HP.out)
            rw [← htkn] at GO2
            have BG2 : Hid (∀ x, x < k → (1048576 : Int) - 8 * ((i + 1 : Nat) : Int) ≤ (l2.getD x S.l0).b) := fun x hx => by
              have h1 := BG.out x hx
              have h2 := BG.out j hjk
              rw [hget x]
              by_cases e : x = j
              · rw [if_pos e]; show _ ≤ (l.getD j S.l0).b - tkn; omega
              · rw [if_neg e]; omega
            obtain ⟨gj, hgj⟩ : ∃ gj, gj = gs.getD j 0 := ⟨_, rfl⟩
            rw [← hgj] at GO2
            have HGJ : Hid (0 ≤ gj ∧ gj ≤ 1608) := by
              have h1 := GO.out.2 j hjk
              rw [if_pos hon] at h1
              have h2 := S.had_le (S.all L) (S.plc L 0 j) i
              rw [← htkn, ← hgj] at h1
              obtain ⟨hd, hhd⟩ : ∃ hd : Int, hd = (S.had (S.all L) (S.plc L 0 j) i : Int) := ⟨_, rfl⟩
              rw [← hhd] at h1
              have h3 : 0 ≤ hd ∧ hd ≤ 201 := by rw [hhd]; have := HI.out; have := HT.out; omega
              have h4 := Int.mul_le_mul h3.2 hta.2.2 (by omega) (by omega)
              have h5 := Int.mul_nonneg h3.1 (show 0 ≤ tkn by omega)
              show 0 ≤ gj ∧ gj ≤ 1608
              omega
            have HGS : Hid (gs.length = k ∧ gj = gs.getD j 0) := ⟨GO.out.1, hgj⟩
            have HTK : Hid (1 ≤ tkn ∧ tkn ≤ 8) := hta.2
            have HJ := hide (And.intro hjk (And.intro hon (And.intro hnx hnxk)))
            clear htkn htn hb hjk hon hrk hnx hnxk TN RM GO BG hget hta hgj hlL
            go_upto_region 16 with fail
            generalize hX : World.alloc _ _ = X
            have bX : Below W2.heap.size W2 X := by rw [← hX]; exact one_below _ _
            have C3 : Hid (Cel X W2.heap.size 23 (.int .i64 (j : Int)) (.int .i64 tkn) (.int .i64 (nx : Int))) := by
              show Cel _ _ _ _ _ _
              rw [← hX]; exact Cel.new _ _ _ _ _
            have TN3 := hide (TN2.out.below bX)
            have RM3 := hide (bX.block gm (block_lt_of_row RM2.out) |>.trans RM2.out)
            have GT : Hid (W2.heap.size ≠ gm) := by show W2.heap.size ≠ gm; have := block_lt_of_row RM2.out; omega
            generalize W2.heap.size = gt at C3 GT ⊢
            clear hX bX T2 TN2 RM2
            have hjk := HJ.out.1
            have hnk := HJ.out.2.2.2
            obtain ⟨c0, c1, c22⟩ := C3.out.c
            have p2 : ¬ (j : Int) < 0 := by omega
            have p3 : (0 : Int) ≤ (j : Int) := by omega
            have p4 : (j : Int) < (k : Int) := by omega
            have p5 : ¬ (j : Int) ≥ (k : Int) := by omega
            have q1 : IntKind.i64.wrap ((i : Int) + 1) = (i : Int) + 1 := wrap_small (by omega) (by have := HI.out; have := HT.out; omega)
            have q2 : IntKind.i64.wrap (gj + tkn) = gj + tkn := wrap_small (by have := HGJ.out; have := HTK.out; omega) (by have := HGJ.out; have := HTK.out; omega)
            have CHX : Hid (∀ W, Chg (fun z => z = gm) X W → Cel W gt 23 (.int .i64 (j : Int)) (.int .i64 tkn) (.int .i64 (nx : Int))) := fun W h => ⟨(h.block gt C3.out.lt GT.out).trans C3.out.row⟩
            have hml : j < gs.length := by rw [HGS.out.1]; exact hjk
            have HML := hide hml
            clear hml
            go_upto_region 18 with fail
            clear c0 c1 c22
            refine wp_region_noPanic ?_
            refine wp_region_held_drew (S := (fun W => Chg (fun z => z = gm) X W)) follows ((Chg.refl _ X).drew) (fun hHeld => ?_)
            clear hHeld
            have CZ := hide (show Chg (fun z => z = gm) X X.drew from (Chg.refl _ X).drew)
            have hHeld := CZ.out
            have RZ : Hid (X.drew.heap[gm]? = some (.cells (S.v8 gs) 3 (0, 0))) := RM3
            have TZ := hide (TN3.out.below ((Below.refl _ _).drew))
            generalize X.drew = Z0 at CZ RZ TZ hHeld ⊢
            refine wpAnyH_take (i := 0) (oi := { dst := some 70, op := Op.move (Operand.tmp 14), type := 41, pos := "law.go:123", after := #[], guard := none }) (v := ?_) rfl (by kernel_rfl) (by kernel_rfl) (by kernel_rfl) (fun _ _ _ h => h) (Or.inl ⟨by rfl, ?_⟩) (by assumption) ?_
            rotate_left
            · intro w hSw
              clear hSw
              go_simp
              all_goals with_reducible rfl
            simp only [Act.put, List.setIfInBounds_toArray, List.set_cons_zero, List.set_cons_succ]
            refine wpAnyH_take (i := 1) (oi := { dst := some 71, op := Op.fieldAddr 23 (Operand.tmp 17) 0, type := 0, pos := "law.go:123", after := #[], guard := none }) (v := ?_) rfl (by kernel_rfl) (by kernel_rfl) (by kernel_rfl) (fun _ _ _ h => h) (Or.inl ⟨by rfl, ?_⟩) (by assumption) ?_
            rotate_left
            · intro w hSw
              clear hSw
              go_simp
              all_goals with_reducible rfl
            simp only [Act.put, List.setIfInBounds_toArray, List.set_cons_zero, List.set_cons_succ]
            refine wpAnyH_take (i := 2) (oi := { dst := some 72, op := Op.load 3 (Operand.tmp 71), type := 3, pos := "law.go:123", after := #[{ on := 1, ground := Ground.data }], guard := none }) (v := ?_) rfl (by kernel_rfl) (by kernel_rfl) (by kernel_rfl) (fun _ _ _ h => h) (Or.inl ⟨by rfl, ?_⟩) (by assumption) ?_
            rotate_left
            · intro w hSw
              have cc := (CHX.out w hSw).c.1
              clear hSw
              go_simp
              all_goals with_reducible rfl
            simp only [Act.put, List.setIfInBounds_toArray, List.set_cons_zero, List.set_cons_succ]
            refine wpAnyH_take (i := 3) (oi := { dst := some 73, op := Op.move (Operand.tmp 14), type := 41, pos := "law.go:123", after := #[], guard := none }) (v := ?_) rfl (by kernel_rfl) (by kernel_rfl) (by kernel_rfl) (fun _ _ _ h => h) (Or.inl ⟨by rfl, ?_⟩) (by assumption) ?_
            rotate_left
            · intro w hSw
              clear hSw
              go_simp
              all_goals with_reducible rfl
            simp only [Act.put, List.setIfInBounds_toArray, List.set_cons_zero, List.set_cons_succ]
            refine wpAnyH_take (i := 4) (oi := { dst := some 74, op := Op.fieldAddr 23 (Operand.tmp 17) 0, type := 0, pos := "law.go:123", after := #[], guard := none }) (v := ?_) rfl (by kernel_rfl) (by kernel_rfl) (by kernel_rfl) (fun _ _ _ h => h) (Or.inl ⟨by rfl, ?_⟩) (by assumption) ?_
            rotate_left
            · intro w hSw
              clear hSw
              go_simp
              all_goals with_reducible rfl
            simp only [Act.put, List.setIfInBounds_toArray, List.set_cons_zero, List.set_cons_succ]
            refine wpAnyH_take (i := 5) (oi := { dst := some 75, op := Op.load 3 (Operand.tmp 74), type := 3, pos := "law.go:123", after := #[{ on := 4, ground := Ground.data }], guard := none }) (v := ?_) rfl (by kernel_rfl) (by kernel_rfl) (by kernel_rfl) (fun _ _ _ h => h) (Or.inl ⟨by rfl, ?_⟩) (by assumption) ?_
            rotate_left
            · intro w hSw
              have cc := (CHX.out w hSw).c.1
              clear hSw
              go_simp
              all_goals with_reducible rfl
            simp only [Act.put, List.setIfInBounds_toArray, List.set_cons_zero, List.set_cons_succ]
            refine wpAnyH_take (i := 6) (oi := { dst := some 76, op := Op.indexAddr 41 (Operand.tmp 73) (Operand.tmp 75), type := 0, pos := "law.go:123", after := #[{ on := 3, ground := Ground.data }, { on := 5, ground := Ground.data }], guard := none }) (v := ?_) rfl (by kernel_rfl) (by kernel_rfl) (by kernel_rfl) (fun _ _ _ h => h) (Or.inl ⟨by rfl, ?_⟩) (by assumption) ?_
            rotate_left
            · intro w hSw
              clear hSw
              go_simp
              all_goals with_reducible rfl
            simp only [Act.put, List.setIfInBounds_toArray, List.set_cons_zero, List.set_cons_succ]
            refine wpAnyH_take (i := 8) (oi := { dst := some 78, op := Op.fieldAddr 23 (Operand.tmp 17) 1, type := 0, pos := "law.go:123", after := #[], guard := none }) (v := ?_) rfl (by kernel_rfl) (by kernel_rfl) (by kernel_rfl) (fun _ _ _ h => h) (Or.inl ⟨by rfl, ?_⟩) (by assumption) ?_
            rotate_left
            · intro w hSw
              clear hSw
              go_simp
              all_goals with_reducible rfl
            simp only [Act.put, List.setIfInBounds_toArray, List.set_cons_zero, List.set_cons_succ]
            refine wpAnyH_take (i := 9) (oi := { dst := some 79, op := Op.load 3 (Operand.tmp 78), type := 3, pos := "law.go:123", after := #[{ on := 8, ground := Ground.data }], guard := none }) (v := ?_) rfl (by kernel_rfl) (by kernel_rfl) (by kernel_rfl) (fun _ _ _ h => h) (Or.inl ⟨by rfl, ?_⟩) (by assumption) ?_
            rotate_left
            · intro w hSw
              have cc := (CHX.out w hSw).c.2.1
              clear hSw
              go_simp
              all_goals with_reducible rfl
            simp only [Act.put, List.setIfInBounds_toArray, List.set_cons_zero, List.set_cons_succ]
            refine wpAnyH_ready (rs := [7]) (by kernel_rfl) (by simp) ?_
            refine AllReadyH.cons (o := { dst := some 77, op := Op.load 3 (Operand.tmp 76), type := 3, pos := "law.go:123", after := #[{ on := 6, ground := Ground.data }], guard := none }) rfl (fun K hK => ?_) AllReadyH.nil
            have m0 : Z0.cell? ⟨gm, j, none⟩ = some (.int .i64 gj) := by rw [HGS.out.2]; exact v8_cell RZ.out j HML.out
            go_simp
            refine hK.out _ _ hHeld (fun hHeld => ?_)
            clear hK K m0
            try simp only [Act.put, List.setIfInBounds_toArray, List.set_cons_zero, List.set_cons_succ]
            refine wpAnyH_take (i := 10) (oi := { dst := some 80, op := Op.binOp BinOp.add 3 (Operand.tmp 77) (Operand.tmp 79) 3, type := 3, pos := "law.go:123", after := #[{ on := 7, ground := Ground.data }, { on := 9, ground := Ground.data }], guard := none }) (v := ?_) rfl (by kernel_rfl) (by kernel_rfl) (by kernel_rfl) (fun _ _ _ h => h) (Or.inl ⟨by rfl, ?_⟩) (by assumption) ?_
            rotate_left
            · intro w hSw
              clear hSw
              go_simp
              all_goals with_reducible rfl
            simp only [Act.put, List.setIfInBounds_toArray, List.set_cons_zero, List.set_cons_succ]
            refine wpAnyH_take (i := 11) (oi := { dst := some 81, op := Op.indexAddr 41 (Operand.tmp 70) (Operand.tmp 72), type := 0, pos := "law.go:123", after := #[{ on := 0, ground := Ground.data }, { on := 2, ground := Ground.data }, { on := 0, ground := Ground.phase }, { on := 1, ground := Ground.phase }, { on := 2, ground := Ground.phase }, { on := 3, ground := Ground.phase }, { on := 4, ground := Ground.phase }, { on := 5, ground := Ground.phase }, { on := 6, ground := Ground.phase }, { on := 7, ground := Ground.phase }, { on := 8, ground := Ground.phase }, { on := 9, ground := Ground.phase }, { on := 10, ground := Ground.phase }], guard := none }) (v := ?_) rfl (by kernel_rfl) (by kernel_rfl) (by kernel_rfl) (fun _ _ _ h => h) (Or.inl ⟨by rfl, ?_⟩) (by assumption) ?_
            rotate_left
            · intro w hSw
              clear hSw
              go_simp
              all_goals with_reducible rfl
            simp only [Act.put, List.setIfInBounds_toArray, List.set_cons_zero, List.set_cons_succ]
            refine wpAnyH_ready (rs := [12]) (by kernel_rfl) (by simp) ?_
            refine AllReadyH.cons (o := { dst := none, op := Op.store 3 (Operand.tmp 81) (Operand.tmp 80), type := 0, pos := "law.go:123", after := #[{ on := 11, ground := Ground.data }, { on := 10, ground := Ground.data }, { on := 0, ground := Ground.phase }, { on := 1, ground := Ground.phase }, { on := 2, ground := Ground.phase }, { on := 3, ground := Ground.phase }, { on := 4, ground := Ground.phase }, { on := 5, ground := Ground.phase }, { on := 6, ground := Ground.phase }, { on := 7, ground := Ground.phase }, { on := 8, ground := Ground.phase }, { on := 9, ground := Ground.phase }, { on := 10, ground := Ground.phase }], guard := none }) rfl (fun K hK => ?_) AllReadyH.nil
            have m0 : Z0.cell? ⟨gm, j, none⟩ = some (.int .i64 gj) := by rw [HGS.out.2]; exact v8_cell RZ.out j HML.out
            have m1 := frozen_of_row Z0 gm j _ _ RZ.out
            go_simp
            have V1 := hide (v8_set RZ.out j (gj + tkn))
            have CH : Chg (fun z => z = gm) Z0 (Z0.setCell ⟨gm, j, none⟩ (.int .i64 (gj + tkn))) := Chg.setCell (p := fun z => z = gm) (Chg.refl _ Z0) gm j _ (fun _ => rfl)
            have C4 := hide (CHX.out _ (CZ.out.trans CH (fun _ _ e => e)))
            have TN4 : Hid (Tn w L bb 0 k (Z0.setCell ⟨gm, j, none⟩ (.int .i64 (gj + tkn))) (.slice a2 k c2) l2 (i + 1) nx) := by
              have h := TZ.out
              exact ⟨h.r.chg CH (fun z hz e => h.r.apart RZ.out (by decide) (by rw [hz, e])), h.u.setCell (p := ⟨gm, j, none⟩) GM.out _, h.ws, h.fr, h.len, h.at_⟩
            have CH2 := hide (CZ.out.trans CH (fun _ _ e => e))
            clear CH m0 m1 hHeld
            refine hK.out _ _ CH2.out (fun hHeld => ?_)
            clear hK K
            try simp only [Act.put, List.setIfInBounds_toArray, List.set_cons_zero, List.set_cons_succ]
            refine wpAnyH_done (by kernel_rfl) ?_ _
            refine NoPanic.normal ?_
            clear hHeld CZ CH2
            obtain ⟨Y, hY⟩ : ∃ Y, Y = Z0.setCell ⟨gm, j, none⟩ (.int .i64 (gj + tkn)) := ⟨_, rfl⟩
            rw [← hY] at V1 C4 TN4 ⊢
            clear hY RZ TZ RM3 TN3 C3 CHX
            obtain ⟨c0, c1, c22⟩ := C4.out.c
            go_wp2_with fail
            go_roundw
            case rel => exact ⟨i + 1, nx, l2, gs.set j (gj + tkn), by have := HI.out; omega, by simp, rfl, hnk, TN4, BG2, GO2, V1⟩
            case measure => simp [intOf]; have := HI.out; omega
          · obtain rfl : T = i := by omega
            have hkp := HK1.out
            obtain ⟨kp, hkp2⟩ : ∃ kp, k = kp + 1 := ⟨k - 1, by omega⟩
            have q1 : IntKind.i64.wrap ((k : Int) - 1) = (kp : Int) := by rw [hkp2]; rw [show (((kp + 1 : Nat) : Int) - 1) = (kp : Int) by omega]; exact wrap_small (by omega) (by have := HFR.out; omega)
            have HK := hide hkp2
            clear hic hi hak hkp hkp2 BG
            go_wp2_with fail
            go_at_call 19
            refine (within_any n3 (kp : Int) wr (by omega) (by have := HK.out; have := HFR.out; omega)).mono ?_
            rintro e w1 ⟨rfl, rfl⟩
            obtain ⟨ja, hja⟩ : ∃ ja, ja = S.within n3 (kp : Int) := ⟨_, rfl⟩
            have HJA : Hid (ja < k) := by show ja < k; have := S.within_le n3 (kp : Int) (by omega); have := HK.out; omega
            rw [← hja]
            clear hja
            go_wp2_with fail
            go_at_call 19
            refine (within_any n4 (kp : Int) wr (by omega) (by have := HK.out; have := HFR.out; omega)).mono ?_
            rintro e w1 ⟨rfl, rfl⟩
            obtain ⟨jb, hjb⟩ : ∃ jb, jb = S.within n4 (kp : Int) := ⟨_, rfl⟩
            have HJB : Hid (jb < k) := by show jb < k; have := S.within_le n4 (kp : Int) (by omega); have := HK.out; omega
            rw [← hjb]
            clear hjb q1
            have hjak := HJA.out
            have hjbk := HJB.out
            obtain ⟨gl, rfl, -, -, -, hra⟩ := TN.out.r.lane ja (by rw [TN.out.len]; exact hjak)
            have hrb := TN.out.r.cells jb (by rw [TN.out.len]; exact hjbk)
            have ca := (lane_cells hra).1
            have cb := (lane_cells hrb).1
            have ewa := S.w_at TN.out.ws ja
            have ewb := S.w_at TN.out.ws jb
            obtain ⟨wa, hwa⟩ : ∃ wa, wa = (l.getD ja S.l0).w := ⟨_, rfl⟩
            obtain ⟨wb, hwb⟩ : ∃ wb, wb = (l.getD jb S.l0).w := ⟨_, rfl⟩
            rw [← hwa] at ca ewa
            rw [← hwb] at cb ewb
            have FRL : ∀ x, x < k → S.Fr 60 (L.getD x S.l0) := fun x hx => by
              rw [List.getD_eq_getElem?_getD, List.getElem?_eq_getElem (by rw [HFR.out.2.1]; exact hx)]
              exact HFR.out.1 _ (List.getElem_mem _)
            have hwa4 : 0 ≤ wa ∧ wa ≤ 4 := by rw [ewa]; exact ⟨(FRL ja hjak).1, (FRL ja hjak).2.1⟩
            have hwb4 : 0 ≤ wb ∧ wb ≤ 4 := by rw [ewb]; exact ⟨(FRL jb hjbk).1, (FRL jb hjbk).2.1⟩
            have ma : wr.cell? ⟨gm, ja, none⟩ = some (.int .i64 (gs.getD ja 0)) := v8_cell RM.out ja (by rw [GO.out.1]; exact hjak)
            have mb : wr.cell? ⟨gm, jb, none⟩ = some (.int .i64 (gs.getD jb 0)) := v8_cell RM.out jb (by rw [GO.out.1]; exact hjbk)
            have ga0 := GO.out.2 ja hjak
            have gb0 := GO.out.2 jb hjbk
            obtain ⟨ga, hga⟩ : ∃ ga, ga = gs.getD ja 0 := ⟨_, rfl⟩
            obtain ⟨gb, hgb⟩ : ∃ gb, gb = gs.getD jb 0 := ⟨_, rfl⟩
            rw [← hga] at ma ga0
            rw [← hgb] at mb gb0
            have p1 : (0 : Int) ≤ (ja : Int) := by omega
            have p2 : (ja : Int) < (k : Int) := by omega
            have p3 : (0 : Int) ≤ (jb : Int) := by omega
            have p4 : (jb : Int) < (k : Int) := by omega
            by_cases hA : wa = 0
            · have e : ga = 0 := by rw [ga0, if_neg (fun c => by have := c.2; omega)]
              rw [e] at ma
              rw [hA] at ca
              clear ga0 gb0 hwa4 hwb4 FRL ewa ewb hwa hwb hga hgb hA e hra hrb
              go_wp2_with fail
              go_at_call 11
              refine (known_any wr).mono ?_
              rintro e W9 ⟨rfl, hb⟩
              have B9 := hide (TN.out.u.trans (hb.mono TN.out.u.size))
              clear hb
              go_wp2
              go_ret
              exact ⟨rfl, B9.out⟩
            · have ea : (wa == 0) = false := by simp [hA]
              have ha0 : wa > 0 := by omega
              by_cases hB : wb = 0
              · rw [hB] at cb
                clear ga0 gb0 hwa4 hwb4 FRL ewa ewb hwa hwb hga hgb hB hA hra hrb
                go_wp2_with fail
                go_at_call 11
                refine (known_any wr).mono ?_
                rintro e W9 ⟨rfl, hb⟩
                have B9 := hide (TN.out.u.trans (hb.mono TN.out.u.size))
                clear hb
                go_wp2
                go_ret
                exact ⟨rfl, B9.out⟩
              · have eb : (wb == 0) = false := by simp [hB]
                have hb0 : wb > 0 := by omega
                have oa : S.on L ja := ⟨by rw [HFR.out.2.1]; exact hjak, by omega⟩
                have ob : S.on L jb := ⟨by rw [HFR.out.2.1]; exact hjbk, by omega⟩
                rw [if_pos oa, ← ewa] at ga0
                rw [if_pos ob, ← ewb] at gb0
                obtain ⟨ka, hka⟩ : ∃ ka : Int, ka = (S.had (S.all L) (S.plc L 0 ja) T : Int) := ⟨_, rfl⟩
                obtain ⟨kb, hkb⟩ : ∃ kb : Int, kb = (S.had (S.all L) (S.plc L 0 jb) T : Int) := ⟨_, rfl⟩
                have n1' := S.had_near (S.all L) (S.plc L 0 ja) (S.plc L 0 jb) T
                have n2' := S.had_near (S.all L) (S.plc L 0 jb) (S.plc L 0 ja) T
                have n3' := S.had_le (S.all L) (S.plc L 0 ja) T
                have n4' := S.had_le (S.all L) (S.plc L 0 jb) T
                rw [← hka] at ga0
                rw [← hkb] at gb0
                have hq := HQ.out
                have hT := HT.out
                have hk1 : 0 ≤ ka ∧ ka ≤ 201 ∧ 0 ≤ kb ∧ kb ≤ 201 ∧ ka ≤ kb + 1 ∧ kb ≤ ka + 1 := by omega
                have mul4 : ∀ r s : Int, 0 ≤ r → r ≤ 2000 → 0 ≤ s → s ≤ 4 → 0 ≤ r * s ∧ r * s ≤ 8000 := fun r s h1 h2 h3 h4 => by
                  have := Int.mul_le_mul h2 h4 h3 (by omega)
                  have := Int.mul_nonneg h1 h3
                  omega
                have hr1 : 0 ≤ q * wa ∧ q * wa ≤ 8 := by
                  have := Int.mul_le_mul hq.2 hwa4.2 hwa4.1 (by omega)
                  have := Int.mul_nonneg (show 0 ≤ q by omega) hwa4.1
                  omega
                have hr2 : 0 ≤ wa * q ∧ wa * q ≤ 8 := by rw [Int.mul_comm]; exact hr1
                have hr3 : 0 ≤ wb * q ∧ wb * q ≤ 8 := by
                  have := Int.mul_le_mul hwb4.2 hq.2 (by omega) (by omega)
                  have := Int.mul_nonneg hwb4.1 (show 0 ≤ q by omega)
                  omega
                have hgab : 0 ≤ ga ∧ ga ≤ 1608 := by
                  rw [ga0]
                  have := Int.mul_le_mul hk1.2.1 hr2.2 hr2.1 (by omega)
                  have := Int.mul_nonneg hk1.1 hr2.1
                  omega
                have hgbb : 0 ≤ gb ∧ gb ≤ 1608 := by
                  rw [gb0]
                  have := Int.mul_le_mul hk1.2.2.2.1 hr3.2 hr3.1 (by omega)
                  have := Int.mul_nonneg hk1.2.2.1 hr3.1
                  omega
                have hx := mul4 ga wb hgab.1 (by omega) hwb4.1 hwb4.2
                have hy := mul4 gb wa hgbb.1 (by omega) hwa4.1 hwa4.2
                have hP := mul4 (q * wa) wb hr1.1 (by omega) hwb4.1 hwb4.2
                have near := S.near (q := q) (wa := wa) (wb := wb) hk1.2.2.2.2.1 hk1.2.2.2.2.2 hP.1
                rw [← ga0, ← gb0] at near
                obtain ⟨x0, hx0⟩ : ∃ x0, x0 = ga * wb := ⟨_, rfl⟩
                obtain ⟨y0, hy0⟩ : ∃ y0, y0 = gb * wa := ⟨_, rfl⟩
                obtain ⟨r0, hr0⟩ : ∃ r0, r0 = q * wa := ⟨_, rfl⟩
                have qx : IntKind.i64.wrap (ga * wb) = x0 := by rw [hx0]; exact wrap_small (by omega) (by omega)
                have qy : IntKind.i64.wrap (gb * wa) = y0 := by rw [hy0]; exact wrap_small (by omega) (by omega)
                have qr : IntKind.i64.wrap (q * wa) = r0 := by rw [hr0]; exact wrap_small (by omega) (by omega)
                rw [← hr0] at hP near
                obtain ⟨P0, hP0⟩ : ∃ P0, P0 = r0 * wb := ⟨_, rfl⟩
                rw [← hx0] at hx near
                rw [← hy0] at hy near
                rw [← hP0] at hP near
                have qP : IntKind.i64.wrap (r0 * wb) = P0 := by rw [hP0]; exact wrap_small (by omega) (by omega)
                have qd : IntKind.i64.wrap (x0 - y0) = x0 - y0 := wrap_small (by omega) (by omega)
                obtain ⟨dd, hdd⟩ : ∃ dd : Int, dd = if x0 - y0 < 0 then -(x0 - y0) else x0 - y0 := ⟨_, rfl⟩
                have HD : Hid (dd ≤ P0 ∧ dd = if x0 - y0 < 0 then -(x0 - y0) else x0 - y0) := ⟨by rw [hdd]; split <;> omega, hdd⟩
                have HXY : Hid (-8000 ≤ x0 - y0 ∧ x0 - y0 ≤ 8000) := ⟨by omega, by omega⟩
                have HRA : Hid (wr.rangeAt gl (ja * 3) (encL (l.getD ja S.l0)) ∧ wa = (l.getD ja S.l0).w) := ⟨hra, hwa⟩
                have HRB : Hid (wr.rangeAt gl (jb * 3) (encL (l.getD jb S.l0)) ∧ wb = (l.getD jb S.l0).w) := ⟨hrb, hwb⟩
                have HMA := hide (And.intro ma mb)
                have QR := hide (And.intro qr qP)
                clear hra hrb hwa hwb hga hgb ga0 gb0 hA hB oa ob n1' n2' n3' n4' hka hkb hq hT hk1 mul4 hr1 hr2 hr3 hgab hgbb hx hy hP near hx0 hy0 hr0 hP0 hdd FRL ewa ewb hwa4 hwb4 qr qP
                go_upto_region 25 with fail
                go_quiet (fail)
                obtain ⟨Z1, hZ⟩ : ∃ Z1, Z1 = wr.drewN nq := ⟨_, rfl⟩
                have S1 : Hid (Still wr Z1) := by
                  show Still wr Z1
                  rw [hZ]; exact ⟨rfl, rfl, rfl, rfl⟩
                rw [← hZ]
                clear hZ
                have z1a := (show Z1.cell? ⟨gl, ja * 3, none⟩ = wr.cell? ⟨gl, ja * 3, none⟩ from World.cell?_of_block (by rw [S1.out.1])).trans ca
                have z1b := (show Z1.cell? ⟨gl, jb * 3, none⟩ = wr.cell? ⟨gl, jb * 3, none⟩ from World.cell?_of_block (by rw [S1.out.1])).trans cb
                have z1m := (show Z1.cell? ⟨gm, jb, none⟩ = wr.cell? ⟨gm, jb, none⟩ from World.cell?_of_block (by rw [S1.out.1])).trans HMA.out.2
                go_upto_region 26 with fail
                go_quiet (fail)
                obtain ⟨Z2, hZ⟩ : ∃ Z2, Z2 = Z1.drewN nq := ⟨_, rfl⟩
                have S2 : Hid (Still wr Z2) := by
                  show Still wr Z2
                  rw [hZ]; exact ⟨S1.out.1, S1.out.2.1, S1.out.2.2.1, S1.out.2.2.2⟩
                rw [← hZ]
                clear hZ
                have z2a := (show Z2.cell? ⟨gl, ja * 3, none⟩ = wr.cell? ⟨gl, ja * 3, none⟩ from World.cell?_of_block (by rw [S2.out.1])).trans ca
                have z2b := (show Z2.cell? ⟨gl, jb * 3, none⟩ = wr.cell? ⟨gl, jb * 3, none⟩ from World.cell?_of_block (by rw [S2.out.1])).trans cb
                have z2m := (show Z2.cell? ⟨gm, jb, none⟩ = wr.cell? ⟨gm, jb, none⟩ from World.cell?_of_block (by rw [S2.out.1])).trans HMA.out.2
                clear ca cb ma mb z1a z1b z1m qx qy S1
                go_upto_region 28 with fail
                clear qd
                go_cut [149] from 152 (fun s149 wx => s149 = .bool (decide (x0 - y0 < 0)) ∧ wx = Z2)
                case first =>
                  go_wp2_with fail
                  all_goals (go_meet; exact ⟨rfl, rfl⟩)
                case rest =>
                obtain ⟨rfl, rfl⟩ := hcut
                go_upto_if 149 with fail
                obtain ⟨Z2, rfl⟩ : ∃ Z2 : World, Z2 = wc := ⟨_, rfl⟩
                go_cut [21] from 145 (fun s21 wx => s21 = .int .i64 dd ∧ wx = Z2)
                case first =>
                  have hdd := HD.out.2
                  have hxy := HXY.out
                  have qn2 : IntKind.i64.wrap (-(x0 - y0)) = -(x0 - y0) := wrap_small (by omega) (by omega)
                  by_cases hneg : x0 - y0 < 0
                  · rw [if_pos hneg] at hdd
                    go_wp2_with fail
                    all_goals (go_meet; exact ⟨by rw [hdd], rfl⟩)
                  · rw [if_neg hneg] at hdd
                    go_wp2_with fail
                    all_goals (go_meet; exact ⟨by rw [hdd], rfl⟩)
                case rest =>
                obtain ⟨rfl, rfl⟩ := hcut
                obtain ⟨qr, qP⟩ := QR.out
                have hdP : dd ≤ P0 := HD.out.1
                clear z2a z2b z2m
                have BZ : Hid (Below w.heap.size w wc) := TN.out.u.trans (Still.blw S2.out _)
                have CAB : Hid (∀ W, Below wc.heap.size wc W → W.cell? ⟨gl, ja * 3, none⟩ = some (.int .i64 wa) ∧ W.cell? ⟨gl, jb * 3, none⟩ = some (.int .i64 wb)) := fun W hb => by
                  have hgl : gl < wc.heap.size := by rw [S2.out.1]; exact World.block_lt_of_cell? wr _ (lane_cells HRA.out.1).1
                  have e1 := (lane_cells HRA.out.1).1
                  have e2 := (lane_cells HRB.out.1).1
                  rw [← HRA.out.2] at e1
                  rw [← HRB.out.2] at e2
                  refine ⟨(hb.cell (p := ⟨gl, ja * 3, none⟩) hgl).trans ((show wc.cell? ⟨gl, ja * 3, none⟩ = wr.cell? ⟨gl, ja * 3, none⟩ from World.cell?_of_block (by rw [S2.out.1])).trans e1), (hb.cell (p := ⟨gl, jb * 3, none⟩) hgl).trans ((show wc.cell? ⟨gl, jb * 3, none⟩ = wr.cell? ⟨gl, jb * 3, none⟩ from World.cell?_of_block (by rw [S2.out.1])).trans e2)⟩
                go_upto_region 30 with fail
                refine wp_region_noPanic ?_
                refine wp_region_held_drew (S := (fun W => Below wc.heap.size wc W)) follows ((Below.refl _ _).drew) (fun hHeld => ?_)
                clear hHeld
                have CZ := hide (show Below wc.heap.size wc wc.drew from (Below.refl _ _).drew)
                have hHeld := CZ.out
                generalize wc.drew = Z0 at CZ hHeld ⊢
                refine wpAnyH_take (i := 0) (oi := { dst := some 152, op := Op.move (Operand.tmp 21), type := 3, pos := "law.go:138", after := #[], guard := none }) (v := ?_) rfl (by kernel_rfl) (by kernel_rfl) (by kernel_rfl) (fun _ _ _ h => h) (Or.inl ⟨by rfl, ?_⟩) (by assumption) ?_
                rotate_left
                · intro w hSw
                  clear hSw
                  go_simp
                  all_goals with_reducible rfl
                simp only [Act.put, List.setIfInBounds_toArray, List.set_cons_zero, List.set_cons_succ]
                refine wpAnyH_take (i := 1) (oi := { dst := some 153, op := Op.move (Operand.tmp 2), type := 3, pos := "law.go:138", after := #[], guard := none }) (v := ?_) rfl (by kernel_rfl) (by kernel_rfl) (by kernel_rfl) (fun _ _ _ h => h) (Or.inl ⟨by rfl, ?_⟩) (by assumption) ?_
                rotate_left
                · intro w hSw
                  clear hSw
                  go_simp
                  all_goals with_reducible rfl
                simp only [Act.put, List.setIfInBounds_toArray, List.set_cons_zero, List.set_cons_succ]
                refine wpAnyH_take (i := 2) (oi := { dst := some 154, op := Op.move (Operand.tmp 11), type := 24, pos := "law.go:138", after := #[], guard := none }) (v := ?_) rfl (by kernel_rfl) (by kernel_rfl) (by kernel_rfl) (fun _ _ _ h => h) (Or.inl ⟨by rfl, ?_⟩) (by assumption) ?_
                rotate_left
                · intro w hSw
                  clear hSw
                  go_simp
                  all_goals with_reducible rfl
                simp only [Act.put, List.setIfInBounds_toArray, List.set_cons_zero, List.set_cons_succ]
                refine wpAnyH_take (i := 3) (oi := { dst := some 155, op := Op.move (Operand.tmp 3), type := 3, pos := "law.go:138", after := #[], guard := none }) (v := ?_) rfl (by kernel_rfl) (by kernel_rfl) (by kernel_rfl) (fun _ _ _ h => h) (Or.inl ⟨by rfl, ?_⟩) (by assumption) ?_
                rotate_left
                · intro w hSw
                  clear hSw
                  go_simp
                  all_goals with_reducible rfl
                simp only [Act.put, List.setIfInBounds_toArray, List.set_cons_zero, List.set_cons_succ]
                refine wpAnyH_take (i := 4) (oi := { dst := some 156, op := Op.indexAddr 24 (Operand.tmp 154) (Operand.tmp 155), type := 0, pos := "law.go:138", after := #[{ on := 2, ground := Ground.data }, { on := 3, ground := Ground.data }], guard := none }) (v := ?_) rfl (by kernel_rfl) (by kernel_rfl) (by kernel_rfl) (fun _ _ _ h => h) (Or.inl ⟨by rfl, ?_⟩) (by assumption) ?_
                rotate_left
                · intro w hSw
                  clear hSw
                  go_simp
                  all_goals with_reducible rfl
                simp only [Act.put, List.setIfInBounds_toArray, List.set_cons_zero, List.set_cons_succ]
                refine wpAnyH_take (i := 5) (oi := { dst := some 157, op := Op.fieldAddr 28 (Operand.tmp 156) 0, type := 0, pos := "law.go:138", after := #[{ on := 4, ground := Ground.data }], guard := none }) (v := ?_) rfl (by kernel_rfl) (by kernel_rfl) (by kernel_rfl) (fun _ _ _ h => h) (Or.inl ⟨by rfl, ?_⟩) (by assumption) ?_
                rotate_left
                · intro w hSw
                  clear hSw
                  go_simp
                  all_goals with_reducible rfl
                simp only [Act.put, List.setIfInBounds_toArray, List.set_cons_zero, List.set_cons_succ]
                refine wpAnyH_take (i := 6) (oi := { dst := some 158, op := Op.load 3 (Operand.tmp 157), type := 3, pos := "law.go:138", after := #[{ on := 5, ground := Ground.data }], guard := none }) (v := ?_) rfl (by kernel_rfl) (by kernel_rfl) (by kernel_rfl) (fun _ _ _ h => h) (Or.inl ⟨by rfl, ?_⟩) (by assumption) ?_
                rotate_left
                · intro w hSw
                  have cc := (CAB.out w hSw).1
                  clear hSw
                  go_simp
                  all_goals with_reducible rfl
                simp only [Act.put, List.setIfInBounds_toArray, List.set_cons_zero, List.set_cons_succ]
                refine wpAnyH_take (i := 7) (oi := { dst := some 159, op := Op.binOp BinOp.mul 3 (Operand.tmp 153) (Operand.tmp 158) 3, type := 3, pos := "law.go:138", after := #[{ on := 1, ground := Ground.data }, { on := 6, ground := Ground.data }], guard := none }) (v := ?_) rfl (by kernel_rfl) (by kernel_rfl) (by kernel_rfl) (fun _ _ _ h => h) (Or.inl ⟨by rfl, ?_⟩) (by assumption) ?_
                rotate_left
                · intro w hSw
                  clear hSw
                  go_simp
                  all_goals with_reducible rfl
                simp only [Act.put, List.setIfInBounds_toArray, List.set_cons_zero, List.set_cons_succ]
                refine wpAnyH_take (i := 8) (oi := { dst := some 160, op := Op.move (Operand.tmp 11), type := 24, pos := "law.go:138", after := #[], guard := none }) (v := ?_) rfl (by kernel_rfl) (by kernel_rfl) (by kernel_rfl) (fun _ _ _ h => h) (Or.inl ⟨by rfl, ?_⟩) (by assumption) ?_
                rotate_left
                · intro w hSw
                  clear hSw
                  go_simp
                  all_goals with_reducible rfl
                simp only [Act.put, List.setIfInBounds_toArray, List.set_cons_zero, List.set_cons_succ]
                refine wpAnyH_take (i := 9) (oi := { dst := some 161, op := Op.move (Operand.tmp 4), type := 3, pos := "law.go:138", after := #[], guard := none }) (v := ?_) rfl (by kernel_rfl) (by kernel_rfl) (by kernel_rfl) (fun _ _ _ h => h) (Or.inl ⟨by rfl, ?_⟩) (by assumption) ?_
                rotate_left
                · intro w hSw
                  clear hSw
                  go_simp
                  all_goals with_reducible rfl
                simp only [Act.put, List.setIfInBounds_toArray, List.set_cons_zero, List.set_cons_succ]
                refine wpAnyH_take (i := 10) (oi := { dst := some 162, op := Op.indexAddr 24 (Operand.tmp 160) (Operand.tmp 161), type := 0, pos := "law.go:138", after := #[{ on := 8, ground := Ground.data }, { on := 9, ground := Ground.data }], guard := none }) (v := ?_) rfl (by kernel_rfl) (by kernel_rfl) (by kernel_rfl) (fun _ _ _ h => h) (Or.inl ⟨by rfl, ?_⟩) (by assumption) ?_
                rotate_left
                · intro w hSw
                  clear hSw
                  go_simp
                  all_goals with_reducible rfl
                simp only [Act.put, List.setIfInBounds_toArray, List.set_cons_zero, List.set_cons_succ]
                refine wpAnyH_take (i := 11) (oi := { dst := some 163, op := Op.fieldAddr 28 (Operand.tmp 162) 0, type := 0, pos := "law.go:138", after := #[{ on := 10, ground := Ground.data }], guard := none }) (v := ?_) rfl (by kernel_rfl) (by kernel_rfl) (by kernel_rfl) (fun _ _ _ h => h) (Or.inl ⟨by rfl, ?_⟩) (by assumption) ?_
                rotate_left
                · intro w hSw
                  clear hSw
                  go_simp
                  all_goals with_reducible rfl
                simp only [Act.put, List.setIfInBounds_toArray, List.set_cons_zero, List.set_cons_succ]
                refine wpAnyH_take (i := 12) (oi := { dst := some 164, op := Op.load 3 (Operand.tmp 163), type := 3, pos := "law.go:138", after := #[{ on := 11, ground := Ground.data }], guard := none }) (v := ?_) rfl (by kernel_rfl) (by kernel_rfl) (by kernel_rfl) (fun _ _ _ h => h) (Or.inl ⟨by rfl, ?_⟩) (by assumption) ?_
                rotate_left
                · intro w hSw
                  have cc := (CAB.out w hSw).2
                  clear hSw
                  go_simp
                  all_goals with_reducible rfl
                simp only [Act.put, List.setIfInBounds_toArray, List.set_cons_zero, List.set_cons_succ]
                refine wpAnyH_take (i := 13) (oi := { dst := some 165, op := Op.binOp BinOp.mul 3 (Operand.tmp 159) (Operand.tmp 164) 3, type := 3, pos := "law.go:138", after := #[{ on := 7, ground := Ground.data }, { on := 12, ground := Ground.data }], guard := none }) (v := ?_) rfl (by kernel_rfl) (by kernel_rfl) (by kernel_rfl) (fun _ _ _ h => h) (Or.inl ⟨by rfl, ?_⟩) (by assumption) ?_
                rotate_left
                · intro w hSw
                  clear hSw
                  go_simp
                  all_goals with_reducible rfl
                simp only [Act.put, List.setIfInBounds_toArray, List.set_cons_zero, List.set_cons_succ]
                refine wpAnyH_take (i := 14) (oi := { dst := some 166, op := Op.binOp BinOp.leq 3 (Operand.tmp 152) (Operand.tmp 165) 3, type := 4, pos := "law.go:138", after := #[{ on := 0, ground := Ground.data }, { on := 13, ground := Ground.data }], guard := none }) (v := ?_) rfl (by kernel_rfl) (by kernel_rfl) (by kernel_rfl) (fun _ _ _ h => h) (Or.inl ⟨by rfl, ?_⟩) (by assumption) ?_
                rotate_left
                · intro w hSw
                  clear hSw
                  go_simp
                  all_goals with_reducible rfl
                simp only [Act.put, List.setIfInBounds_toArray, List.set_cons_zero, List.set_cons_succ]
                refine wpAnyH_take (i := 15) (oi := { dst := some 167, op := Op.move (Operand.tmp 166), type := 4, pos := "law.go:138", after := #[{ on := 14, ground := Ground.data }], guard := none }) (v := ?_) rfl (by kernel_rfl) (by kernel_rfl) (by kernel_rfl) (fun _ _ _ h => h) (Or.inl ⟨by rfl, ?_⟩) (by assumption) ?_
                rotate_left
                · intro w hSw
                  clear hSw
                  go_simp
                  all_goals with_reducible rfl
                simp only [Act.put, List.setIfInBounds_toArray, List.set_cons_zero, List.set_cons_succ]
                refine wpAnyH_ready (rs := [16]) (by kernel_rfl) (by simp) ?_
                refine AllReadyH.cons (o := { dst := some 168, op := Op.call { callee := Callee.value (Operand.func 11), args := #[], argTypes := #[] }, type := 4, pos := "law.go:138", after := #[{ on := 15, ground := Ground.chain }, { on := 15, ground := Ground.guard }], guard := some (15, true) }) rfl (fun K hK => ?_) AllReadyH.nil
                go_simp
                refine (known_any Z0).mono ?_
                rintro e Z3 ⟨rfl, hb⟩
                have CZ3 := hide (CZ.out.trans (hb.mono CZ.out.size))
                clear hb hHeld
                refine hK.out _ _ CZ3.out (fun hHeld => ?_)
                clear hK K
                try simp only [Act.put, List.setIfInBounds_toArray, List.set_cons_zero, List.set_cons_succ]
                refine wpAnyH_take (i := 17) (oi := { dst := some 169, op := Op.pick (Operand.tmp 167) (Operand.tmp 168) (Operand.const (Value.bool false)), type := 4, pos := "law.go:138", after := #[{ on := 15, ground := Ground.data }, { on := 16, ground := Ground.data }], guard := none }) (v := ?_) rfl (by kernel_rfl) (by kernel_rfl) (by kernel_rfl) (fun _ _ _ h => h) (Or.inl ⟨by rfl, ?_⟩) (by assumption) ?_
                rotate_left
                · intro w hSw
                  clear hSw
                  go_simp
                  all_goals with_reducible rfl
                simp only [Act.put, List.setIfInBounds_toArray, List.set_cons_zero, List.set_cons_succ]
                refine wpAnyH_take (i := 18) (oi := { dst := some 10, op := Op.assign (Operand.tmp 169), type := 4, pos := "law.go:138", after := #[{ on := 17, ground := Ground.data }, { on := 16, ground := Ground.chain }, { on := 0, ground := Ground.phase }, { on := 1, ground := Ground.phase }, { on := 2, ground := Ground.phase }, { on := 3, ground := Ground.phase }, { on := 4, ground := Ground.phase }, { on := 5, ground := Ground.phase }, { on := 6, ground := Ground.phase }, { on := 7, ground := Ground.phase }, { on := 8, ground := Ground.phase }, { on := 9, ground := Ground.phase }, { on := 10, ground := Ground.phase }, { on := 11, ground := Ground.phase }, { on := 12, ground := Ground.phase }, { on := 13, ground := Ground.phase }, { on := 14, ground := Ground.phase }, { on := 15, ground := Ground.phase }, { on := 16, ground := Ground.phase }, { on := 17, ground := Ground.phase }], guard := none }) (v := ?_) rfl (by kernel_rfl) (by kernel_rfl) (by kernel_rfl) (fun _ _ _ h => h) (Or.inl ⟨by rfl, ?_⟩) (by assumption) ?_
                rotate_left
                · intro w hSw
                  clear hSw
                  go_simp
                  all_goals with_reducible rfl
                simp only [Act.put, List.setIfInBounds_toArray, List.set_cons_zero, List.set_cons_succ]
                refine wpAnyH_done (by kernel_rfl) ?_ _
                refine NoPanic.normal ?_
                clear hHeld
                go_wp2
                go_ret
                exact ⟨rfl, BZ.out.trans (CZ3.out.mono BZ.out.size)⟩
end Go.Proofs.Ytnplijgdklnipaa
